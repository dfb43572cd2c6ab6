/-
  Packed texts: PtB, Words, LimbD, LimbE, LimbF, LimbI, GenL.
-/
import Derived.Test.YthmkllpdkcmccaaGreatDoorRows
import Derived.WalkKit
import Derived.ProofKit
import Derived.Deep.QuietTactic
import Derived.BigQuiet
import Derived.Lib.Hide
import Derived.Shelf.Spec.BitsCarry
import Derived.Laws.MathBits
import Derived.Defers
import Derived.Recover
import Derived.RegionTactic
import Derived.Deep.RegionWith
import Derived.Deep.RegionHeld3
import Derived.StillTactics
import Derived.Deep.DeepCutAuto
import Derived.Deep.CutRange
import Derived.Deep.RegionLaw
import Derived.Laws.Pointers
import Derived.WalkSpells
import Derived.Laws.CopyOwn
import Derived.Lib.MinMax
import Derived.Test.YthmkllpdkcmccaaGreatDoorP4
namespace Go.Proofs.YthmkllpdkcmccaaGreatDoor
open Go.RowKit
set_option maxRecDepth 100000
set_option linter.unusedVariables false
set_option linter.unusedSimpArgs false

theorem infoPt : (Tryz.prog.info? 24).map (fun i => (i.zero, i.size, i.bytes)) = some (some (.agg #[.int .i64 0, .int .i64 0]), 2, 16) := by kernel_rfl
theorem elemPt : ElemT Tryz.prog 22 24 2 ptC := by
  obtain ⟨i0, hi, hz0, hz1, hz2⟩ := info_parts infoPt
  exact ⟨Tryz.underlying22, ⟨i0, _, hi, hz0, hz1, by rw [hz2]; decide, rfl⟩, by decide, fun _ => rfl, fun x u hu => by simp [ptC] at hu; rcases hu with rfl | rfl <;> rfl⟩
theorem RowR.pt_ {w : World} {S : Nat → Prop} {A : Option Addr} {l : List Pt} (h : RowR w S 2 ptC A l) {k : Nat} (hk : k < l.length) :
    ∃ b o, A = some ⟨b, o, none⟩ ∧ S b ∧ w.cell? ⟨b, o + k * 2, none⟩ = some (.int .i64 (l[k]'hk).x) ∧ w.cell? ⟨b, o + k * 2 + 1, none⟩ = some (.int .i64 (l[k]'hk).y) := by
  obtain ⟨b, o, e, hS, hc⟩ := h.at_ hk
  exact ⟨b, o, e, hS, hc 0 _ rfl, hc 1 _ rfl⟩
/-- The same, with the address known. -/
theorem RowR.pt2 {w : World} {S : Nat → Prop} {b o : Nat} {l : List Pt} (h : RowR w S 2 ptC (some ⟨b, o, none⟩) l) {k : Nat} (hk : k < l.length) :
    w.cell? ⟨b, o + k * 2, none⟩ = some (.int .i64 (Go.Proofs.YthmkllpdkcmccaaGreatDoor.at_ l k).x) ∧ w.cell? ⟨b, o + k * 2 + 1, none⟩ = some (.int .i64 (Go.Proofs.YthmkllpdkcmccaaGreatDoor.at_ l k).y) := by
  obtain ⟨b', o', e, _, h1, h2⟩ := h.pt_ hk
  injection e with e
  injection e with e1 e2
  subst e1 e2
  rw [at_lt hk]
  exact ⟨h1, h2⟩
theorem SsP.ss {l : List Pt} (h : SsP l) {k : Nat} (hk : k < l.length) : S (Go.Proofs.YthmkllpdkcmccaaGreatDoor.at_ l k).x ∧ S (Go.Proofs.YthmkllpdkcmccaaGreatDoor.at_ l k).y := by rw [at_lt hk]; exact h _ (List.getElem_mem hk)
theorem ref6Sign_d (a b c : Pt) (w : World) (ha : S a.x ∧ S a.y) (hb : S b.x ∧ S b.y) (hc : S c.x ∧ S c.y) (r : Int) (hr : sgnP a b c = r) :
    Calls Tryz.prog 75 #[.agg #[.int .i64 a.x, .int .i64 a.y], .agg #[.int .i64 b.x, .int .i64 b.y], .agg #[.int .i64 c.x, .int .i64 c.y]] w fun e w' => e = .returned (.int .i64 r) ∧ Below w.heap.size w w' := by
  subst hr
  refine (gRef6Sign (RInv.start0 (Ctx.ok_none (Below.refl w.heap.size w))) ha.1 ha.2 hb.1 hb.2 hc.1 hc.2).mono ?_
  rintro e w' ⟨v, rfl, ⟨s, rfl, hs⟩, hb⟩
  exact ⟨by rw [hs]; rfl, hb⟩
end Go.Proofs.YthmkllpdkcmccaaGreatDoor
/- Contracts of the functions of package mask, and of the references' Mask and Sign: what each returns, for every argument; the world is left but for draws. -/
namespace Go.Proofs.YthmkllpdkcmccaaGreatDoor
open Go.RowKit
set_option maxRecDepth 100000
set_option linter.unusedVariables false
set_option linter.unusedSimpArgs false

/-- What the table of weights holds. -/
def WtsM (w : World) : Prop := w.cell? ⟨0, 0, none⟩ = some (.int .u64 top) ∧ w.cell? ⟨0, 1, none⟩ = some (.int .u64 ones)
/-- The program's other constant tables, with what they hold. -/
def seatTabs : List (Nat × List Value) := [(1, [.int .i64 0, .int .i64 0, .int .i64 3, .int .i64 2, .int .i64 4, .int .i64 2, .int .i64 1, .int .i64 3, .int .i64 1, .int .i64 2, .int .i64 0, .int .i64 1])]
def TabsAt (w : World) : Prop := ∀ p ∈ seatTabs, ∀ (i : Nat) (v : Value), p.2[i]? = some v → w.cell? ⟨p.1, i, none⟩ = some v
/-- The constant tables lie as the text says. -/
def Wts (w : World) : Prop := WtsM w ∧ TabsAt w
theorem Wts.drewN {w : World} (h : Wts w) (n : Nat) : Wts (w.drewN n) := h
theorem Wts.drew {w : World} (h : Wts w) : Wts w.drew := h
theorem sgn_u64 : IntKind.u64.signed = false := rfl
attribute [local go_sem] sgn_u64
theorem ret_int {k : IntKind} {a b : Int} (h : a = b) : Ending.returned (.int k a) = .returned (.int k b) := by rw [h]
theorem bit_any (a : Int) (ha : U a) (w : World) : Calls Tryz.prog 42 #[.int .u64 a] w fun e w' => e = .returned (.int .u64 (a % 2)) ∧ w' = w := by
  go_enter Tryz.func42, Tryz.ntmps42
  go_wp2
  go_ret
  exact ⟨ret_int (bit_raw ha), rfl⟩
theorem of_any (a : Int) (ha : U a) (w : World) (hw : Wts w) : Calls Tryz.prog 74 #[.int .u64 a] w fun e w' => e = .returned (.int .u64 (mk (decide (a % 2 = 1)))) ∧ ∃ n, w' = w.drewN n := by
  obtain ⟨⟨c0, c1⟩, -⟩ := hw
  go_enter Tryz.func74, Tryz.ntmps74
  go_wp2
  go_quiet ((go_at_call 42; exact Calls.quiet_of_same (bit_any _ ha _)))
  go_wp2
  go_ret
  exact ⟨ret_int (of_raw a), nq, rfl⟩
theorem U_shr63 {a : Int} (h : U a) : U (a / 9223372036854775808) := by unfold U at *; omega
theorem less_any (a b : Int) (ha : U a) (hb : U b) (w : World) (hw : Wts w) : Calls Tryz.prog 69 #[.int .u64 a, .int .u64 b] w fun e w' => e = .returned (.int .u64 (mk (decide (a < b)))) ∧ ∃ n, w' = w.drewN n := by
  go_enter Tryz.func69, Tryz.ntmps69
  go_wp2_with (fail)
  refine (of_any _ ?_ _ hw).mono ?_
  · apply U_shr63
    apply U_or (U_and (U_xor _ ha) hb) (U_and (U_xor _ (U_xor ha hb)) (U_wrap _)) <;> (unfold U; decide)
  rintro e w' ⟨rfl, n, rfl⟩
  go_wp2
  go_ret
  exact ⟨ret_int (by rw [less_raw ha hb]), n, rfl⟩
theorem U_one : U 1 := by unfold U; omega
theorem U_zero : U 0 := by unfold U; omega
theorem zero_any (a : Int) (ha : U a) (w : World) (hw : Wts w) : Calls Tryz.prog 44 #[.int .u64 a] w fun e w' => e = .returned (.int .u64 (mk (decide (a = 0)))) ∧ ∃ n, w' = w.drewN n := by
  go_enter Tryz.func44, Tryz.ntmps44
  go_wp2_with (fail)
  refine (less_any _ _ ha U_one _ hw).mono ?_
  rintro e w' ⟨rfl, n, rfl⟩
  go_wp2
  go_ret
  exact ⟨ret_int (by congr 1; rw [decide_eq_decide]; unfold U at ha; omega), n, rfl⟩
theorem equal_any (a b : Int) (ha : U a) (hb : U b) (w : World) (hw : Wts w) : Calls Tryz.prog 47 #[.int .u64 a, .int .u64 b] w fun e w' => e = .returned (.int .u64 (mk (decide (a = b)))) ∧ ∃ n, w' = w.drewN n := by
  go_enter Tryz.func47, Tryz.ntmps47
  go_wp2_with (fail)
  refine (zero_any _ (U_xor ha hb) _ hw).mono ?_
  rintro e w' ⟨rfl, n, rfl⟩
  go_wp2
  go_ret
  exact ⟨ret_int (by rw [xor_zero ha hb]), n, rfl⟩
theorem lessSigned_any (a b : Int) (ha : S a) (hb : S b) (w : World) (hw : Wts w) : Calls Tryz.prog 73 #[.int .i64 a, .int .i64 b] w fun e w' => e = .returned (.int .u64 (mk (decide (a < b)))) ∧ ∃ n, w' = w.drewN n := by
  obtain ⟨⟨c0, c1⟩, -⟩ := id hw
  go_enter Tryz.func73, Tryz.ntmps73
  go_wp2_with (fail)
  refine (less_any _ _ (U_xor (U_wrap _) U_top) (U_xor (U_wrap _) U_top) _ hw).mono ?_
  rintro e w' ⟨rfl, n, rfl⟩
  go_wp2
  go_ret
  exact ⟨ret_int (by rw [lessSigned_raw ha hb]), n, rfl⟩
theorem negative_any (a : Int) (ha : S a) (w : World) (hw : Wts w) : Calls Tryz.prog 50 #[.int .i64 a] w fun e w' => e = .returned (.int .u64 (mk (decide (a < 0)))) ∧ ∃ n, w' = w.drewN n := by
  go_enter Tryz.func50, Tryz.ntmps50
  go_wp2_with (fail)
  refine (lessSigned_any _ _ ha (by unfold S; omega) _ hw).mono ?_
  rintro e w' ⟨rfl, n, rfl⟩
  go_wp2
  go_ret
  exact ⟨rfl, n, rfl⟩
theorem select_any (m a b : Int) (w : World) : Calls Tryz.prog 25 #[.int .u64 m, .int .u64 a, .int .u64 b] w fun e w' => e = .returned (.int .u64 (sel m a b)) ∧ w' = w := by
  go_enter Tryz.func25, Tryz.ntmps25
  go_wp2
  go_ret
  exact ⟨rfl, rfl⟩
theorem sign_any (n z : Int) (hn : U n) (hz : U z) (w : World) (hw : Wts w) : Calls Tryz.prog 51 #[.int .u64 n, .int .u64 z] w fun e w' => e = .returned (.int .i64 (sgn3 n z)) ∧ ∃ k, w' = w.drewN k := by
  go_enter Tryz.func51, Tryz.ntmps51
  go_wp2_with (fail)
  refine (of_any _ hn _ hw).mono ?_
  rintro e w' ⟨rfl, k, rfl⟩
  go_wp2_with (fail)
  refine (bit_any _ (U_xor (by unfold U; decide) hz) _).mono ?_
  rintro e w' ⟨rfl, rfl⟩
  go_wp2
  go_ret
  exact ⟨ret_int (by rw [← IntWalk.i64_left]; exact sign_raw n hz), k, rfl⟩
end Go.Proofs.YthmkllpdkcmccaaGreatDoor
/- Contracts of the functions of package word: what each returns, for every argument. -/
namespace Go.Proofs.YthmkllpdkcmccaaGreatDoor
open Go.RowKit
set_option maxRecDepth 100000
set_option linter.unusedVariables false
set_option linter.unusedSimpArgs false

theorem add64_run (x y c : Int) (hx : U x) (hy : U y) (h0 : 0 ≤ c) (h1 : c ≤ 1) (w : World) :
    (callFunc 133 #[.int .u64 x, .int .u64 y, .int .u64 c]).run Tryz.prog w = .ok (.value (.tuple #[.int .u64 (lo (x + y + c)), .int .u64 (hi (x + y + c))])) w := by
  rw [run_callFunc_extern Tryz.func133 (by kernel_rfl) (by kernel_rfl) (by kernel_rfl) (e := add64Entry) (by kernel_rfl), run_add64 x y c hx.1 hy.1 h0 h1]
  rfl
theorem sub64_run (x y c : Int) (hx : U x) (hy : U y) (h0 : 0 ≤ c) (h1 : c ≤ 1) (w : World) :
    (callFunc 128 #[.int .u64 x, .int .u64 y, .int .u64 c]).run Tryz.prog w = .ok (.value (.tuple #[.int .u64 (lo (x - y - c)), .int .u64 (bo (x - y - c))])) w := by
  rw [run_callFunc_extern Tryz.func128 (by kernel_rfl) (by kernel_rfl) (by kernel_rfl) (e := sub64Entry) (by kernel_rfl)]
  rw [bo_iff hx hy h0 h1]
  obtain ⟨hx0, hx1⟩ := hx
  obtain ⟨hy0, hy1⟩ := hy
  obtain ⟨x, rfl⟩ := Int.eq_ofNat_of_zero_le hx0
  obtain ⟨y, rfl⟩ := Int.eq_ofNat_of_zero_le hy0
  obtain ⟨c, rfl⟩ := Int.eq_ofNat_of_zero_le h0
  rw [run_sub64 x y c (by omega)]
  simp only [Result.andThen]
  have e1 : (((x + 18446744073709551616 - y - c) % 18446744073709551616 : Nat) : Int) = lo ((x : Int) - y - c) := by unfold lo; omega
  have e2 : ((if x < y + c then 1 else 0 : Nat) : Int) = if (x : Int) < y + c then 1 else 0 := by split <;> split <;> omega
  rw [e1, e2]

theorem wordAdd_any (a b c : Int) (ha : U a) (hb : U b) (hc : U c) (w : World) :
    Calls Tryz.prog 124 #[.int .u64 a, .int .u64 b, .int .u64 c] w fun e w' => e = .returned (.tuple #[.int .u64 (lo (a + b + c % 2)), .int .u64 (hi (a + b + c % 2))]) ∧ w' = w := by
  have h0 := (mod2 c).1
  have h1 := (mod2 c).2
  go_enter Tryz.func124, Tryz.ntmps124
  go_wp2_with (fail)
  refine (bit_any _ hc _).mono ?_
  rintro e w' ⟨rfl, hw1⟩
  obtain rfl := hw1.symm
  go_wp2_with (simp only [add64_run a b _ ha hb h0 h1])
  go_ret2
  exact ⟨rfl, rfl⟩
theorem wordSub_any (a b c : Int) (ha : U a) (hb : U b) (hc : U c) (w : World) :
    Calls Tryz.prog 116 #[.int .u64 a, .int .u64 b, .int .u64 c] w fun e w' => e = .returned (.tuple #[.int .u64 (lo (a - b - c % 2)), .int .u64 (bo (a - b - c % 2))]) ∧ w' = w := by
  have h0 := (mod2 c).1
  have h1 := (mod2 c).2
  go_enter Tryz.func116, Tryz.ntmps116
  go_wp2_with (fail)
  refine (bit_any _ hc _).mono ?_
  rintro e w' ⟨rfl, hw1⟩
  obtain rfl := hw1.symm
  go_wp2_with (simp only [sub64_run a b _ ha hb h0 h1])
  go_ret2
  exact ⟨rfl, rfl⟩

theorem ret_pair {k l : IntKind} {a b c d : Int} (h : a = c) (h' : b = d) : Ending.returned (.tuple #[.int k a, .int l b]) = .returned (.tuple #[.int k c, .int l d]) := by rw [h, h']
theorem mul64_any (a b : Int) (ha : U a) (hb : U b) (w : World) :
    Calls Tryz.prog 137 #[.int .u64 a, .int .u64 b] w fun e w' => e = .returned (.tuple #[.int .u64 (hi (a * b)), .int .u64 (lo (a * b))]) ∧ w' = w := by
  obtain ⟨ha0, ha1⟩ := ha
  obtain ⟨hb0, hb1⟩ := hb
  have HA := Lib.hid (mul64_arith a b ha0 (by omega) hb0 (by omega))
  have ea := and_low32 a ha0 (by omega)
  have eb := and_low32 b hb0 (by omega)
  go_enter Tryz.func137, Tryz.ntmps137
  go_wp2
  go_ret2
  refine ⟨ret_pair ?_ (wrap_lo _), rfl⟩
  simp only [wrap_u]
  rw [and_low32 _ (by omega) (by omega)]
  exact HA.out
theorem wordMul_any (a b : Int) (ha : U a) (hb : U b) (w : World) :
    Calls Tryz.prog 135 #[.int .u64 a, .int .u64 b] w fun e w' => e = .returned (.tuple #[.int .u64 (hi (a * b)), .int .u64 (lo (a * b))]) ∧ w' = w := by
  go_enter Tryz.func135, Tryz.ntmps135
  go_wp2_with (fail)
  refine (mul64_any _ _ ha hb _).mono ?_
  rintro e w' ⟨rfl, hw1⟩
  obtain rfl := hw1.symm
  go_wp2
  go_ret2
  exact ⟨rfl, rfl⟩
theorem wordAdd0_any (a b : Int) (ha : U a) (hb : U b) (w : World) :
    Calls Tryz.prog 124 #[.int .u64 a, .int .u64 b, .int .u64 0] w fun e w' => e = .returned (.tuple #[.int .u64 (lo (a + b)), .int .u64 (hi (a + b))]) ∧ w' = w := by
  have h := wordAdd_any a b 0 ha hb U_zero w
  have e : a + b + 0 % 2 = a + b := by omega
  rw [e] at h
  exact h
theorem wordMulAdd_any (a b c d : Int) (ha : U a) (hb : U b) (hc : U c) (hd : U d) (w : World) :
    Calls Tryz.prog 126 #[.int .u64 a, .int .u64 b, .int .u64 c, .int .u64 d] w fun e w' => e = .returned (.tuple #[.int .u64 (hi (a * b + c + d)), .int .u64 (lo (a * b + c + d))]) ∧ w' = w := by
  go_enter Tryz.func126, Tryz.ntmps126
  go_wp2_with (fail)
  refine (wordMul_any _ _ ha hb _).mono ?_
  rintro e w' ⟨rfl, hw1⟩
  obtain rfl := hw1.symm
  go_wp2_with (fail)
  refine (wordAdd0_any _ _ (U_lo _) hc _).mono ?_
  rintro e w' ⟨rfl, hw1⟩
  obtain rfl := hw1.symm
  go_wp2_with (fail)
  refine (wordAdd0_any _ _ (U_lo _) hd _).mono ?_
  rintro e w' ⟨rfl, hw1⟩
  obtain rfl := hw1.symm
  go_wp2
  go_ret2
  have hp := prod_le ha hb
  exact ⟨ret_pair (by rw [wrap_lo, wrap_lo]; exact mulAdd_hi hp.1 hp.2 hc hd) (mulAdd_lo _ _ _), rfl⟩
theorem wordFill_any (a : Int) (ha : U a) (w : World) (hw : Wts w) :
    Calls Tryz.prog 101 #[.int .u64 a] w fun e w' => e = .returned (.int .u64 (mk (decide (9223372036854775808 ≤ a)))) ∧ ∃ n, w' = w.drewN n := by
  go_enter Tryz.func101, Tryz.ntmps101
  go_wp2_with (fail)
  refine (of_any _ (U_shr63 ha) _ (by exact hw)).mono ?_
  rintro e w' ⟨rfl, n1, rfl⟩
  go_wp2
  go_ret
  exact ⟨ret_int (by congr 1; rw [decide_eq_decide]; unfold U at ha; omega), _, rfl⟩
end Go.Proofs.YthmkllpdkcmccaaGreatDoor
/- Contracts of MulSigned of package word, and of the function that it defers. -/
namespace Go.Proofs.YthmkllpdkcmccaaGreatDoor
open Go.RowKit
set_option maxRecDepth 100000
set_option linter.unusedVariables false
set_option linter.unusedSimpArgs false

theorem cell_lt {w : World} {g i : Nat} {v : Value} (h1 : w.cell? ⟨g, i, none⟩ = some v) : g < w.heap.size := by
  rcases Nat.lt_or_ge g w.heap.size with h' | h'
  · exact h'
  · rw [World.cell?] at h1
    simp [Array.getElem?_eq_none h'] at h1
theorem Wts.size {w : World} (h : Wts w) : 0 < w.heap.size := cell_lt h.1.1
theorem Wts.sizes {w : World} (h : Wts w) : ∀ p ∈ seatTabs, ∀ (i : Nat) (v : Value), p.2[i]? = some v → p.1 < w.heap.size := fun p hp i v hv => cell_lt (h.2 p hp i v hv)
theorem Wts.below {w w' : World} (h : Wts w) (hb : Below w.heap.size w w') : Wts w' :=
  ⟨⟨(hb.cell (p := ⟨0, 0, none⟩) h.size).trans h.1.1, (hb.cell (p := ⟨0, 1, none⟩) h.size).trans h.1.2⟩,
    fun p hp i v hv => (hb.cell (p := ⟨p.1, i, none⟩) (h.sizes p hp i v hv)).trans (h.2 p hp i v hv)⟩
end Go.Proofs.YthmkllpdkcmccaaGreatDoor
/- Contracts of the functions of the reference of layer 2: what each returns, for every argument; the world is as it was. -/
namespace Go.Proofs.YthmkllpdkcmccaaGreatDoor
open Go.RowKit
set_option maxRecDepth 100000
set_option linter.unusedVariables false
set_option linter.unusedSimpArgs false

attribute [local go_sem] sgn_u64
end Go.Proofs.YthmkllpdkcmccaaGreatDoor
namespace Go.Proofs.YthmkllpdkcmccaaGreatDoor
open Go.RowKit
set_option maxRecDepth 100000
set_option linter.unusedVariables false
set_option linter.unusedSimpArgs false

/-- The value is a slice of words, in memory of the call's own, which may be written. -/
def GivesF (w : World) (ls : List Int) (e : Ending) (w' : World) : Prop :=
  ∃ A c, e = .returned (.slice A ls.length c) ∧ ls.length ≤ c ∧ SlR w' (fun b => w.heap.size ≤ b) .u64 A ls ∧ (∀ b off, A = some ⟨b, off, none⟩ → ∀ j, j < ls.length → w'.frozen? ⟨b, off + j, none⟩ = false) ∧ Below w.heap.size w w'
/-- An integer that is handed over. -/
structure Arg (w : World) (A : Option Addr) (c : Nat) (ls : List Int) : Prop where
  sl : SlR w (fun _ => True) .u64 A ls
  us : Us ls
  cap : ls.length ≤ c
theorem Arg.next {w w' : World} {A : Option Addr} {c : Nat} {ls : List Int} (h : Arg w A c ls) (hb : Below w.heap.size w w') : Arg w' A c ls := ⟨h.sl.next hb, h.us, h.cap⟩

theorem isWidth_yes (n : Int) (w : World) (h1 : 1 ≤ n) (h8 : n ≤ 8) : Calls Tryz.prog 100 #[.int .i64 n] w fun e w' => e = .returned (.bool true) ∧ w' = w := by
  have t1 : decide (1 ≤ n) = true := decide_eq_true h1
  have t2 : decide (n ≤ 8) = true := decide_eq_true h8
  go_enter Tryz.func100, Tryz.ntmps100
  go_wp2
  go_ret
  exact ⟨rfl, rfl⟩
theorem isInteger_yes (A : Option Addr) (n c : Nat) (w : World) (h1 : 1 ≤ n) (h8 : n ≤ 8) : Calls Tryz.prog 86 #[.slice A n c] w fun e w' => e = .returned (.bool true) ∧ w' = w := by
  go_enter Tryz.func86, Tryz.ntmps86
  go_wp2_with (fail)
  refine (isWidth_yes _ _ (by omega) (by omega)).mono ?_
  rintro e w' ⟨rfl, hw1⟩
  obtain rfl := hw1.symm
  go_wp2
  go_ret
  exact ⟨rfl, rfl⟩
theorem oneWidth_yes (A B : Option Addr) (n m c d : Nat) (w : World) (h1 : 1 ≤ n) (h8 : n ≤ 8) (he : n = m) :
    Calls Tryz.prog 115 #[.slice A n c, .slice B m d] w fun e w' => e = .returned (.bool true) ∧ w' = w := by
  have t1 : ((n : Int) == (m : Int)) = true := by rw [beq_iff_eq]; omega
  have HE := Lib.hid he
  clear he
  go_enter Tryz.func115, Tryz.ntmps115
  go_wp2_with (fail)
  refine (isInteger_yes _ _ _ _ h1 h8).mono ?_
  rintro e w' ⟨rfl, hw1⟩
  obtain rfl := hw1.symm
  go_wp2
  go_ret
  exact ⟨rfl, rfl⟩
theorem above_any (A : Option Addr) (c : Nat) (la : List Int) (S : Nat → Prop) (w : World) (hw : Wts w) (ha : SlR w S .u64 A la) (hu : Us la) (l1 : 1 ≤ la.length) (l8 : la.length ≤ 1000) :
    Calls Tryz.prog 87 #[.slice A la.length c] w fun e w' => e = .returned (.int .u64 (mk (neg la))) ∧ ∃ n, w' = w.drewN n := by
  obtain ⟨b, off, rfl, _, hcell⟩ := ha.at_ (show la.length - 1 < la.length by omega)
  have HN := Lib.hid (neg_top hu l1)
  have hU := hu.at_ (show la.length - 1 < la.length by omega)
  go_enter Tryz.func87, Tryz.ntmps87
  go_wp2_with (fail)
  refine (wordFill_any _ hU _ hw).mono ?_
  rintro e w' ⟨rfl, n, rfl⟩
  go_wp2
  go_ret
  exact ⟨ret_int (by rw [HN.out]), n, rfl⟩
def UnionRel (W : World) (la : List Int) (o i : Value) (wr : World) : Prop :=
  ∃ (k : Nat) (u : Int), wr = W ∧ i = .int .i64 k ∧ o = .int .u64 u ∧ k ≤ la.length ∧ U u ∧ (u = 0 ↔ uv (la.take k) = 0)
theorem union_step {la : List Int} {k : Nat} {u : Int} (hu : Us la) (_hk : k < la.length) (h0 : U u) (h : u = 0 ↔ uv (la.take k) = 0) :
    U (bits .or .u64 u (dgt la k)) ∧ (bits .or .u64 u (dgt la k) = 0 ↔ uv (la.take (k + 1)) = 0) := by
  refine ⟨U_or h0 (hu.dgt k), ?_⟩
  rw [or_zero h0 (hu.dgt k), h, uv_take_dgt]
  have h1 := uv_nonneg (hu.take k)
  have h2 := (hu.dgt k).1
  have hp := M_pos k
  have h3 := Int.mul_nonneg (Int.le_of_lt hp) h2
  constructor
  · rintro ⟨a, b⟩; rw [a, b]; simp
  · intro e
    have a : uv (la.take k) = 0 := by omega
    have b : M k * dgt la k = 0 := by omega
    exact ⟨a, by rcases Int.mul_eq_zero.1 b with b' | b'; · omega
                 · exact b'⟩
theorem union_any (A : Option Addr) (c : Nat) (la : List Int) (S : Nat → Prop) (w : World) (ha : SlR w S .u64 A la) (hu : Us la) (l8 : la.length ≤ 1000) :
    Calls Tryz.prog 88 #[.slice A la.length c] w fun e w' => (∃ u, e = .returned (.int .u64 u) ∧ U u ∧ (u = 0 ↔ uv la = 0)) ∧ w' = w := by
  go_enter Tryz.func88, Tryz.ntmps88
  go_wp2
  go_loopw [3, 8] (fun o i wr => UnionRel w la o i wr) (fun _ i _ => la.length - (intOf i).toNat)
  case atStart => exact ⟨0, 0, rfl, rfl, rfl, Nat.zero_le _, U_zero, by simp [uv]⟩
  case round =>
    obtain ⟨k, u, rfl, rfl, rfl, hk, hU, hiff⟩ := hrel
    by_cases hgo : k < la.length
    · obtain ⟨b, off, rfl, _, hcell⟩ := ha.at_ hgo
      rw [← dgt_lt hgo] at hcell
      have HS := Lib.hid (union_step hu hgo hU hiff)
      have HA := Lib.hid ha
      clear hiff ha
      go_wp2
      go_roundw
      case rel => exact ⟨k + 1, _, rfl, by go_num, rfl, hgo, HS.out.1, HS.out.2⟩
      case measure => simp [intOf]; omega
    · have HF := Lib.hid (show (u = 0 ↔ uv la = 0) by rw [List.take_of_length_le (by omega)] at hiff; exact hiff)
      clear hiff
      go_wp2
      go_ret
      exact ⟨⟨u, rfl, hU, HF.out⟩, rfl⟩
end Go.Proofs.YthmkllpdkcmccaaGreatDoor
namespace Go.Proofs.YthmkllpdkcmccaaGreatDoor
open Go.RowKit
set_option maxRecDepth 100000
set_option linter.unusedVariables false
set_option linter.unusedSimpArgs false

theorem own_made_f (w : World) (n : Nat) (hn : n ≤ 1000) : OwnK (w.alloc (.cells (madeCells #[.int .u64 0] n) 64)) w.heap.size 64 .u64 (.slice (some ⟨w.heap.size, 0, none⟩) n n) (List.replicate n 0) := own_made w n hn
/-- The box of the receiver, and the result beside it. -/
def Box (w : World) (f : FuncId) : World := w.alloc (.cells #[.func (.func f) #[] #[]] 171)
theorem box_below (w : World) (f : FuncId) : Below w.heap.size w (Box w f) := (Below.refl _ _).alloc (Nat.le_refl _) _

def LAddRel (W : World) (la lb : List Int) (cr i : Value) (wr : World) : Prop :=
  ∃ (k : Nat) (os : List Int) (c : Int), i = .int .i64 k ∧ cr = .int .u64 c ∧ k ≤ la.length ∧ OwnK wr (W.heap.size + 1) 64 .u64 (.slice (some ⟨W.heap.size + 1, 0, none⟩) la.length la.length) os ∧ os.length = la.length ∧ Us os ∧
    0 ≤ c ∧ c ≤ 1 ∧ uv os + M k * c = uv (la.take k) + uv (lb.take k) ∧ (∀ t, k ≤ t → dgt os t = 0) ∧ Below (W.heap.size + 1) (Box W 124) wr
set_option maxHeartbeats 4000000 in
theorem applyAdd (A B : Option Addr) (c d : Nat) (la lb : List Int) (w : World) (ha : SlR w (fun _ => True) .u64 A la) (hb : SlR w (fun _ => True) .u64 B lb) (hua : Us la) (hub : Us lb) (l1 : 1 ≤ la.length) (l8 : la.length ≤ 1000) (hl : la.length = lb.length) :
    Calls Tryz.prog 117 #[.agg #[.func (.func 124) #[] #[]], .slice A la.length c, .slice B lb.length d] w fun e w' =>
      ∃ (g cap : Nat) (os : List Int) (cr : Int), e = .returned (.tuple #[.slice (some ⟨g, 0, none⟩) os.length cap, .int .u64 cr]) ∧ os.length = la.length ∧ os.length ≤ cap ∧ w.heap.size ≤ g ∧ SlR w' (fun b => w.heap.size ≤ b) .u64 (some ⟨g, 0, none⟩) os ∧ (∀ j, w'.frozen? ⟨g, j, none⟩ = false) ∧ Us os ∧ 0 ≤ cr ∧ cr ≤ 1 ∧
        uv os + M os.length * cr = uv la + uv lb ∧ Below w.heap.size w w' := by
  have hmk := run_make_row' (P := Tryz.prog) 123 64 (.int .u64 0) 8 Tryz.underlying123 infoU rfl .i64 .i64 la.length (by omega) (by omega)
  have HLL := Lib.hid hl
  have HUA := Lib.hid hua
  have HUB := Lib.hid hub
  clear hl hua hub
  go_enter Tryz.func117, Tryz.ntmps117
  go_wp2
  go_loopw [7, 14] (fun cr i wr => LAddRel w la lb cr i wr) (fun _ i _ => la.length - (intOf i).toNat)
  case atStart =>
    have h0 := own_made_f (Box w 124) la.length l8
    exact ⟨0, List.replicate la.length 0, 0, rfl, rfl, Nat.zero_le _, by simpa [Box] using h0, List.length_replicate .., zeros_us _, by decide, by decide, by rw [zeros_uv]; simp [uv], fun t _ => by rw [dgt_replicate]; split <;> rfl, (Below.refl _ _).alloc (by simp [Box]) _⟩
  case round =>
    obtain ⟨k, os, cr, rfl, rfl, hk, hown, hlo, hu, hc0, hc1, huv, hz, hbl⟩ := hrel
    have HO := Lib.hid hown
    have HL := Lib.hid hlo
    have HU := Lib.hid hu
    have HV := Lib.hid huv
    have HZ := Lib.hid hz
    have hbw : Below w.heap.size w wr := (box_below w 124).trans (hbl.mono (by omega))
    have hsz : w.heap.size < wr.heap.size := by have := hbl.size; simp [Box] at this; omega
    have hbx : wr.cell? ⟨w.heap.size, 0, none⟩ = some (.func (.func 124) #[] #[]) := (hbl.cell (p := ⟨w.heap.size, 0, none⟩) (by simp)).trans (by simp [Box, go_sem])
    clear hown hlo hu huv hz
    by_cases hgo : k < la.length
    · have hgo2 : k < lb.length := by rw [← HLL.out]; exact hgo
      obtain ⟨b, off, rfl, _, hca⟩ := (ha.next hbw).at_ hgo
      obtain ⟨b2, off2, rfl, _, hcb⟩ := (hb.next hbw).at_ hgo2
      rw [← dgt_lt hgo] at hca
      rw [← dgt_lt hgo2] at hcb
      have hco := HO.out.cell_ HL.out hgo
      have hfo := HO.out.frozen_ HL.out k
      have hUa := HUA.out.dgt k
      have hUb := HUB.out.dgt k
      have hUc : U cr := by unfold U; omega
      have HC := Lib.hid (show cr % 2 = cr by omega)
      clear ha hb
      go_wp2_with (fail)
      go_region_law (first | (go_simp; go_at_call 124; refine (wordAdd_any _ _ _ hUa hUb hUc _).mono ?_; rintro e w' ⟨rfl, hw'⟩; obtain rfl := hw'.symm))
      all_goals go_wp2_with (fail)
      all_goals
        go_roundw
        case rel =>
          have hp : k < os.length := by rw [HL.out]; exact hgo
          refine ⟨k + 1, os.set k (lo (dgt la k + dgt lb k + cr % 2)), _, by go_num, rfl, hgo, (OwnK.set_ (os := os) (by exact HO.out) HL.out k _).1, by rw [List.length_set]; exact HL.out, HU.out.set_ _ (U_lo _), ?_, ?_, uadd_step hp (HZ.out k (Nat.le_refl _)) (by rw [HC.out]) HV.out,
            fun t ht => by rw [dgt_set _ hp, if_neg (by omega)]; exact HZ.out t (by omega), (below_drewN' hbl 1).setCell (p := ⟨w.heap.size + 1, k, none⟩) (Nat.le_refl _) _⟩
          · exact (hi_sum hUa hUb (by omega) (by omega)).1
          · exact (hi_sum hUa hUb (by omega) (by omega)).2
        case measure => simp [intOf]; omega
    · have hkl : la.length ≤ k := by omega
      have HE := Lib.hid (show uv os + M os.length * cr = uv la + uv lb by
        have h := HV.out
        rw [List.take_of_length_le hkl, List.take_of_length_le (by have := HLL.out; omega)] at h
        rw [HL.out, show la.length = k by omega]; exact h)
      have hsl := HO.out.form
      obtain ⟨A1, c1', hv, hcap, _, hsl⟩ := hsl
      rw [HL.out] at hv
      injection hv with ev1 ev2 ev3
      subst ev1
      subst ev3
      have HS := Lib.hid hsl
      have HCap := Lib.hid hcap
      clear hsl hcap ha hb ev2
      go_wp2
      go_ret2
      exact ⟨w.heap.size + 1, la.length, os, cr, by rw [HL.out]; rfl, HL.out, by rw [HL.out]; exact Nat.le_refl _, by omega, (HS.out).imp (fun b hb => by omega), fun j => HO.out.frozen_ HL.out j, HU.out, hc0, hc1, HE.out, hbw⟩

def LSubRel (W : World) (la lb : List Int) (cr i : Value) (wr : World) : Prop :=
  ∃ (k : Nat) (os : List Int) (c : Int), i = .int .i64 k ∧ cr = .int .u64 c ∧ k ≤ la.length ∧ OwnK wr (W.heap.size + 1) 64 .u64 (.slice (some ⟨W.heap.size + 1, 0, none⟩) la.length la.length) os ∧ os.length = la.length ∧ Us os ∧
    0 ≤ c ∧ c ≤ 1 ∧ uv os - M k * c = uv (la.take k) - uv (lb.take k) ∧ (∀ t, k ≤ t → dgt os t = 0) ∧ Below (W.heap.size + 1) (Box W 116) wr
set_option maxHeartbeats 4000000 in
theorem applySub (A B : Option Addr) (c d : Nat) (la lb : List Int) (w : World) (ha : SlR w (fun _ => True) .u64 A la) (hb : SlR w (fun _ => True) .u64 B lb) (hua : Us la) (hub : Us lb) (l1 : 1 ≤ la.length) (l8 : la.length ≤ 1000) (hl : la.length = lb.length) :
    Calls Tryz.prog 117 #[.agg #[.func (.func 116) #[] #[]], .slice A la.length c, .slice B lb.length d] w fun e w' =>
      ∃ (g cap : Nat) (os : List Int) (cr : Int), e = .returned (.tuple #[.slice (some ⟨g, 0, none⟩) os.length cap, .int .u64 cr]) ∧ os.length = la.length ∧ os.length ≤ cap ∧ w.heap.size ≤ g ∧ SlR w' (fun b => w.heap.size ≤ b) .u64 (some ⟨g, 0, none⟩) os ∧ (∀ j, w'.frozen? ⟨g, j, none⟩ = false) ∧ Us os ∧ 0 ≤ cr ∧ cr ≤ 1 ∧
        uv os - M os.length * cr = uv la - uv lb ∧ Below w.heap.size w w' := by
  have hmk := run_make_row' (P := Tryz.prog) 123 64 (.int .u64 0) 8 Tryz.underlying123 infoU rfl .i64 .i64 la.length (by omega) (by omega)
  have HLL := Lib.hid hl
  have HUA := Lib.hid hua
  have HUB := Lib.hid hub
  clear hl hua hub
  go_enter Tryz.func117, Tryz.ntmps117
  go_wp2
  go_loopw [7, 14] (fun cr i wr => LSubRel w la lb cr i wr) (fun _ i _ => la.length - (intOf i).toNat)
  case atStart =>
    have h0 := own_made_f (Box w 116) la.length l8
    exact ⟨0, List.replicate la.length 0, 0, rfl, rfl, Nat.zero_le _, by simpa [Box] using h0, List.length_replicate .., zeros_us _, by decide, by decide, by rw [zeros_uv]; simp [uv], fun t _ => by rw [dgt_replicate]; split <;> rfl, (Below.refl _ _).alloc (by simp [Box]) _⟩
  case round =>
    obtain ⟨k, os, cr, rfl, rfl, hk, hown, hlo, hu, hc0, hc1, huv, hz, hbl⟩ := hrel
    have HO := Lib.hid hown
    have HL := Lib.hid hlo
    have HU := Lib.hid hu
    have HV := Lib.hid huv
    have HZ := Lib.hid hz
    have hbw : Below w.heap.size w wr := (box_below w 116).trans (hbl.mono (by omega))
    have hsz : w.heap.size < wr.heap.size := by have := hbl.size; simp [Box] at this; omega
    have hbx : wr.cell? ⟨w.heap.size, 0, none⟩ = some (.func (.func 116) #[] #[]) := (hbl.cell (p := ⟨w.heap.size, 0, none⟩) (by simp)).trans (by simp [Box, go_sem])
    clear hown hlo hu huv hz
    by_cases hgo : k < la.length
    · have hgo2 : k < lb.length := by rw [← HLL.out]; exact hgo
      obtain ⟨b, off, rfl, _, hca⟩ := (ha.next hbw).at_ hgo
      obtain ⟨b2, off2, rfl, _, hcb⟩ := (hb.next hbw).at_ hgo2
      rw [← dgt_lt hgo] at hca
      rw [← dgt_lt hgo2] at hcb
      have hco := HO.out.cell_ HL.out hgo
      have hfo := HO.out.frozen_ HL.out k
      have hUa := HUA.out.dgt k
      have hUb := HUB.out.dgt k
      have hUc : U cr := by unfold U; omega
      have HC := Lib.hid (show cr % 2 = cr by omega)
      clear ha hb
      go_wp2_with (fail)
      go_region_law (first | (go_simp; go_at_call 116; refine (wordSub_any _ _ _ hUa hUb hUc _).mono ?_; rintro e w' ⟨rfl, hw'⟩; obtain rfl := hw'.symm))
      all_goals go_wp2_with (fail)
      all_goals
        go_roundw
        case rel =>
          have hp : k < os.length := by rw [HL.out]; exact hgo
          refine ⟨k + 1, os.set k (lo (dgt la k - dgt lb k - cr % 2)), _, by go_num, rfl, hgo, (OwnK.set_ (os := os) (by exact HO.out) HL.out k _).1, by rw [List.length_set]; exact HL.out, HU.out.set_ _ (U_lo _), ?_, ?_, usub_step hp (HZ.out k (Nat.le_refl _)) (by rw [HC.out]) HV.out,
            fun t ht => by rw [dgt_set _ hp, if_neg (by omega)]; exact HZ.out t (by omega), (below_drewN' hbl 1).setCell (p := ⟨w.heap.size + 1, k, none⟩) (Nat.le_refl _) _⟩
          · exact (bo_diff hUa hUb (by omega) (by omega)).1
          · exact (bo_diff hUa hUb (by omega) (by omega)).2
        case measure => simp [intOf]; omega
    · have hkl : la.length ≤ k := by omega
      have HE := Lib.hid (show uv os - M os.length * cr = uv la - uv lb by
        have h := HV.out
        rw [List.take_of_length_le hkl, List.take_of_length_le (by have := HLL.out; omega)] at h
        rw [HL.out, show la.length = k by omega]; exact h)
      have hsl := HO.out.form
      obtain ⟨A1, c1', hv, hcap, _, hsl⟩ := hsl
      rw [HL.out] at hv
      injection hv with ev1 ev2 ev3
      subst ev1
      subst ev3
      have HS := Lib.hid hsl
      have HCap := Lib.hid hcap
      clear hsl hcap ha hb ev2
      go_wp2
      go_ret2
      exact ⟨w.heap.size + 1, la.length, os, cr, by rw [HL.out]; rfl, HL.out, by rw [HL.out]; exact Nat.le_refl _, by omega, (HS.out).imp (fun b hb => by omega), fun j => HO.out.frozen_ HL.out j, HU.out, hc0, hc1, HE.out, hbw⟩
end Go.Proofs.YthmkllpdkcmccaaGreatDoor
/- Contracts of package limb, third part: Add, Sub, Neg, Sign, Compare. -/
namespace Go.Proofs.YthmkllpdkcmccaaGreatDoor
open Go.RowKit
set_option maxRecDepth 100000
set_option linter.unusedVariables false
set_option linter.unusedSimpArgs false

theorem Arg.top {w : World} {A : Option Addr} {c : Nat} {ls : List Int} (h : Arg w A c ls) : SlR w (fun _ => True) .u64 A ls := h.sl
theorem limbAdd_yes (A B : Option Addr) (c d : Nat) (la lb : List Int) (w : World) (_hw : Wts w) (ha : Arg w A c la) (hb : Arg w B d lb) (l1 : 1 ≤ la.length) (l8 : la.length ≤ 8) (hl : la.length = lb.length) :
    Calls Tryz.prog 110 #[.slice A la.length c, .slice B lb.length d] w (GivesU w (limbs la.length (sv la + sv lb))) := by
  have HLL := Lib.hid hl
  clear hl
  go_enter Tryz.func110, Tryz.ntmps110
  go_wp2_with (fail)
  refine (oneWidth_yes _ _ _ _ _ _ _ l1 l8 HLL.out).mono ?_
  rintro e w' ⟨rfl, hw1⟩
  obtain rfl := hw1.symm
  go_wp2_with (fail)
  refine (applyAdd A B c d la lb _ ha.sl hb.sl ha.us hb.us l1 (by omega) HLL.out).mono ?_
  rintro e w2 ⟨g, cap, os, cr, rfl, hlo, hcap, hg, hsl, hfz, hu, h0, h1, huv, hbl⟩
  have HR := Lib.hid (uadd_end hlo ha.us hb.us hu HLL.out huv)
  have HLO := Lib.hid hlo
  clear hlo huv
  go_wp2
  go_ret
  rw [← HR.out]
  exact ⟨_, cap, rfl, hcap, hsl, hbl⟩
theorem limbSub_yes (A B : Option Addr) (c d : Nat) (la lb : List Int) (w : World) (_hw : Wts w) (ha : Arg w A c la) (hb : Arg w B d lb) (l1 : 1 ≤ la.length) (l8 : la.length ≤ 8) (hl : la.length = lb.length) :
    Calls Tryz.prog 104 #[.slice A la.length c, .slice B lb.length d] w (GivesU w (limbs la.length (sv la - sv lb))) := by
  have HLL := Lib.hid hl
  clear hl
  go_enter Tryz.func104, Tryz.ntmps104
  go_wp2_with (fail)
  refine (oneWidth_yes _ _ _ _ _ _ _ l1 l8 HLL.out).mono ?_
  rintro e w' ⟨rfl, hw1⟩
  obtain rfl := hw1.symm
  go_wp2_with (fail)
  refine (applySub A B c d la lb _ ha.sl hb.sl ha.us hb.us l1 (by omega) HLL.out).mono ?_
  rintro e w2 ⟨g, cap, os, cr, rfl, hlo, hcap, hg, hsl, hfz, hu, h0, h1, huv, hbl⟩
  have HR := Lib.hid (usub_end hlo ha.us hb.us hu HLL.out huv)
  have HLO := Lib.hid hlo
  clear hlo huv
  go_wp2
  go_ret
  rw [← HR.out]
  exact ⟨_, cap, rfl, hcap, hsl, hbl⟩
theorem GivesU.later {w w1 : World} {ls : List Int} (hb : Below w.heap.size w w1) {e : Ending} {w' : World} (h : GivesU w1 ls e w') : GivesU w ls e w' := by
  obtain ⟨A, c, rfl, hc, hs, hb2⟩ := h
  exact ⟨A, c, rfl, hc, hs.imp (fun b h => by have := hb.size; omega), hb.trans (hb2.mono hb.size)⟩
theorem limbSign_yes (A : Option Addr) (c : Nat) (la : List Int) (w : World) (hw : Wts w) (ha : Arg w A c la) (l1 : 1 ≤ la.length) (l8 : la.length ≤ 8) :
    Calls Tryz.prog 71 #[.slice A la.length c] w fun e w' => e = .returned (.int .i64 (sv la).sign) ∧ Below w.heap.size w w' := by
  go_enter Tryz.func71, Tryz.ntmps71
  go_wp2_with (fail)
  refine (isInteger_yes _ _ _ _ l1 l8).mono ?_
  rintro e w' ⟨rfl, hw1⟩
  obtain rfl := hw1.symm
  go_wp2_with (fail)
  refine (above_any A c la _ _ hw ha.sl ha.us l1 (by omega)).mono ?_
  rintro e w' ⟨rfl, n1, rfl⟩
  go_wp2_with (fail)
  refine (union_any A c la (fun _ => True) _ (by exact ha.sl) ha.us (by omega)).mono ?_
  rintro e w' ⟨⟨u, rfl, hU, hz⟩, hw1⟩
  obtain rfl := hw1.symm
  have HZ := Lib.hid hz
  clear hz
  go_wp2_with (fail)
  refine (zero_any _ hU _ (by exact hw)).mono ?_
  rintro e w' ⟨rfl, n2, rfl⟩
  go_wp2_with (fail)
  refine (sign_any _ _ (U_mk _) (U_mk _) _ (by exact hw)).mono ?_
  rintro e w' ⟨rfl, n3, rfl⟩
  go_wp2
  go_ret
  refine ⟨ret_int ?_, below_drewN' (Below.refl _ _) _⟩
  rw [← sign_val ha.us]
  congr 2
  rw [decide_eq_decide]; exact HZ.out
end Go.Proofs.YthmkllpdkcmccaaGreatDoor
/- Contracts of package limb, fourth part: Extend, From, Select, Fits. -/
namespace Go.Proofs.YthmkllpdkcmccaaGreatDoor
open Go.RowKit
set_option maxRecDepth 100000
set_option linter.unusedVariables false
set_option linter.unusedSimpArgs false

theorem own_of_heap {w : World} {base g n : Nat} {e : TypeId} {k : IntKind} {os : List Int} (hg : base ≤ g) (hh : w.heap[g]? = some (.cells (os.map (Value.int k)).toArray e (0, 0))) (hn : os.length = n) (hm : n ≤ 1000) :
    OwnK w base e k (.slice (some ⟨g, 0, none⟩) n n) os := by
  subst hn
  exact ⟨by simp, .inr ⟨g, os.length, _, rfl, hg, hh, Nat.le_refl _, by unfold maxLen; omega, by simp, by simp [List.take_of_length_le]⟩⟩
theorem own_gives {w w' : World} {n : Nat} {os : List Int} (h : OwnK w' w.heap.size 64 .u64 (.slice (some ⟨w.heap.size, 0, none⟩) n n) os) (hl : os.length = n) (hb : Below w.heap.size w w') :
    GivesF w os (.returned (.slice (some ⟨w.heap.size, 0, none⟩) n n)) w' := by
  subst hl
  obtain ⟨A1, c1, hv, hcap, _, hsl⟩ := h.form
  injection hv with ev1 ev2 ev3
  subst ev1
  subst ev3
  exact ⟨_, _, rfl, Nat.le_refl _, hsl, fun b off e j _ => by injection e with e; injection e with e1 e2; subst e1; subst e2; rw [Nat.zero_add]; exact h.frozen_ rfl j, hb⟩
theorem GivesF.u {w : World} {ls : List Int} {e : Ending} {w' : World} (h : GivesF w ls e w') : GivesU w ls e w' := by
  obtain ⟨A, c, rfl, hc, hs, _, hb⟩ := h
  exact ⟨A, c, rfl, hc, hs, hb⟩
theorem addr_add (b off j : Nat) : (⟨b, off, none⟩ : Addr).add j = ⟨b, off + j, none⟩ := by
  unfold Addr.add; split
  · next h => subst h; rfl
  · rfl
def ExtRel (W : World) (la : List Int) (n : Nat) (i : Value) (wr : World) : Prop :=
  ∃ (k : Nat) (os : List Int), i = .int .i64 k ∧ k ≤ n ∧ min la.length n ≤ k ∧ OwnK wr W.heap.size 64 .u64 (.slice (some ⟨W.heap.size, 0, none⟩) n n) os ∧ os.length = n ∧ (∀ t, t < k → dgt os t = dgt (ext la n) t) ∧ Below W.heap.size W wr
theorem splice_start (la : List Int) (n : Nat) : splice (List.replicate n (Value.int .u64 0)) 0 ((la.take n).map (Value.int .u64)) = (la.take n ++ List.replicate (n - la.length) 0).map (Value.int .u64) := by
  unfold splice
  simp only [List.take_zero, List.nil_append, Nat.zero_add, List.length_map, List.length_take, List.map_append, List.map_replicate, List.drop_replicate]
  congr 2
  omega
set_option maxHeartbeats 2000000 in
theorem limbExtend_yes (A : Option Addr) (c : Nat) (la : List Int) (n : Nat) (w : World) (hw : Wts w) (ha : Arg w A c la) (l1 : 1 ≤ la.length) (l8 : la.length ≤ 8) (h1 : 1 ≤ n) (h8 : n ≤ 8) :
    Calls Tryz.prog 89 #[.slice A la.length c, .int .i64 n] w (GivesU w (limbs n (sv la))) := by
  have hmk := run_make_row' (P := Tryz.prog) 123 64 (.int .u64 0) 8 Tryz.underlying123 infoU rfl .i64 .i64 n (by omega) (by omega)
  have hsz : (Tryz.prog.info? 64).map (·.size) = some 1 := by kernel_rfl
  have hb0 : Below w.heap.size w (w.alloc (.cells (madeCells #[.int .u64 0] n) 64)) := (Below.refl _ _).alloc (Nat.le_refl _) _
  have HG := Lib.hid (show (w.alloc (.cells (madeCells #[.int .u64 0] n) 64)).heap[w.heap.size]? = some (.cells (List.replicate n (Value.int .u64 0)).toArray 64 (0, 0)) by
    rw [heap_alloc_new, ← toList_madeCells_one])
  obtain ⟨cs, hcs⟩ : ∃ cs, cs = (la.take n).map (Value.int .u64) := ⟨_, rfl⟩
  have HCL := Lib.hid (show cs.length = Nat.min la.length n by rw [hcs, List.length_map, List.length_take, Nat.min_comm])
  have HCL2 := Lib.hid (show cs.length ≤ n by rw [hcs, List.length_map, List.length_take]; omega)
  have HPos := Lib.hid (show 0 < cs.length → ∃ ad, A = some ad ∧ ∀ j v, cs[j]? = some v → (w.alloc (.cells (madeCells #[.int .u64 0] n) 64)).cell? (ad.add j) = some v by
    intro _
    obtain ⟨b, off, e, _, hc⟩ := (ha.sl.next hb0) (by omega)
    refine ⟨⟨b, off, none⟩, e, fun j v hj => ?_⟩
    rw [hcs, List.getElem?_map, List.getElem?_take] at hj
    split at hj
    · cases hd : la[j]? with
      | none => rw [hd] at hj; cases hj
      | some d => rw [hd] at hj; injection hj with hj; subst hj; rw [addr_add]; exact hc j d hd
    · cases hj)
  have HOne := Lib.hid (show ∀ v ∈ cs, v.oneCell' = true by
    intro v hv; rw [hcs] at hv; obtain ⟨d, _, rfl⟩ := List.mem_map.1 hv; rfl)
  have HSp := Lib.hid (show splice (List.replicate n (Value.int .u64 0)) 0 cs = (la.take n ++ List.replicate (n - la.length) 0).map (Value.int .u64) by rw [hcs]; exact splice_start la n)
  have HFit := Lib.hid (show 0 + cs.length ≤ (List.replicate n (Value.int .u64 0)).length by rw [List.length_replicate]; have := HCL2.out; omega)
  clear hcs
  go_enter Tryz.func89, Tryz.ntmps89
  go_wp2_with (fail)
  refine (isInteger_yes _ _ _ _ l1 l8).mono ?_
  rintro e w' ⟨rfl, hw1⟩
  obtain rfl := hw1.symm
  go_wp2_with (fail)
  refine (isWidth_yes _ _ (by omega) (by omega)).mono ?_
  rintro e w' ⟨rfl, hw1⟩
  obtain rfl := hw1.symm
  go_wp2_with (with_reducible show wpList _ _ _ (⟨some 19, _, _, _, _, _⟩ :: _) _ _; (refine wpList_copy_splice rfl (.tmp 17) (.tmp 18) 123 123 rfl 64 Tryz.underlying123 hsz (some ⟨w.heap.size, 0, none⟩) A n n la.length c rfl rfl w.heap.size 0 (List.replicate n (Value.int .u64 0)) 64 HG.out cs HCL.out (fun h => ⟨rfl, HPos.out h⟩) HFit.out HOne.out w.heap.size w hb0 (Nat.le_refl _) ?_; intro w2 HG2 hb2))
  have HGG := Lib.hid (show w2.heap[w.heap.size]? = some (.cells ((la.take n ++ List.replicate (n - la.length) 0).map (Value.int .u64)).toArray 64 (0, 0)) by have h := HG2.out; rw [HSp.out] at h; exact h)
  clear HG2 HG HPos HOne HSp HFit hmk hsz
  go_loopw [6] (fun i wr => ExtRel w la n i wr) (fun i _ => n - (intOf i).toNat)
  case atStart =>
    refine ⟨cs.length, la.take n ++ List.replicate (n - la.length) 0, rfl, HCL2.out, (by rw [HCL.out]; exact Nat.le_refl _), own_of_heap (Nat.le_refl _) HGG.out (by simp; omega) (by omega), by simp; omega, ?_, hb2⟩
    intro t ht
    have h := HCL.out
    have ht2 : t < n ∧ t < la.length := by rw [h] at ht; exact ⟨Nat.lt_of_lt_of_le ht (Nat.min_le_right _ _), Nat.lt_of_lt_of_le ht (Nat.min_le_left _ _)⟩
    rw [ext_dgt_at _ ht2.1, if_pos ht2.2, dgt_append, if_pos (by rw [List.length_take]; omega), dgt_take, if_pos ht2.1]
  case round =>
    obtain ⟨k, os, rfl, hk, hmin, hown, hlo, hd, hbl⟩ := hrel
    have HO := Lib.hid hown
    have HL := Lib.hid hlo
    have HD := Lib.hid hd
    clear hown hlo hd
    by_cases hgo : k < n
    · have hco := HO.out.cell_ HL.out hgo
      have hfo := HO.out.frozen_ HL.out k
      have hw1 := hw.below hbl
      have ha1 := ha.sl.next hbl
      go_wp2_with (fail)
      refine (above_any A c la (fun _ => True) _ (by exact hw1) (by exact ha1) ha.us l1 (by omega)).mono ?_
      rintro e w' ⟨rfl, n1, rfl⟩
      go_wp2
      go_roundw
      case rel =>
        have hp : k < os.length := by rw [HL.out]; exact hgo
        refine ⟨k + 1, os.set k (mk (neg la)), by go_num, hgo, by omega, (OwnK.set_ (os := os) (by exact HO.out) HL.out k _).1, by rw [List.length_set]; exact HL.out, fun t ht => ?_, (below_drewN' hbl n1).setCell (p := ⟨w.heap.size, k, none⟩) (Nat.le_refl _) _⟩
        rw [dgt_set _ hp]
        by_cases htk : t = k
        · rw [if_pos htk, ext_dgt_at _ (by omega), if_neg (by omega)]
        · rw [if_neg htk]; exact HD.out t (by omega)
      case measure => simp [intOf]; omega
    · have HE := Lib.hid (show os = limbs n (sv la) by
        rw [← ext_limbs ha.us]
        exact ext_dgt (by rw [ext_length, HL.out]) fun t ht => HD.out t (by rw [HL.out] at ht; omega))
      go_wp2
      go_ret
      rw [← HE.out]
      exact (own_gives HO.out HL.out hbl).u
/-- A signed word as an integer of one limb. -/
theorem one_us (x : Int) : Us [IntKind.u64.wrap x] := fun d hd => by simp at hd; subst hd; exact U_wrap x
theorem one_sv {x : Int} (h : S x) : sv [IntKind.u64.wrap x] = x := by
  unfold sv
  have e : M [IntKind.u64.wrap x].length = 18446744073709551616 := rfl
  have e2 : uv [IntKind.u64.wrap x] = x % 18446744073709551616 := by simp [uv, wrap_u]
  rw [e, e2]
  unfold S at h
  split <;> omega
theorem one_arg (w : World) (x : Int) : Arg (w.alloc (.cells #[.int .u64 (IntKind.u64.wrap x)] 64)) (some ⟨w.heap.size, 0, none⟩) 1 [IntKind.u64.wrap x] :=
  ⟨fun _ => ⟨w.heap.size, 0, rfl, trivial, fun j d hd => by
    match j, hd with
    | 0, hd => simp at hd; subst hd; simp [go_sem]⟩, one_us x, by simp⟩
theorem limbFrom_yes (x : Int) (n : Nat) (w : World) (hw : Wts w) (hx : S x) (h1 : 1 ≤ n) (h8 : n ≤ 8) : Calls Tryz.prog 109 #[.int .i64 x, .int .i64 n] w (GivesU w (limbs n x)) := by
  have hb : Below w.heap.size w (w.alloc (.cells #[.int .u64 (IntKind.u64.wrap x)] 64)) := (Below.refl _ _).alloc (Nat.le_refl _) _
  have hE := limbExtend_yes (some ⟨w.heap.size, 0, none⟩) 1 [IntKind.u64.wrap x] n _ (hw.below hb) (one_arg w x) (by simp) (by simp) h1 h8
  rw [one_sv hx] at hE
  have HE := Lib.hid hE
  clear hE
  go_enter Tryz.func109, Tryz.ntmps109
  go_wp2_with (fail)
  refine HE.out.mono ?_
  intro e w2 h2
  obtain ⟨A2, c2, rfl, hc2, hs2, hb2⟩ := GivesU.later hb h2
  go_wp2
  go_ret
  exact ⟨A2, c2, rfl, hc2, hs2, hb2⟩
end Go.Proofs.YthmkllpdkcmccaaGreatDoor
namespace Go.Proofs.YthmkllpdkcmccaaGreatDoor
open Go.RowKit
set_option maxRecDepth 100000
set_option linter.unusedVariables false
set_option linter.unusedSimpArgs false

theorem and_mk' {v : Int} (h : U v) (c : Bool) : bits .and .u64 v (mk c) = if c then v else 0 := by
  obtain ⟨x, rfl⟩ := U_word h
  cases c
  · rw [mk_false_w, and_w, BitVec.and_zero]; rfl
  · rw [mk_true_w, and_w, BitVec.and_allOnes]; rfl
def SubWRel (W : World) (base g N off : Nat) (m : Bool) (os lb : List Int) (cr i : Value) (wr : World) : Prop :=
  ∃ (k : Nat) (os2 : List Int) (c : Int), i = .int .i64 k ∧ cr = .int .u64 c ∧ k ≤ lb.length ∧ OwnK wr base 64 .u64 (.slice (some ⟨g, 0, none⟩) N N) os2 ∧ os2.length = N ∧ Us os2 ∧ 0 ≤ c ∧ c ≤ 1 ∧
    uv os2 - M (off + k) * c = uv os - M off * (b1 m * uv (lb.take k)) ∧ Below base W wr
set_option maxHeartbeats 4000000 in
theorem subtractWhere_any (m : Bool) (g off n cap base N : Nat) (B : Option Addr) (d : Nat) (os lb : List Int) (w : World) (hO : OwnK w base 64 .u64 (.slice (some ⟨g, 0, none⟩) N N) os) (hL : os.length = N) (hU : Us os)
    (hb : SlR w (fun b => b < base) .u64 B lb) (hub : Us lb) (hn : n = lb.length) (hN : off + lb.length = N) (l8 : N ≤ 1000) (hbg : base ≤ g) (_hbw : base ≤ w.heap.size) :
    Calls Tryz.prog 127 #[.int .u64 (mk m), .slice (some ⟨g, off, none⟩) n cap, .slice B lb.length d] w fun e w' => e = .returned (.tuple #[]) ∧
      ∃ (os2 : List Int) (c : Int), OwnK w' base 64 .u64 (.slice (some ⟨g, 0, none⟩) N N) os2 ∧ os2.length = N ∧ Us os2 ∧ uv os2 = uv os - M off * (b1 m * uv lb) + M N * c ∧ Below base w w' := by
  have HO0 := Lib.hid hO
  have HL0 := Lib.hid hL
  have HU0 := Lib.hid hU
  have HN := Lib.hid hn
  have HNN := Lib.hid hN
  have hnn : (n : Int) = (lb.length : Int) := by omega
  clear hO hL hU hn hN
  go_enter Tryz.func127, Tryz.ntmps127
  go_wp2
  go_loopw [6, 10] (fun cr i wr => SubWRel w base g N off m os lb cr i wr) (fun _ i _ => lb.length - (intOf i).toNat)
  case atStart => exact ⟨0, os, 0, rfl, rfl, Nat.zero_le _, HO0.out, HL0.out, HU0.out, by decide, by decide, by simp [uv], Below.refl _ _⟩
  case round =>
    obtain ⟨k, os2, cr, rfl, rfl, hk, hown, hlo, hu, hc0, hc1, huv, hbl⟩ := hrel
    have HO := Lib.hid hown
    have HL := Lib.hid hlo
    have HU := Lib.hid hu
    have HV := Lib.hid huv
    clear hown hlo hu huv
    by_cases hgo : k < lb.length
    · have hkn : off + k < N := by have := HNN.out; omega
      have hgo3 : k < n := by have := HN.out; omega
      obtain ⟨b, boff, rfl, hbb, hcb⟩ := (hb.keep fun b o h _ => hbl.cell (p := ⟨b, o, none⟩) h).at_ hgo
      rw [← dgt_lt hgo] at hcb
      have hco := HO.out.cell_ HL.out hkn
      have hfo := HO.out.frozen_ HL.out (off + k)
      have hUb := hub.dgt k
      have hUo := HU.out.dgt (off + k)
      have hUc : U cr := by unfold U; omega
      have hUm := U_and hUb (U_mk m)
      have HC := Lib.hid (show cr % 2 = cr by omega)
      have HA := Lib.hid (and_mk' hUb m)
      clear hb
      go_wp2_with (fail)
      go_region_law (first | (go_simp; go_at_call 116; refine (wordSub_any _ _ _ hUo hUm hUc _).mono ?_; rintro e w' ⟨rfl, hw'⟩; obtain rfl := hw'.symm))
      all_goals go_wp2_with (fail)
      all_goals
        go_roundw
        case rel =>
          have hp : off + k < os2.length := by rw [HL.out]; exact hkn
          refine ⟨k + 1, os2.set (off + k) (lo (dgt os2 (off + k) - bits .and .u64 (dgt lb k) (mk m) - cr % 2)), _, by go_num, rfl, hgo, (OwnK.set_ (os := os2) (by exact HO.out) HL.out (off + k) _).1, by rw [List.length_set]; exact HL.out, HU.out.set_ _ (U_lo _), ?_, ?_,
            usubw_step hp (by rw [HC.out, HA.out]) HV.out, (below_drewN' hbl 1).setCell (p := ⟨g, off + k, none⟩) hbg _⟩
          · exact (bo_diff hUo hUm (by omega) (by omega)).1
          · exact (bo_diff hUo hUm (by omega) (by omega)).2
        case measure => simp [intOf]; omega
    · have HE := Lib.hid (show uv os2 = uv os - M off * (b1 m * uv lb) + M N * cr by
        have h := HV.out
        rw [List.take_of_length_le (by omega), show off + k = N by have := HNN.out; omega] at h
        omega)
      clear hb
      go_wp2
      go_end0
      exact ⟨rfl, os2, cr, HO.out, HL.out, HU.out, HE.out, hbl⟩
def UMulRel (W : World) (la lb : List Int) (i : Value) (wr : World) : Prop :=
  ∃ (k : Nat) (os : List Int), i = .int .i64 k ∧ k ≤ la.length ∧ OwnK wr W.heap.size 64 .u64 (.slice (some ⟨W.heap.size, 0, none⟩) (la.length + lb.length) (la.length + lb.length)) os ∧ os.length = la.length + lb.length ∧ Us os ∧ uv os = uv (la.take k) * uv lb ∧
    (∀ t, k + lb.length ≤ t → dgt os t = 0) ∧ Below W.heap.size W wr
def UMulRel2 (W : World) (la lb : List Int) (k : Nat) (cr j : Value) (wr : World) : Prop :=
  ∃ (t : Nat) (os : List Int) (c : Int), j = .int .i64 t ∧ cr = .int .u64 c ∧ t ≤ lb.length ∧ OwnK wr W.heap.size 64 .u64 (.slice (some ⟨W.heap.size, 0, none⟩) (la.length + lb.length) (la.length + lb.length)) os ∧ os.length = la.length + lb.length ∧ Us os ∧ U c ∧
    uv os + M (k + t) * c = uv (la.take k) * uv lb + M k * (dgt la k * uv (lb.take t)) ∧ (∀ t, k + lb.length ≤ t → dgt os t = 0) ∧ Below W.heap.size W wr
/-- What stands after the first correction. -/
def AtCorr (W : World) (la lb : List Int) (wx : World) : Prop :=
  ∃ (os : List Int) (c : Int), OwnK wx W.heap.size 64 .u64 (.slice (some ⟨W.heap.size, 0, none⟩) (la.length + lb.length) (la.length + lb.length)) os ∧ os.length = la.length + lb.length ∧ Us os ∧
    uv os = uv la * uv lb - M la.length * (b1 (neg la) * uv lb) + M (la.length + lb.length) * c ∧ Below W.heap.size W wx
set_option maxHeartbeats 4000000 in
theorem limbMul_yes (A B : Option Addr) (c d : Nat) (la lb : List Int) (w : World) (hw : Wts w) (ha : Arg w A c la) (hb : Arg w B d lb) (l1 : 1 ≤ la.length) (l2 : 1 ≤ lb.length) (l8 : la.length + lb.length ≤ 8) :
    Calls Tryz.prog 114 #[.slice A la.length c, .slice B lb.length d] w (GivesU w (limbs (la.length + lb.length) (sv la * sv lb))) := by
  have hmk := run_make_row' (P := Tryz.prog) 123 64 (.int .u64 0) 8 Tryz.underlying123 infoU rfl .i64 .i64 (la.length + lb.length) (by omega) (by omega)
  simp only [Int.natCast_add] at hmk
  have HUA := Lib.hid ha.us
  have HUB := Lib.hid hb.us
  have hbl0 : Below w.heap.size w (w.alloc (.cells (madeCells #[.int .u64 0] (la.length + lb.length)) 64)) := (Below.refl _ _).alloc (Nat.le_refl _) _
  go_enter Tryz.func114, Tryz.ntmps114
  go_wp2_with (fail)
  refine (isInteger_yes _ _ _ _ l1 (by omega)).mono ?_
  rintro e w' ⟨rfl, hw1⟩
  obtain rfl := hw1.symm
  go_wp2_with (fail)
  refine (isInteger_yes _ _ _ _ l2 (by omega)).mono ?_
  rintro e w' ⟨rfl, hw1⟩
  obtain rfl := hw1.symm
  go_wp2_with (fail)
  refine (isWidth_yes _ _ (by omega) (by omega)).mono ?_
  rintro e w' ⟨rfl, hw1⟩
  obtain rfl := hw1.symm
  have hwr : IntKind.i64.wrap ((la.length : Int) + (lb.length : Int)) = (la.length : Int) + (lb.length : Int) := i64_small (by omega) (by omega)
  go_wp2
  clear hmk
  go_loopw [7, 34] (fun _ i wr => UMulRel w la lb i wr) (fun _ i _ => la.length - (intOf i).toNat)
  case atStart =>
    exact ⟨0, List.replicate (la.length + lb.length) 0, rfl, Nat.zero_le _, own_made w (la.length + lb.length) (by omega), List.length_replicate .., zeros_us _, by rw [zeros_uv]; simp [uv], fun t _ => by rw [dgt_replicate]; split <;> rfl, hbl0⟩
  case round =>
    obtain ⟨k, os, rfl, hk, hown, hlo, hu, huv, hz, hbl⟩ := hrel
    have HO := Lib.hid hown
    have HL := Lib.hid hlo
    have HU := Lib.hid hu
    have HV := Lib.hid huv
    have HZ := Lib.hid hz
    clear hown hlo hu huv hz hbl0
    by_cases hgo : k < la.length
    · go_wp2
      go_loopw [7, 39] (fun cr j wr => UMulRel2 w la lb k cr j wr) (fun _ j _ => lb.length - (intOf j).toNat)
      case atStart => exact ⟨0, os, 0, rfl, rfl, Nat.zero_le _, HO.out, HL.out, HU.out, U_zero, by rw [HV.out]; simp [uv], HZ.out, hbl⟩
      case round =>
        clear hbl HO HL HU HV HZ
        obtain ⟨t, os2, cr, rfl, rfl, ht, hown, hlo, hu, hUc, huv, hz, hbl⟩ := hrel
        have HO := Lib.hid hown
        have HL := Lib.hid hlo
        have HU := Lib.hid hu
        have HV := Lib.hid huv
        have HZ := Lib.hid hz
        clear hown hlo hu huv hz
        by_cases hgo2 : t < lb.length
        · obtain ⟨b, off, rfl, _, hca⟩ := (ha.sl.next hbl).at_ hgo
          obtain ⟨b2, off2, rfl, _, hcb⟩ := (hb.sl.next hbl).at_ hgo2
          rw [← dgt_lt hgo] at hca
          rw [← dgt_lt hgo2] at hcb
          have hco := HO.out.cell_ HL.out (show k + t < la.length + lb.length by omega)
          have hfo := HO.out.frozen_ HL.out (k + t)
          have hUa := HUA.out.dgt k
          have hUb := HUB.out.dgt t
          have hUo := HU.out.dgt (k + t)
          have e1 : IntKind.i64.wrap ((k : Int) + (t : Int)) = (k : Int) + (t : Int) := i64_small (by omega) (by omega)
          have e2 : ((k : Int) + (t : Int)).toNat = k + t := by omega
          have e3 : (0 : Int) ≤ (k : Int) + (t : Int) := by omega
          have e7 : (k : Int) + (t : Int) < (la.length : Int) + (lb.length : Int) := by omega
          clear ha hb
          go_wp2_with (fail)
          go_region_law (first | (go_simp; go_at_call 126; refine (wordMulAdd_any _ _ _ _ hUa hUb hUo hUc _).mono ?_; rintro e w' ⟨rfl, hw'⟩; obtain rfl := hw'.symm))
          all_goals go_wp2_with (fail)
          all_goals clear e1 e2 e3 e7
          all_goals
            go_roundw
            case rel =>
              have hp : k + t < os2.length := by rw [HL.out]; omega
              exact ⟨t + 1, os2.set (k + t) (lo (dgt la k * dgt lb t + dgt os2 (k + t) + cr)), _, by go_num, rfl, hgo2, (OwnK.set_ (os := os2) (by exact HO.out) HL.out (k + t) _).1, by rw [List.length_set]; exact HL.out, HU.out.set_ _ (U_lo _), U_hi_mulAdd hUa hUb hUo hUc, umul_step hp rfl HV.out,
                fun i hi => by rw [dgt_set _ hp, if_neg (by omega)]; exact HZ.out i hi, (below_drewN' hbl 1).setCell (p := ⟨w.heap.size, k + t, none⟩) (Nat.le_refl _) _⟩
            case measure => simp [intOf]; omega
        · have htl : t = lb.length := by omega
          subst htl
          have hco := HO.out.cell_ HL.out (show k + lb.length < la.length + lb.length by omega)
          have hfo := HO.out.frozen_ HL.out (k + lb.length)
          have e1 : IntKind.i64.wrap ((k : Int) + (lb.length : Int)) = (k : Int) + (lb.length : Int) := i64_small (by omega) (by omega)
          have e2 : ((k : Int) + (lb.length : Int)).toNat = k + lb.length := by omega
          have e7 : (k : Int) + (lb.length : Int) < (la.length : Int) + (lb.length : Int) := by omega
          clear ha hb
          go_wp2_with (fail)
          clear e1 e2 e7
          go_roundw
          case rel =>
            have hp : k + lb.length < os2.length := by rw [HL.out]; omega
            have hset := OwnK.set_ HO.out HL.out (k + lb.length) cr
            exact ⟨k + 1, _, by go_num, hgo, hset.1, hset.2, HU.out.set_ _ hUc, umul_row hp (HZ.out _ (Nat.le_refl _)) HV.out,
              fun i hi => by rw [dgt_set _ hp, if_neg (by omega)]; exact HZ.out i (by omega), hbl.setCell (p := ⟨w.heap.size, k + lb.length, none⟩) (Nat.le_refl _) _⟩
          case measure => simp [intOf]; omega
    · have HP := Lib.hid (show uv os = uv la * uv lb by rw [HV.out, List.take_of_length_le (by omega)])
      have hw1 := hw.below hbl
      have ha1 := ha.sl.next hbl
      have hb1 := hb.sl.next hbl
      have hA := (ha.sl.lt.imp (T := fun b => b < w.heap.size) fun b h => h.2)
      have hB := (hb.sl.lt.imp (T := fun b => b < w.heap.size) fun b h => h.2)
      have hbs := hbl.size
      have hq1 : (la.length : Int) ≤ (la.length : Int) + (lb.length : Int) := by omega
      have hq2 : (lb.length : Int) ≤ (la.length : Int) + (lb.length : Int) := by omega
      have hq3 : ¬ lb = [] := fun h => by rw [h] at l2; simp at l2
      have hq4 : ¬ la = [] := fun h => by rw [h] at l1; simp at l1
      clear HV HZ ha hb
      go_wp2_with (fail)
      go_cut [82] (fun _ wx => AtCorr w la lb wx)
      case first =>
        go_region_law (first
          | (go_simp; go_at_call 87; refine (above_any A c la (fun _ => True) _ (by exact hw1) (by exact ha1) HUA.out l1 (by omega)).mono ?_; rintro e w' ⟨rfl, n1, rfl⟩)
          | (go_simp; go_at_call 127; refine (subtractWhere_any (neg la) w.heap.size la.length lb.length lb.length w.heap.size (la.length + lb.length) B d os lb _ (by exact HO.out) HL.out HU.out (hB.next (by exact below_drewN' hbl _)) HUB.out rfl rfl (by omega) (Nat.le_refl _) (by exact hbs)).mono ?_; rintro e w' ⟨rfl, hx⟩; have HX := Lib.hid hx; clear hx))
        all_goals go_step
        all_goals go_step
        all_goals go_meet
        all_goals obtain ⟨os2, c2, ho2, hl2, hu2, hv2, hbl2⟩ := HX.out
        all_goals exact ⟨os2, c2, ho2, hl2, hu2, by rw [← HP.out]; exact hv2, (below_drewN' hbl _).trans hbl2⟩
      case rest =>
        obtain ⟨os2, c2, ho2, hl2, hu2, hv2, hbl2⟩ := hcut
        have HO2 := Lib.hid ho2
        have HL2 := Lib.hid hl2
        have HU2 := Lib.hid hu2
        have HV2 := Lib.hid hv2
        have hw2 := hw.below hbl2
        have hb2 := hB.next hbl2
        have ha2 := hA.next hbl2
        have hbs2 := hbl2.size
        clear ho2 hl2 hu2 hv2 HO HL HU HP hw1 ha1 hb1 hA hB hbs
        go_wp2_with (fail)
        go_region_law (first
          | (go_simp; go_at_call 87; refine (above_any B d lb (fun b => b < w.heap.size) _ (by exact hw2) (by exact hb2) HUB.out l2 (by omega)).mono ?_; rintro e w' ⟨rfl, n1, rfl⟩)
          | (go_simp; go_at_call 127; refine (subtractWhere_any (neg lb) w.heap.size lb.length la.length la.length w.heap.size (la.length + lb.length) A c os2 la _ (by exact HO2.out) HL2.out HU2.out (by exact ha2) HUA.out rfl (by omega) (by omega) (Nat.le_refl _) (by exact hbs2)).mono ?_; rintro e w' ⟨rfl, hx⟩; have HX := Lib.hid hx; clear hx))
        all_goals go_wp2
        all_goals go_ret
        all_goals
          obtain ⟨os3, c3, ho3, hl3, hu3, hv3, hbl3⟩ := HX.out
          have HE := mul_end hl3 HUA.out HUB.out hu3 (c := c2) (d := c3) (by rw [hv3, HV2.out])
          rw [← HE]
          exact (own_gives (w := w) ho3 hl3 ((below_drewN' hbl2 _).trans hbl3)).u
end Go.Proofs.YthmkllpdkcmccaaGreatDoor
/- Contracts of package limb, fifth part: Select, Fits. -/
namespace Go.Proofs.YthmkllpdkcmccaaGreatDoor
open Go.RowKit
set_option maxRecDepth 100000
set_option linter.unusedVariables false
set_option linter.unusedSimpArgs false

end Go.Proofs.YthmkllpdkcmccaaGreatDoor
/- Contracts of package limb, all together: the last one. -/
namespace Go.Proofs.YthmkllpdkcmccaaGreatDoor
open Go.RowKit
set_option maxRecDepth 100000
set_option linter.unusedVariables false
set_option linter.unusedSimpArgs false

end Go.Proofs.YthmkllpdkcmccaaGreatDoor
/- Contracts of package limb in the laws' words. -/
namespace Go.Proofs.YthmkllpdkcmccaaGreatDoor
open Go.RowKit
set_option maxRecDepth 100000
set_option linter.unusedVariables false
set_option linter.unusedSimpArgs false

theorem LimR.arg {n : Nat} {x : Int} {v : Value} {g : Gh} {w : World} (h : LimR n x v g w) : ∃ A c, v = .slice A n c ∧ Arg w A c (limbs n x) := by
  obtain ⟨A, c, e, hc, hs⟩ := h
  exact ⟨A, c, e, hs.imp fun _ _ => trivial, limbs_us _ _, by rw [limbs_length]; exact hc⟩
theorem gOfU {c : Ctx} {g : Gh} {w : World} {n : Nat} {x : Int} {e : Ending} {w' : World} (hI : RInv c g w) (h : GivesU w (limbs n x) e w') : Gives (LimR n x) g w e w' := by
  obtain ⟨A, c, rfl, hc, hs, hb⟩ := h
  rw [limbs_length] at hc ⊢
  exact ⟨_, rfl, ⟨A, c, rfl, hc, hs.off hI⟩, hb⟩
theorem svM (n : Nat) (x : Int) : sv (limbs n x) % M n = x % M n := by
  have h := sv_mod (limbs n x) (limbs_us n x)
  rw [limbs_length, limbs_uv] at h
  exact h
theorem gLimFrom {c : Ctx} {g : Gh} {w : World} {x : Int} {n : Nat} (hI : RInv c g w) (hw : Wts c.W0) (hx : S x) (h1 : 1 ≤ n) (h8 : n ≤ 8) :
    Calls Tryz.prog 109 #[.int .i64 x, .int .i64 n] w (Gives (LimR n x) g w) := (limbFrom_yes x n w (hw.below hI.below) hx h1 h8).mono fun _ _ h => gOfU hI h
theorem gLimAdd {c : Ctx} {g : Gh} {w : World} {va vb : Value} {n : Nat} {x y : Int} (hI : RInv c g w) (hw : Wts c.W0) (ha : LimR n x va g w) (hb : LimR n y vb g w) (h1 : 1 ≤ n) (h8 : n ≤ 8) :
    Calls Tryz.prog 110 #[va, vb] w (Gives (LimR n (x + y)) g w) := by
  obtain ⟨A, c1, rfl, h2⟩ := ha.arg
  obtain ⟨B, c2, rfl, h3⟩ := hb.arg
  have h := limbAdd_yes A B c1 c2 _ _ w (hw.below hI.below) h2 h3 (by rw [limbs_length]; exact h1) (by rw [limbs_length]; exact h8) (by rw [limbs_length, limbs_length])
  rw [limbs_length, limbs_length, limbs_congr (n := n) (y := x + y) (by rw [Int.add_emod, svM, svM, ← Int.add_emod])] at h
  exact h.mono fun _ _ h => gOfU hI h
theorem gLimSub {c : Ctx} {g : Gh} {w : World} {va vb : Value} {n : Nat} {x y : Int} (hI : RInv c g w) (hw : Wts c.W0) (ha : LimR n x va g w) (hb : LimR n y vb g w) (h1 : 1 ≤ n) (h8 : n ≤ 8) :
    Calls Tryz.prog 104 #[va, vb] w (Gives (LimR n (x - y)) g w) := by
  obtain ⟨A, c1, rfl, h2⟩ := ha.arg
  obtain ⟨B, c2, rfl, h3⟩ := hb.arg
  have h := limbSub_yes A B c1 c2 _ _ w (hw.below hI.below) h2 h3 (by rw [limbs_length]; exact h1) (by rw [limbs_length]; exact h8) (by rw [limbs_length, limbs_length])
  rw [limbs_length, limbs_length, limbs_congr (n := n) (y := x - y) (by rw [Int.sub_emod, svM, svM, ← Int.sub_emod])] at h
  exact h.mono fun _ _ h => gOfU hI h
theorem gLimMul {c : Ctx} {g : Gh} {w : World} {va vb : Value} {n m k : Nat} {x y : Int} (hI : RInv c g w) (hw : Wts c.W0) (ha : LimR n x va g w) (hb : LimR m y vb g w) (ex : sv (limbs n x) = x) (ey : sv (limbs m y) = y) (h1 : 1 ≤ n) (h2 : 1 ≤ m) (h8 : n + m ≤ 8) (hk : n + m = k) :
    Calls Tryz.prog 114 #[va, vb] w (Gives (LimR k (x * y)) g w) := by
  obtain ⟨A, c1, rfl, h3⟩ := ha.arg
  obtain ⟨B, c2, rfl, h4⟩ := hb.arg
  have h := limbMul_yes A B c1 c2 _ _ w (hw.below hI.below) h3 h4 (by rw [limbs_length]; exact h1) (by rw [limbs_length]; exact h2) (by rw [limbs_length, limbs_length]; exact h8)
  rw [limbs_length, limbs_length, ex, ey, hk] at h
  exact h.mono fun _ _ h => gOfU hI h
theorem gLimExtend {c : Ctx} {g : Gh} {w : World} {va : Value} {n m : Nat} {x : Int} (hI : RInv c g w) (hw : Wts c.W0) (ha : LimR n x va g w) (ex : sv (limbs n x) = x) (h1 : 1 ≤ n) (h8 : n ≤ 8) (h2 : 1 ≤ m) (h3 : m ≤ 8) :
    Calls Tryz.prog 89 #[va, .int .i64 m] w (Gives (LimR m x) g w) := by
  obtain ⟨A, c1, rfl, h4⟩ := ha.arg
  have h := limbExtend_yes A c1 _ m w (hw.below hI.below) h4 (by rw [limbs_length]; exact h1) (by rw [limbs_length]; exact h8) h2 h3
  rw [limbs_length, ex] at h
  exact h.mono fun _ _ h => gOfU hI h
theorem gLimSign {c : Ctx} {g : Gh} {w : World} {va : Value} {n : Nat} {x : Int} (hI : RInv c g w) (hw : Wts c.W0) (ha : LimR n x va g w) (ex : sv (limbs n x) = x) (h1 : 1 ≤ n) (h8 : n ≤ 8) :
    Calls Tryz.prog 71 #[va] w (Gives (SignR x) g w) := by
  obtain ⟨A, c1, rfl, h4⟩ := ha.arg
  have h := limbSign_yes A c1 _ w (hw.below hI.below) h4 (by rw [limbs_length]; exact h1) (by rw [limbs_length]; exact h8)
  rw [limbs_length, ex] at h
  refine h.mono ?_
  rintro e w' ⟨rfl, hb⟩
  exact ⟨_, rfl, ⟨_, rfl, rfl⟩, hb⟩
/-- A block that stood, off the boxes. -/
theorem RInv.off_at {c : Ctx} {g : Gh} {w : World} (hI : RInv c g w) {b o : Nat} {v : Value} (h : c.W.cell? ⟨b, o, none⟩ = some v) (ho : Off c.g0 b) : Off g b :=
  (hI.keeps b (World.block_lt_of_cell? c.W ⟨b, o, none⟩ h) ho).1
theorem vecL_mk {x y : Int} {a b : Value} {g : Gh} {w : World} (h1 : LimR 2 x a g w) (h2 : LimR 2 y b g w) : VecL x y (.agg #[a, b]) g w := by
  obtain ⟨A, c, rfl, hc, hs⟩ := h1
  obtain ⟨B, d, rfl, hd, ht⟩ := h2
  exact ⟨A, c, B, d, rfl, hc, hd, hs, ht⟩
end Go.Proofs.YthmkllpdkcmccaaGreatDoor
