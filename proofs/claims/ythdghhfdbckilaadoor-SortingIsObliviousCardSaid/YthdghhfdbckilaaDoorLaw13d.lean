/-
  Layer 13: SortingIsOblivious. (Written by law13d.py.)
-/
import Derived.Test.YthdghhfdbckilaaDoorLaw13c
namespace Go.Proofs.YthdghhfdbckilaaDoor
open Go.RowKit Go.Maps
set_option maxRecDepth 100000
set_option linter.unusedVariables false
set_option linter.unusedSimpArgs false

def mixR (a b : Int) (r : Rc) : Rc := ⟨IntKind.u64.wrap (IntKind.u64.wrap (r.live * a) + b), IntKind.u64.wrap (IntKind.u64.wrap (r.id * b) + a)⟩
def mixL (a b : Int) (k : Nat) (l : List Rc) : List Rc := (l.take k).map (mixR a b) ++ l.drop k
theorem mixL_len (a b : Int) (k : Nat) (l : List Rc) : (mixL a b k l).length = l.length := by unfold mixL; simp; omega
theorem mixL_zero (a b : Int) (l : List Rc) : mixL a b 0 l = l := by unfold mixL; simp
theorem mixL_get (a b : Int) {k : Nat} {l : List Rc} (h : k < l.length) : (mixL a b k l)[k]'(by rw [mixL_len]; exact h) = l[k] := by
  unfold mixL
  rw [List.getElem_append_right (by simp; omega)]
  simp [Nat.min_eq_left (Nat.le_of_lt h)]
theorem mixL_step (a b : Int) {k : Nat} {l : List Rc} (h : k < l.length) : (mixL a b k l).set k (mixR a b l[k]) = mixL a b (k + 1) l := by
  unfold mixL
  rw [List.set_append, if_neg (by simp; omega), List.take_succ_eq_append_getElem h, List.map_append, List.append_assoc, show k - ((l.take k).map (mixR a b)).length = 0 by simp; omega]
  congr 1
  rw [show l.drop k = l[k] :: l.drop (k + 1) from List.drop_eq_getElem_cons h]
  rfl
theorem mixL_us {a b : Int} {l : List Rc} : UsR (mixL a b l.length l) := by
  unfold mixL
  rw [List.take_length, List.drop_length, List.append_nil]
  intro r hr
  obtain ⟨x, _, rfl⟩ := List.mem_map.1 hr
  exact ⟨U_wrap _, U_wrap _⟩
def MixRel (w : World) (a b : Int) (g c : Nat) (l : List Rc) (i : Value) (wr : World) : Prop := ∃ k : Nat, i = .int .i64 k ∧ k ≤ l.length ∧ wr.ownsRow w.heap.size 24 2 (.slice (some ⟨g, 0, none⟩) l.length c) l.length ((mixL a b k l).flatMap rcC) ∧ Below w.heap.size w wr
theorem addT2 (tb : Nat) (l m n : List Ev) : addT (.pointer (some ⟨tb, 0, none⟩)) (l ++ m) n = l ++ m ++ n := rfl
set_option maxHeartbeats 2000000 in
theorem law_sortingIsOblivious (A : Option Addr) (c : Nat) (l : List Rc) (a b : Int) (w : World) (hw : Wts w) (ha : ArgR w A c l) (ua : U a) (ub : U b) :
    Calls Tryd.prog 6 #[.slice A l.length c, .int .u64 a, .int .u64 b] w fun e w' => e = .returned (.bool true) ∧ Below w.heap.size w w' := by
  by_cases hgt : 100 < l.length
  · go_enter Tryd.func6, Tryd.ntmps6
    go_wp2_with (fail)
    refine (alive13_any w hw).mono ?_
    rintro e w1 ⟨rfl, hb⟩
    go_wp2
    go_ret
    exact ⟨rfl, hb⟩
  · have hlow := ha.row.low (fun _ => by simp [rcC])
    go_enter Tryd.func6, Tryd.ntmps6
    go_wp2_with (fail)
    refine (cloneRc_any A c _ l _ w ha.row rfl ha.nil (by omega)).mono ?_
    rintro e w1 ⟨v1, rfl, hown1, hb1⟩
    obtain ⟨A1, c1, rfl, hc1, _, hrow1, hn1⟩ := own_rowR (C := rcC) (fun _ => rfl) hown1
    clear hrow1
    go_upto_block 0 with (fail)
    go_cut [] from 17 to 44 (fun wx => wx.ownsRow w.heap.size 24 2 (.slice A1 l.length c1) l.length ((mixL a b l.length l).flatMap rcC) ∧ Below w.heap.size w wx)
    case first =>
      go_wp2_with (fail)
      go_loopw [19] (fun i wr => ∃ k : Nat, i = .int .i64 k ∧ k ≤ l.length ∧ wr.ownsRow w.heap.size 24 2 (.slice A1 l.length c1) l.length ((mixL a b k l).flatMap rcC) ∧ Below w.heap.size w wr) (fun i _ => l.length - (intOf i).toNat)
      case atStart => exact ⟨0, rfl, Nat.zero_le _, by rw [mixL_zero]; exact hown1, hb1⟩
      case round =>
        clear hown1 hb1
        obtain ⟨k, rfl, hk, hrow, hb⟩ := hrel
        by_cases hgo : k < l.length
        · obtain ⟨g, c', e1, hg, _⟩ := hrow.form (by omega)
          injection e1 with e1 _ e2
          subst e1 e2
          have hkm : k < (mixL a b k l).length := by rw [mixL_len]; exact hgo
          obtain ⟨k0, k1, f0, f1⟩ := own_rec2 (mixL_len a b k l) hrow hkm
          rw [mixL_get a b hgo] at k0 k1
          obtain ⟨X, hX⟩ : ∃ X, X = l[k]'hgo := ⟨_, rfl⟩
          rw [← hX] at k0 k1
          have HX := Lib.hid hX
          have HR := Lib.hid hrow
          have mixed : Tryd.prog.follows Departure.mixedOrders = true := by kernel_rfl
          clear hX hrow
          go_wp2_with (fail)
          go_region_o
          go_wp2
          have hrow2 := own_setR HR.out k (mixR a b X)
          rw [show (mixL a b k l).set k (mixR a b X) = mixL a b (k + 1) l by rw [HX.out]; exact mixL_step a b hgo] at hrow2
          exact ⟨⟨k + 1, by go_num, hgo, hrow2, below_drewN' ((hb.setCell (p := ⟨g, k * 2, none⟩) hg _).setCell (p := ⟨g, k * 2 + 1, none⟩) hg _) 1⟩, by simp [intOf]; omega⟩
        · obtain rfl : k = l.length := by omega
          go_wp2
          go_meet
          exact ⟨hrow, hb⟩
    case rest =>
      obtain ⟨hm0, hb0⟩ := hcut
      clear hown1 hb1
      have hmg := fun x hx => (World.ownsRow.lt hm0 x hx)
      obtain ⟨M, hM⟩ : ∃ M, M = mixL a b l.length l := ⟨_, rfl⟩
      have HUM := Lib.hid (show UsR M by rw [hM]; exact mixL_us)
      have hml : M.length = l.length := by rw [hM, mixL_len]
      rw [← hM] at hm0
      have HML := Lib.hid hml
      obtain ⟨A1', c1', e1, _, _, hrM, _⟩ := own_rowR (C := rcC) (fun _ => rfl) (l := M) (by rw [hml]; exact hm0)
      injection e1 with e1 e2 e3
      subst e1 e3
      have hrM := (hrM.imp (T := fun x => w.heap.size ≤ x ∧ x < wc.heap.size) hmg)
      have hs0 := hb0.size
      clear e2 hm0 hmg hM hml
      go_wp2_with (fail)
      refine (tapeNew_any wc).mono ?_
      rintro e w2 ⟨tb, rfl, ht, hb2⟩
      go_wp2_with (fail)
      refine (tapeNew_any w2).mono ?_
      rintro e w3 ⟨tc, rfl, hu, hb3⟩
      have h2 := hb0.trans (hb2.mono hs0)
      have h3 := h2.trans (hb3.mono h2.size)
      have hs2 := hb2.size
      have hs3 := hb3.size
      have ht := ht.now.next hb3
      have hu := hu.now
      have hrM := (hrM.next hb2).next hb3
      have hpl := pairE_len l.length (by omega)
      have hel := evR_len 1 l.length
      go_wp2_with (fail)
      refine (sortSort_c _ [] (fun g => wc.heap.size ≤ g ∧ g < w2.heap.size) (fun b => b < w.heap.size) A _ c l w3 (fun W hm => hw.below (hm.below h3 (fun g hg => by omega) h3.size)) ht.o (by simp) (hlow.next h3) (fun b hb h => by omega) rfl (by omega) ha.us).mono ?_
      rintro e w4 ⟨A4, c4, R4, rfl, _, hR4, _, _, ht4, hm4⟩
      have h4 := hm4.below h3 (fun g hg => by omega) h3.size
      have hs4 := hm4.size
      rw [addT_some, List.nil_append] at ht4
      have hu4 := hu.keep (w' := w4) (fun b hb hlt => hm4.block b hlt (fun h => by omega))
      have hrM := hrM.keep (w' := w4) (fun b hb hlt => hm4.block b hlt (fun h => by omega))
      have ht4 := ht4.now
      go_wp2_with (fail)
      refine (sortSort_c _ [] (fun g => w2.heap.size ≤ g ∧ g < w3.heap.size) (fun x => w.heap.size ≤ x ∧ x < wc.heap.size) A1 _ c1 M w4 (fun W hm => hw.below (hm.below h4 (fun g hg => by omega) h4.size)) hu4.o (by simp) hrM (fun b hb h => by omega) HML.out.symm (by omega) HUM.out).mono ?_
      rintro e w5 ⟨A5, c5, R5, rfl, _, hR5, _, _, hu5, hm5⟩
      have h5 := hm5.below h4 (fun g hg => by omega) h4.size
      have hs5 := hm5.size
      rw [addT_some, List.nil_append] at hu5
      have ht5 := ht4.keep (w' := w5) (fun b hb hlt => hm5.block b hlt (fun h => by omega))
      have hrM := hrM.keep (w' := w5) (fun b hb hlt => hm5.block b hlt (fun h => by omega))
      have hu5 := hu5.now
      clear ht hu hu4 ht4 hm4 hm5
      obtain ⟨r1, hr1⟩ : ∃ r : Int, (liveN l : Int) = r := ⟨_, rfl⟩
      obtain ⟨r2, hr2⟩ : ∃ r : Int, (liveN M : Int) = r := ⟨_, rfl⟩
      go_wp2_with (fail)
      refine (sortCount_c _ _ _ (fun b => b < w.heap.size) A _ c l r1 w5 (fun W hm => hw.below (hm.below h5 (fun g hg => by omega) h5.size)) ht5 (by omega) (hlow.next h5) (fun b hb h => by omega) rfl (by omega) ha.us hr1).mono ?_
      rintro e w6 ⟨rfl, ht6, hm6⟩
      have h6 := hm6.below h5 (fun g hg => by omega) h5.size
      have hs6 := hm6.size
      rw [addT_some] at ht6
      have hu6 := hu5.keep (w' := w6) (fun b hb hlt => hm6.block b hlt (fun h => by omega))
      have hrM := hrM.keep (w' := w6) (fun b hb hlt => hm6.block b hlt (fun h => by omega))
      have ht6 := ht6.now
      clear ht5 hu5 hm6
      go_wp2_with (fail)
      refine (sortCount_c _ _ _ (fun x => w.heap.size ≤ x ∧ x < wc.heap.size) A1 _ c1 M r2 w6 (fun W hm => hw.below (hm.below h6 (fun g hg => by omega) h6.size)) hu6 (by omega) hrM (fun b hb h => by omega) HML.out.symm (by omega) HUM.out hr2).mono ?_
      rintro e w7 ⟨rfl, hu7, hm7⟩
      have h7 := hm7.below h6 (fun g hg => by omega) h6.size
      rw [addT_some] at hu7
      have ht7 := ht6.keep (w' := w7) (fun b hb hlt => hm7.block b hlt (fun h => by omega))
      clear ht6 hu6 hm7 hrM hr1 hr2
      go_wp2_with (fail)
      refine (alive13_any w7 (hw.below h7)).mono ?_
      rintro e w8 ⟨rfl, hb8⟩
      have h8 := h7.trans (hb8.mono h7.size)
      have ht8 := ht7.next hb8
      have hu8 := hu7.next hb8
      have hlen : (pairE l.length ++ evR 1 l.length).length ≤ 1000000 := by rw [List.length_append]; omega
      clear hpl hel
      go_wp2_with (fail)
      refine (tapeEqual_any _ _ _ _ true _ _ w8 ht8 hu8 hlen hlen (by simp)).mono ?_
      rintro e w9 ⟨rfl, hb9⟩
      go_wp2
      go_ret
      exact ⟨rfl, h8.trans (hb9.mono h8.size)⟩
end Go.Proofs.YthdghhfdbckilaaDoor
