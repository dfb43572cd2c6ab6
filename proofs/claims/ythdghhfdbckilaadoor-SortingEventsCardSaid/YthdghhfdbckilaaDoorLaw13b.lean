/-
  Layer 13: SortingEvents, SortingForgetsOrder. (Written by law13b.py.)
-/
import Derived.Test.YthdghhfdbckilaaDoorLaw13
namespace Go.Proofs.YthdghhfdbckilaaDoor
open Go.RowKit Go.Maps
set_option maxRecDepth 100000
set_option linter.unusedVariables false
set_option linter.unusedSimpArgs false

def evP (c : Nat × Nat) : Ev := ⟨3, c.1, c.2⟩
theorem pairE_eq (n : Nat) : pairE n = (compsN (sizeN n)).map evP := rfl
theorem RowR.low {α : Type} {C : α → List Value} {k : Nat} {w : World} {A : Option Addr} {l : List α} (h : RowR w (fun _ => True) k C A l) (hk : ∀ x, 0 < (C x).length) : RowR w (fun b => b < w.heap.size) k C A l := (h.now hk).imp fun _ h => h.2
/-- A pair in a row. -/
theorem pair_cell {w : World} {base : Nat} {e : TypeId} {A : Option Addr} {n c : Nat} {cs : List (Nat × Nat)} (h : w.ownsRow base e 2 (.slice A n c) n (cs.flatMap pairC)) (hn : cs.length = n) {k : Nat} (hk : k < cs.length) :
    ∃ g, A = some ⟨g, 0, none⟩ ∧ w.cell? ⟨g, k * 2, none⟩ = some (.int .i64 (cs[k]'hk).1) ∧ w.cell? ⟨g, k * 2 + 1, none⟩ = some (.int .i64 (cs[k]'hk).2) := by
  obtain ⟨g, c', e1, _, _⟩ := h.form (by omega)
  injection e1 with e1 _ e2
  subst e1 e2
  have h1 := flatC_at (C := pairC) (k := 2) (fun _ => rfl) cs k _ (List.getElem?_eq_getElem hk)
  exact ⟨g, rfl, (World.ownsRow.cellAt h (k * 2) (by omega)).trans (h1 0 (by decide)), (World.ownsRow.cellAt h (k * 2 + 1) (by omega)).trans (h1 1 (by decide))⟩
theorem lit_ev1 (w : World) (c : Nat × Nat) {b : Nat} (hb : b = w.heap.size) : RowR (w.alloc (.cells #[.int .i64 3, .int .i64 c.1, .int .i64 c.2] 45)) (fun g => b ≤ g) 3 evC (some ⟨b, 0, none⟩) [evP c] := by
  subst hb
  exact row_lit (C := evC) (fun _ => rfl) [evP c]
theorem ref10Same_n2 {n m : Nat} {l : List Ev} (hn : n = l.length) (hm : m = l.length) (A B : Option Addr) (c d : Nat) (T U : Nat → Prop) (w : World) (ha : EvsR w T A l) (hb : EvsR w U B l) (hl : l.length ≤ 1000000) :
    Calls Tryd.prog 24 #[.slice A n c, .slice B m d] w fun e w' => e = .returned (.bool true) ∧ ∃ n, w' = w.drewN n := by subst hn hm; exact ref10Same_r A B c d l l T U w true ha hb hl hl (by simp)
def WantRel (W : World) (cs : List (Nat × Nat)) (v i : Value) (wr : World) : Prop := ∃ k : Nat, i = .int .i64 k ∧ k ≤ cs.length ∧ wr.ownsRow W.heap.size 45 3 v k (((cs.take k).map evP).flatMap evC) ∧ Below W.heap.size W wr
theorem pairE_len (n : Nat) (h : n ≤ 100) : (pairE n).length ≤ 100000 := by
  have : ∀ m : Fin 101, (pairE m.val).length ≤ 100000 := by decide +kernel
  exact this ⟨n, by omega⟩
set_option maxHeartbeats 2000000 in
theorem law_sortingEvents (A : Option Addr) (c : Nat) (l : List Rc) (w : World) (hw : Wts w) (ha : ArgR w A c l) :
    Calls Tryd.prog 5 #[.slice A l.length c] w fun e w' => e = .returned (.bool true) ∧ Below w.heap.size w w' := by
  by_cases hgt : 100 < l.length
  · go_enter Tryd.func5, Tryd.ntmps5
    go_wp2_with (fail)
    refine (alive13_any w hw).mono ?_
    rintro e w1 ⟨rfl, hb⟩
    go_wp2
    go_ret
    exact ⟨rfl, hb⟩
  · go_enter Tryd.func5, Tryd.ntmps5
    go_wp2_with (fail)
    refine (tapeNew_any w).mono ?_
    rintro e w1 ⟨tb, rfl, ht, hb1⟩
    go_wp2_with (fail)
    refine (tapeNew_any w1).mono ?_
    rintro e w2 ⟨tc, rfl, hu, hb2⟩
    have h2 := hb1.trans (hb2.mono hb1.size)
    have hs1 := hb1.size
    have hs2 := hb2.size
    have ht := ht.now.next hb2
    have hu := hu.now
    go_wp2_with (fail)
    refine (sortSort_c _ [] (fun g => w.heap.size ≤ g ∧ g < w1.heap.size) (fun b => b < w.heap.size) A _ c l w2 (fun W hm => hw.below (hm.below h2 (fun g hg => hg.1) h2.size)) ht.o (by simp) ((ha.row.low (fun _ => by simp [rcC])).next h2) (fun b hb h => by omega) rfl (by omega) ha.us).mono ?_
    rintro e w3 ⟨A3, c3, R3, rfl, _, hR3, _, _, ht3, hm3⟩
    have h3 := hm3.below h2 (fun g hg => hg.1) h2.size
    rw [addT_some, List.nil_append] at ht3
    have hu3 := hu.keep (w' := w3) (fun b hb hlt => hm3.block b hlt (fun h => by omega))
    have hs3 := hm3.size
    go_wp2_with (fail)
    obtain ⟨r, hr⟩ : ∃ r : Int, (liveN l : Int) = r := ⟨_, rfl⟩
    refine (sortCount_c _ [] (fun g => w1.heap.size ≤ g ∧ g < w2.heap.size) (fun b => b < w.heap.size) A _ c l r w3 (fun W hm => hw.below (hm.below h3 (fun g hg => by omega) h3.size)) hu3.o (by simp) ((ha.row.low (fun _ => by simp [rcC])).next h3) (fun b hb h => by omega) rfl (by omega) ha.us hr).mono ?_
    rintro e w4 ⟨rfl, hu4, hm4⟩
    have h4 := hm4.below h3 (fun g hg => by omega) h3.size
    rw [addT_some, List.nil_append] at hu4
    have ht4 := ht3.keep (w' := w4) (fun b hb hlt => hm4.block b hlt (fun h => by omega))
    obtain ⟨cs, hcs⟩ : ∃ cs, cs = compsN (sizeN l.length) := ⟨_, rfl⟩
    have hpl := pairE_len l.length (by omega)
    have HP := Lib.hid (show pairE l.length = cs.map evP by rw [hcs]; rfl)
    have HPL := Lib.hid (show cs.length ≤ 100000 by rw [HP.out, List.length_map] at hpl; exact hpl)
    rw [HP.out] at ht4
    clear hpl ht ht3 hu hu3 hm3 hm4 hr
    go_wp2_with (fail)
    obtain ⟨sz, hsz⟩ : ∃ sz, sizeN l.length = sz := ⟨_, rfl⟩
    refine (ref12Size_any l.length w4 sz hsz).mono ?_
    rintro e w5 ⟨rfl, hw5⟩
    obtain rfl := hw5.symm
    rw [hsz] at hcs
    go_wp2_with (fail)
    refine (ref12Comparators_any sz _).mono ?_
    rintro e w5 ⟨v5, rfl, hrow5, hb5⟩
    rw [← hcs] at hrow5
    clear hcs hsz
    have h5 := h4.trans (hb5.mono h4.size)
    have ht5 := ht4.next hb5
    have hu5 := hu4.next hb5
    obtain ⟨A5, c5, rfl⟩ := row_form hrow5
    go_wp2
    go_loopw [5, 25] (fun v i wr => WantRel w5 cs v i wr) (fun _ i _ => cs.length - (intOf i).toNat)
    case atStart => exact ⟨0, rfl, Nat.zero_le _, World.ownsRow_nil _ _ _ _, Below.refl _ _⟩
    case round =>
      have hs5 := hb5.size
      clear ht4 hu4 hb5
      obtain ⟨k, rfl, hk, hrow, hb⟩ := hrel
      by_cases hgo : k < cs.length
      · obtain ⟨g5, rfl, k0, k1⟩ := pair_cell (row_keep hrow5 (fun x hx => hb.block x (hrow5.lt x hx).2)) rfl hgo
        have HS := Lib.hid (show (cs.take (k + 1)).map evP = (cs.take k).map evP ++ [evP (cs[k]'hgo)] by rw [List.take_succ_eq_append_getElem hgo, List.map_append]; rfl)
        have hpl := HPL.out
        have HLT := Lib.hid (show ((cs.take k).map evP).length = k by rw [List.length_map, List.length_take]; omega)
        obtain ⟨p, q, hpq⟩ : ∃ p q : Nat, cs[k]'hgo = (p, q) := ⟨_, _, rfl⟩
        rw [hpq] at k0 k1 HS
        obtain ⟨L, hL⟩ : ∃ L, L = (cs.take k).map evP := ⟨_, rfl⟩
        rw [← hL] at hrow HS HLT
        have hbs := hb.size
        have hb2 := hb.alloc hbs (.cells #[.int .i64 p, .int .i64 q] 43)
        clear hL hpq hrow5 ht5 hu5
        go_wp2_with (first
          | (at_builtin; refine wp_app_row elemEv rfl _ _ rfl w5.heap.size _ k (L.flatMap evC) rfl ((hrow.alloc _).alloc _) (some ⟨wr.heap.size + 1, 0, none⟩) 1 1 [evP (p, q)] (fun g => wr.heap.size + 1 ≤ g) rfl rfl (lit_ev1 _ (p, q) (by simp)) (fun h => by cases h) (by omega) (by simp; omega) ?_
             intro v' w8 hrow8 hgrow8 _
             have hb8 : Below w5.heap.size w5 w8 := (hb2.alloc hb2.size (.cells #[.int .i64 3, .int .i64 p, .int .i64 q] 45)).grown hgrow8 (by simp; omega) (fun g hg => (World.ownsRow.lt hrow g hg).1)
             have HW := Lib.hid (show w8.ownsRow w5.heap.size 45 3 v' (k + 1) (((cs.take (k + 1)).map evP).flatMap evC) by rw [HS.out, List.flatMap_append]; exact hrow8)
             clear hrow8 hgrow8 hrow hb hb2))
        go_roundw
        case rel => exact ⟨k + 1, by go_num, hgo, HW.out, hb8⟩
        case measure => simp [intOf]; omega
      · obtain rfl : k = cs.length := by omega
        rw [List.take_length] at hrow
        obtain ⟨M, hM⟩ : ∃ M, M = cs.map evP := ⟨_, rfl⟩
        have HPM := Lib.hid (show pairE l.length = M by rw [HP.out, hM])
        have hml : M.length = cs.length := by rw [hM, List.length_map]
        rw [← hM] at hrow ht5
        rw [← hml] at hrow ⊢
        have HML := Lib.hid (show M.length ≤ 100000 by rw [hml]; exact HPL.out)
        obtain ⟨A6, c6, rfl, _, _, hev6⟩ := own_evs hrow
        have h6 := h5.trans (hb.mono h5.size)
        have ht6 := ht5.next hb
        have hu6 := hu5.next hb
        clear hrow5 hrow hM hml ht5 hu5 HP
        go_wp2_with (fail)
        refine (alive13_any wr (hw.below h6)).mono ?_
        rintro e w7 ⟨rfl, hb7⟩
        have h7 := h6.trans (hb7.mono h6.size)
        have ht7 := ht6.next hb7
        have hu7 := hu6.next hb7
        have hev7 := hev6.next hb7
        go_wp2_with (fail)
        refine (tapeEvents_any _ M _ w7 ht7 (by have := HML.out; omega)).mono ?_
        rintro e w8 ⟨A8, c8, rfl, _, hev8, hb8⟩
        have h8 := h7.trans (hb8.mono h7.size)
        have hu8 := hu7.next hb8
        go_wp2_with (fail)
        refine (ref10Same_r A8 A6 c8 c6 M M _ _ w8 true hev8 (hev7.next hb8) (by have := HML.out; omega) (by have := HML.out; omega) (by simp)).mono ?_
        rintro e w9 ⟨rfl, n9, rfl⟩
        go_wp2_with (fail)
        have h9 := below_drewN' h8 n9
        have hel := evR_len 1 l.length
        refine (tapeEvents_any _ (evR 1 l.length) _ _ (hu8.next (below_drewN' (Below.refl _ _) n9)) (by omega)).mono ?_
        rintro e wa ⟨Aa, ca, rfl, _, heva, hba⟩
        have ha1 := h9.trans (hba.mono h9.size)
        rw [hel]
        have HEL := Lib.hid hel
        clear hel
        go_wp2_with (fail)
        refine (ref11Events_any 1 l.length (by omega) wa).mono ?_
        rintro e wb ⟨Ab, cb, rfl, _, hevb, hbb⟩
        have hb1' := ha1.trans (hbb.mono ha1.size)
        rw [HEL.out]
        go_wp2_with (fail)
        refine (ref10Same_n2 HEL.out.symm HEL.out.symm Aa Ab ca cb _ _ wb (heva.next hbb) hevb (by rw [HEL.out]; omega)).mono ?_
        rintro e wc ⟨rfl, nc, rfl⟩
        go_wp2
        go_ret
        exact ⟨rfl, below_drewN' hb1' nc⟩
end Go.Proofs.YthdghhfdbckilaaDoor
