/-
  Contracts of package limb, third part: Add, Sub, Neg, Sign, Compare.
-/
import Derived.Test.YtdcckjpeibnkbaaDoorLimbE
namespace Go.Proofs.YtdcckjpeibnkbaaDoor
open Go.RowKit

theorem Arg.top {w : World} {A : Option Addr} {c : Nat} {ls : List Int} (h : Arg w A c ls) : SlR w (fun _ => True) .u64 A ls := h.sl
theorem limbAdd_yes (A B : Option Addr) (c d : Nat) (la lb : List Int) (w : World) (_hw : Wts w) (ha : Arg w A c la) (hb : Arg w B d lb) (l1 : 1 ≤ la.length) (l8 : la.length ≤ 8) (hl : la.length = lb.length) :
    Calls Tryd.prog 36 #[.slice A la.length c, .slice B lb.length d] w (GivesU w (limbs la.length (sv la + sv lb))) := by
  have HLL := Lib.hid hl
  clear hl
  go_enter Tryd.func36, Tryd.ntmps36
  go_wp2_with (fail)
  refine (oneWidth_yes _ _ _ _ _ _ _ l1 l8 HLL.out).mono ?_
  rintro e w' ⟨rfl, hw1⟩
  obtain rfl := hw1.symm
  go_wp2_with (fail)
  refine (applyAdd A B c d la lb _ ha.sl hb.sl ha.us hb.us l1 (by omega) HLL.out).mono ?_
  rintro e w2 ⟨g, cap, os, cr, rfl, hlo, hcap, hg, hsl, hfz, hu, h0, h1, huv, hbl⟩
  have HR := Lib.hid (uadd_end hlo ha.us hb.us hu HLL.out huv)
  have HLO := Lib.hid hlo
  clear hlo huv
  go_wp2
  go_ret
  rw [← HR.out]
  exact ⟨_, cap, rfl, hcap, hsl, hbl⟩
theorem limbAdd_no (A B : Option Addr) (c d : Nat) (la lb : List Int) (w : World) (_hw : Wts w) (_ha : Arg w A c la) (_hb : Arg w B d lb) (_hla : la.length ≤ 1000000) (_hlb : lb.length ≤ 1000000) (h : la.length < 1 ∨ 8 < la.length ∨ la.length ≠ lb.length) :
    Calls Tryd.prog 36 #[.slice A la.length c, .slice B lb.length d] w (GivesNone w) := by
  have HH := Lib.hid h
  clear h
  go_enter Tryd.func36, Tryd.ntmps36
  go_wp2_with (fail)
  refine (oneWidth_no _ _ _ _ _ _ _ HH.out).mono ?_
  rintro e w' ⟨rfl, hw1⟩
  obtain rfl := hw1.symm
  go_wp2
  go_ret
  exact ⟨none, 0, rfl, Below.refl _ _⟩
theorem limbSub_yes (A B : Option Addr) (c d : Nat) (la lb : List Int) (w : World) (_hw : Wts w) (ha : Arg w A c la) (hb : Arg w B d lb) (l1 : 1 ≤ la.length) (l8 : la.length ≤ 8) (hl : la.length = lb.length) :
    Calls Tryd.prog 30 #[.slice A la.length c, .slice B lb.length d] w (GivesU w (limbs la.length (sv la - sv lb))) := by
  have HLL := Lib.hid hl
  clear hl
  go_enter Tryd.func30, Tryd.ntmps30
  go_wp2_with (fail)
  refine (oneWidth_yes _ _ _ _ _ _ _ l1 l8 HLL.out).mono ?_
  rintro e w' ⟨rfl, hw1⟩
  obtain rfl := hw1.symm
  go_wp2_with (fail)
  refine (applySub A B c d la lb _ ha.sl hb.sl ha.us hb.us l1 (by omega) HLL.out).mono ?_
  rintro e w2 ⟨g, cap, os, cr, rfl, hlo, hcap, hg, hsl, hfz, hu, h0, h1, huv, hbl⟩
  have HR := Lib.hid (usub_end hlo ha.us hb.us hu HLL.out huv)
  have HLO := Lib.hid hlo
  clear hlo huv
  go_wp2
  go_ret
  rw [← HR.out]
  exact ⟨_, cap, rfl, hcap, hsl, hbl⟩
theorem limbSub_no (A B : Option Addr) (c d : Nat) (la lb : List Int) (w : World) (_hw : Wts w) (_ha : Arg w A c la) (_hb : Arg w B d lb) (_hla : la.length ≤ 1000000) (_hlb : lb.length ≤ 1000000) (h : la.length < 1 ∨ 8 < la.length ∨ la.length ≠ lb.length) :
    Calls Tryd.prog 30 #[.slice A la.length c, .slice B lb.length d] w (GivesNone w) := by
  have HH := Lib.hid h
  clear h
  go_enter Tryd.func30, Tryd.ntmps30
  go_wp2_with (fail)
  refine (oneWidth_no _ _ _ _ _ _ _ HH.out).mono ?_
  rintro e w' ⟨rfl, hw1⟩
  obtain rfl := hw1.symm
  go_wp2
  go_ret
  exact ⟨none, 0, rfl, Below.refl _ _⟩
theorem GivesU.later {w w1 : World} {ls : List Int} (hb : Below w.heap.size w w1) {e : Ending} {w' : World} (h : GivesU w1 ls e w') : GivesU w ls e w' := by
  obtain ⟨A, c, rfl, hc, hs, hb2⟩ := h
  exact ⟨A, c, rfl, hc, hs.imp (fun b h => by have := hb.size; omega), hb.trans (hb2.mono hb.size)⟩
theorem limbSub_z (B : Option Addr) (d n : Nat) (lb : List Int) (g : Nat) (w : World) (hw : Wts w) (hb : Arg w B d lb) (ha : SlR w (fun _ => True) .u64 (some ⟨g, 0, none⟩) (List.replicate n 0)) (l1 : 1 ≤ n) (l8 : n ≤ 8) (hl : n = lb.length) :
    Calls Tryd.prog 30 #[.slice (some ⟨g, 0, none⟩) n n, .slice B lb.length d] w (GivesU w (limbs n (-sv lb))) := by
  have hz : sv (List.replicate n 0) = 0 := by unfold sv; rw [zeros_uv]; have := M_pos (List.replicate n (0 : Int)).length; rw [if_pos (by omega)]
  have h := limbSub_yes (some ⟨g, 0, none⟩) B n d (List.replicate n 0) lb w hw ⟨ha, zeros_us n, by simp⟩ hb (by simpa using l1) (by simpa using l8) (by simpa using hl)
  rw [List.length_replicate, hz, Int.zero_sub] at h
  exact h
theorem limbNeg_yes (A : Option Addr) (c : Nat) (la : List Int) (w : World) (hw : Wts w) (ha : Arg w A c la) (l1 : 1 ≤ la.length) (l8 : la.length ≤ 8) :
    Calls Tryd.prog 38 #[.slice A la.length c] w (GivesU w (limbs la.length (-sv la))) := by
  have hmk := run_make_row' (P := Tryd.prog) 24 54 (.int .u64 0) 8 Tryd.underlying24 infoU rfl .i64 .i64 la.length (by omega) (by omega)
  have hown := (own_made w la.length (by omega)).form
  obtain ⟨A1, c1, hv, _, _, hsl⟩ := hown
  rw [List.length_replicate] at hv
  injection hv with ev1 ev2 ev3
  subst ev1
  subst ev3
  have hb : Below w.heap.size w (w.alloc (.cells (madeCells #[.int .u64 0] la.length) 54)) := (Below.refl _ _).alloc (Nat.le_refl _) _
  have hsl' := hsl.imp (T := fun _ => True) (fun _ _ => trivial)
  clear ev2 hsl
  go_enter Tryd.func38, Tryd.ntmps38
  go_wp2_with (fail)
  refine (isInteger_yes _ _ _ _ l1 l8).mono ?_
  rintro e w' ⟨rfl, hw1⟩
  obtain rfl := hw1.symm
  go_wp2_with (fail)
  refine (limbSub_z A c la.length la w.heap.size _ (hw.below hb) (ha.next hb) hsl' l1 l8 rfl).mono ?_
  intro e w2 h2
  obtain ⟨A2, c2, rfl, hc2, hs2, hb2⟩ := GivesU.later hb h2
  go_wp2
  go_ret
  exact ⟨A2, c2, rfl, hc2, hs2, hb2⟩
theorem limbNeg_no (A : Option Addr) (c : Nat) (la : List Int) (w : World) (_hw : Wts w) (_ha : Arg w A c la) (_hla : la.length ≤ 1000000) (h : la.length < 1 ∨ 8 < la.length) :
    Calls Tryd.prog 38 #[.slice A la.length c] w (GivesNone w) := by
  have HH := Lib.hid h
  clear h
  go_enter Tryd.func38, Tryd.ntmps38
  go_wp2_with (fail)
  refine (isInteger_no _ _ _ _ HH.out).mono ?_
  rintro e w' ⟨rfl, hw1⟩
  obtain rfl := hw1.symm
  go_wp2
  go_ret
  exact ⟨none, 0, rfl, Below.refl _ _⟩
end Go.Proofs.YtdcckjpeibnkbaaDoor
