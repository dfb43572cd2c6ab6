/-
  Layer 13: SortingForgetsOrder. (Written by law13c.py.)
-/
import Derived.Test.YthdghhfdbckilaaDoorLaw13b
import Derived.Deep.DeepCutAuto
import Derived.Deep.CutRange
import Derived.Deep.Onto
import Derived.Deep.CutBlock
namespace Go.Proofs.YthdghhfdbckilaaDoor
open Go.RowKit Go.Maps
set_option maxRecDepth 100000
set_option linter.unusedVariables false
set_option linter.unusedSimpArgs false

theorem RowR.drop {α : Type} {C : α → List Value} {k : Nat} {w : World} {S : Nat → Prop} {b o : Nat} {l : List α} (h : RowR w S k C (some ⟨b, o, none⟩) l) (i : Nat) : RowR w S k C (some ⟨b, o + i * k, none⟩) (l.drop i) := fun hl => by
  obtain ⟨b', o', e, hS, hc⟩ := h (by rw [List.length_drop] at hl; omega)
  injection e with e
  injection e with e1 e2
  subst e1 e2
  refine ⟨b, o + i * k, rfl, hS, fun j x hx q u hu => ?_⟩
  rw [List.getElem?_drop] at hx
  have := hc _ x hx q u hu
  rw [← this]
  congr 2
  rw [Nat.add_mul]; omega
theorem RcLs.drew {w : World} {b o : Nat} {Ls : List (Option Addr × Nat × List Rc)} (h : RcLs w b o Ls) : RcLs w.drew b o Ls := ⟨fun j p hp => h.cell j p hp, fun p hp => ⟨(h.rows p hp).1, (h.rows p hp).2⟩⟩
theorem two_ls {w : World} {b o : Nat} {l : List Rc} {i c : Nat} {t : TypeId} (h : RowR w (fun _ => True) 2 rcC (some ⟨b, o, none⟩) l) (hi : i ≤ l.length) :
    RcLs (w.alloc (.cells #[.slice (some ⟨b, o + i * 2, none⟩) (l.length - i) (c - i), .slice (some ⟨b, o, none⟩) i c] t)) w.heap.size 0 [(some ⟨b, o + i * 2, none⟩, c - i, l.drop i), (some ⟨b, o, none⟩, c, l.take i)] := by
  have hb : Below w.heap.size w (w.alloc (.cells #[.slice (some ⟨b, o + i * 2, none⟩) (l.length - i) (c - i), .slice (some ⟨b, o, none⟩) i c] t)) := (Below.refl _ _).alloc (Nat.le_refl _) _
  refine ⟨fun j p hp => ?_, fun p hp => ?_⟩
  · match j, hp with
    | 0, hp => simp at hp; subst hp; simp [go_sem]
    | 1, hp => simp at hp; subst hp; simp [go_sem, Nat.min_eq_left hi]
  · simp only [List.mem_cons, List.not_mem_nil, or_false] at hp
    rcases hp with rfl | rfl
    · exact ⟨(h.drop i).next hb, fun e => by cases e⟩
    · exact ⟨(h.take i).next hb, fun e => by cases e⟩
theorem concatRc_m {A B : Option Addr} {cA cB c : Nat} {la lb M : List Rc} {b o : Nat} {w : World} (hM : M = la ++ lb) (h : RcLs w b o [(A, cA, la), (B, cB, lb)]) (ht : M.length ≤ 1000000) :
    Calls Tryd.prog 28 #[.slice (some ⟨b, o, none⟩) 2 c] w fun e w' => ∃ v, e = .returned v ∧ w'.ownsRow w.heap.size 24 2 v M.length (M.flatMap rcC) ∧ Below w.heap.size w w' := by
  have e : totRc [(A, cA, la), (B, cB, lb)] = M := by rw [hM]; unfold totRc; simp
  have := concatRc_any b o c [(A, cA, la), (B, cB, lb)] w h (by simp) (by simp) (by rw [e]; exact ht)
  rw [e] at this
  exact this
theorem sort_turn (l : List Rc) (i : Nat) : sortR (l.drop i ++ l.take i).reverse = sortR l :=
  sortR_congr ((List.reverse_perm _).trans (List.perm_append_comm.trans (by rw [List.take_append_drop])))
theorem us_turn {l : List Rc} (h : UsR l) (i : Nat) : UsR (l.drop i ++ l.take i).reverse := fun r hr => by
  rw [List.mem_reverse, List.mem_append] at hr
  rcases hr with hr | hr
  · exact h r (List.mem_of_mem_drop hr)
  · exact h r (List.mem_of_mem_take hr)
set_option maxHeartbeats 2000000 in
theorem law_sortingForgetsOrder (A : Option Addr) (c : Nat) (l : List Rc) (k : Int) (w : World) (hw : Wts w) (ha : ArgR w A c l) (hlc : l.length ≤ c) (h0 : 0 ≤ k) (h1 : k < 256) :
    Calls Tryd.prog 7 #[.slice A l.length c, .int .u8 k] w fun e w' => e = .returned (.bool true) ∧ Below w.heap.size w w' := by
  by_cases hgt : 100 < l.length
  · go_enter Tryd.func7, Tryd.ntmps7
    go_wp2_with (fail)
    refine (alive13_any w hw).mono ?_
    rintro e w1 ⟨rfl, hb⟩
    go_wp2
    go_ret
    exact ⟨rfl, hb⟩
  · by_cases hz : l.length = 0
    · obtain rfl := List.length_eq_zero_iff.1 hz
      go_enter Tryd.func7, Tryd.ntmps7
      go_wp2_with (fail)
      refine (alive13_any w hw).mono ?_
      rintro e w1 ⟨rfl, hb⟩
      go_wp2
      go_ret
      exact ⟨rfl, hb⟩
    · obtain ⟨b, o, rfl, _, _⟩ := ha.row (by omega)
      have hd : ((l.length : Int) == 0) = false := by rw [beq_eq_false_iff_ne]; omega
      obtain ⟨i, hi⟩ : ∃ i : Nat, (i : Int) = k % (l.length : Int) := ⟨(k % (l.length : Int)).toNat, Int.toNat_of_nonneg (Int.emod_nonneg _ (by omega))⟩
      have hil : i < l.length := by have := Int.emod_lt_of_pos k (show (0 : Int) < l.length by omega); omega
      have hd2 : IntKind.i64.wrap (k % (l.length : Int)) = (i : Int) := by rw [← hi, wrap_s]; omega
      have hi2 : i ≤ l.length := by omega
      have hi3 : i ≤ c := by omega
      have hci : ¬ c = i := by omega
      have HI := Lib.hid hi
      have hrow := ha.row
      clear hi hz
      go_enter Tryd.func7, Tryd.ntmps7
      go_upto_region 4 with (fail)
      rw [← HI.out]
      obtain ⟨M, hM⟩ : ∃ M, M = l.drop i ++ l.take i := ⟨_, rfl⟩
      have HM := Lib.hid hM
      have HML := Lib.hid (show M.length = l.length by rw [hM, List.length_append, List.length_drop, List.length_take]; omega)
      clear hM
      have key := concatRc_m (c := 2) HM.out (RcLs.drew (two_ls (w := w) (c := c) (t := 30) hrow hi2)) (by rw [HML.out]; omega)
      go_cut [6] from 22 to 29 (fun s wx => ∃ v, s = v ∧ wx.ownsRow w.heap.size 24 2 v M.length (M.flatMap rcC) ∧ Below w.heap.size w wx)
      case first =>
        go_region_law (first | (go_simp; refine key.mono ?_; rintro e w5 ⟨v5, rfl, hrow5, hb5⟩))
        all_goals go_wp2
        all_goals go_meet
        all_goals (have hbz : Below w.heap.size w ((w.alloc (.cells #[.slice (some ⟨b, o + i * 2, none⟩) (l.length - i) (c - i), .slice (some ⟨b, o, none⟩) i c] 30)).drew) := below_drewN' ((Below.refl _ _).alloc (Nat.le_refl _) _) 1)
        all_goals exact ⟨v5, rfl, hrow5.mono hbz.size, hbz.trans (hb5.mono hbz.size)⟩
      case rest =>
        obtain ⟨v5, rfl, hrow5, hb5⟩ := hcut
        have hml := HML.out
        obtain ⟨g5, c5, rfl, hg5, _⟩ := hrow5.form (by omega)
        have hus : UsR M.reverse := by rw [HM.out]; exact us_turn ha.us i
        have HUS := Lib.hid hus
        have HST := Lib.hid (show sortR M.reverse = sortR l by rw [HM.out]; exact sort_turn l i)
        have HSL := Lib.hid (sortR_len l)
        have HUW := Lib.hid (sortR_us ha.us)
        have HSI := Lib.hid (sortR_idem l)
        rw [hml] at hrow5
        clear hml hus key hci hi2 hi3 hrow
        go_wp2_with (fail)
        rw [HML.out]
        refine (reverseRc_any w.heap.size g5 l.length c5 M wc hb5.size hg5 hrow5 HML.out (by omega) (by omega)).mono ?_
        rintro e w6 ⟨rfl, hrow6, hb6⟩
        have h6 := hb5.trans hb6
        obtain ⟨A6, c6, e6, _, _, hrow6, hn6⟩ := own_rowR (C := rcC) (fun _ => rfl) (l := M.reverse) (by rw [List.length_reverse, HML.out]; exact hrow6)
        injection e6 with e6 e8 e7
        clear e8
        subst e6 e7
        have HRL := Lib.hid (show M.reverse.length = l.length by rw [List.length_reverse, HML.out])
        have hrow6 := hrow6.imp (T := fun _ => True) fun _ _ => trivial
        clear hrow5
        go_wp2_with (fail)
        refine (sortSort_n (hw.below h6) (ha.next h6).row rfl (by omega) ha.us).mono ?_
        rintro e w7 ⟨A7, c7, rfl, _, hrow7, hn7, hb7⟩
        have h7 := h6.trans (hb7.mono h6.size)
        have hrow6 := hrow6.next hb7
        have hrow7 := hrow7.imp (T := fun _ => True) fun _ _ => trivial
        go_wp2_with (fail)
        refine (alive13_any w7 (hw.below h7)).mono ?_
        rintro e w8 ⟨rfl, hb8⟩
        have h8 := h7.trans (hb8.mono h7.size)
        have hrow6 := hrow6.next hb8
        have hrow7 := hrow7.next hb8
        go_wp2_with (fail)
        refine (sortSort_n (l := M.reverse) (hw.below h8) hrow6 HRL.out.symm (by omega) HUS.out).mono ?_
        rintro e w9 ⟨A9, c9, rfl, _, hrow9, hn9, hb9⟩
        have h9 := h8.trans (hb9.mono h8.size)
        have hrow7 := hrow7.next hb9
        rw [HST.out] at hrow9
        go_wp2_with (fail)
        refine (ref13Same_yes A9 A7 c9 c7 _ _ (sortR l) _ _ w9 hrow9 hrow7 HSL.out.symm HSL.out.symm (by rw [HSL.out]; omega)).mono ?_
        rintro e wa ⟨rfl, hba⟩
        have ha2 := h9.trans (hba.mono h9.size)
        have hrow7 := hrow7.next hba
        go_wp2_with (fail)
        refine (sortSort_n (l := sortR l) (hw.below ha2) hrow7 HSL.out.symm (by omega) HUW.out).mono ?_
        rintro e wb ⟨Ab, cb, rfl, _, hrowb, hnb, hbb⟩
        have hb2 := ha2.trans (hbb.mono ha2.size)
        have hrow7 := hrow7.next hbb
        rw [HSI.out] at hrowb
        go_wp2_with (fail)
        refine (ref13Same_yes Ab A7 cb c7 _ _ (sortR l) _ _ wb hrowb hrow7 HSL.out.symm HSL.out.symm (by rw [HSL.out]; omega)).mono ?_
        rintro e wd ⟨rfl, hbd⟩
        go_wp2
        go_ret
        exact ⟨rfl, hb2.trans (hbd.mono hb2.size)⟩
end Go.Proofs.YthdghhfdbckilaaDoor
