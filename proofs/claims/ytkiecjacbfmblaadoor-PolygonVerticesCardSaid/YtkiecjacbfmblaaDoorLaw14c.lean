/-
  Layer 14: PolygonVertices. (Written by law14c.py.)
-/
import Derived.Test.YtkiecjacbfmblaaDoorLaw14
import Derived.BigRegion
namespace Go.Proofs.YtkiecjacbfmblaaDoor
open Go.RowKit Go.Maps
set_option maxRecDepth 100000
set_option linter.unusedVariables false
set_option linter.unusedSimpArgs false

theorem nx_mod2 {n i : Nat} (h : i < n) (h3 : 3 ≤ n) : (i + 2) % n = nx n (nx n i) := by
  unfold nx
  by_cases h1 : i + 1 < n
  · rw [if_pos h1]
    by_cases h2 : i + 1 + 1 < n
    · rw [if_pos h2, Nat.mod_eq_of_lt (by omega)]
    · rw [if_neg h2, show i + 2 = n by omega, Nat.mod_self]
  · rw [if_neg h1, if_pos (by omega), show i + 2 = 1 + n by omega, Nat.add_mod_right, Nat.mod_eq_of_lt (by omega)]
theorem tmod_nx2 {n i : Nat} (h : i < n) (h3 : 3 ≤ n) : ((i : Int) + 2).tmod (n : Int) = (nx n (nx n i) : Nat) := by
  rw [show ((i : Int) + 2) = ((i + 2 : Nat) : Int) by omega, ← Int.ofNat_tmod, nx_mod2 h h3]
def VxRel (w : World) (N : Nat) (i : Value) (wr : World) : Prop := ∃ k : Nat, i = .int .i64 k ∧ k ≤ N ∧ Below w.heap.size w wr
set_option maxHeartbeats 2000000 in
theorem law_polygonVertices (A : Option Addr) (c : Nat) (l : List Pt) (w : World) (hw : Wts w) (ha : ArgP w A c l) :
    Calls Tryd.prog 7 #[.slice A l.length c] w fun e w' => e = .returned (.bool true) ∧ Below w.heap.size w w' := by
  obtain ⟨N, hN⟩ : ∃ N, N = l.length := ⟨_, rfl⟩
  rw [← hN]
  cases hq : validP l with
  | false =>
    have HQ := Lib.hid hq
    have HN := Lib.hid hN
    clear hq hN
    go_enter Tryd.func7, Tryd.ntmps7
    go_wp2_with (fail)
    refine (ref14Valid_any A c N l false _ _ ha.row HN.out ha.ss HQ.out).mono ?_
    rintro e w1 ⟨rfl, hb1⟩
    go_wp2_with (fail)
    refine (alive14_any _ (hw.below hb1)).mono ?_
    rintro e w2 ⟨rfl, hb⟩
    go_wp2
    go_ret
    exact ⟨rfl, hb1.trans (hb.mono hb1.size)⟩
  | true =>
    obtain ⟨h1, h2, h3⟩ := valid_s hq
    have hn := (isP_iff l).1 h1
    have hN3 : 3 ≤ N := by omega
    have hN64 : N ≤ 64 := by omega
    obtain ⟨s, hs⟩ : ∃ s, orP l = s := ⟨_, rfl⟩
    have HQ := Lib.hid hq
    have HN := Lib.hid hN
    have HS := Lib.hid hs
    clear hq hN hs hn h1 h2 h3
    go_enter Tryd.func7, Tryd.ntmps7
    go_wp2_with (fail)
    refine (ref14Valid_any A c N l true _ _ ha.row HN.out ha.ss HQ.out).mono ?_
    rintro e w1 ⟨rfl, hb1⟩
    go_wp2
    go_loopw [12] (fun i wr => VxRel w N i wr) (fun i _ => N - (intOf i).toNat)
    case atStart => exact ⟨0, rfl, Nat.zero_le _, hb1⟩
    case round =>
      clear hb1
      obtain ⟨k, rfl, hk, hb⟩ := hrel
      by_cases hgo : k < N
      · obtain ⟨b, o, rfl, hz1, hz2, hz3⟩ := (ha.row.next hb).pt_ (k := k) (by rw [← HN.out]; exact hgo)
        obtain ⟨p0, p1⟩ := (ha.row.next hb).pt2 (k := k) (by rw [← HN.out]; exact hgo)
        have HP := Lib.hid (ha.ss.ss (k := k) (by rw [← HN.out]; exact hgo))
        have HV := Lib.hid (loc_vertex HQ.out (i := k) (by rw [← HN.out]; exact hgo))
        obtain ⟨T1, T2⟩ := tri_valid HQ.out (i := k) (by rw [← HN.out]; exact hgo)
        obtain ⟨q, hq⟩ : ∃ q, nx N k = q := ⟨_, rfl⟩
        obtain ⟨q2, hq2⟩ : ∃ q2, nx N q = q2 := ⟨_, rfl⟩
        have hqN : q < N := by rw [← hq]; exact nx_lt (by omega)
        have hq2N : q2 < N := by rw [← hq2]; exact nx_lt (by omega)
        have hr1 : ((k : Int) + 1).tmod (N : Int) = (q : Int) := by rw [← hq]; exact tmod_nx hgo
        have hr2 : ((k : Int) + 2).tmod (N : Int) = (q2 : Int) := by rw [← hq2, ← hq]; exact tmod_nx2 hgo hN3
        have hu1 : IntKind.i64.wrap ((k : Int) + 1) = (k : Int) + 1 := wrap_i64' (by omega) (by omega)
        have hu2 : IntKind.i64.wrap ((k : Int) + 2) = (k : Int) + 2 := wrap_i64' (by omega) (by omega)
        rw [← HN.out, hq, hq2] at T1 T2
        rw [HS.out] at T2
        have HT1 := Lib.hid T1
        have HT2 := Lib.hid T2
        have HQ1 := Lib.hid (ha.ss.ss (k := q) (by rw [← HN.out]; exact hqN))
        have HQ2 := Lib.hid (ha.ss.ss (k := q2) (by rw [← HN.out]; exact hq2N))
        obtain ⟨P, hP⟩ : ∃ P, Go.Proofs.YtkiecjacbfmblaaDoor.at_ l k = P := ⟨_, rfl⟩
        obtain ⟨Q, hQ⟩ : ∃ Q, Go.Proofs.YtkiecjacbfmblaaDoor.at_ l q = Q := ⟨_, rfl⟩
        obtain ⟨R, hR⟩ : ∃ R, Go.Proofs.YtkiecjacbfmblaaDoor.at_ l q2 = R := ⟨_, rfl⟩
        rw [hP] at p0 p1 HP HV HT1 HT2
        rw [hQ] at HQ1 HT1 HT2
        rw [hR] at HQ2 HT1 HT2
        have HeQ := Lib.hid hQ
        have HeR := Lib.hid hR
        have hN0 : ¬ N = 0 := by omega
        clear hP hQ hR hz1 hz2 hz3 hq hq2 T1 T2
        have hbA := hb.alloc hb.size (.cells #[.int .i64 P.x, .int .i64 P.y] 31)
        have c0 : (wr.alloc (.cells #[.int .i64 P.x, .int .i64 P.y] 31)).cell? ⟨wr.heap.size, 0, none⟩ = some (.int .i64 P.x) := by simp [go_sem]
        have c1 : (wr.alloc (.cells #[.int .i64 P.x, .int .i64 P.y] 31)).cell? ⟨wr.heap.size, 1, none⟩ = some (.int .i64 P.y) := by simp [go_sem]
        have hrow := ha.row.next hb
        have hrow := hrow.next (((Below.refl _ _).alloc (Nat.le_refl _) (.cells #[.int .i64 P.x, .int .i64 P.y] 31) : Below wr.heap.size wr _))
        go_wp2_with (fail)
        refine (polyLocate_n (p := P) (hw.below hbA) hrow HN.out (by omega) ha.ss HP.out HV.out).mono ?_
        rintro e w2 ⟨rfl, hb2⟩
        have h2 := hbA.trans (hb2.mono hbA.size)
        have c0 := (hb2.cell (p := ⟨wr.heap.size, 0, none⟩) (lt_of_cell c0)).trans c0
        have c1 := (hb2.cell (p := ⟨wr.heap.size, 1, none⟩) (lt_of_cell c1)).trans c1
        have hrow := hrow.next hb2
        obtain ⟨q0, q1⟩ := hrow.pt2 (k := q) (by rw [← HN.out]; exact hqN)
        obtain ⟨r0, r1⟩ := hrow.pt2 (k := q2) (by rw [← HN.out]; exact hq2N)
        rw [HeQ.out] at q0 q1
        rw [HeR.out] at r0 r1
        clear p0 p1 hb2 hbA hb
        go_wp2
        go_region
        go_wp2_with (fail)
        obtain ⟨W, hW⟩ : ∃ W, W = (w2.alloc (.cells #[.int .i64 P.x, .int .i64 P.y, .int .i64 Q.x, .int .i64 Q.y, .int .i64 R.x, .int .i64 R.y] 31)).drew := ⟨_, rfl⟩
        have hrT : RowR W (fun g => w2.heap.size ≤ g) 2 ptC (some ⟨w2.heap.size, 0, none⟩) [P, Q, R] := by rw [hW]; exact row_lit (C := ptC) (fun _ => rfl) [P, Q, R]
        have h3 : Below w.heap.size w W := by rw [hW]; exact (h2.alloc h2.size _).drew
        have h2W : Below w2.heap.size w2 W := by rw [hW]; exact ((Below.refl _ _).alloc (Nat.le_refl _) _).drew
        have hrow := hrow.next h2W
        have HSS := Lib.hid (show SsP [P, Q, R] from fun y hy => by
          simp only [List.mem_cons, List.not_mem_nil, or_false] at hy
          rcases hy with rfl | rfl | rfl
          · exact HP.out
          · exact HQ1.out
          · exact HQ2.out)
        rw [← hW]
        clear hW c0 c1 q0 q1 r0 r1 h2 h2W
        refine (polyValid_n (l := [P, Q, R]) (hw.below h3) hrT rfl (by simp) HSS.out HT1.out).mono ?_
        rintro e w4 ⟨rfl, hb4⟩
        rw [show mk true = 18446744073709551615 from rfl]
        have h4 := h3.trans (hb4.mono h3.size)
        have hrT := hrT.next hb4
        have hrow := hrow.next hb4
        have hds : (s != s) = false := bne_self_eq_false _
        go_wp2_with (fail)
        refine (polyOr_c _ _ _ [P, Q, R] s _ _ (hw.below h4) hrT rfl (by simp) HSS.out HT2.out).mono ?_
        rintro e w5 ⟨rfl, hb5⟩
        have h5 := h4.trans (hb5.mono h4.size)
        go_wp2_with (fail)
        refine (polyOr_c _ N c l s _ _ (hw.below h5) (hrow.next hb5) HN.out (by omega) ha.ss HS.out).mono ?_
        rintro e w6 ⟨rfl, hb6⟩
        have h6 := h5.trans (hb6.mono h5.size)
        go_wp2
        go_roundw
        case rel => exact ⟨k + 1, by go_num, hgo, h6⟩
        case measure => simp [intOf]; omega
      · clear hN3 hN64
        go_wp2_with (fail)
        refine (alive14_any _ (hw.below hb)).mono ?_
        rintro e w2 ⟨rfl, hb2⟩
        go_wp2
        go_ret
        exact ⟨rfl, hb.trans (hb2.mono hb.size)⟩
end Go.Proofs.YtkiecjacbfmblaaDoor
