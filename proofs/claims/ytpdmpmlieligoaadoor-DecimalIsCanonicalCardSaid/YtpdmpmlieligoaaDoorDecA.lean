/-
  Contracts of package decimal, first part: widths, the sign's prefix, texts of digits.
-/
import Derived.Test.YtpdmpmlieligoaaDoorRef04c
import Derived.Test.YtpdmpmlieligoaaDoorLimbD
namespace Go.Proofs.YtpdmpmlieligoaaDoor
open Go.RowKit

theorem decWidth_yes (n : Int) (w : World) (h1 : 1 ≤ n) (h8 : n ≤ 8) : Calls Tryd.prog 19 #[.int .i64 n] w fun e w' => e = .returned (.bool true) ∧ w' = w := by
  have t1 : decide (1 ≤ n) = true := decide_eq_true h1
  have t2 : decide (n ≤ 8) = true := decide_eq_true h8
  go_enter Tryd.func19, Tryd.ntmps19
  go_wp2
  go_ret
  exact ⟨rfl, rfl⟩
theorem decWidth_no (n : Int) (w : World) (h : n < 1 ∨ 8 < n) : Calls Tryd.prog 19 #[.int .i64 n] w fun e w' => e = .returned (.bool false) ∧ w' = w := by
  by_cases h1 : 1 ≤ n
  · have t1 : decide (1 ≤ n) = true := decide_eq_true h1
    have t2 : decide (n ≤ 8) = false := decide_eq_false (by omega)
    go_enter Tryd.func19, Tryd.ntmps19
    go_wp2
    go_ret
    exact ⟨rfl, rfl⟩
  · have t1 : decide (1 ≤ n) = false := decide_eq_false h1
    go_enter Tryd.func19, Tryd.ntmps19
    go_wp2
    go_ret
    exact ⟨rfl, rfl⟩
theorem ret_bool {a b : Bool} (h : a = b) : Ending.returned (.bool a) = .returned (.bool b) := by rw [h]
/-- The text begins with a minus sign. -/
theorem bs_prefix1 (a : UInt8) (r : List UInt8) : (bs (a :: r)).extract 0 1 = bs [a] := by
  apply ByteArray.ext
  simp [bs, ByteArray.data_extract]
theorem hasMinus_any (s : List UInt8) (w : World) (hs : s.length ≤ 1000000) :
    Calls Tryd.prog 54 #[.string (bs s), .string (bs [45])] w fun e w' => e = .returned (.bool (isMinus s)) ∧ w' = w := by
  cases s with
  | nil =>
    have h1 : (bs ([] : List UInt8)).size = 0 := bs_size _
    have h2 : (bs [45]).size = 1 := bs_size _
    go_enter Tryd.func54, Tryd.ntmps54
    go_wp2
    go_ret
    exact ⟨rfl, rfl⟩
  | cons a r =>
    have h1 : (bs (a :: r)).size = r.length + 1 := bs_size _
    have h2 : (bs [45]).size = 1 := bs_size _
    have h3 := bs_prefix1 a r
    have h4 : (bs [a]).toList = [a] := bs_toList _
    have h5 : (bs [45]).toList = [45] := bs_toList _
    simp at hs
    go_enter Tryd.func54, Tryd.ntmps54
    go_wp2
    go_ret
    refine ⟨ret_bool ?_, rfl⟩
    unfold isMinus
    rw [Bool.eq_iff_iff, beq_iff_eq, decide_eq_true_eq, List.head?_cons, Option.some.injEq]
theorem ret_str_bool {a b : ByteArray} {c d : Bool} (h : a = b) (h' : c = d) : Ending.returned (.tuple #[.string a, .bool c]) = .returned (.tuple #[.string b, .bool d]) := by rw [h, h']
theorem cutMinus0_any (s : List UInt8) (w : World) (hs : s.length ≤ 1000000) :
    Calls Tryd.prog 47 #[.string (bs s), .string (bs [45])] w fun e w' => e = .returned (.tuple #[.string (bs (bodyL s)), .bool (isMinus s)]) ∧ w' = w := by
  have hz : (bs s).size ≤ 1000000 := by rw [bs_size]; exact hs
  have h2 : (bs [45]).size = 1 := bs_size _
  go_enter Tryd.func47, Tryd.ntmps47
  go_wp2_with (fail)
  refine (hasMinus_any s _ hs).mono ?_
  rintro e w' ⟨rfl, hw1⟩
  obtain rfl := hw1.symm
  rcases hm : isMinus s with _ | _
  · have HB := Lib.hid (show bodyL s = s by unfold bodyL; rw [if_neg (of_decide_eq_false hm)])
    go_wp2
    go_ret2
    exact ⟨ret_str_bool (by rw [HB.out]) hm.symm, rfl⟩
  · have HB := Lib.hid (show bodyL s = s.tail by unfold bodyL; rw [if_pos (of_decide_eq_true hm)])
    have hpos : 1 ≤ (bs s).size := by
      rw [bs_size]
      cases s with
      | nil => exact absurd (of_decide_eq_true hm) (by simp)
      | cons a r => simp
    go_wp2
    go_ret2
    exact ⟨ret_str_bool (by rw [HB.out, ← bs_tail]) hm.symm, rfl⟩
theorem cutMinus_any (s : List UInt8) (w : World) (hs : s.length ≤ 1000000) :
    Calls Tryd.prog 25 #[.string (bs s), .string (bs [45])] w fun e w' => e = .returned (.tuple #[.string (bs (bodyL s)), .bool (isMinus s)]) ∧ w' = w := by
  go_enter Tryd.func25, Tryd.ntmps25
  go_wp2_with (fail)
  refine (cutMinus0_any s _ hs).mono ?_
  rintro e w' ⟨rfl, hw1⟩
  obtain rfl := hw1.symm
  go_wp2
  go_ret2
  exact ⟨rfl, rfl⟩
/-- Whether the text is empty or begins with a zero that does not belong there. -/
def lead0 (s : List UInt8) : Bool := decide (s = [] ∨ (s.head? = some 48 ∧ s ≠ [48]))
theorem lead0_iff {s : List UInt8} : lead0 s = false ↔ Lead s := by
  unfold lead0 Lead
  rw [decide_eq_false_iff_not]
  constructor
  · intro h
    refine ⟨fun e => h (.inl e), fun e => ?_⟩
    by_cases h2 : s = [48]
    · exact h2
    · exact absurd (.inr ⟨e, h2⟩) h
  · rintro ⟨h1, h2⟩ (h | ⟨h, h'⟩)
    · exact h1 h
    · exact h' (h2 h)
/-- Whether the text consists of digits without leading zeros. -/
def goodL (s : List UInt8) : Bool := !lead0 s && s.all fun c => 48 ≤ c && c ≤ 57
theorem goodL_lead {s : List UInt8} (h : lead0 s = true) : goodL s = false := by unfold goodL; rw [h]; rfl
theorem goodL_not {s : List UInt8} (h : ¬ Digs s) : goodL s = false := by
  unfold goodL
  rw [Bool.and_eq_false_iff]
  right
  rw [Bool.eq_false_iff]
  intro h'
  exact h (digs_all.1 h')
theorem goodL_yes {s : List UInt8} (h : lead0 s = false) (hd : Digs s) : goodL s = true := by
  unfold goodL
  rw [h, digs_all.2 hd]; rfl
theorem goodL_iff {s : List UInt8} : goodL s = true ↔ Lead s ∧ Digs s := by
  unfold goodL
  rw [Bool.and_eq_true, digs_all, Bool.not_eq_true', lead0_iff]
set_option maxHeartbeats 2000000 in
theorem areDigits_any (s : List UInt8) (w : World) (hs : s.length ≤ 1000000) :
    Calls Tryd.prog 26 #[.string (bs s)] w fun e w' => e = .returned (.bool (goodL s)) ∧ w' = w := by
  have hsz : (bs s).size = s.length := bs_size s
  have hsz' : (bs s).size ≤ 1000000 := by omega
  clear hsz
  go_enter Tryd.func26, Tryd.ntmps26
  go_upto_region 1 with (fail)
  go_cut [14] (fun s14 wx => wx = w ∧ s14 = .bool (lead0 s))
  case first =>
    cases s with
    | nil =>
      have HB := Lib.hid (show lead0 [] = true from rfl)
      have htl : (bs ([] : List UInt8)).toList = [] := bs_toList _
      go_wp2
      go_meet
      exact ⟨rfl, by rw [HB.out]⟩
    | cons a r =>
      have hpos : 0 < (bs (a :: r)).size := by rw [bs_size]; simp
      have htl : (bs (a :: r)).toList = a :: r := bs_toList _
      rcases hz : decide ((a :: r).head? = some 48) with _ | _
      · have HB := Lib.hid (show lead0 (a :: r) = false from decide_eq_false (by
          rintro (h | ⟨h, _⟩)
          · cases h
          · exact absurd h (of_decide_eq_false hz)))
        have hz2 := byte48 a r
        rw [hz] at hz2
        clear hz
        go_wp2
        go_meet
        exact ⟨rfl, by rw [HB.out]⟩
      · have hz2 := byte48 a r
        rw [hz] at hz2
        rcases hq : decide ((a :: r) = [48]) with _ | _
        · have HB := Lib.hid (show lead0 (a :: r) = true from decide_eq_true (.inr ⟨of_decide_eq_true hz, of_decide_eq_false hq⟩))
          have hq2 : ((a :: r) == [48]) = false := by rw [beq_eq_false_iff_ne]; exact of_decide_eq_false hq
          clear hz hq
          go_wp2
          go_meet
          exact ⟨rfl, by rw [HB.out]⟩
        · have HB := Lib.hid (show lead0 (a :: r) = false from decide_eq_false (by
            rintro (h | ⟨_, h⟩)
            · cases h
            · exact absurd (of_decide_eq_true hq) h))
          have hq2 : ((a :: r) == [48]) = true := by rw [beq_iff_eq]; exact of_decide_eq_true hq
          clear hz hq
          go_wp2
          go_meet
          exact ⟨rfl, by rw [HB.out]⟩
  case rest =>
    obtain ⟨rfl, rfl⟩ := hcut
    rcases hb : lead0 s with _ | _
    rotate_left
    · have HB := Lib.hid (goodL_lead hb)
      go_wp2
      go_ret
      exact ⟨ret_bool HB.out.symm, rfl⟩
    · have HL := Lib.hid hb
      clear hb
      go_wp2
      go_loop [17] (fun i => ∃ k : Nat, i = .int .i64 k ∧ k ≤ s.length ∧ Digs (s.take k)) (fun i => s.length - (intOf i).toNat)
      case atStart => exact ⟨0, rfl, Nat.zero_le _, fun c hc => by simp at hc⟩
      case round =>
        obtain ⟨k, rfl, hk, hdg⟩ := hrel
        by_cases hgo : k < s.length
        · have hkz : k < (bs s).size := by rw [bs_size]; exact hgo
          have hbyte : (bs s)[k]'hkz = s[k] := rfl
          by_cases hlo : (((bs s)[k]'hkz).toNat : Int) < 48
          · have HB := Lib.hid (show goodL s = false from goodL_not fun h => by
              have := h s[k] (List.getElem_mem hgo)
              rw [hbyte] at hlo
              omega)
            clear hbyte hdg
            go_wp2
            go_ret
            exact ⟨ret_bool HB.out.symm, rfl⟩
          · by_cases hhi : 57 < (((bs s)[k]'hkz).toNat : Int)
            · have HB := Lib.hid (show goodL s = false from goodL_not fun h => by
                have := h s[k] (List.getElem_mem hgo)
                rw [hbyte] at hhi
                omega)
              clear hbyte hdg
              go_wp2
              go_ret
              exact ⟨ret_bool HB.out.symm, rfl⟩
            · have HDg := Lib.hid (show Digs (s.take (k + 1)) by
                rw [List.take_succ_eq_append_getElem hgo]
                rw [hbyte] at hlo hhi
                exact hdg.snoc (by omega))
              clear hbyte hdg
              go_wp2
              go_round
              case rel => exact ⟨k + 1, by go_num, hgo, HDg.out⟩
              case measure => simp [intOf]; omega
        · have hkz : ¬ k < (bs s).size := by rw [bs_size]; exact hgo
          have HB := Lib.hid (goodL_yes HL.out (by rw [List.take_of_length_le (by omega)] at hdg; exact hdg))
          clear hdg
          go_wp2
          go_ret
          exact ⟨ret_bool HB.out.symm, rfl⟩
end Go.Proofs.YtpdmpmlieligoaaDoor
