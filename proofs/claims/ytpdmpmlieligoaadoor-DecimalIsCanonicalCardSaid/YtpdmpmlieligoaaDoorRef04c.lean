/-
  Contracts of the reference of layer 4, third part: Parse.
-/
import Derived.Test.YtpdmpmlieligoaaDoorRef04b
import Derived.Test.YtpdmpmlieligoaaDoorRef03e
import Derived.Test.YtpdmpmlieligoaaDoorLimbM
import Derived.Deep.RegionHeld3
import Derived.Laws.Strings
import Derived.Deep.DeepCutAuto
import Derived.Deep.CutRange
namespace Go.Proofs.YtpdmpmlieligoaaDoor
open Go.RowKit

/-- What Parse answers: limbs and error. -/
def parsed (s : List UInt8) (n : Int) : List Int × Int :=
  if n < 1 ∨ 8 < n then ([], 2) else match decOf s with
  | none => ([], 9)
  | some x => if fitsB x n.toNat = true then (limbs n.toNat x, 0) else ([], 3)
def GivesP (w : World) (ls : List Int) (er : Int) (e : Ending) (w' : World) : Prop :=
  ∃ A c, e = .returned (.tuple #[.slice A ls.length c, .int .i64 er]) ∧ ls.length ≤ c ∧ SlR w' (fun b => w.heap.size ≤ b) .u64 A ls ∧ Below w.heap.size w w'
theorem givesP_nil {w w' : World} {er : Int} (hb : Below w.heap.size w w') : GivesP w [] er (.returned (.tuple #[.slice none 0 0, .int .i64 er])) w' :=
  ⟨none, 0, rfl, Nat.le_refl _, SlR.nil_ _ _ _ _, hb⟩
theorem parsed_arg {s : List UInt8} {n : Int} (h : n < 1 ∨ 8 < n) : parsed s n = ([], 2) := by unfold parsed; rw [if_pos h]
theorem parsed_none {s : List UInt8} {n : Int} (h1 : 1 ≤ n) (h8 : n ≤ 8) (h : decOf s = none) : parsed s n = ([], 9) := by unfold parsed; rw [if_neg (by omega), h]
theorem parsed_fits {s : List UInt8} {n : Int} {x : Int} (h1 : 1 ≤ n) (h8 : n ≤ 8) (h : decOf s = some x) (hf : fitsB x n.toNat = true) : parsed s n = (limbs n.toNat x, 0) := by unfold parsed; rw [if_neg (by omega), h]; simp only [hf, if_true]
theorem parsed_range {s : List UInt8} {n : Int} {x : Int} (h1 : 1 ≤ n) (h8 : n ≤ 8) (h : decOf s = some x) (hf : fitsB x n.toNat = false) : parsed s n = ([], 3) := by unfold parsed; rw [if_neg (by omega), h]; simp [hf]
/-- The forms of a text. -/
theorem decOf_empty {s : List UInt8} (h : bodyL s = []) : decOf s = none := by unfold decOf; rw [if_pos (.inl (.inl h))]
theorem decOf_zero {s : List UInt8} (h : (bodyL s).head? = some 48) (hs : s ≠ [48]) : decOf s = none := by unfold decOf; rw [if_pos (.inl (.inr ⟨h, hs⟩))]
theorem decOf_not {s : List UInt8} (h : ¬ Digs (bodyL s)) : decOf s = none := by unfold decOf; rw [if_pos (.inr (fun hh => h (digs_all.1 hh)))]
theorem decOf_yes {s : List UInt8} (h1 : bodyL s ≠ []) (h2 : (bodyL s).head? = some 48 → s = [48]) (h3 : Digs (bodyL s)) :
    decOf s = some (if (bodyL s).length < s.length then -(valN (bodyL s) : Int) else (valN (bodyL s) : Int)) := by
  unfold decOf
  rw [if_neg]
  rintro ((h | ⟨h, h'⟩) | h)
  · exact h1 h
  · exact h' (h2 h)
  · exact h (digs_all.2 h3)
theorem long_not {s : List UInt8} {x : Int} (h : decOf s = some x) (hl : 160 < (bodyL s).length) {n : Nat} (hn : n ≤ 8) : fitsB x n = false := by
  have h1 := decOf_long h hl
  unfold fitsB
  refine decide_eq_false fun e => ?_
  have hr := sv_range (limbs_us n x)
  rw [limbs_length, e] at hr
  have hm := M_le hn
  have h8 : M 8 = 18446744073709551616 ^ 8 := rfl
  have hp : (18446744073709551616 : Int) ^ 8 < 10 ^ 160 := by decide +kernel
  omega
theorem byte_eq {r : List UInt8} (a : UInt8) (k : Nat) (hk : k < 256) : ((((bs (a :: r))[0]'(by rw [bs_size]; simp)).toNat : Int) == (k : Int)) = decide ((a :: r).head? = some (UInt8.ofNat k)) := by
  have e : (bs (a :: r))[0]'(by rw [bs_size]; simp) = a := rfl
  rw [e, Bool.eq_iff_iff, beq_iff_eq, decide_eq_true_eq]
  simp only [List.head?_cons, Option.some.injEq]
  constructor
  · intro h; apply UInt8.toNat_inj.1; simp; omega
  · intro h; subst h; simp; omega
def isMinus (s : List UInt8) : Bool := decide (s.head? = some 45)
theorem isMinus_cons (a : UInt8) (r : List UInt8) : ((((bs (a :: r))[0]'(by rw [bs_size]; simp)).toNat : Int) == (45 : Int)) = isMinus (a :: r) := byte_eq a 45 (by decide)
theorem bs_tail (s : List UInt8) : (bs s).extract 1 (bs s).size = bs s.tail := by
  apply ByteArray.ext
  rw [bs_size]
  cases s <;> simp [bs, ByteArray.data_extract]
theorem bs_toList (l : List UInt8) : (bs l).toList = l := by rw [ByteArray.toList_eq]; simp [bs]
theorem byte48 (a : UInt8) (r : List UInt8) : ((((bs (a :: r))[0]'(by rw [bs_size]; simp)).toNat : Int) == (48 : Int)) = decide ((a :: r).head? = some 48) := byte_eq a 48 (by decide)
/-- Whether the text behind the sign is empty or begins with a zero that does not belong there. -/
def badL (s : List UInt8) : Bool := decide (bodyL s = [] ∨ ((bodyL s).head? = some 48 ∧ s ≠ [48]))
/-- A number in a box of the call's own. -/
def BoxNum (wr : World) (B L : Nat) (X : Int) : Prop :=
  ∃ A c ds, (wr.cell? ⟨B, 0, none⟩ = some (.int .i64 X.sign) ∧ wr.cell? ⟨B, 1, none⟩ = some (.slice A ds c)) ∧ (wr.frozen? ⟨B, 0, none⟩ = false ∧ wr.frozen? ⟨B, 1, none⟩ = false) ∧ NumR wr (fun b => b ≠ B) L (.agg #[.int .i64 X.sign, .slice A ds c]) X
theorem heldN {W w' : World} {B : Nat} {v0 v1 : Value} (h : (w'.cell? ⟨B, 0, none⟩ = some v0 ∧ w'.cell? ⟨B, 1, none⟩ = some v1) ∧ (w'.frozen? ⟨B, 0, none⟩ = false ∧ w'.frozen? ⟨B, 1, none⟩ = false) ∧ Below W.heap.size W w') : Below W.heap.size W w' := h.2.2
theorem heldLt {W w' : World} {B : Nat} {v0 v1 : Value} (h : (w'.cell? ⟨B, 0, none⟩ = some v0 ∧ w'.cell? ⟨B, 1, none⟩ = some v1) ∧ (w'.frozen? ⟨B, 0, none⟩ = false ∧ w'.frozen? ⟨B, 1, none⟩ = false) ∧ Below W.heap.size W w') : ∀ b, w'.heap.size ≤ b → b ≠ B :=
  fun _ hb => Nat.ne_of_gt (Nat.lt_of_lt_of_le (lt_of_cell h.1.1) hb)
theorem r3add_z (va vb : Value) (x y z : Int) (L M : Nat) (S : Nat → Prop) (w : World) (hz : x + y = z) (ha : NumR w S L va x) (hb : NumR w S M vb y) (hL : L ≤ 900000) (hM : M ≤ 900000) (hS : ∀ b, w.heap.size ≤ b → S b) :
    Calls Tryd.prog 28 #[va, vb] w (GivesNum w S (max L M + 1) z) := by
  subst hz; exact r3add_any va vb x y L M S w ha hb hL hM hS
theorem r3neg_z (v : Value) (x y : Int) (L : Nat) (S : Nat → Prop) (w : World) (h : NumR w S L v x) (hy : -x = y) : Calls Tryd.prog 31 #[v] w (GivesNum w S L y) := by
  subst hy; exact r3neg_any v x L S w h
theorem keepN {W w' w1 : World} {B : Nat} {v0 v1 : Value} (hb : Below w'.heap.size w' w1) (h : (w'.cell? ⟨B, 0, none⟩ = some v0 ∧ w'.cell? ⟨B, 1, none⟩ = some v1) ∧ (w'.frozen? ⟨B, 0, none⟩ = false ∧ w'.frozen? ⟨B, 1, none⟩ = false) ∧ Below W.heap.size W w') :
    (w1.cell? ⟨B, 0, none⟩ = some v0 ∧ w1.cell? ⟨B, 1, none⟩ = some v1) ∧ (w1.frozen? ⟨B, 0, none⟩ = false ∧ w1.frozen? ⟨B, 1, none⟩ = false) ∧ Below W.heap.size W w1 := by
  obtain ⟨⟨h0, h1⟩, ⟨f0, f1⟩, h4⟩ := h
  have hl := lt_of_cell h0
  exact ⟨⟨(hb.cell (p := ⟨B, 0, none⟩) hl).trans h0, (hb.cell (p := ⟨B, 1, none⟩) hl).trans h1⟩, ⟨(hb.frozen (p := ⟨B, 0, none⟩) hl).trans f0, (hb.frozen (p := ⟨B, 1, none⟩) hl).trans f1⟩, h4.trans (hb.mono h4.size)⟩
theorem valN_take {d : List UInt8} {k : Nat} (h : k < d.length) : (valN (d.take (k + 1)) : Int) = (valN (d.take k) : Int) * 10 + ((d[k].toNat - 48 : Nat) : Int) := by
  rw [List.take_succ_eq_append_getElem h, valN_snoc]; omega
theorem boxNum_stored {wc wA : World} {B L M : Nat} {X : Int} {A : Option Addr} {c : Nat} {ds : List Int} {u0 u1 : Value} (hB : B = wc.heap.size) (hc : (wA.cell? ⟨B, 0, none⟩ = some u0 ∧ wA.cell? ⟨B, 1, none⟩ = some u1) ∧ (wA.frozen? ⟨B, 0, none⟩ = false ∧ wA.frozen? ⟨B, 1, none⟩ = false) ∧ Below wc.heap.size wc wA)
    (hn : NumR wA (fun b => b ≠ B) L (.agg #[.int .i64 X.sign, .slice A ds.length c]) X) (hM : L ≤ M) :
    BoxNum ((wA.setCell ⟨B, 0, none⟩ (.int .i64 X.sign)).setCell ⟨B, 1, none⟩ (.slice A ds.length c)) B M X ∧ Below wc.heap.size wc ((wA.setCell ⟨B, 0, none⟩ (.int .i64 X.sign)).setCell ⟨B, 1, none⟩ (.slice A ds.length c)) := by
  obtain ⟨⟨h0, h1⟩, ⟨f0, f1⟩, h4⟩ := hc
  obtain ⟨A', c', es, he, hcc, hs, hnf, hev, hl⟩ := hn
  simp only [Value.agg.injEq] at he
  have he2 : Value.slice A ds.length c = Value.slice A' es.length c' := by
    have := congrArg (fun a : Array Value => a[1]?) he
    simpa using this
  have R := num_stored_at (w := wc) (S := fun b => b ≠ B) (T := fun b => b ≠ B) (M := M) (q := B) (Nat.le_of_eq hB.symm) (fun b h => ⟨h, h⟩) hcc hs hnf hev hl hM h4 (.int .i64 X.sign) (.slice A' es.length c')
  rw [← he2] at R
  exact ⟨⟨A, c, ds.length, two_cells h0 h1 _ _, ⟨((World.frozen?_setCell _ _ _ _).trans (World.frozen?_setCell _ _ _ _)).trans f0, ((World.frozen?_setCell _ _ _ _).trans (World.frozen?_setCell _ _ _ _)).trans f1⟩, R.1⟩, R.2⟩
theorem r4parse_arg (s : List UInt8) (n : Int) (w : World) (_hn : S n) (h : n < 1 ∨ 8 < n) :
    Calls Tryd.prog 13 #[.string (bs s), .int .i64 n] w (GivesP w [] 2) := by
  by_cases h1 : n < 1
  · have t1 : decide (n < 1) = true := decide_eq_true h1
    go_enter Tryd.func13, Tryd.ntmps13
    go_wp2
    go_ret2
    exact givesP_nil (Below.refl _ _)
  · have t1 : decide (n < 1) = false := decide_eq_false h1
    have t2 : decide (8 < n) = true := decide_eq_true (by omega)
    go_enter Tryd.func13, Tryd.ntmps13
    go_wp2
    go_ret2
    exact givesP_nil (Below.refl _ _)
set_option maxRecDepth 100000 in
set_option maxHeartbeats 4000000 in
theorem r4parse_rest (s : List UInt8) (n : Nat) (w : World) (hs : s.length ≤ 1000000) (h1 : 1 ≤ n) (h8 : n ≤ 8) :
    Calls Tryd.prog 13 #[.string (bs s), .int .i64 n] w (GivesP w (parsed s n).1 (parsed s n).2) := by
  have hsz : (bs s).size = s.length := bs_size s
  have HSZ := Lib.hid hsz
  have hsz' : (bs s).size ≤ 1000000 := by omega
  clear hsz
  go_enter Tryd.func13, Tryd.ntmps13
  go_upto_region 4 with (fail)
  go_cut [24] (fun s24 wx => wx = w ∧ s24 = .bool (isMinus s))
  case first =>
    cases s with
    | nil =>
      have hpos : ¬ 0 < (bs []).size := by rw [bs_size]; simp
      go_wp2
      go_meet
      exact ⟨rfl, rfl⟩
    | cons a r =>
      have hpos : 0 < (bs (a :: r)).size := by rw [bs_size]; simp
      go_wp2
      go_meet
      exact ⟨rfl, congrArg Value.bool (isMinus_cons a r)⟩
  case rest =>
    obtain ⟨rfl, rfl⟩ := hcut
    go_upto_if 24 with (fail)
    go_cut [6] (fun s6 wx => wx = wc ∧ s6 = .string (bs (bodyL s)))
    case first =>
      rcases hm : isMinus s with _ | _
      · have HB := Lib.hid (show bodyL s = s by unfold bodyL; rw [if_neg (of_decide_eq_false hm)])
        go_wp2
        go_meet
        exact ⟨rfl, by rw [HB.out]⟩
      · have HB := Lib.hid (show bodyL s = s.tail by unfold bodyL; rw [if_pos (of_decide_eq_true hm)])
        have hpos : 1 ≤ (bs s).size := by
          rw [bs_size]
          cases s with
          | nil => exact absurd (of_decide_eq_true hm) (by simp)
          | cons a r => simp
        go_wp2
        go_meet
        exact ⟨rfl, by rw [HB.out, ← bs_tail]⟩
    case rest =>
      obtain ⟨rfl, rfl⟩ := hcut
      obtain ⟨d, hd⟩ : ∃ d, d = bodyL s := ⟨_, rfl⟩
      rw [← hd]
      have HD := Lib.hid hd
      have hdl : d.length ≤ s.length := by rw [hd]; unfold bodyL; split <;> simp
      have hdz : (bs d).size ≤ 1000000 := by rw [bs_size]; omega
      clear hd
      go_upto_region 6 with (fail)
      go_cut [37] (fun s37 wx => wx = wc ∧ s37 = .bool (badL s))
      case first =>
        cases d with
        | nil =>
          have HB := Lib.hid (show badL s = true from decide_eq_true (.inl HD.out.symm))
          have htl : (bs ([] : List UInt8)).toList = [] := bs_toList _
          go_wp2
          go_meet
          exact ⟨rfl, by rw [HB.out]⟩
        | cons a r =>
          have hpos : 0 < (bs (a :: r)).size := by rw [bs_size]; simp
          have htl : (bs (a :: r)).toList = a :: r := bs_toList _
          have htz : (bs s).toList = s := bs_toList _
          rcases hz : decide ((a :: r).head? = some 48) with _ | _
          · have HB := Lib.hid (show badL s = false from decide_eq_false (by
              rw [← HD.out]
              rintro (h | ⟨h, _⟩)
              · cases h
              · exact absurd h (of_decide_eq_false hz)))
            have hz2 := byte48 a r
            rw [hz] at hz2
            clear hz
            go_wp2
            go_meet
            exact ⟨rfl, by rw [HB.out]⟩
          · have hz2 := byte48 a r
            rw [hz] at hz2
            rcases hq : decide (s = [48]) with _ | _
            · have HB := Lib.hid (show badL s = true from decide_eq_true (by
                rw [← HD.out]
                exact .inr ⟨of_decide_eq_true hz, of_decide_eq_false hq⟩))
              have hq2 : (s == [48]) = false := by rw [beq_eq_false_iff_ne]; exact of_decide_eq_false hq
              clear hz hq
              go_wp2
              go_meet
              exact ⟨rfl, by rw [HB.out]⟩
            · have HB := Lib.hid (show badL s = false from decide_eq_false (by
                rw [← HD.out]
                rintro (h | ⟨_, h⟩)
                · cases h
                · exact absurd (of_decide_eq_true hq) h))
              have hq2 : (s == [48]) = true := by rw [beq_iff_eq]; exact of_decide_eq_true hq
              clear hz hq
              go_wp2
              go_meet
              exact ⟨rfl, by rw [HB.out]⟩
      case rest =>
        obtain ⟨rfl, rfl⟩ := hcut
        rcases hbad : badL s with _ | _
        rotate_left
        · have HP := Lib.hid (show parsed s n = ([], 9) from parsed_none (by omega) (by omega) (by
            rcases of_decide_eq_true hbad with h | ⟨h, h'⟩
            · exact decOf_empty h
            · exact decOf_zero h h'))
          go_wp2
          go_ret2
          rw [HP.out]
          exact givesP_nil (Below.refl _ _)
        · have HBad := Lib.hid (of_decide_eq_false hbad)
          go_wp2
          go_loop [7] (fun i => ∃ k : Nat, i = .int .i64 k ∧ k ≤ d.length ∧ Digs (d.take k)) (fun i => d.length - (intOf i).toNat)
          case atStart => exact ⟨0, rfl, Nat.zero_le _, fun c hc => by simp at hc⟩
          case round =>
            obtain ⟨k, rfl, hk, hdg⟩ := hrel
            by_cases hgo : k < d.length
            · have hkz : k < (bs d).size := by rw [bs_size]; exact hgo
              have hbyte : (bs d)[k]'hkz = d[k] := rfl
              by_cases hlo : (((bs d)[k]'hkz).toNat : Int) < 48
              · have HP := Lib.hid (show parsed s n = ([], 9) from parsed_none (by omega) (by omega) (decOf_not fun h => by
                  rw [← HD.out] at h
                  have := h d[k] (List.getElem_mem hgo)
                  rw [hbyte] at hlo
                  omega))
                clear hbyte hdg
                go_wp2
                go_ret2
                rw [HP.out]
                exact givesP_nil (Below.refl _ _)
              · by_cases hhi : 57 < (((bs d)[k]'hkz).toNat : Int)
                · have HP := Lib.hid (show parsed s n = ([], 9) from parsed_none (by omega) (by omega) (decOf_not fun h => by
                    rw [← HD.out] at h
                    have := h d[k] (List.getElem_mem hgo)
                    rw [hbyte] at hhi
                    omega))
                  clear hbyte hdg
                  go_wp2
                  go_ret2
                  rw [HP.out]
                  exact givesP_nil (Below.refl _ _)
                · have HDg := Lib.hid (show Digs (d.take (k + 1)) by
                    rw [List.take_succ_eq_append_getElem hgo]
                    rw [hbyte] at hlo hhi
                    exact hdg.snoc (by omega))
                  clear hbyte hdg
                  go_wp2
                  go_round
                  case rel => exact ⟨k + 1, by go_num, hgo, HDg.out⟩
                  case measure => simp [intOf]; omega
            · have hkz : ¬ k < (bs d).size := by rw [bs_size]; exact hgo
              have HDg := Lib.hid (show Digs d by rw [List.take_of_length_le (by omega)] at hdg; exact hdg)
              have HX := Lib.hid (decOf_yes (s := s) (by rw [← HD.out]; intro e; exact HBad.out (.inl (by rw [← HD.out]; exact e))) (fun e => by
                by_cases h : s = [48]
                · exact h
                · exact absurd (.inr ⟨e, h⟩) HBad.out) (by rw [← HD.out]; exact HDg.out))
              clear hdg
              by_cases hlong : 160 < d.length
              · have hl2 : 160 < ((bs d).size : Int) := by rw [bs_size]; omega
                have HP := Lib.hid (show parsed s n = ([], 3) from parsed_range (by omega) (by omega) HX.out (long_not HX.out (by rw [← HD.out]; exact hlong) (by omega)))
                go_wp2
                go_ret2
                rw [HP.out]
                exact givesP_nil (Below.refl _ _)
              · have hl2 : ((bs d).size : Int) ≤ 160 := by rw [bs_size]; omega
                go_wp2
                go_loopw [9] (fun i wr => ∃ k : Nat, i = .int .i64 k ∧ k ≤ d.length ∧ BoxNum wr wc.heap.size (5 * k) (valN (d.take k) : Int) ∧ Below wc.heap.size wc wr) (fun i _ => d.length - (intOf i).toNat)
                case atStart =>
                  exact ⟨0, rfl, Nat.zero_le _, ⟨none, 0, 0, ⟨by simp [go_sem]; rfl, by simp [go_sem]⟩, ⟨by simp [go_sem], by simp [go_sem]⟩, ⟨none, 0, [], rfl, Nat.le_refl _, SlR.nil_ _ _ _ _, ⟨Dg.nil_, fun r d e => by simp at e⟩, rfl, Nat.zero_le _⟩⟩, (Below.refl _ _).alloc (Nat.le_refl _) _⟩
                case round =>
                  obtain ⟨j, rfl, hj, ⟨A, c, dn, ⟨hc0, hc1⟩, ⟨hf0, hf1⟩, hnum⟩, hbl⟩ := hrel
                  by_cases hgj : j < d.length
                  · have hjz : j < (bs d).size := by rw [bs_size]; exact hgj
                    have hbyte : (bs d)[j]'hjz = d[j] := rfl
                    have hdj := HDg.out d[j] (List.getElem_mem hgj)
                    rw [← hbyte] at hdj
                    have HV := Lib.hid (valN_take hgj)
                    obtain ⟨X, hX⟩ : ∃ X : Int, X = (valN (d.take j) : Int) := ⟨_, rfl⟩
                    rw [← hX] at hc0 hnum HV
                    obtain ⟨C, hC⟩ : ∃ C : Int, C = (((bs d)[j]'hjz).toNat : Int) - 48 := ⟨_, rfl⟩
                    have e1 : IntKind.u8.wrap ((((bs d)[j]'hjz).toNat : Int) - 48) = C := by rw [← hC]; simp [IntKind.wrap, IntKind.bits, IntKind.signed]; omega
                    have e2 : IntKind.i64.wrap C = C := i64_small (by omega) (by omega)
                    have hCS : S C := by unfold S; omega
                    obtain ⟨Y, hY⟩ : ∃ Y, X * 10 + C = Y := ⟨_, rfl⟩
                    have HY := Lib.hid hY
                    have HV2 := Lib.hid (show (valN (d.take (j + 1)) : Int) = Y by
                      have := HV.out
                      rw [hbyte] at hC hdj
                      omega)
                    have HN := Lib.hid hnum
                    have hbl2 := below_drewN' hbl 1
                    clear hX hC hbyte hnum HV hY
                    go_wp2_with (fail)
                    have hBlt : wc.heap.size < wr.heap.size := lt_of_cell hc0
                    go_region_law (first
                      | (go_simp; go_at_call_of 30 (Value.int IntKind.i64 10); refine (r3int_any 10 (fun b => b ≠ wc.heap.size) _ (fun b hb => by have := hBlt; simp at hb; omega) (by unfold S; omega)).mono ?_; rintro e wI ⟨vI, rfl, hI, hbI⟩; have cI0 := (hbI.cell (p := ⟨wc.heap.size, 0, none⟩) (by exact hBlt)).trans (by exact hc0); have cI1 := (hbI.cell (p := ⟨wc.heap.size, 1, none⟩) (by exact hBlt)).trans (by exact hc1); have fI0 := (hbI.frozen (p := ⟨wc.heap.size, 0, none⟩) (by exact hBlt)).trans (by exact hf0); have fI1 := (hbI.frozen (p := ⟨wc.heap.size, 1, none⟩) (by exact hBlt)).trans (by exact hf1); have hzI : wc.heap.size < wI.heap.size := (by (have := hbI.size; simp at this; omega)))
                      | (go_simp; go_at_call 29; refine (r3mul_any _ vI X 10 (5 * j) 4 (fun b => b ≠ wc.heap.size) _ (HN.out.next ((below_drewN' (Below.refl _ _) 1).trans (by exact hbI))) hI (by omega) (by decide) (fun b hb => by omega)).mono ?_; rintro e wM ⟨vM, rfl, hM, hbM⟩; obtain ⟨hcM, hfM⟩ := cell_below hbM; have hzM : wc.heap.size < wM.heap.size := (by (have := hbM.size; omega)))
                      | (go_simp; go_at_call_of 30 (Value.int IntKind.i64 C); refine (r3int_any C (fun b => b ≠ wc.heap.size) _ (fun b hb => by omega) hCS).mono ?_; rintro e wC ⟨vC, rfl, hC, hbC⟩; obtain ⟨hcC, hfC⟩ := cell_below hbC; have hzC : wc.heap.size < wC.heap.size := (by (have := hbC.size; omega)))
                      | (go_simp; go_at_call 28; refine (r3add_z vM vC (X * 10) C Y (5 * j + 4) 4 (fun b => b ≠ wc.heap.size) _ HY.out (hM.next (by exact hbC)) hC (by omega) (by decide) (fun b hb => by omega)).mono ?_; rintro e wA ⟨_, rfl, ⟨A5, c5, ds5, rfl, hrest⟩, hbA⟩; have HR := Lib.hid hrest; clear hrest; obtain ⟨hcA, hfA⟩ := cell_below hbA; have hzA : wc.heap.size < wA.heap.size := (by (have := hbA.size; omega))))
                    all_goals clear e1 e2
                    all_goals
                      have K0 := keepN (W := wc) hbA (keepN hbC (keepN hbM ⟨⟨cI0, cI1⟩, ⟨fI0, fI1⟩, hbl2.trans (Below.mono hbI hbl.size)⟩))
                      have HR2 := Lib.hid (boxNum_stored (wc := wc) (B := wc.heap.size) (M := 5 * (j + 1)) rfl K0 ⟨A5, c5, ds5, rfl, HR.out⟩ (by omega))
                      clear K0
                      go_wp2
                      go_roundw
                      case rel => exact ⟨j + 1, by go_num, hgj, by rw [HV2.out]; exact HR2.out.1, HR2.out.2⟩
                      case measure => simp [intOf]; omega
                  · have hjz : ¬ j < (bs d).size := by rw [bs_size]; exact hgj
                    obtain ⟨X, hX⟩ : ∃ X : Int, X = (valN d : Int) := ⟨_, rfl⟩
                    have e0 : d.take j = d := List.take_of_length_le (by omega)
                    rw [e0, ← hX] at hc0 hnum
                    have HX2 := Lib.hid (show decOf s = some (if d.length < s.length then -X else X) by rw [HX.out, ← HD.out, hX])
                    have HN := Lib.hid hnum
                    have hjd : j ≤ 160 := by omega
                    clear e0 hX hnum hk hgo hkz
                    obtain ⟨w0, rfl⟩ : ∃ w0, w0 = wc := ⟨_, rfl⟩
                    go_upto_if 78 with (fail)
                    go_cut [78] (fun _ wx => BoxNum wx w0.heap.size 1000 (if d.length < s.length then -X else X) ∧ Below w0.heap.size w0 wx)
                    case first =>
                      by_cases hlt : d.length < s.length
                      · have hlz : (bs d).size < (bs s).size := by rw [bs_size, bs_size]; exact hlt
                        obtain ⟨Y, hY⟩ : ∃ Y, -X = Y := ⟨_, rfl⟩
                        have HI := Lib.hid (show (if d.length < s.length then -X else X) = Y by rw [if_pos hlt, hY])
                        have HY := Lib.hid hY
                        clear hlt hY
                        have hBlt : w0.heap.size < wr.heap.size := lt_of_cell hc0
                        go_wp2_with (fail)
                        refine (r3neg_z _ X Y (5 * j) (fun b => b ≠ w0.heap.size) _ HN.out HY.out).mono ?_
                        rintro e wA ⟨_, rfl, ⟨A5, c5, ds5, rfl, hrest⟩, hbA⟩
                        have HR := Lib.hid hrest
                        have K0 := keepN (W := w0) hbA ⟨⟨hc0, hc1⟩, ⟨hf0, hf1⟩, hbl⟩
                        have HR2 := Lib.hid (boxNum_stored (wc := w0) (B := w0.heap.size) (M := 1000) rfl K0 ⟨A5, c5, ds5, rfl, HR.out⟩ (by omega))
                        obtain ⟨⟨k0, k1⟩, ⟨g0, g1⟩, _⟩ := K0
                        clear hrest
                        go_wp2
                        go_meet
                        exact ⟨by rw [HI.out]; exact HR2.out.1, HR2.out.2⟩
                      · have hlz : ¬ (bs d).size < (bs s).size := by rw [bs_size, bs_size]; exact hlt
                        have HI := Lib.hid (show (if d.length < s.length then -X else X) = X by rw [if_neg hlt])
                        clear hlt
                        go_wp2
                        go_meet
                        exact ⟨by rw [HI.out]; exact ⟨A, c, dn, ⟨hc0, hc1⟩, ⟨hf0, hf1⟩, HN.out.le (by omega)⟩, hbl⟩
                    case rest =>
                      obtain ⟨Z, hZ⟩ : ∃ Z : Int, Z = (if d.length < s.length then -X else X) := ⟨_, rfl⟩
                      rw [← hZ] at hcut
                      obtain ⟨⟨A2, c2, dn2, ⟨k0, k1⟩, ⟨g0, g1⟩, hnum2⟩, hb2⟩ := hcut
                      have HXZ := Lib.hid (show decOf s = some Z by rw [HX2.out, hZ])
                      have HN2 := Lib.hid hnum2
                      have hBlt := lt_of_cell k0
                      clear hZ hnum2 hc0 hc1 hf0 hf1 hbl
                      go_wp2_with (fail)
                      refine (r3fits_any _ Z n 1000 (fun b => b ≠ w0.heap.size) _ HN2.out (by decide) (by omega)).mono ?_
                      rintro e wF ⟨rfl, hbF⟩
                      have m0 := (hbF.cell (p := ⟨w0.heap.size, 0, none⟩) hBlt).trans k0
                      have m1 := (hbF.cell (p := ⟨w0.heap.size, 1, none⟩) hBlt).trans k1
                      have hb3 := hb2.trans (hbF.mono hb2.size)
                      rcases hf : fitsB Z n with _ | _
                      · have HP := Lib.hid (show parsed s n = ([], 3) from parsed_range (by omega) (by omega) HXZ.out (by rw [Int.toNat_natCast]; exact hf))
                        go_wp2
                        go_ret2
                        rw [HP.out]
                        exact givesP_nil hb3
                      · have HP := Lib.hid (show parsed s n = (limbs n Z, 0) from by
                          have := parsed_fits (n := (n : Int)) (by omega) (by omega) HXZ.out (by rw [Int.toNat_natCast]; exact hf)
                          rw [Int.toNat_natCast] at this
                          exact this)
                        go_wp2_with (fail)
                        refine (r3limbs_any _ Z n 1000 (fun b => b ≠ w0.heap.size) _ (HN2.out.next hbF) (by decide) (by omega)).mono ?_
                        rintro e wL ⟨A3, c3, rfl, hc3, hs3, hbL⟩
                        go_wp2
                        go_ret2
                        rw [HP.out]
                        exact ⟨A3, c3, rfl, hc3, hs3.imp (fun b hb => Nat.le_trans hb3.size hb), hb3.trans (hbL.mono hb3.size)⟩
theorem r4parse_any (s : List UInt8) (n : Int) (w : World) (hs : s.length ≤ 1000000) (hn : S n) :
    Calls Tryd.prog 13 #[.string (bs s), .int .i64 n] w (GivesP w (parsed s n).1 (parsed s n).2) := by
  by_cases h : n < 1 ∨ 8 < n
  · rw [parsed_arg h]
    exact r4parse_arg s n w hn h
  · obtain ⟨m, rfl⟩ := Int.eq_ofNat_of_zero_le (show 0 ≤ n by omega)
    exact r4parse_rest s m w hs (by omega) (by omega)
end Go.Proofs.YtpdmpmlieligoaaDoor
