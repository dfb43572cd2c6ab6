/-
  Contracts of package segment. (Written by segment.py.)
-/
import Derived.Test.YtckhgamojpbcgaaDoorOrientC
import Derived.Test.YtckhgamojpbcgaaDoorRef08
import Derived.Laws.CopyOwn
import Derived.Laws.Tables
import Derived.Laws.Rows
namespace Go.Proofs.YtckhgamojpbcgaaDoor
open Go.RowKit
set_option maxRecDepth 100000
set_option linter.unusedVariables false
set_option linter.unusedSimpArgs false

def WsR (l : List Int) (v : Value) (g : Gh) (w : World) : Prop := ∃ A c, v = .slice A l.length c ∧ l.length ≤ c ∧ SlR w (Off g) .u64 A l
theorem wsR_firm (l : List Int) : Firm (WsR l) := fun v g w g' w' h hk => by
  obtain ⟨A, c, e, hc, hs⟩ := h
  exact ⟨A, c, e, hc, hs.keeps hk⟩
theorem wsR_open {l : List Int} {v : Value} {g : Gh} {w : World} (h : WsR l v g w) : ∃ A c, v = .slice A l.length c := by
  obtain ⟨A, c, e, _⟩ := h
  exact ⟨A, c, e⟩
theorem lit_ws {c : Ctx} {g : Gh} {w : World} (hI : RInv c g w) (ls : List Int) :
    WsR ls (.slice (some ⟨w.heap.size, 0, none⟩) ls.length ls.length) g (w.alloc (.cells (ls.map (Value.int .u64)).toArray 23)) := by
  refine ⟨_, _, rfl, Nat.le_refl _, ?_⟩
  refine SlR.off (w := w) (fun hl => ⟨w.heap.size, 0, rfl, Nat.le_refl _, fun j d hd => ?_⟩) hI
  simp [go_sem, hd]
def foldW (op : BinOp) (z : Int) (l : List Int) : Int := l.foldl (fun m x => bits op .u64 m x) z
theorem foldW_snoc (op : BinOp) (z : Int) (l : List Int) (k : Nat) (h : k < l.length) : foldW op z (l.take (k + 1)) = bits op .u64 (foldW op z (l.take k)) (l[k]'h) := by
  unfold foldW
  rw [List.take_succ_eq_append_getElem h, List.foldl_append]; rfl
theorem heap_new {w : World} {o : Obj} {k : Nat} (h : k = w.heap.size) : (w.alloc o).heap[k]? = some o := by
  subst h
  show (w.heap.push o)[w.heap.size]? = some o
  exact Array.getElem?_push_size
theorem of_one (w : World) (hw : Wts w) : Calls Tryd.prog 26 #[.int .u64 1] w fun e w' => e = .returned (.int .u64 18446744073709551615) ∧ ∃ n, w' = w.drewN n :=
  (of_any 1 (by unfold U; omega) w hw).mono fun _ _ h => h
theorem of_nil (w : World) (hw : Wts w) : Calls Tryd.prog 26 #[.int .u64 0] w fun e w' => e = .returned (.int .u64 0) ∧ ∃ n, w' = w.drewN n :=
  (of_any 0 (by unfold U; omega) w hw).mono fun _ _ h => h
/-- Not, kept from being laid open. -/
def ngB (p : Bool) : Bool := !p
theorem mk_not (p : Bool) : bits .xor .u64 18446744073709551615 (mk p) = mk (ngB p) := by cases p <;> decide +kernel
theorem with_lt (a b x : Int) : mk (ngB (decide (x < a) && decide (x < b) || decide (a < x) && decide (b < x))) = mk (withB a b x) := by
  congr 1
  unfold withB ngB
  rw [Bool.eq_iff_iff]
  simp only [Bool.not_eq_true', Bool.or_eq_false_iff, Bool.and_eq_false_iff, decide_eq_false_iff_not, Bool.or_eq_true, Bool.and_eq_true, decide_eq_true_eq]
  omega
theorem gLess {c : Ctx} {g : Gh} {w : World} {a b : Int} (hI : RInv c g w) (hw : Wts c.W0) (sa : S a) (sb : S b) : Calls Tryd.prog 21 #[.int .i64 a, .int .i64 b] w (Gives (fun v _ _ => v = .int .u64 (mk (decide (a < b)))) g w) := by
  refine (lessSigned_any a b sa sb w (hw.below hI.below)).mono ?_
  rintro e w' ⟨rfl, n, rfl⟩
  exact ⟨_, rfl, rfl, below_drewN' (Below.refl _ _) n⟩
theorem all_any (A : Option Addr) (c : Nat) (l : List Int) (S : Nat → Prop) (w : World) (hw : Wts w) (ha : SlR w S .u64 A l) (h0 : 0 < l.length) (hl : l.length ≤ 1000) :
    Calls Tryd.prog 20 #[.slice A l.length c] w fun e w' => e = .returned (.int .u64 (foldW .and 18446744073709551615 l)) ∧ ∃ n, w' = w.drewN n := by
  obtain ⟨b, o, rfl, _, hc⟩ := ha h0
  have HC := Lib.hid hc
  clear hc ha
  go_enter Tryd.func20, Tryd.ntmps20
  go_wp2_with (fail)
  refine (of_one _ hw).mono ?_
  rintro e w1 ⟨rfl, n, rfl⟩
  go_wp2
  go_loop [3, 9] (fun m i => ∃ k : Nat, i = .int .i64 k ∧ k ≤ l.length ∧ m = .int .u64 (foldW .and 18446744073709551615 (l.take k))) (fun _ i => l.length - (intOf i).toNat)
  case atStart => exact ⟨0, rfl, Nat.zero_le _, rfl⟩
  case round =>
    obtain ⟨k, rfl, hk, rfl⟩ := hrel
    by_cases hgo : k < l.length
    · have hcell := HC.out k (l[k]'hgo) (List.getElem?_eq_getElem hgo)
      have HS := Lib.hid (foldW_snoc .and 18446744073709551615 l k hgo)
      go_wp2
      go_round
      case rel => exact ⟨k + 1, by go_num, hgo, by rw [HS.out]⟩
      case measure => simp [intOf]; omega
    · have HE := Lib.hid (show l.take k = l from List.take_of_length_le (by omega))
      go_wp2
      go_ret
      exact ⟨by rw [HE.out]; rfl, n, rfl⟩
theorem some_any (A : Option Addr) (c : Nat) (l : List Int) (S : Nat → Prop) (w : World) (hw : Wts w) (ha : SlR w S .u64 A l) (h0 : 0 < l.length) (hl : l.length ≤ 1000) :
    Calls Tryd.prog 22 #[.slice A l.length c] w fun e w' => e = .returned (.int .u64 (foldW .or 0 l)) ∧ ∃ n, w' = w.drewN n := by
  obtain ⟨b, o, rfl, _, hc⟩ := ha h0
  have HC := Lib.hid hc
  clear hc ha
  go_enter Tryd.func22, Tryd.ntmps22
  go_wp2_with (fail)
  refine (of_nil _ hw).mono ?_
  rintro e w1 ⟨rfl, n, rfl⟩
  go_wp2
  go_loop [3, 9] (fun m i => ∃ k : Nat, i = .int .i64 k ∧ k ≤ l.length ∧ m = .int .u64 (foldW .or 0 (l.take k))) (fun _ i => l.length - (intOf i).toNat)
  case atStart => exact ⟨0, rfl, Nat.zero_le _, rfl⟩
  case round =>
    obtain ⟨k, rfl, hk, rfl⟩ := hrel
    by_cases hgo : k < l.length
    · have hcell := HC.out k (l[k]'hgo) (List.getElem?_eq_getElem hgo)
      have HS := Lib.hid (foldW_snoc .or 0 l k hgo)
      go_wp2
      go_round
      case rel => exact ⟨k + 1, by go_num, hgo, by rw [HS.out]⟩
      case measure => simp [intOf]; omega
    · have HE := Lib.hid (show l.take k = l from List.take_of_length_le (by omega))
      go_wp2
      go_ret
      exact ⟨by rw [HE.out]; rfl, n, rfl⟩
theorem all_2 (p q : Bool) : foldW .and 18446744073709551615 [mk p, mk q] = mk (p && q) := by
  cases p <;> cases q <;> decide +kernel
theorem gAll2 {c : Ctx} {g : Gh} {w : World} {p q : Bool} {v : Value} (hI : RInv c g w) (hw : Wts c.W0) (h : WsR [mk p, mk q] v g w) : Calls Tryd.prog 20 #[v] w (Gives (fun v _ _ => v = .int .u64 (mk (p && q))) g w) := by
  obtain ⟨A, c, rfl, _, hs⟩ := h
  refine (all_any A c _ _ w (hw.below hI.below) hs (by simp) (by simp)).mono ?_
  rintro e w' ⟨rfl, n, rfl⟩
  exact ⟨_, rfl, by rw [all_2], below_drewN' (Below.refl _ _) n⟩
theorem some_2 (p q : Bool) : foldW .or 0 [mk p, mk q] = mk (p || q) := by
  cases p <;> cases q <;> decide +kernel
theorem gSome2 {c : Ctx} {g : Gh} {w : World} {p q : Bool} {v : Value} (hI : RInv c g w) (hw : Wts c.W0) (h : WsR [mk p, mk q] v g w) : Calls Tryd.prog 22 #[v] w (Gives (fun v _ _ => v = .int .u64 (mk (p || q))) g w) := by
  obtain ⟨A, c, rfl, _, hs⟩ := h
  refine (some_any A c _ _ w (hw.below hI.below) hs (by simp) (by simp)).mono ?_
  rintro e w' ⟨rfl, n, rfl⟩
  exact ⟨_, rfl, by rw [some_2], below_drewN' (Below.refl _ _) n⟩
theorem all_3 (p q r : Bool) : foldW .and 18446744073709551615 [mk p, mk q, mk r] = mk (p && q && r) := by
  cases p <;> cases q <;> cases r <;> decide +kernel
theorem gAll3 {c : Ctx} {g : Gh} {w : World} {p q r : Bool} {v : Value} (hI : RInv c g w) (hw : Wts c.W0) (h : WsR [mk p, mk q, mk r] v g w) : Calls Tryd.prog 20 #[v] w (Gives (fun v _ _ => v = .int .u64 (mk (p && q && r))) g w) := by
  obtain ⟨A, c, rfl, _, hs⟩ := h
  refine (all_any A c _ _ w (hw.below hI.below) hs (by simp) (by simp)).mono ?_
  rintro e w' ⟨rfl, n, rfl⟩
  exact ⟨_, rfl, by rw [all_3], below_drewN' (Below.refl _ _) n⟩
theorem some_3 (p q r : Bool) : foldW .or 0 [mk p, mk q, mk r] = mk (p || q || r) := by
  cases p <;> cases q <;> cases r <;> decide +kernel
theorem gSome3 {c : Ctx} {g : Gh} {w : World} {p q r : Bool} {v : Value} (hI : RInv c g w) (hw : Wts c.W0) (h : WsR [mk p, mk q, mk r] v g w) : Calls Tryd.prog 22 #[v] w (Gives (fun v _ _ => v = .int .u64 (mk (p || q || r))) g w) := by
  obtain ⟨A, c, rfl, _, hs⟩ := h
  refine (some_any A c _ _ w (hw.below hI.below) hs (by simp) (by simp)).mono ?_
  rintro e w' ⟨rfl, n, rfl⟩
  exact ⟨_, rfl, by rw [some_3], below_drewN' (Below.refl _ _) n⟩
theorem gNegative {c : Ctx} {g : Gh} {w : World} {x : Int} {v : Value} (hI : RInv c g w) (hw : Wts c.W0) (h : SignR x v g w) : Calls Tryd.prog 30 #[v] w (Gives (fun v _ _ => v = .int .u64 (mk (decide (x < 0)))) g w) := by
  obtain ⟨s, rfl, rfl⟩ := h
  have hb := sign_bd' x
  refine (negative_any x.sign (by unfold S; omega) w (hw.below hI.below)).mono ?_
  rintro e w' ⟨rfl, n, rfl⟩
  exact ⟨_, rfl, by congr 2; rw [decide_eq_decide, Int.sign_neg_iff], below_drewN' (Below.refl _ _) n⟩
set_option maxRecDepth 100000 in
set_option maxHeartbeats 4000000 in
theorem gSegWithin {c0 : Ctx} {g0 : Gh} {w : World} {a b x : Int} (hI0 : RInv c0 g0 w) (hw : Wts c0.W0) (sa : S a) (sb : S b) (sx : S x) :
    Calls Tryd.prog 10 #[.int .i64 a, .int .i64 b, .int .i64 x] w (Gives (fun v _ _ => v = .int .u64 (mk (withB a b x))) g0 w) := by
  have hw1 := hw.below hI0.below
  obtain ⟨W, hW⟩ : ∃ W, W = w := ⟨_, rfl⟩
  have hb0 : Below w.heap.size w W := by rw [hW]; exact (Below.refl _ _)
  have HOK := Ctx.ok_lift0 hI0 hb0
  have HW := Lib.hid hW
  clear hW
  go_enter Tryd.func10, Tryd.ntmps10
  go_upto_region 1 with (fail)
  rw [← HW.out]
  refine box_plan0 (c := ⟨w, W, (lift0 g0)⟩) HOK [[], [], [(9, 0), (10, 1)], [], [], [(12, 3), (13, 4)], [(11, 2), (14, 5)], [(15, 6)], [(16, 7)]] [(9, 0), (10, 1), (11, 2), (12, 3), (13, 4), (14, 5), (15, 6), (16, 7), (7, 8)] [
      (fun v _ _ => v = .int .i64 x),
      (fun v _ _ => v = .int .i64 a),
      (fun v _ _ => v = .int .u64 (mk (decide (x < a)))),
      (fun v _ _ => v = .int .i64 x),
      (fun v _ _ => v = .int .i64 b),
      (fun v _ _ => v = .int .u64 (mk (decide (x < b)))),
      WsR ([(mk (decide (x < a))), (mk (decide (x < b)))]),
      (fun v _ _ => v = .int .u64 (mk ((decide (x < a)) && (decide (x < b))))),
      (fun v _ _ => v = .int .u64 (mk ((decide (x < a)) && (decide (x < b)))))
    ] (fun _ => none) (by kernel_rfl) (by kernel_rfl) ⟨stab_eq, stab_eq, stab_eq, stab_eq, stab_eq, stab_eq, stab_firm (wsR_firm _), stab_eq, stab_eq, trivial⟩ ?steps ?fin
  case steps =>
    refine ⟨?_, ?_, ?_, ?_, ?_, ?_, ?_, ?_, ?_, trivial⟩
    · intro vs g w2 hI hF hR K hK
      simp only [Facts, fill, Act.put, z1, z2, z3, z4, z5, Nat.reduceAdd] at hF hR hK ⊢
      go_simp
      exact hK _ _ _ hI (Step.refl hI) rfl
    · intro vs g w2 hI hF hR K hK
      simp only [Facts, fill, Act.put, z1, z2, z3, z4, z5, Nat.reduceAdd] at hF hR hK ⊢
      go_simp
      exact hK _ _ _ hI (Step.refl hI) rfl
    · intro vs g w2 hI hF hR K hK
      simp only [Facts, fill, Act.put, z1, z2, z3, z4, z5, Nat.reduceAdd] at hF hR hK ⊢
      obtain ⟨r0, r1, -⟩ := hR
      generalize vs 0 = x0, vs 1 = x1 at *
      subst r0 r1
      go_simp
      refine (gLess hI hw1 (by first | assumption | (unfold S; decide)) (by first | assumption | (unfold S; decide))).mono ?_
      rintro e w3 ⟨v3, rfl, hv, hb⟩
      exact hK _ _ _ (hI.call hb) (Step.call hI hb) hv
    · intro vs g w2 hI hF hR K hK
      simp only [Facts, fill, Act.put, z1, z2, z3, z4, z5, Nat.reduceAdd] at hF hR hK ⊢
      go_simp
      exact hK _ _ _ hI (Step.refl hI) rfl
    · intro vs g w2 hI hF hR K hK
      simp only [Facts, fill, Act.put, z1, z2, z3, z4, z5, Nat.reduceAdd] at hF hR hK ⊢
      go_simp
      exact hK _ _ _ hI (Step.refl hI) rfl
    · intro vs g w2 hI hF hR K hK
      simp only [Facts, fill, Act.put, z1, z2, z3, z4, z5, Nat.reduceAdd] at hF hR hK ⊢
      obtain ⟨r3, r4, -⟩ := hR
      generalize vs 3 = x3, vs 4 = x4 at *
      subst r3 r4
      go_simp
      refine (gLess hI hw1 (by first | assumption | (unfold S; decide)) (by first | assumption | (unfold S; decide))).mono ?_
      rintro e w3 ⟨v3, rfl, hv, hb⟩
      exact hK _ _ _ (hI.call hb) (Step.call hI hb) hv
    · intro vs g w2 hI hF hR K hK
      simp only [Facts, fill, Act.put, z1, z2, z3, z4, z5, Nat.reduceAdd] at hF hR hK ⊢
      obtain ⟨r2, r5, -⟩ := hR
      generalize vs 2 = x2, vs 5 = x5 at *
      subst r2 r5
      go_simp
      have hb : Below w2.heap.size w2 (w2.alloc (.cells #[.int .u64 (mk (decide (x < a))), .int .u64 (mk (decide (x < b)))] 23)) := (Below.refl _ _).alloc (Nat.le_refl _) _
      exact hK _ _ _ (hI.call hb) (Step.call hI hb) (lit_ws hI [(mk (decide (x < a))), (mk (decide (x < b)))])
    · intro vs g w2 hI hF hR K hK
      simp only [Facts, fill, Act.put, z1, z2, z3, z4, z5, Nat.reduceAdd] at hF hR hK ⊢
      obtain ⟨r6, -⟩ := hR
      generalize vs 6 = x6 at *
      go_simp
      refine (gAll2 hI hw1 r6).mono ?_
      rintro e w3 ⟨v3, rfl, hv, hb⟩
      exact hK _ _ _ (hI.call hb) (Step.call hI hb) hv
    · intro vs g w2 hI hF hR K hK
      simp only [Facts, fill, Act.put, z1, z2, z3, z4, z5, Nat.reduceAdd] at hF hR hK ⊢
      obtain ⟨r7, -⟩ := hR
      generalize vs 7 = x7 at *
      subst r7
      go_simp
      exact hK _ _ _ hI (Step.refl hI) rfl
  case fin =>
    intro vs g wR1 hI hR
    have r8 := hR 8 (by decide)
    simp only [fill, Act.put, z1, z2, z3, z4, z5] at r8 ⊢
    clear hR
    generalize vs 8 = x8 at *
    subst r8
    have hBR1 := hI.below
    have HCR1 := hI.next HOK
    clear hI
    go_upto_region 2 with (fail)
    refine box_plan0 (c := ⟨w, wR1, (lift0 g0)⟩) HCR1 [[], [], [(17, 0), (18, 1)], [], [], [(20, 3), (21, 4)], [(19, 2), (22, 5)], [(23, 6)], [(24, 7)]] [(17, 0), (18, 1), (19, 2), (20, 3), (21, 4), (22, 5), (23, 6), (24, 7), (8, 8)] [
        (fun v _ _ => v = .int .i64 a),
        (fun v _ _ => v = .int .i64 x),
        (fun v _ _ => v = .int .u64 (mk (decide (a < x)))),
        (fun v _ _ => v = .int .i64 b),
        (fun v _ _ => v = .int .i64 x),
        (fun v _ _ => v = .int .u64 (mk (decide (b < x)))),
        WsR ([(mk (decide (a < x))), (mk (decide (b < x)))]),
        (fun v _ _ => v = .int .u64 (mk ((decide (a < x)) && (decide (b < x))))),
        (fun v _ _ => v = .int .u64 (mk ((decide (a < x)) && (decide (b < x)))))
      ] (fun _ => none) (by kernel_rfl) (by kernel_rfl) ⟨stab_eq, stab_eq, stab_eq, stab_eq, stab_eq, stab_eq, stab_firm (wsR_firm _), stab_eq, stab_eq, trivial⟩ ?steps ?fin
    case steps =>
      refine ⟨?_, ?_, ?_, ?_, ?_, ?_, ?_, ?_, ?_, trivial⟩
      · intro vs g w2 hI hF hR K hK
        simp only [Facts, fill, Act.put, z1, z2, z3, z4, z5, Nat.reduceAdd] at hF hR hK ⊢
        go_simp
        exact hK _ _ _ hI (Step.refl hI) rfl
      · intro vs g w2 hI hF hR K hK
        simp only [Facts, fill, Act.put, z1, z2, z3, z4, z5, Nat.reduceAdd] at hF hR hK ⊢
        go_simp
        exact hK _ _ _ hI (Step.refl hI) rfl
      · intro vs g w2 hI hF hR K hK
        simp only [Facts, fill, Act.put, z1, z2, z3, z4, z5, Nat.reduceAdd] at hF hR hK ⊢
        obtain ⟨r0, r1, -⟩ := hR
        generalize vs 0 = x0, vs 1 = x1 at *
        subst r0 r1
        go_simp
        refine (gLess hI hw1 (by first | assumption | (unfold S; decide)) (by first | assumption | (unfold S; decide))).mono ?_
        rintro e w3 ⟨v3, rfl, hv, hb⟩
        exact hK _ _ _ (hI.call hb) (Step.call hI hb) hv
      · intro vs g w2 hI hF hR K hK
        simp only [Facts, fill, Act.put, z1, z2, z3, z4, z5, Nat.reduceAdd] at hF hR hK ⊢
        go_simp
        exact hK _ _ _ hI (Step.refl hI) rfl
      · intro vs g w2 hI hF hR K hK
        simp only [Facts, fill, Act.put, z1, z2, z3, z4, z5, Nat.reduceAdd] at hF hR hK ⊢
        go_simp
        exact hK _ _ _ hI (Step.refl hI) rfl
      · intro vs g w2 hI hF hR K hK
        simp only [Facts, fill, Act.put, z1, z2, z3, z4, z5, Nat.reduceAdd] at hF hR hK ⊢
        obtain ⟨r3, r4, -⟩ := hR
        generalize vs 3 = x3, vs 4 = x4 at *
        subst r3 r4
        go_simp
        refine (gLess hI hw1 (by first | assumption | (unfold S; decide)) (by first | assumption | (unfold S; decide))).mono ?_
        rintro e w3 ⟨v3, rfl, hv, hb⟩
        exact hK _ _ _ (hI.call hb) (Step.call hI hb) hv
      · intro vs g w2 hI hF hR K hK
        simp only [Facts, fill, Act.put, z1, z2, z3, z4, z5, Nat.reduceAdd] at hF hR hK ⊢
        obtain ⟨r2, r5, -⟩ := hR
        generalize vs 2 = x2, vs 5 = x5 at *
        subst r2 r5
        go_simp
        have hb : Below w2.heap.size w2 (w2.alloc (.cells #[.int .u64 (mk (decide (a < x))), .int .u64 (mk (decide (b < x)))] 23)) := (Below.refl _ _).alloc (Nat.le_refl _) _
        exact hK _ _ _ (hI.call hb) (Step.call hI hb) (lit_ws hI [(mk (decide (a < x))), (mk (decide (b < x)))])
      · intro vs g w2 hI hF hR K hK
        simp only [Facts, fill, Act.put, z1, z2, z3, z4, z5, Nat.reduceAdd] at hF hR hK ⊢
        obtain ⟨r6, -⟩ := hR
        generalize vs 6 = x6 at *
        go_simp
        refine (gAll2 hI hw1 r6).mono ?_
        rintro e w3 ⟨v3, rfl, hv, hb⟩
        exact hK _ _ _ (hI.call hb) (Step.call hI hb) hv
      · intro vs g w2 hI hF hR K hK
        simp only [Facts, fill, Act.put, z1, z2, z3, z4, z5, Nat.reduceAdd] at hF hR hK ⊢
        obtain ⟨r7, -⟩ := hR
        generalize vs 7 = x7 at *
        subst r7
        go_simp
        exact hK _ _ _ hI (Step.refl hI) rfl
    case fin =>
      intro vs g wR2 hI hR
      have r8 := hR 8 (by decide)
      simp only [fill, Act.put, z1, z2, z3, z4, z5] at r8 ⊢
      clear hR
      generalize vs 8 = x8 at *
      subst r8
      have hBR2 := hI.below
      have HCR2 := hI.next HCR1
      clear hI
      go_upto_region 3 with (fail)
      refine box_plan0 (c := ⟨w, wR2, (lift0 g0)⟩) HCR2 [[], [], [(25, 0), (26, 1)], [(27, 2)], [(28, 3)], [(29, 4)]] [(25, 0), (26, 1), (27, 2), (28, 3), (29, 4), (6, 5)] [
          (fun v _ _ => v = .int .u64 (mk ((decide (x < a)) && (decide (x < b))))),
          (fun v _ _ => v = .int .u64 (mk ((decide (a < x)) && (decide (b < x))))),
          WsR ([(mk ((decide (x < a)) && (decide (x < b)))), (mk ((decide (a < x)) && (decide (b < x))))]),
          (fun v _ _ => v = .int .u64 (mk (((decide (x < a)) && (decide (x < b))) || ((decide (a < x)) && (decide (b < x)))))),
          (fun v _ _ => v = .int .u64 (mk (ngB (((decide (x < a)) && (decide (x < b))) || ((decide (a < x)) && (decide (b < x))))))),
          (fun v _ _ => v = .int .u64 (mk (ngB (((decide (x < a)) && (decide (x < b))) || ((decide (a < x)) && (decide (b < x)))))))
        ] (fun _ => none) (by kernel_rfl) (by kernel_rfl) ⟨stab_eq, stab_eq, stab_firm (wsR_firm _), stab_eq, stab_eq, stab_eq, trivial⟩ ?steps ?fin
      case steps =>
        refine ⟨?_, ?_, ?_, ?_, ?_, ?_, trivial⟩
        · intro vs g w2 hI hF hR K hK
          simp only [Facts, fill, Act.put, z1, z2, z3, z4, z5, Nat.reduceAdd] at hF hR hK ⊢
          go_simp
          exact hK _ _ _ hI (Step.refl hI) rfl
        · intro vs g w2 hI hF hR K hK
          simp only [Facts, fill, Act.put, z1, z2, z3, z4, z5, Nat.reduceAdd] at hF hR hK ⊢
          go_simp
          exact hK _ _ _ hI (Step.refl hI) rfl
        · intro vs g w2 hI hF hR K hK
          simp only [Facts, fill, Act.put, z1, z2, z3, z4, z5, Nat.reduceAdd] at hF hR hK ⊢
          obtain ⟨r0, r1, -⟩ := hR
          generalize vs 0 = x0, vs 1 = x1 at *
          subst r0 r1
          go_simp
          have hb : Below w2.heap.size w2 (w2.alloc (.cells #[.int .u64 (mk ((decide (x < a)) && (decide (x < b)))), .int .u64 (mk ((decide (a < x)) && (decide (b < x))))] 23)) := (Below.refl _ _).alloc (Nat.le_refl _) _
          exact hK _ _ _ (hI.call hb) (Step.call hI hb) (lit_ws hI [(mk ((decide (x < a)) && (decide (x < b)))), (mk ((decide (a < x)) && (decide (b < x))))])
        · intro vs g w2 hI hF hR K hK
          simp only [Facts, fill, Act.put, z1, z2, z3, z4, z5, Nat.reduceAdd] at hF hR hK ⊢
          obtain ⟨r2, -⟩ := hR
          generalize vs 2 = x2 at *
          go_simp
          refine (gSome2 hI hw1 r2).mono ?_
          rintro e w3 ⟨v3, rfl, hv, hb⟩
          exact hK _ _ _ (hI.call hb) (Step.call hI hb) hv
        · intro vs g w2 hI hF hR K hK
          simp only [Facts, fill, Act.put, z1, z2, z3, z4, z5, Nat.reduceAdd] at hF hR hK ⊢
          obtain ⟨r3, -⟩ := hR
          generalize vs 3 = x3 at *
          subst r3
          have hz := congrArg (Value.int .u64) (mk_not (((decide (x < a)) && (decide (x < b))) || ((decide (a < x)) && (decide (b < x)))))
          have hsg : IntKind.u64.signed = false := rfl
          go_simp
          exact hK _ _ _ hI (Step.refl hI) hz
        · intro vs g w2 hI hF hR K hK
          simp only [Facts, fill, Act.put, z1, z2, z3, z4, z5, Nat.reduceAdd] at hF hR hK ⊢
          obtain ⟨r4, -⟩ := hR
          generalize vs 4 = x4 at *
          subst r4
          go_simp
          exact hK _ _ _ hI (Step.refl hI) rfl
      case fin =>
        intro vs g wR3 hI hR
        have r5 := hR 5 (by decide)
        simp only [fill, Act.put, z1, z2, z3, z4, z5] at r5 ⊢
        clear hR
        generalize vs 5 = x5 at *
        subst r5
        have hBR3 := hI.below
        have HCR3 := hI.next HCR2
        clear hI
        go_wp2
        go_ret
        exact ⟨_, rfl, congrArg (Value.int .u64) (with_lt a b x), hBR3⟩
set_option maxRecDepth 100000 in
set_option maxHeartbeats 4000000 in
theorem gSep {c0 : Ctx} {g0 : Gh} {w : World} {xa ya xb yb xc yc xd yd : Int} (hI0 : RInv c0 g0 w) (hw : Wts c0.W0) (sxa : S xa) (sya : S ya) (sxb : S xb) (syb : S yb) (sxc : S xc) (syc : S yc) (sxd : S xd) (syd : S yd) :
    Calls Tryd.prog 25 #[.agg #[.int .i64 xa, .int .i64 ya], .agg #[.int .i64 xb, .int .i64 yb], .agg #[.int .i64 xc, .int .i64 yc], .agg #[.int .i64 xd, .int .i64 yd]] w (Gives (fun v _ _ => v = .int .u64 (mk (oppB xa ya xb yb xc yc xd yd))) g0 w) := by
  have hw1 := hw.below hI0.below
  obtain ⟨W, hW⟩ : ∃ W, W = (((w.alloc (.cells #[.int .i64 xa, .int .i64 ya] 28)).alloc (.cells #[.int .i64 xb, .int .i64 yb] 28)).alloc (.cells #[.int .i64 xc, .int .i64 yc] 28)).alloc (.cells #[.int .i64 xd, .int .i64 yd] 28) := ⟨_, rfl⟩
  have hb0 : Below w.heap.size w W := by rw [hW]; exact (((((Below.refl _ _).alloc (Nat.le_refl _) _).alloc (by simp) _).alloc (by simp; omega) _).alloc (by simp; omega) _)
  have HOK := Ctx.ok_lift0 hI0 hb0
  have C0_W_0 := Lib.hid (show W.cell? ⟨w.heap.size, 0, none⟩ = some (.int .i64 xa) by rw [hW]; simp [go_sem])
  have C0_W_1 := Lib.hid (show W.cell? ⟨w.heap.size, 1, none⟩ = some (.int .i64 ya) by rw [hW]; simp [go_sem])
  have HO0 : Off (lift0 g0) (w.heap.size) := lift0_off (hI0.offs _ (by omega))
  have C1_W_0 := Lib.hid (show W.cell? ⟨w.heap.size + 1, 0, none⟩ = some (.int .i64 xb) by rw [hW]; simp [go_sem])
  have C1_W_1 := Lib.hid (show W.cell? ⟨w.heap.size + 1, 1, none⟩ = some (.int .i64 yb) by rw [hW]; simp [go_sem])
  have HO1 : Off (lift0 g0) (w.heap.size + 1) := lift0_off (hI0.offs _ (by omega))
  have C2_W_0 := Lib.hid (show W.cell? ⟨w.heap.size + 1 + 1, 0, none⟩ = some (.int .i64 xc) by rw [hW]; simp [go_sem])
  have C2_W_1 := Lib.hid (show W.cell? ⟨w.heap.size + 1 + 1, 1, none⟩ = some (.int .i64 yc) by rw [hW]; simp [go_sem])
  have HO2 : Off (lift0 g0) (w.heap.size + 1 + 1) := lift0_off (hI0.offs _ (by omega))
  have C3_W_0 := Lib.hid (show W.cell? ⟨w.heap.size + 1 + 1 + 1, 0, none⟩ = some (.int .i64 xd) by rw [hW]; simp [go_sem])
  have C3_W_1 := Lib.hid (show W.cell? ⟨w.heap.size + 1 + 1 + 1, 1, none⟩ = some (.int .i64 yd) by rw [hW]; simp [go_sem])
  have HO3 : Off (lift0 g0) (w.heap.size + 1 + 1 + 1) := lift0_off (hI0.offs _ (by omega))
  have HW := Lib.hid hW
  clear hW
  go_enter Tryd.func25, Tryd.ntmps25
  go_upto_region 1 with (fail)
  rw [← HW.out]
  refine box_plan (c := ⟨w, W, (lift0 g0)⟩) HOK (by kernel_rfl) [[], [], [], [(9, 0), (10, 1), (11, 2)], [], [], [], [(13, 4), (14, 5), (15, 6)], [(12, 3), (16, 7)], [(17, 8)], [(18, 9)]] [(9, 0), (10, 1), (11, 2), (12, 3), (13, 4), (14, 5), (15, 6), (16, 7), (17, 8), (18, 9), (8, 10)] [
      (fun v _ _ => v = .agg #[.int .i64 xa, .int .i64 ya]),
      (fun v _ _ => v = .agg #[.int .i64 xb, .int .i64 yb]),
      (fun v _ _ => v = .agg #[.int .i64 xc, .int .i64 yc]),
      SignR (det xa ya xb yb xc yc),
      (fun v _ _ => v = .agg #[.int .i64 xa, .int .i64 ya]),
      (fun v _ _ => v = .agg #[.int .i64 xb, .int .i64 yb]),
      (fun v _ _ => v = .agg #[.int .i64 xd, .int .i64 yd]),
      SignR (det xa ya xb yb xd yd),
      SignR ((det xa ya xb yb xc yc) * (det xa ya xb yb xd yd)),
      (fun v _ _ => v = .int .u64 (mk (decide (((det xa ya xb yb xc yc) * (det xa ya xb yb xd yd)) < 0)))),
      (fun v _ _ => v = .int .u64 (mk (decide (((det xa ya xb yb xc yc) * (det xa ya xb yb xd yd)) < 0))))
    ] (fun _ => none) (by kernel_rfl) (by kernel_rfl) ⟨stab_eq, stab_eq, stab_eq, stab_firm (signR_firm _), stab_eq, stab_eq, stab_eq, stab_firm (signR_firm _), stab_firm (signR_firm _), stab_eq, stab_eq, trivial⟩ ?steps ?fin
  case steps =>
    refine ⟨?_, ?_, ?_, ?_, ?_, ?_, ?_, ?_, ?_, ?_, ?_, trivial⟩
    · intro vs g w2 hI hF hR K hK
      simp only [Facts, fill, Act.put, z1, z2, z3, z4, z5, Nat.reduceAdd] at hF hR hK ⊢
      have k0 := hI.cell C0_W_0.out (by first | exact HO0 | exact HO1 | exact HO2 | exact HO3 | assumption)
      have k1 := hI.cell C0_W_1.out (by first | exact HO0 | exact HO1 | exact HO2 | exact HO3 | assumption)
      go_simp
      exact hK _ _ _ hI (Step.refl hI) rfl
    · intro vs g w2 hI hF hR K hK
      simp only [Facts, fill, Act.put, z1, z2, z3, z4, z5, Nat.reduceAdd] at hF hR hK ⊢
      have k0 := hI.cell C1_W_0.out (by first | exact HO0 | exact HO1 | exact HO2 | exact HO3 | assumption)
      have k1 := hI.cell C1_W_1.out (by first | exact HO0 | exact HO1 | exact HO2 | exact HO3 | assumption)
      go_simp
      exact hK _ _ _ hI (Step.refl hI) rfl
    · intro vs g w2 hI hF hR K hK
      simp only [Facts, fill, Act.put, z1, z2, z3, z4, z5, Nat.reduceAdd] at hF hR hK ⊢
      have k0 := hI.cell C2_W_0.out (by first | exact HO0 | exact HO1 | exact HO2 | exact HO3 | assumption)
      have k1 := hI.cell C2_W_1.out (by first | exact HO0 | exact HO1 | exact HO2 | exact HO3 | assumption)
      go_simp
      exact hK _ _ _ hI (Step.refl hI) rfl
    · intro vs g w2 hI hF hR K hK
      simp only [Facts, fill, Act.put, z1, z2, z3, z4, z5, Nat.reduceAdd] at hF hR hK ⊢
      obtain ⟨r0, r1, r2, -⟩ := hR
      generalize vs 0 = x0, vs 1 = x1, vs 2 = x2 at *
      subst r0 r1 r2
      go_simp
      refine (gOrientSign hI hw1 (by first | assumption | (unfold S; decide)) (by first | assumption | (unfold S; decide)) (by first | assumption | (unfold S; decide)) (by first | assumption | (unfold S; decide)) (by first | assumption | (unfold S; decide)) (by first | assumption | (unfold S; decide))).mono ?_
      rintro e w3 ⟨v3, rfl, hv, hb⟩
      exact hK _ _ _ (hI.call hb) (Step.call hI hb) hv
    · intro vs g w2 hI hF hR K hK
      simp only [Facts, fill, Act.put, z1, z2, z3, z4, z5, Nat.reduceAdd] at hF hR hK ⊢
      have k0 := hI.cell C0_W_0.out (by first | exact HO0 | exact HO1 | exact HO2 | exact HO3 | assumption)
      have k1 := hI.cell C0_W_1.out (by first | exact HO0 | exact HO1 | exact HO2 | exact HO3 | assumption)
      go_simp
      exact hK _ _ _ hI (Step.refl hI) rfl
    · intro vs g w2 hI hF hR K hK
      simp only [Facts, fill, Act.put, z1, z2, z3, z4, z5, Nat.reduceAdd] at hF hR hK ⊢
      have k0 := hI.cell C1_W_0.out (by first | exact HO0 | exact HO1 | exact HO2 | exact HO3 | assumption)
      have k1 := hI.cell C1_W_1.out (by first | exact HO0 | exact HO1 | exact HO2 | exact HO3 | assumption)
      go_simp
      exact hK _ _ _ hI (Step.refl hI) rfl
    · intro vs g w2 hI hF hR K hK
      simp only [Facts, fill, Act.put, z1, z2, z3, z4, z5, Nat.reduceAdd] at hF hR hK ⊢
      have k0 := hI.cell C3_W_0.out (by first | exact HO0 | exact HO1 | exact HO2 | exact HO3 | assumption)
      have k1 := hI.cell C3_W_1.out (by first | exact HO0 | exact HO1 | exact HO2 | exact HO3 | assumption)
      go_simp
      exact hK _ _ _ hI (Step.refl hI) rfl
    · intro vs g w2 hI hF hR K hK
      simp only [Facts, fill, Act.put, z1, z2, z3, z4, z5, Nat.reduceAdd] at hF hR hK ⊢
      obtain ⟨r4, r5, r6, -⟩ := hR
      generalize vs 4 = x4, vs 5 = x5, vs 6 = x6 at *
      subst r4 r5 r6
      go_simp
      refine (gOrientSign hI hw1 (by first | assumption | (unfold S; decide)) (by first | assumption | (unfold S; decide)) (by first | assumption | (unfold S; decide)) (by first | assumption | (unfold S; decide)) (by first | assumption | (unfold S; decide)) (by first | assumption | (unfold S; decide))).mono ?_
      rintro e w3 ⟨v3, rfl, hv, hb⟩
      exact hK _ _ _ (hI.call hb) (Step.call hI hb) hv
    · intro vs g w2 hI hF hR K hK
      simp only [Facts, fill, Act.put, z1, z2, z3, z4, z5, Nat.reduceAdd] at hF hR hK ⊢
      obtain ⟨r3, r7, -⟩ := hR
      generalize vs 3 = x3, vs 7 = x7 at *
      have q3 := r3
      obtain ⟨s3, rfl, -⟩ := r3
      have q7 := r7
      obtain ⟨s7, rfl, -⟩ := r7
      obtain ⟨he, hn⟩ := signR_mul q3 q7
      clear q3
      clear q7
      go_simp
      exact hK _ _ _ hI (Step.refl hI) hn
    · intro vs g w2 hI hF hR K hK
      simp only [Facts, fill, Act.put, z1, z2, z3, z4, z5, Nat.reduceAdd] at hF hR hK ⊢
      obtain ⟨r8, -⟩ := hR
      generalize vs 8 = x8 at *
      go_simp
      refine (gNegative hI hw1 r8).mono ?_
      rintro e w3 ⟨v3, rfl, hv, hb⟩
      exact hK _ _ _ (hI.call hb) (Step.call hI hb) hv
    · intro vs g w2 hI hF hR K hK
      simp only [Facts, fill, Act.put, z1, z2, z3, z4, z5, Nat.reduceAdd] at hF hR hK ⊢
      obtain ⟨r9, -⟩ := hR
      generalize vs 9 = x9 at *
      subst r9
      go_simp
      exact hK _ _ _ hI (Step.refl hI) rfl
  case fin =>
    intro vs g wR1 hI hR
    have r10 := hR 10 (by decide)
    simp only [fill, Act.put, z1, z2, z3, z4, z5] at r10 ⊢
    clear hR
    generalize vs 10 = x10 at *
    have C0_R1_0 := Lib.hid (hI.cell C0_W_0.out (by first | exact HO0 | exact HO1 | exact HO2 | exact HO3 | assumption))
    have C0_R1_1 := Lib.hid (hI.cell C0_W_1.out (by first | exact HO0 | exact HO1 | exact HO2 | exact HO3 | assumption))
    have C1_R1_0 := Lib.hid (hI.cell C1_W_0.out (by first | exact HO0 | exact HO1 | exact HO2 | exact HO3 | assumption))
    have C1_R1_1 := Lib.hid (hI.cell C1_W_1.out (by first | exact HO0 | exact HO1 | exact HO2 | exact HO3 | assumption))
    have C2_R1_0 := Lib.hid (hI.cell C2_W_0.out (by first | exact HO0 | exact HO1 | exact HO2 | exact HO3 | assumption))
    have C2_R1_1 := Lib.hid (hI.cell C2_W_1.out (by first | exact HO0 | exact HO1 | exact HO2 | exact HO3 | assumption))
    have C3_R1_0 := Lib.hid (hI.cell C3_W_0.out (by first | exact HO0 | exact HO1 | exact HO2 | exact HO3 | assumption))
    have C3_R1_1 := Lib.hid (hI.cell C3_W_1.out (by first | exact HO0 | exact HO1 | exact HO2 | exact HO3 | assumption))
    subst r10
    have hBR1 := hI.below
    have HCR1 := hI.next HOK
    clear hI
    go_wp2
    go_ret
    exact ⟨_, rfl, rfl, hBR1⟩
set_option maxRecDepth 100000 in
set_option maxHeartbeats 4000000 in
theorem gSegContains {c0 : Ctx} {g0 : Gh} {w : World} {xa ya xb yb xp yp : Int} (hI0 : RInv c0 g0 w) (hw : Wts c0.W0) (sxa : S xa) (sya : S ya) (sxb : S xb) (syb : S yb) (sxp : S xp) (syp : S yp) :
    Calls Tryd.prog 13 #[.agg #[.int .i64 xa, .int .i64 ya], .agg #[.int .i64 xb, .int .i64 yb], .agg #[.int .i64 xp, .int .i64 yp]] w (Gives (fun v _ _ => v = .int .u64 (mk (contB xa ya xb yb xp yp))) g0 w) := by
  have hw1 := hw.below hI0.below
  obtain ⟨W, hW⟩ : ∃ W, W = ((w.alloc (.cells #[.int .i64 xa, .int .i64 ya] 28)).alloc (.cells #[.int .i64 xb, .int .i64 yb] 28)).alloc (.cells #[.int .i64 xp, .int .i64 yp] 28) := ⟨_, rfl⟩
  have hb0 : Below w.heap.size w W := by rw [hW]; exact ((((Below.refl _ _).alloc (Nat.le_refl _) _).alloc (by simp) _).alloc (by simp; omega) _)
  have HOK := Ctx.ok_lift0 hI0 hb0
  have C0_W_0 := Lib.hid (show W.cell? ⟨w.heap.size, 0, none⟩ = some (.int .i64 xa) by rw [hW]; simp [go_sem])
  have C0_W_1 := Lib.hid (show W.cell? ⟨w.heap.size, 1, none⟩ = some (.int .i64 ya) by rw [hW]; simp [go_sem])
  have HO0 : Off (lift0 g0) (w.heap.size) := lift0_off (hI0.offs _ (by omega))
  have C1_W_0 := Lib.hid (show W.cell? ⟨w.heap.size + 1, 0, none⟩ = some (.int .i64 xb) by rw [hW]; simp [go_sem])
  have C1_W_1 := Lib.hid (show W.cell? ⟨w.heap.size + 1, 1, none⟩ = some (.int .i64 yb) by rw [hW]; simp [go_sem])
  have HO1 : Off (lift0 g0) (w.heap.size + 1) := lift0_off (hI0.offs _ (by omega))
  have C2_W_0 := Lib.hid (show W.cell? ⟨w.heap.size + 1 + 1, 0, none⟩ = some (.int .i64 xp) by rw [hW]; simp [go_sem])
  have C2_W_1 := Lib.hid (show W.cell? ⟨w.heap.size + 1 + 1, 1, none⟩ = some (.int .i64 yp) by rw [hW]; simp [go_sem])
  have HO2 : Off (lift0 g0) (w.heap.size + 1 + 1) := lift0_off (hI0.offs _ (by omega))
  have HW := Lib.hid hW
  clear hW
  go_enter Tryd.func13, Tryd.ntmps13
  go_upto_region 1 with (fail)
  rw [← HW.out]
  refine box_plan (c := ⟨w, W, (lift0 g0)⟩) HOK (by kernel_rfl) [[], [], [], [(7, 0), (8, 1), (9, 2)], [], [(11, 4)], [], [(13, 6)], [], [(15, 8)], [(12, 5), (14, 7), (16, 9)], [], [(18, 11)], [], [(20, 13)], [], [(22, 15)], [(19, 12), (21, 14), (23, 16)], [(10, 3), (17, 10), (24, 17)], [(25, 18)], [(26, 19)]] [(7, 0), (8, 1), (9, 2), (10, 3), (11, 4), (12, 5), (13, 6), (14, 7), (15, 8), (16, 9), (17, 10), (18, 11), (19, 12), (20, 13), (21, 14), (22, 15), (23, 16), (24, 17), (25, 18), (26, 19), (6, 20)] [
      (fun v _ _ => v = .agg #[.int .i64 xa, .int .i64 ya]),
      (fun v _ _ => v = .agg #[.int .i64 xb, .int .i64 yb]),
      (fun v _ _ => v = .agg #[.int .i64 xp, .int .i64 yp]),
      (fun v _ _ => v = .int .u64 (mk (decide (det xa ya xb yb xp yp = 0)))),
      (fun v _ _ => v = .pointer (some ⟨w.heap.size, 0, none⟩)),
      (fun v _ _ => v = .int .i64 xa),
      (fun v _ _ => v = .pointer (some ⟨w.heap.size + 1, 0, none⟩)),
      (fun v _ _ => v = .int .i64 xb),
      (fun v _ _ => v = .pointer (some ⟨w.heap.size + 1 + 1, 0, none⟩)),
      (fun v _ _ => v = .int .i64 xp),
      (fun v _ _ => v = .int .u64 (mk (withB xa xb xp))),
      (fun v _ _ => v = .pointer (some ⟨w.heap.size, 1, none⟩)),
      (fun v _ _ => v = .int .i64 ya),
      (fun v _ _ => v = .pointer (some ⟨w.heap.size + 1, 1, none⟩)),
      (fun v _ _ => v = .int .i64 yb),
      (fun v _ _ => v = .pointer (some ⟨w.heap.size + 1 + 1, 1, none⟩)),
      (fun v _ _ => v = .int .i64 yp),
      (fun v _ _ => v = .int .u64 (mk (withB ya yb yp))),
      WsR ([(mk (decide (det xa ya xb yb xp yp = 0))), (mk (withB xa xb xp)), (mk (withB ya yb yp))]),
      (fun v _ _ => v = .int .u64 (mk ((decide (det xa ya xb yb xp yp = 0)) && (withB xa xb xp) && (withB ya yb yp)))),
      (fun v _ _ => v = .int .u64 (mk ((decide (det xa ya xb yb xp yp = 0)) && (withB xa xb xp) && (withB ya yb yp))))
    ] (fun _ => none) (by kernel_rfl) (by kernel_rfl) ⟨stab_eq, stab_eq, stab_eq, stab_eq, stab_eq, stab_eq, stab_eq, stab_eq, stab_eq, stab_eq, stab_eq, stab_eq, stab_eq, stab_eq, stab_eq, stab_eq, stab_eq, stab_eq, stab_firm (wsR_firm _), stab_eq, stab_eq, trivial⟩ ?steps ?fin
  case steps =>
    refine ⟨?_, ?_, ?_, ?_, ?_, ?_, ?_, ?_, ?_, ?_, ?_, ?_, ?_, ?_, ?_, ?_, ?_, ?_, ?_, ?_, ?_, trivial⟩
    · intro vs g w2 hI hF hR K hK
      simp only [Facts, fill, Act.put, z1, z2, z3, z4, z5, Nat.reduceAdd] at hF hR hK ⊢
      have k0 := hI.cell C0_W_0.out (by first | exact HO0 | exact HO1 | exact HO2 | assumption)
      have k1 := hI.cell C0_W_1.out (by first | exact HO0 | exact HO1 | exact HO2 | assumption)
      go_simp
      exact hK _ _ _ hI (Step.refl hI) rfl
    · intro vs g w2 hI hF hR K hK
      simp only [Facts, fill, Act.put, z1, z2, z3, z4, z5, Nat.reduceAdd] at hF hR hK ⊢
      have k0 := hI.cell C1_W_0.out (by first | exact HO0 | exact HO1 | exact HO2 | assumption)
      have k1 := hI.cell C1_W_1.out (by first | exact HO0 | exact HO1 | exact HO2 | assumption)
      go_simp
      exact hK _ _ _ hI (Step.refl hI) rfl
    · intro vs g w2 hI hF hR K hK
      simp only [Facts, fill, Act.put, z1, z2, z3, z4, z5, Nat.reduceAdd] at hF hR hK ⊢
      have k0 := hI.cell C2_W_0.out (by first | exact HO0 | exact HO1 | exact HO2 | assumption)
      have k1 := hI.cell C2_W_1.out (by first | exact HO0 | exact HO1 | exact HO2 | assumption)
      go_simp
      exact hK _ _ _ hI (Step.refl hI) rfl
    · intro vs g w2 hI hF hR K hK
      simp only [Facts, fill, Act.put, z1, z2, z3, z4, z5, Nat.reduceAdd] at hF hR hK ⊢
      obtain ⟨r0, r1, r2, -⟩ := hR
      generalize vs 0 = x0, vs 1 = x1, vs 2 = x2 at *
      subst r0 r1 r2
      go_simp
      refine (gOrientCollinear hI hw1 (by first | assumption | (unfold S; decide)) (by first | assumption | (unfold S; decide)) (by first | assumption | (unfold S; decide)) (by first | assumption | (unfold S; decide)) (by first | assumption | (unfold S; decide)) (by first | assumption | (unfold S; decide))).mono ?_
      rintro e w3 ⟨v3, rfl, hv, hb⟩
      exact hK _ _ _ (hI.call hb) (Step.call hI hb) hv
    · intro vs g w2 hI hF hR K hK
      simp only [Facts, fill, Act.put, z1, z2, z3, z4, z5, Nat.reduceAdd] at hF hR hK ⊢
      go_simp
      exact hK _ _ _ hI (Step.refl hI) rfl
    · intro vs g w2 hI hF hR K hK
      simp only [Facts, fill, Act.put, z1, z2, z3, z4, z5, Nat.reduceAdd] at hF hR hK ⊢
      obtain ⟨r4, -⟩ := hR
      generalize vs 4 = x4 at *
      subst r4
      have k0 := hI.cell C0_W_0.out (by first | exact HO0 | exact HO1 | exact HO2 | assumption)
      go_simp
      exact hK _ _ _ hI (Step.refl hI) rfl
    · intro vs g w2 hI hF hR K hK
      simp only [Facts, fill, Act.put, z1, z2, z3, z4, z5, Nat.reduceAdd] at hF hR hK ⊢
      go_simp
      exact hK _ _ _ hI (Step.refl hI) rfl
    · intro vs g w2 hI hF hR K hK
      simp only [Facts, fill, Act.put, z1, z2, z3, z4, z5, Nat.reduceAdd] at hF hR hK ⊢
      obtain ⟨r6, -⟩ := hR
      generalize vs 6 = x6 at *
      subst r6
      have k0 := hI.cell C1_W_0.out (by first | exact HO0 | exact HO1 | exact HO2 | assumption)
      go_simp
      exact hK _ _ _ hI (Step.refl hI) rfl
    · intro vs g w2 hI hF hR K hK
      simp only [Facts, fill, Act.put, z1, z2, z3, z4, z5, Nat.reduceAdd] at hF hR hK ⊢
      go_simp
      exact hK _ _ _ hI (Step.refl hI) rfl
    · intro vs g w2 hI hF hR K hK
      simp only [Facts, fill, Act.put, z1, z2, z3, z4, z5, Nat.reduceAdd] at hF hR hK ⊢
      obtain ⟨r8, -⟩ := hR
      generalize vs 8 = x8 at *
      subst r8
      have k0 := hI.cell C2_W_0.out (by first | exact HO0 | exact HO1 | exact HO2 | assumption)
      go_simp
      exact hK _ _ _ hI (Step.refl hI) rfl
    · intro vs g w2 hI hF hR K hK
      simp only [Facts, fill, Act.put, z1, z2, z3, z4, z5, Nat.reduceAdd] at hF hR hK ⊢
      obtain ⟨r5, r7, r9, -⟩ := hR
      generalize vs 5 = x5, vs 7 = x7, vs 9 = x9 at *
      subst r5 r7 r9
      go_simp
      refine (gSegWithin hI hw1 (by first | assumption | (unfold S; decide)) (by first | assumption | (unfold S; decide)) (by first | assumption | (unfold S; decide))).mono ?_
      rintro e w3 ⟨v3, rfl, hv, hb⟩
      exact hK _ _ _ (hI.call hb) (Step.call hI hb) hv
    · intro vs g w2 hI hF hR K hK
      simp only [Facts, fill, Act.put, z1, z2, z3, z4, z5, Nat.reduceAdd] at hF hR hK ⊢
      go_simp
      exact hK _ _ _ hI (Step.refl hI) rfl
    · intro vs g w2 hI hF hR K hK
      simp only [Facts, fill, Act.put, z1, z2, z3, z4, z5, Nat.reduceAdd] at hF hR hK ⊢
      obtain ⟨r11, -⟩ := hR
      generalize vs 11 = x11 at *
      subst r11
      have k0 := hI.cell C0_W_1.out (by first | exact HO0 | exact HO1 | exact HO2 | assumption)
      go_simp
      exact hK _ _ _ hI (Step.refl hI) rfl
    · intro vs g w2 hI hF hR K hK
      simp only [Facts, fill, Act.put, z1, z2, z3, z4, z5, Nat.reduceAdd] at hF hR hK ⊢
      go_simp
      exact hK _ _ _ hI (Step.refl hI) rfl
    · intro vs g w2 hI hF hR K hK
      simp only [Facts, fill, Act.put, z1, z2, z3, z4, z5, Nat.reduceAdd] at hF hR hK ⊢
      obtain ⟨r13, -⟩ := hR
      generalize vs 13 = x13 at *
      subst r13
      have k0 := hI.cell C1_W_1.out (by first | exact HO0 | exact HO1 | exact HO2 | assumption)
      go_simp
      exact hK _ _ _ hI (Step.refl hI) rfl
    · intro vs g w2 hI hF hR K hK
      simp only [Facts, fill, Act.put, z1, z2, z3, z4, z5, Nat.reduceAdd] at hF hR hK ⊢
      go_simp
      exact hK _ _ _ hI (Step.refl hI) rfl
    · intro vs g w2 hI hF hR K hK
      simp only [Facts, fill, Act.put, z1, z2, z3, z4, z5, Nat.reduceAdd] at hF hR hK ⊢
      obtain ⟨r15, -⟩ := hR
      generalize vs 15 = x15 at *
      subst r15
      have k0 := hI.cell C2_W_1.out (by first | exact HO0 | exact HO1 | exact HO2 | assumption)
      go_simp
      exact hK _ _ _ hI (Step.refl hI) rfl
    · intro vs g w2 hI hF hR K hK
      simp only [Facts, fill, Act.put, z1, z2, z3, z4, z5, Nat.reduceAdd] at hF hR hK ⊢
      obtain ⟨r12, r14, r16, -⟩ := hR
      generalize vs 12 = x12, vs 14 = x14, vs 16 = x16 at *
      subst r12 r14 r16
      go_simp
      refine (gSegWithin hI hw1 (by first | assumption | (unfold S; decide)) (by first | assumption | (unfold S; decide)) (by first | assumption | (unfold S; decide))).mono ?_
      rintro e w3 ⟨v3, rfl, hv, hb⟩
      exact hK _ _ _ (hI.call hb) (Step.call hI hb) hv
    · intro vs g w2 hI hF hR K hK
      simp only [Facts, fill, Act.put, z1, z2, z3, z4, z5, Nat.reduceAdd] at hF hR hK ⊢
      obtain ⟨r3, r10, r17, -⟩ := hR
      generalize vs 3 = x3, vs 10 = x10, vs 17 = x17 at *
      subst r3 r10 r17
      go_simp
      have hb : Below w2.heap.size w2 (w2.alloc (.cells #[.int .u64 (mk (decide (det xa ya xb yb xp yp = 0))), .int .u64 (mk (withB xa xb xp)), .int .u64 (mk (withB ya yb yp))] 23)) := (Below.refl _ _).alloc (Nat.le_refl _) _
      exact hK _ _ _ (hI.call hb) (Step.call hI hb) (lit_ws hI [(mk (decide (det xa ya xb yb xp yp = 0))), (mk (withB xa xb xp)), (mk (withB ya yb yp))])
    · intro vs g w2 hI hF hR K hK
      simp only [Facts, fill, Act.put, z1, z2, z3, z4, z5, Nat.reduceAdd] at hF hR hK ⊢
      obtain ⟨r18, -⟩ := hR
      generalize vs 18 = x18 at *
      go_simp
      refine (gAll3 hI hw1 r18).mono ?_
      rintro e w3 ⟨v3, rfl, hv, hb⟩
      exact hK _ _ _ (hI.call hb) (Step.call hI hb) hv
    · intro vs g w2 hI hF hR K hK
      simp only [Facts, fill, Act.put, z1, z2, z3, z4, z5, Nat.reduceAdd] at hF hR hK ⊢
      obtain ⟨r19, -⟩ := hR
      generalize vs 19 = x19 at *
      subst r19
      go_simp
      exact hK _ _ _ hI (Step.refl hI) rfl
  case fin =>
    intro vs g wR1 hI hR
    have r20 := hR 20 (by decide)
    simp only [fill, Act.put, z1, z2, z3, z4, z5] at r20 ⊢
    clear hR
    generalize vs 20 = x20 at *
    have C0_R1_0 := Lib.hid (hI.cell C0_W_0.out (by first | exact HO0 | exact HO1 | exact HO2 | assumption))
    have C0_R1_1 := Lib.hid (hI.cell C0_W_1.out (by first | exact HO0 | exact HO1 | exact HO2 | assumption))
    have C1_R1_0 := Lib.hid (hI.cell C1_W_0.out (by first | exact HO0 | exact HO1 | exact HO2 | assumption))
    have C1_R1_1 := Lib.hid (hI.cell C1_W_1.out (by first | exact HO0 | exact HO1 | exact HO2 | assumption))
    have C2_R1_0 := Lib.hid (hI.cell C2_W_0.out (by first | exact HO0 | exact HO1 | exact HO2 | assumption))
    have C2_R1_1 := Lib.hid (hI.cell C2_W_1.out (by first | exact HO0 | exact HO1 | exact HO2 | assumption))
    subst r20
    have hBR1 := hI.below
    have HCR1 := hI.next HOK
    clear hI
    go_wp2
    go_ret
    exact ⟨_, rfl, rfl, hBR1⟩
set_option maxRecDepth 100000 in
set_option maxHeartbeats 4000000 in
theorem gSegCrosses {c0 : Ctx} {g0 : Gh} {w : World} {xa ya xb yb xc yc xd yd : Int} (hI0 : RInv c0 g0 w) (hw : Wts c0.W0) (sxa : S xa) (sya : S ya) (sxb : S xb) (syb : S yb) (sxc : S xc) (syc : S yc) (sxd : S xd) (syd : S yd) :
    Calls Tryd.prog 15 #[.agg #[.int .i64 xa, .int .i64 ya], .agg #[.int .i64 xb, .int .i64 yb], .agg #[.int .i64 xc, .int .i64 yc], .agg #[.int .i64 xd, .int .i64 yd]] w (Gives (fun v _ _ => v = .int .u64 (mk (crossB xa ya xb yb xc yc xd yd))) g0 w) := by
  have hw1 := hw.below hI0.below
  obtain ⟨W, hW⟩ : ∃ W, W = (((w.alloc (.cells #[.int .i64 xa, .int .i64 ya] 28)).alloc (.cells #[.int .i64 xb, .int .i64 yb] 28)).alloc (.cells #[.int .i64 xc, .int .i64 yc] 28)).alloc (.cells #[.int .i64 xd, .int .i64 yd] 28) := ⟨_, rfl⟩
  have hb0 : Below w.heap.size w W := by rw [hW]; exact (((((Below.refl _ _).alloc (Nat.le_refl _) _).alloc (by simp) _).alloc (by simp; omega) _).alloc (by simp; omega) _)
  have HOK := Ctx.ok_lift0 hI0 hb0
  have C0_W_0 := Lib.hid (show W.cell? ⟨w.heap.size, 0, none⟩ = some (.int .i64 xa) by rw [hW]; simp [go_sem])
  have C0_W_1 := Lib.hid (show W.cell? ⟨w.heap.size, 1, none⟩ = some (.int .i64 ya) by rw [hW]; simp [go_sem])
  have HO0 : Off (lift0 g0) (w.heap.size) := lift0_off (hI0.offs _ (by omega))
  have C1_W_0 := Lib.hid (show W.cell? ⟨w.heap.size + 1, 0, none⟩ = some (.int .i64 xb) by rw [hW]; simp [go_sem])
  have C1_W_1 := Lib.hid (show W.cell? ⟨w.heap.size + 1, 1, none⟩ = some (.int .i64 yb) by rw [hW]; simp [go_sem])
  have HO1 : Off (lift0 g0) (w.heap.size + 1) := lift0_off (hI0.offs _ (by omega))
  have C2_W_0 := Lib.hid (show W.cell? ⟨w.heap.size + 1 + 1, 0, none⟩ = some (.int .i64 xc) by rw [hW]; simp [go_sem])
  have C2_W_1 := Lib.hid (show W.cell? ⟨w.heap.size + 1 + 1, 1, none⟩ = some (.int .i64 yc) by rw [hW]; simp [go_sem])
  have HO2 : Off (lift0 g0) (w.heap.size + 1 + 1) := lift0_off (hI0.offs _ (by omega))
  have C3_W_0 := Lib.hid (show W.cell? ⟨w.heap.size + 1 + 1 + 1, 0, none⟩ = some (.int .i64 xd) by rw [hW]; simp [go_sem])
  have C3_W_1 := Lib.hid (show W.cell? ⟨w.heap.size + 1 + 1 + 1, 1, none⟩ = some (.int .i64 yd) by rw [hW]; simp [go_sem])
  have HO3 : Off (lift0 g0) (w.heap.size + 1 + 1 + 1) := lift0_off (hI0.offs _ (by omega))
  have HW := Lib.hid hW
  clear hW
  go_enter Tryd.func15, Tryd.ntmps15
  go_upto_region 1 with (fail)
  rw [← HW.out]
  refine box_plan (c := ⟨w, W, (lift0 g0)⟩) HOK (by kernel_rfl) [[], [], [], [], [(9, 0), (10, 1), (11, 2), (12, 3)], [], [], [], [], [(14, 5), (15, 6), (16, 7), (17, 8)], [(13, 4), (18, 9)], [(19, 10)], [(20, 11)]] [(9, 0), (10, 1), (11, 2), (12, 3), (13, 4), (14, 5), (15, 6), (16, 7), (17, 8), (18, 9), (19, 10), (20, 11), (8, 12)] [
      (fun v _ _ => v = .agg #[.int .i64 xa, .int .i64 ya]),
      (fun v _ _ => v = .agg #[.int .i64 xb, .int .i64 yb]),
      (fun v _ _ => v = .agg #[.int .i64 xc, .int .i64 yc]),
      (fun v _ _ => v = .agg #[.int .i64 xd, .int .i64 yd]),
      (fun v _ _ => v = .int .u64 (mk (oppB xa ya xb yb xc yc xd yd))),
      (fun v _ _ => v = .agg #[.int .i64 xc, .int .i64 yc]),
      (fun v _ _ => v = .agg #[.int .i64 xd, .int .i64 yd]),
      (fun v _ _ => v = .agg #[.int .i64 xa, .int .i64 ya]),
      (fun v _ _ => v = .agg #[.int .i64 xb, .int .i64 yb]),
      (fun v _ _ => v = .int .u64 (mk (oppB xc yc xd yd xa ya xb yb))),
      WsR ([(mk (oppB xa ya xb yb xc yc xd yd)), (mk (oppB xc yc xd yd xa ya xb yb))]),
      (fun v _ _ => v = .int .u64 (mk ((oppB xa ya xb yb xc yc xd yd) && (oppB xc yc xd yd xa ya xb yb)))),
      (fun v _ _ => v = .int .u64 (mk ((oppB xa ya xb yb xc yc xd yd) && (oppB xc yc xd yd xa ya xb yb))))
    ] (fun _ => none) (by kernel_rfl) (by kernel_rfl) ⟨stab_eq, stab_eq, stab_eq, stab_eq, stab_eq, stab_eq, stab_eq, stab_eq, stab_eq, stab_eq, stab_firm (wsR_firm _), stab_eq, stab_eq, trivial⟩ ?steps ?fin
  case steps =>
    refine ⟨?_, ?_, ?_, ?_, ?_, ?_, ?_, ?_, ?_, ?_, ?_, ?_, ?_, trivial⟩
    · intro vs g w2 hI hF hR K hK
      simp only [Facts, fill, Act.put, z1, z2, z3, z4, z5, Nat.reduceAdd] at hF hR hK ⊢
      have k0 := hI.cell C0_W_0.out (by first | exact HO0 | exact HO1 | exact HO2 | exact HO3 | assumption)
      have k1 := hI.cell C0_W_1.out (by first | exact HO0 | exact HO1 | exact HO2 | exact HO3 | assumption)
      go_simp
      exact hK _ _ _ hI (Step.refl hI) rfl
    · intro vs g w2 hI hF hR K hK
      simp only [Facts, fill, Act.put, z1, z2, z3, z4, z5, Nat.reduceAdd] at hF hR hK ⊢
      have k0 := hI.cell C1_W_0.out (by first | exact HO0 | exact HO1 | exact HO2 | exact HO3 | assumption)
      have k1 := hI.cell C1_W_1.out (by first | exact HO0 | exact HO1 | exact HO2 | exact HO3 | assumption)
      go_simp
      exact hK _ _ _ hI (Step.refl hI) rfl
    · intro vs g w2 hI hF hR K hK
      simp only [Facts, fill, Act.put, z1, z2, z3, z4, z5, Nat.reduceAdd] at hF hR hK ⊢
      have k0 := hI.cell C2_W_0.out (by first | exact HO0 | exact HO1 | exact HO2 | exact HO3 | assumption)
      have k1 := hI.cell C2_W_1.out (by first | exact HO0 | exact HO1 | exact HO2 | exact HO3 | assumption)
      go_simp
      exact hK _ _ _ hI (Step.refl hI) rfl
    · intro vs g w2 hI hF hR K hK
      simp only [Facts, fill, Act.put, z1, z2, z3, z4, z5, Nat.reduceAdd] at hF hR hK ⊢
      have k0 := hI.cell C3_W_0.out (by first | exact HO0 | exact HO1 | exact HO2 | exact HO3 | assumption)
      have k1 := hI.cell C3_W_1.out (by first | exact HO0 | exact HO1 | exact HO2 | exact HO3 | assumption)
      go_simp
      exact hK _ _ _ hI (Step.refl hI) rfl
    · intro vs g w2 hI hF hR K hK
      simp only [Facts, fill, Act.put, z1, z2, z3, z4, z5, Nat.reduceAdd] at hF hR hK ⊢
      obtain ⟨r0, r1, r2, r3, -⟩ := hR
      generalize vs 0 = x0, vs 1 = x1, vs 2 = x2, vs 3 = x3 at *
      subst r0 r1 r2 r3
      go_simp
      refine (gSep hI hw1 (by first | assumption | (unfold S; decide)) (by first | assumption | (unfold S; decide)) (by first | assumption | (unfold S; decide)) (by first | assumption | (unfold S; decide)) (by first | assumption | (unfold S; decide)) (by first | assumption | (unfold S; decide)) (by first | assumption | (unfold S; decide)) (by first | assumption | (unfold S; decide))).mono ?_
      rintro e w3 ⟨v3, rfl, hv, hb⟩
      exact hK _ _ _ (hI.call hb) (Step.call hI hb) hv
    · intro vs g w2 hI hF hR K hK
      simp only [Facts, fill, Act.put, z1, z2, z3, z4, z5, Nat.reduceAdd] at hF hR hK ⊢
      have k0 := hI.cell C2_W_0.out (by first | exact HO0 | exact HO1 | exact HO2 | exact HO3 | assumption)
      have k1 := hI.cell C2_W_1.out (by first | exact HO0 | exact HO1 | exact HO2 | exact HO3 | assumption)
      go_simp
      exact hK _ _ _ hI (Step.refl hI) rfl
    · intro vs g w2 hI hF hR K hK
      simp only [Facts, fill, Act.put, z1, z2, z3, z4, z5, Nat.reduceAdd] at hF hR hK ⊢
      have k0 := hI.cell C3_W_0.out (by first | exact HO0 | exact HO1 | exact HO2 | exact HO3 | assumption)
      have k1 := hI.cell C3_W_1.out (by first | exact HO0 | exact HO1 | exact HO2 | exact HO3 | assumption)
      go_simp
      exact hK _ _ _ hI (Step.refl hI) rfl
    · intro vs g w2 hI hF hR K hK
      simp only [Facts, fill, Act.put, z1, z2, z3, z4, z5, Nat.reduceAdd] at hF hR hK ⊢
      have k0 := hI.cell C0_W_0.out (by first | exact HO0 | exact HO1 | exact HO2 | exact HO3 | assumption)
      have k1 := hI.cell C0_W_1.out (by first | exact HO0 | exact HO1 | exact HO2 | exact HO3 | assumption)
      go_simp
      exact hK _ _ _ hI (Step.refl hI) rfl
    · intro vs g w2 hI hF hR K hK
      simp only [Facts, fill, Act.put, z1, z2, z3, z4, z5, Nat.reduceAdd] at hF hR hK ⊢
      have k0 := hI.cell C1_W_0.out (by first | exact HO0 | exact HO1 | exact HO2 | exact HO3 | assumption)
      have k1 := hI.cell C1_W_1.out (by first | exact HO0 | exact HO1 | exact HO2 | exact HO3 | assumption)
      go_simp
      exact hK _ _ _ hI (Step.refl hI) rfl
    · intro vs g w2 hI hF hR K hK
      simp only [Facts, fill, Act.put, z1, z2, z3, z4, z5, Nat.reduceAdd] at hF hR hK ⊢
      obtain ⟨r5, r6, r7, r8, -⟩ := hR
      generalize vs 5 = x5, vs 6 = x6, vs 7 = x7, vs 8 = x8 at *
      subst r5 r6 r7 r8
      go_simp
      refine (gSep hI hw1 (by first | assumption | (unfold S; decide)) (by first | assumption | (unfold S; decide)) (by first | assumption | (unfold S; decide)) (by first | assumption | (unfold S; decide)) (by first | assumption | (unfold S; decide)) (by first | assumption | (unfold S; decide)) (by first | assumption | (unfold S; decide)) (by first | assumption | (unfold S; decide))).mono ?_
      rintro e w3 ⟨v3, rfl, hv, hb⟩
      exact hK _ _ _ (hI.call hb) (Step.call hI hb) hv
    · intro vs g w2 hI hF hR K hK
      simp only [Facts, fill, Act.put, z1, z2, z3, z4, z5, Nat.reduceAdd] at hF hR hK ⊢
      obtain ⟨r4, r9, -⟩ := hR
      generalize vs 4 = x4, vs 9 = x9 at *
      subst r4 r9
      go_simp
      have hb : Below w2.heap.size w2 (w2.alloc (.cells #[.int .u64 (mk (oppB xa ya xb yb xc yc xd yd)), .int .u64 (mk (oppB xc yc xd yd xa ya xb yb))] 23)) := (Below.refl _ _).alloc (Nat.le_refl _) _
      exact hK _ _ _ (hI.call hb) (Step.call hI hb) (lit_ws hI [(mk (oppB xa ya xb yb xc yc xd yd)), (mk (oppB xc yc xd yd xa ya xb yb))])
    · intro vs g w2 hI hF hR K hK
      simp only [Facts, fill, Act.put, z1, z2, z3, z4, z5, Nat.reduceAdd] at hF hR hK ⊢
      obtain ⟨r10, -⟩ := hR
      generalize vs 10 = x10 at *
      go_simp
      refine (gAll2 hI hw1 r10).mono ?_
      rintro e w3 ⟨v3, rfl, hv, hb⟩
      exact hK _ _ _ (hI.call hb) (Step.call hI hb) hv
    · intro vs g w2 hI hF hR K hK
      simp only [Facts, fill, Act.put, z1, z2, z3, z4, z5, Nat.reduceAdd] at hF hR hK ⊢
      obtain ⟨r11, -⟩ := hR
      generalize vs 11 = x11 at *
      subst r11
      go_simp
      exact hK _ _ _ hI (Step.refl hI) rfl
  case fin =>
    intro vs g wR1 hI hR
    have r12 := hR 12 (by decide)
    simp only [fill, Act.put, z1, z2, z3, z4, z5] at r12 ⊢
    clear hR
    generalize vs 12 = x12 at *
    have C0_R1_0 := Lib.hid (hI.cell C0_W_0.out (by first | exact HO0 | exact HO1 | exact HO2 | exact HO3 | assumption))
    have C0_R1_1 := Lib.hid (hI.cell C0_W_1.out (by first | exact HO0 | exact HO1 | exact HO2 | exact HO3 | assumption))
    have C1_R1_0 := Lib.hid (hI.cell C1_W_0.out (by first | exact HO0 | exact HO1 | exact HO2 | exact HO3 | assumption))
    have C1_R1_1 := Lib.hid (hI.cell C1_W_1.out (by first | exact HO0 | exact HO1 | exact HO2 | exact HO3 | assumption))
    have C2_R1_0 := Lib.hid (hI.cell C2_W_0.out (by first | exact HO0 | exact HO1 | exact HO2 | exact HO3 | assumption))
    have C2_R1_1 := Lib.hid (hI.cell C2_W_1.out (by first | exact HO0 | exact HO1 | exact HO2 | exact HO3 | assumption))
    have C3_R1_0 := Lib.hid (hI.cell C3_W_0.out (by first | exact HO0 | exact HO1 | exact HO2 | exact HO3 | assumption))
    have C3_R1_1 := Lib.hid (hI.cell C3_W_1.out (by first | exact HO0 | exact HO1 | exact HO2 | exact HO3 | assumption))
    subst r12
    have hBR1 := hI.below
    have HCR1 := hI.next HOK
    clear hI
    go_wp2
    go_ret
    exact ⟨_, rfl, rfl, hBR1⟩
def meetK (k : Nat) (xa ya xb yb xc yc xd yd : Int) : Bool := match k with
  | 0 => crossB xa ya xb yb xc yc xd yd
  | 1 => crossB xa ya xb yb xc yc xd yd || contB xc yc xd yd xa ya
  | 2 => crossB xa ya xb yb xc yc xd yd || contB xc yc xd yd xa ya || contB xc yc xd yd xb yb
  | 3 => crossB xa ya xb yb xc yc xd yd || contB xc yc xd yd xa ya || contB xc yc xd yd xb yb || contB xa ya xb yb xc yc
  | _ => crossB xa ya xb yb xc yc xd yd || contB xc yc xd yd xa ya || contB xc yc xd yd xb yb || contB xa ya xb yb xc yc || contB xa ya xb yb xd yd
theorem meetK_4 (xa ya xb yb xc yc xd yd : Int) : meetK 4 xa ya xb yb xc yc xd yd = meetB xa ya xb yb xc yc xd yd := by
  show (crossB xa ya xb yb xc yc xd yd || contB xc yc xd yd xa ya || contB xc yc xd yd xb yb || contB xa ya xb yb xc yc || contB xa ya xb yb xd yd) = _
  unfold meetB
  generalize crossB xa ya xb yb xc yc xd yd = p, contB xc yc xd yd xa ya = p0, contB xc yc xd yd xb yb = p1, contB xa ya xb yb xc yc = p2, contB xa ya xb yb xd yd = p3
  cases p <;> cases p0 <;> cases p1 <;> cases p2 <;> cases p3 <;> rfl
def MeetRel (w : World) (xa ya xb yb xc yc xd yd : Int) (m i : Value) (wr : World) : Prop := ∃ k : Nat, i = .int .i64 k ∧ k ≤ 4 ∧ m = .int .u64 (mk (meetK k xa ya xb yb xc yc xd yd)) ∧ Below w.heap.size w wr
set_option maxHeartbeats 8000000 in
theorem gSegMeets {c : Ctx} {g : Gh} {w : World} {xa ya xb yb xc yc xd yd : Int} (hI : RInv c g w) (hw : Wts c.W0) (sxa : S xa) (sya : S ya) (sxb : S xb) (syb : S yb) (sxc : S xc) (syc : S yc) (sxd : S xd) (syd : S yd) :
    Calls Tryd.prog 17 #[.agg #[.int .i64 xa, .int .i64 ya], .agg #[.int .i64 xb, .int .i64 yb], .agg #[.int .i64 xc, .int .i64 yc], .agg #[.int .i64 xd, .int .i64 yd]] w (Gives (fun v _ _ => v = .int .u64 (mk (meetB xa ya xb yb xc yc xd yd))) g w) := by
  have hx0 : ∀ w : World, Sem.run Tryd.prog (Instr.index 40 (.agg #[.int .i64 xa, .int .i64 ya, .int .i64 xc, .int .i64 yc, .int .i64 xd, .int .i64 yd, .int .i64 xb, .int .i64 yb, .int .i64 xc, .int .i64 yc, .int .i64 xd, .int .i64 yd, .int .i64 xc, .int .i64 yc, .int .i64 xa, .int .i64 ya, .int .i64 xb, .int .i64 yb, .int .i64 xd, .int .i64 yd, .int .i64 xa, .int .i64 ya, .int .i64 xb, .int .i64 yb]) (.int .i64 0)) w = .ok (.agg #[.int .i64 xa, .int .i64 ya, .int .i64 xc, .int .i64 yc, .int .i64 xd, .int .i64 yd]) w := fun _ => by kernel_rfl
  have hx1 : ∀ w : World, Sem.run Tryd.prog (Instr.index 40 (.agg #[.int .i64 xa, .int .i64 ya, .int .i64 xc, .int .i64 yc, .int .i64 xd, .int .i64 yd, .int .i64 xb, .int .i64 yb, .int .i64 xc, .int .i64 yc, .int .i64 xd, .int .i64 yd, .int .i64 xc, .int .i64 yc, .int .i64 xa, .int .i64 ya, .int .i64 xb, .int .i64 yb, .int .i64 xd, .int .i64 yd, .int .i64 xa, .int .i64 ya, .int .i64 xb, .int .i64 yb]) (.int .i64 1)) w = .ok (.agg #[.int .i64 xb, .int .i64 yb, .int .i64 xc, .int .i64 yc, .int .i64 xd, .int .i64 yd]) w := fun _ => by kernel_rfl
  have hx2 : ∀ w : World, Sem.run Tryd.prog (Instr.index 40 (.agg #[.int .i64 xa, .int .i64 ya, .int .i64 xc, .int .i64 yc, .int .i64 xd, .int .i64 yd, .int .i64 xb, .int .i64 yb, .int .i64 xc, .int .i64 yc, .int .i64 xd, .int .i64 yd, .int .i64 xc, .int .i64 yc, .int .i64 xa, .int .i64 ya, .int .i64 xb, .int .i64 yb, .int .i64 xd, .int .i64 yd, .int .i64 xa, .int .i64 ya, .int .i64 xb, .int .i64 yb]) (.int .i64 2)) w = .ok (.agg #[.int .i64 xc, .int .i64 yc, .int .i64 xa, .int .i64 ya, .int .i64 xb, .int .i64 yb]) w := fun _ => by kernel_rfl
  have hx3 : ∀ w : World, Sem.run Tryd.prog (Instr.index 40 (.agg #[.int .i64 xa, .int .i64 ya, .int .i64 xc, .int .i64 yc, .int .i64 xd, .int .i64 yd, .int .i64 xb, .int .i64 yb, .int .i64 xc, .int .i64 yc, .int .i64 xd, .int .i64 yd, .int .i64 xc, .int .i64 yc, .int .i64 xa, .int .i64 ya, .int .i64 xb, .int .i64 yb, .int .i64 xd, .int .i64 yd, .int .i64 xa, .int .i64 ya, .int .i64 xb, .int .i64 yb]) (.int .i64 3)) w = .ok (.agg #[.int .i64 xd, .int .i64 yd, .int .i64 xa, .int .i64 ya, .int .i64 xb, .int .i64 yb]) w := fun _ => by kernel_rfl
  obtain ⟨W4, hW4⟩ : ∃ W4, W4 = ((((w.alloc (.cells #[.int .i64 xa, .int .i64 ya] 28)).alloc (.cells #[.int .i64 xb, .int .i64 yb] 28)).alloc (.cells #[.int .i64 xc, .int .i64 yc] 28)).alloc (.cells #[.int .i64 xd, .int .i64 yd] 28)).alloc (.cells #[.int .i64 0, .int .i64 0, .int .i64 0, .int .i64 0, .int .i64 0, .int .i64 0, .int .i64 0, .int .i64 0, .int .i64 0, .int .i64 0, .int .i64 0, .int .i64 0, .int .i64 0, .int .i64 0, .int .i64 0, .int .i64 0, .int .i64 0, .int .i64 0, .int .i64 0, .int .i64 0, .int .i64 0, .int .i64 0, .int .i64 0, .int .i64 0] 40) := ⟨_, rfl⟩
  have h4 : Below w.heap.size w W4 := by rw [hW4]; exact (((((Below.refl _ _).alloc (Nat.le_refl _) _).alloc (by simp) _).alloc (by simp; omega) _).alloc (by simp; omega) _).alloc (by simp; omega) _
  have HG := Lib.hid (show W4.heap[w.heap.size + 1 + 1 + 1 + 1]? = some (.cells #[.int .i64 0, .int .i64 0, .int .i64 0, .int .i64 0, .int .i64 0, .int .i64 0, .int .i64 0, .int .i64 0, .int .i64 0, .int .i64 0, .int .i64 0, .int .i64 0, .int .i64 0, .int .i64 0, .int .i64 0, .int .i64 0, .int .i64 0, .int .i64 0, .int .i64 0, .int .i64 0, .int .i64 0, .int .i64 0, .int .i64 0, .int .i64 0] 40 (0, 0)) by rw [hW4]; exact heap_new (by simp))
  have g0 : W4.cell? ⟨w.heap.size, 0, none⟩ = some (.int .i64 xa) := by rw [hW4]; simp [go_sem]
  have g1 : W4.cell? ⟨w.heap.size, 1, none⟩ = some (.int .i64 ya) := by rw [hW4]; simp [go_sem]
  have g2 : W4.cell? ⟨w.heap.size + 1, 0, none⟩ = some (.int .i64 xb) := by rw [hW4]; simp [go_sem]
  have g3 : W4.cell? ⟨w.heap.size + 1, 1, none⟩ = some (.int .i64 yb) := by rw [hW4]; simp [go_sem]
  have g4 : W4.cell? ⟨w.heap.size + 1 + 1, 0, none⟩ = some (.int .i64 xc) := by rw [hW4]; simp [go_sem]
  have g5 : W4.cell? ⟨w.heap.size + 1 + 1, 1, none⟩ = some (.int .i64 yc) := by rw [hW4]; simp [go_sem]
  have g6 : W4.cell? ⟨w.heap.size + 1 + 1 + 1, 0, none⟩ = some (.int .i64 xd) := by rw [hW4]; simp [go_sem]
  have g7 : W4.cell? ⟨w.heap.size + 1 + 1 + 1, 1, none⟩ = some (.int .i64 yd) := by rw [hW4]; simp [go_sem]
  have HW4 := Lib.hid hW4
  clear hW4
  obtain ⟨W5, hW5⟩ : ∃ W5, W5 = W4.setRow (w.heap.size + 1 + 1 + 1 + 1) #[.int .i64 xa, .int .i64 ya, .int .i64 xc, .int .i64 yc, .int .i64 xd, .int .i64 yd, .int .i64 xb, .int .i64 yb, .int .i64 xc, .int .i64 yc, .int .i64 xd, .int .i64 yd, .int .i64 xc, .int .i64 yc, .int .i64 xa, .int .i64 ya, .int .i64 xb, .int .i64 yb, .int .i64 xd, .int .i64 yd, .int .i64 xa, .int .i64 ya, .int .i64 xb, .int .i64 yb] := ⟨_, rfl⟩
  have h5 : Below w.heap.size w W5 := by rw [hW5]; exact below_setRow h4 (by omega) _
  have f0 : W5.cell? ⟨w.heap.size, 0, none⟩ = some (.int .i64 xa) := by rw [hW5]; exact (cell_setRow_other _ _ _ _ (by show w.heap.size ≠ _; omega)).trans g0
  have f1 : W5.cell? ⟨w.heap.size, 1, none⟩ = some (.int .i64 ya) := by rw [hW5]; exact (cell_setRow_other _ _ _ _ (by show w.heap.size ≠ _; omega)).trans g1
  have f2 : W5.cell? ⟨w.heap.size + 1, 0, none⟩ = some (.int .i64 xb) := by rw [hW5]; exact (cell_setRow_other _ _ _ _ (by show w.heap.size + 1 ≠ _; omega)).trans g2
  have f3 : W5.cell? ⟨w.heap.size + 1, 1, none⟩ = some (.int .i64 yb) := by rw [hW5]; exact (cell_setRow_other _ _ _ _ (by show w.heap.size + 1 ≠ _; omega)).trans g3
  have f4 : W5.cell? ⟨w.heap.size + 1 + 1, 0, none⟩ = some (.int .i64 xc) := by rw [hW5]; exact (cell_setRow_other _ _ _ _ (by show w.heap.size + 1 + 1 ≠ _; omega)).trans g4
  have f5 : W5.cell? ⟨w.heap.size + 1 + 1, 1, none⟩ = some (.int .i64 yc) := by rw [hW5]; exact (cell_setRow_other _ _ _ _ (by show w.heap.size + 1 + 1 ≠ _; omega)).trans g5
  have f6 : W5.cell? ⟨w.heap.size + 1 + 1 + 1, 0, none⟩ = some (.int .i64 xd) := by rw [hW5]; exact (cell_setRow_other _ _ _ _ (by show w.heap.size + 1 + 1 + 1 ≠ _; omega)).trans g6
  have f7 : W5.cell? ⟨w.heap.size + 1 + 1 + 1, 1, none⟩ = some (.int .i64 yd) := by rw [hW5]; exact (cell_setRow_other _ _ _ _ (by show w.heap.size + 1 + 1 + 1 ≠ _; omega)).trans g7
  have HG5 := Lib.hid (show W5.heap[w.heap.size + 1 + 1 + 1 + 1]? = some (.cells #[.int .i64 xa, .int .i64 ya, .int .i64 xc, .int .i64 yc, .int .i64 xd, .int .i64 yd, .int .i64 xb, .int .i64 yb, .int .i64 xc, .int .i64 yc, .int .i64 xd, .int .i64 yd, .int .i64 xc, .int .i64 yc, .int .i64 xa, .int .i64 ya, .int .i64 xb, .int .i64 yb, .int .i64 xd, .int .i64 yd, .int .i64 xa, .int .i64 ya, .int .i64 xb, .int .i64 yb] 40 (0, 0)) by rw [hW5]; exact setRow_heap _ _ _ _ _ _ HG.out)
  clear g0 g1 g2 g3 g4 g5 g6 g7
  have HW5 := Lib.hid hW5
  clear hW5
  go_enter Tryd.func17, Tryd.ntmps17
  go_wp2_with (with_reducible show wpList _ _ _ (⟨none, _, _, _, _, _⟩ :: _) _ _; (rw [← HW4.out]; refine wpList_store_row rfl 40 (.tmp 9) (.tmp 29) rfl (w.heap.size + 1 + 1 + 1 + 1) #[.int .i64 xa, .int .i64 ya, .int .i64 xc, .int .i64 yc, .int .i64 xd, .int .i64 yd, .int .i64 xb, .int .i64 yb, .int .i64 xc, .int .i64 yc, .int .i64 xd, .int .i64 yd, .int .i64 xc, .int .i64 yc, .int .i64 xa, .int .i64 ya, .int .i64 xb, .int .i64 yb, .int .i64 xd, .int .i64 yd, .int .i64 xa, .int .i64 ya, .int .i64 xb, .int .i64 yb] rfl rfl 40 #[.int .i64 0, .int .i64 0, .int .i64 0, .int .i64 0, .int .i64 0, .int .i64 0, .int .i64 0, .int .i64 0, .int .i64 0, .int .i64 0, .int .i64 0, .int .i64 0, .int .i64 0, .int .i64 0, .int .i64 0, .int .i64 0, .int .i64 0, .int .i64 0, .int .i64 0, .int .i64 0, .int .i64 0, .int .i64 0, .int .i64 0, .int .i64 0] HG.out (by kernel_rfl) rfl (by kernel_rfl) ?_; rw [← HW5.out]))
  refine (gSegCrosses (hI.call h5) hw sxa sya sxb syb sxc syc sxd syd).mono ?_
  rintro e wc ⟨v, rfl, rfl, hbc⟩
  clear f0 f1 f2 f3 f4 f5 f6 f7
  have HGc := Lib.hid ((hbc.block (w.heap.size + 1 + 1 + 1 + 1) (Array.getElem?_eq_some_iff.1 HG5.out).1).trans HG5.out)
  have hb0 := h5.trans (hbc.mono h5.size)
  go_wp2_with (with_reducible show wpList _ _ _ (⟨some 35, _, _, _, _, _⟩ :: _) _ _; (refine wpList_load_row rfl 40 (.tmp 9) rfl (w.heap.size + 1 + 1 + 1 + 1) rfl 40 #[.int .i64 xa, .int .i64 ya, .int .i64 xc, .int .i64 yc, .int .i64 xd, .int .i64 yd, .int .i64 xb, .int .i64 yb, .int .i64 xc, .int .i64 yc, .int .i64 xd, .int .i64 yd, .int .i64 xc, .int .i64 yc, .int .i64 xa, .int .i64 ya, .int .i64 xb, .int .i64 yb, .int .i64 xd, .int .i64 yd, .int .i64 xa, .int .i64 ya, .int .i64 xb, .int .i64 yb] (0, 0) _ HGc.out Tryd.underlying40 rfl (by kernel_rfl) ?_))
  go_loopw [10, 36] (fun m i wr => MeetRel w xa ya xb yb xc yc xd yd m i wr) (fun _ i _ => 4 - (intOf i).toNat)
  case atStart => exact ⟨0, rfl, by omega, rfl, hb0⟩
  case round =>
    obtain ⟨k, rfl, hk, rfl, hbr⟩ := hrel
    clear hbc hb0
    have hks : k = 0 ∨ k = 1 ∨ k = 2 ∨ k = 3 ∨ k = 4 := by omega
    rcases hks with rfl | rfl | rfl | rfl | rfl
    · have h1 := hbr.alloc hbr.size (.cells #[.int .i64 xa, .int .i64 ya, .int .i64 xc, .int .i64 yc, .int .i64 xd, .int .i64 yd] 39)
      go_wp2_with (fail)
      refine (gSegContains (hI.call h1) hw sxc syc sxd syd sxa sya).mono ?_
      rintro e w1 ⟨v, rfl, rfl, hb1⟩
      have h2 := h1.trans (hb1.mono h1.size)
      have h3 := h2.alloc h2.size (.cells #[.int .u64 (mk (meetK 0 xa ya xb yb xc yc xd yd)), .int .u64 (mk (contB xc yc xd yd xa ya))] 23)
      go_wp2_with (fail)
      refine (gSome2 (hI.call h3) hw (lit_ws (hI.call h2) [mk (meetK 0 xa ya xb yb xc yc xd yd), mk (contB xc yc xd yd xa ya)])).mono ?_
      rintro e w2 ⟨v, rfl, rfl, hb2⟩
      have h4 := h3.trans (hb2.mono h3.size)
      go_wp2
      go_roundw
      case rel => exact ⟨1, rfl, by omega, rfl, h4⟩
      case measure => simp [intOf]
    · have h1 := hbr.alloc hbr.size (.cells #[.int .i64 xb, .int .i64 yb, .int .i64 xc, .int .i64 yc, .int .i64 xd, .int .i64 yd] 39)
      go_wp2_with (fail)
      refine (gSegContains (hI.call h1) hw sxc syc sxd syd sxb syb).mono ?_
      rintro e w1 ⟨v, rfl, rfl, hb1⟩
      have h2 := h1.trans (hb1.mono h1.size)
      have h3 := h2.alloc h2.size (.cells #[.int .u64 (mk (meetK 1 xa ya xb yb xc yc xd yd)), .int .u64 (mk (contB xc yc xd yd xb yb))] 23)
      go_wp2_with (fail)
      refine (gSome2 (hI.call h3) hw (lit_ws (hI.call h2) [mk (meetK 1 xa ya xb yb xc yc xd yd), mk (contB xc yc xd yd xb yb)])).mono ?_
      rintro e w2 ⟨v, rfl, rfl, hb2⟩
      have h4 := h3.trans (hb2.mono h3.size)
      go_wp2
      go_roundw
      case rel => exact ⟨2, rfl, by omega, rfl, h4⟩
      case measure => simp [intOf]
    · have h1 := hbr.alloc hbr.size (.cells #[.int .i64 xc, .int .i64 yc, .int .i64 xa, .int .i64 ya, .int .i64 xb, .int .i64 yb] 39)
      go_wp2_with (fail)
      refine (gSegContains (hI.call h1) hw sxa sya sxb syb sxc syc).mono ?_
      rintro e w1 ⟨v, rfl, rfl, hb1⟩
      have h2 := h1.trans (hb1.mono h1.size)
      have h3 := h2.alloc h2.size (.cells #[.int .u64 (mk (meetK 2 xa ya xb yb xc yc xd yd)), .int .u64 (mk (contB xa ya xb yb xc yc))] 23)
      go_wp2_with (fail)
      refine (gSome2 (hI.call h3) hw (lit_ws (hI.call h2) [mk (meetK 2 xa ya xb yb xc yc xd yd), mk (contB xa ya xb yb xc yc)])).mono ?_
      rintro e w2 ⟨v, rfl, rfl, hb2⟩
      have h4 := h3.trans (hb2.mono h3.size)
      go_wp2
      go_roundw
      case rel => exact ⟨3, rfl, by omega, rfl, h4⟩
      case measure => simp [intOf]
    · have h1 := hbr.alloc hbr.size (.cells #[.int .i64 xd, .int .i64 yd, .int .i64 xa, .int .i64 ya, .int .i64 xb, .int .i64 yb] 39)
      go_wp2_with (fail)
      refine (gSegContains (hI.call h1) hw sxa sya sxb syb sxd syd).mono ?_
      rintro e w1 ⟨v, rfl, rfl, hb1⟩
      have h2 := h1.trans (hb1.mono h1.size)
      have h3 := h2.alloc h2.size (.cells #[.int .u64 (mk (meetK 3 xa ya xb yb xc yc xd yd)), .int .u64 (mk (contB xa ya xb yb xd yd))] 23)
      go_wp2_with (fail)
      refine (gSome2 (hI.call h3) hw (lit_ws (hI.call h2) [mk (meetK 3 xa ya xb yb xc yc xd yd), mk (contB xa ya xb yb xd yd)])).mono ?_
      rintro e w2 ⟨v, rfl, rfl, hb2⟩
      have h4 := h3.trans (hb2.mono h3.size)
      go_wp2
      go_roundw
      case rel => exact ⟨4, rfl, by omega, rfl, h4⟩
      case measure => simp [intOf]
    · go_wp2
      go_ret
      exact ⟨_, rfl, congrArg (fun b => Value.int .u64 (mk b)) (meetK_4 xa ya xb yb xc yc xd yd), hbr⟩
end Go.Proofs.YtckhgamojpbcgaaDoor
