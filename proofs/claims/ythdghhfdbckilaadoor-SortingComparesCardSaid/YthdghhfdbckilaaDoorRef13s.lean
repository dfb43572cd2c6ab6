/-
  The reference of layer 13: Sort. (Written by ref13s.py.)
-/
import Derived.Test.YthdghhfdbckilaaDoorRef13
import Derived.Deep.DeepCutAuto
import Derived.Deep.CutRange
import Derived.Deep.CutBlock
namespace Go.Proofs.YthdghhfdbckilaaDoor
open Go.RowKit
set_option maxRecDepth 100000
set_option linter.unusedVariables false
set_option linter.unusedSimpArgs false

/-- A record in a row of one's own. -/
theorem own_rec {w : World} {base : Nat} {v : Value} {l : List Rc} (h : w.ownsRow base 24 2 v l.length (l.flatMap rcC)) {k : Nat} (hk : k < l.length) :
    ∃ g c, v = .slice (some ⟨g, 0, none⟩) l.length c ∧ base ≤ g ∧ g < w.heap.size ∧ w.cell? ⟨g, k * 2, none⟩ = some (.int .u64 (l[k]'hk).live) ∧ w.cell? ⟨g, k * 2 + 1, none⟩ = some (.int .u64 (l[k]'hk).id) ∧ w.frozen? ⟨g, k * 2, none⟩ = false ∧ w.frozen? ⟨g, k * 2 + 1, none⟩ = false := by
  obtain ⟨g, c, rfl, hb, hg⟩ := h.form (by omega)
  have h1 := flatC_at (C := rcC) (k := 2) (fun _ => rfl) l k _ (List.getElem?_eq_getElem hk)
  exact ⟨g, c, rfl, hb, hg, (World.ownsRow.cellAt h (k * 2) (by omega)).trans (h1 0 (by decide)), (World.ownsRow.cellAt h (k * 2 + 1) (by omega)).trans (h1 1 (by decide)), World.ownsRow.frozenAt h _, World.ownsRow.frozenAt h _⟩
theorem own_rec2 {w : World} {base g c n : Nat} {l : List Rc} (hn : l.length = n) (h : w.ownsRow base 24 2 (.slice (some ⟨g, 0, none⟩) n c) n (l.flatMap rcC)) {k : Nat} (hk : k < l.length) :
    w.cell? ⟨g, k * 2, none⟩ = some (.int .u64 (l[k]'hk).live) ∧ w.cell? ⟨g, k * 2 + 1, none⟩ = some (.int .u64 (l[k]'hk).id) ∧ w.frozen? ⟨g, k * 2, none⟩ = false ∧ w.frozen? ⟨g, k * 2 + 1, none⟩ = false := by
  have h1 := flatC_at (C := rcC) (k := 2) (fun _ => rfl) l k _ (List.getElem?_eq_getElem hk)
  exact ⟨(World.ownsRow.cellAt h (k * 2) (by omega)).trans (h1 0 (by decide)), (World.ownsRow.cellAt h (k * 2 + 1) (by omega)).trans (h1 1 (by decide)), World.ownsRow.frozenAt h _, World.ownsRow.frozenAt h _⟩
theorem flat_set (x : Rc) : ∀ (l : List Rc) (k : Nat), (l.set k x).flatMap rcC = ((l.flatMap rcC).set (k * 2) (.int .u64 x.live)).set (k * 2 + 1) (.int .u64 x.id)
  | [], k => by simp
  | y :: l, 0 => by simp [rcC]
  | y :: l, k + 1 => by
    rw [List.set_cons_succ, List.flatMap_cons, flat_set x l k, List.flatMap_cons, show (k + 1) * 2 = k * 2 + 2 by omega]
    simp [rcC]
theorem own_setR {w : World} {base g c n : Nat} {l : List Rc} (h : w.ownsRow base 24 2 (.slice (some ⟨g, 0, none⟩) n c) n (l.flatMap rcC)) (k : Nat) (x : Rc) :
    ((w.setCell ⟨g, k * 2, none⟩ (.int .u64 x.live)).setCell ⟨g, k * 2 + 1, none⟩ (.int .u64 x.id)).ownsRow base 24 2 (.slice (some ⟨g, 0, none⟩) n c) n ((l.set k x).flatMap rcC) := by
  rw [flat_set]
  exact (World.ownsRow.stored (World.ownsRow.stored h _ _).1 _ _).1
/-- The list while it makes room. -/
def shiftL (L : List Rc) (x : Rc) (m : Nat) : List Rc := (L ++ [x]).take (m + 1) ++ L.drop m
theorem shiftL_len {L : List Rc} {x : Rc} {m : Nat} (h : m ≤ L.length) : (shiftL L x m).length = L.length + 1 := by unfold shiftL; simp; omega
theorem shiftL_top (L : List Rc) (x : Rc) : shiftL L x L.length = L ++ [x] := by unfold shiftL; rw [List.take_of_length_le (by simp)]; simp
theorem shiftL_at {L : List Rc} {x : Rc} {m : Nat} (h : m ≤ L.length) (i : Nat) : (shiftL L x m)[i]? = if i ≤ m then (L ++ [x])[i]? else L[i - 1]? := by
  unfold shiftL
  by_cases h1 : i ≤ m
  · rw [if_pos h1, List.getElem?_append_left (by simp; omega), List.getElem?_take, if_pos (by omega)]
  · rw [if_neg h1, List.getElem?_append_right (by simp; omega), List.getElem?_drop]
    congr 1
    simp; omega
theorem shiftL_prev {L : List Rc} {x : Rc} {m : Nat} (h : m < L.length) : (shiftL L x (m + 1))[m]? = some L[m] := by
  rw [shiftL_at (by omega), if_pos (by omega), List.getElem?_append_left h, List.getElem?_eq_getElem h]
theorem shiftL_step {L : List Rc} {x : Rc} {m : Nat} (h : m < L.length) : (shiftL L x (m + 1)).set (m + 1) L[m] = shiftL L x m := by
  apply List.ext_getElem?
  intro i
  have hl := shiftL_len (L := L) (x := x) (m := m + 1) (by omega)
  rw [List.getElem?_set, shiftL_at (by omega), shiftL_at (by omega)]
  by_cases h1 : m + 1 = i
  · subst h1
    rw [if_pos rfl, if_pos (by omega), if_neg (by omega), Nat.add_sub_cancel, List.getElem?_eq_getElem h]
  · rw [if_neg h1]
    by_cases h2 : i ≤ m
    · rw [if_pos (by omega), if_pos h2]
    · rw [if_neg (by omega), if_neg h2]
theorem shiftL_end {L : List Rc} {x : Rc} {k : Nat} (h : k ≤ L.length) : (shiftL L x k).set k x = L.take k ++ x :: L.drop k := by
  apply List.ext_getElem?
  intro i
  have hl := shiftL_len (L := L) (x := x) h
  rw [List.getElem?_set, shiftL_at h]
  by_cases h1 : k = i
  · subst h1
    rw [if_pos rfl, if_pos (by omega), List.getElem?_append_right (by simp; omega)]
    rw [show k - (L.take k).length = 0 by simp; omega]; rfl
  · rw [if_neg h1]
    by_cases h2 : i ≤ k
    · rw [if_pos h2, List.getElem?_append_left (by omega), List.getElem?_append_left (by simp; omega), List.getElem?_take, if_pos (by omega)]
    · rw [if_neg h2, List.getElem?_append_right (by simp; omega)]
      rw [show i - (L.take k).length = (i - k - 1) + 1 by simp; omega, List.getElem?_cons_succ, List.getElem?_drop]
      congr 1; omega
/-- Sorting one record more. -/
theorem sortR_snoc {l : List Rc} {x : Rc} {k : Nat} (hx : U x.id) (hk : k ≤ l.length) (h1 : ∀ p, (hp : p < (sortR l).length) → p < k → ¬ lessR (cleanR x) ((sortR l)[p]) = true) (h2 : ∀ hp : k < (sortR l).length, lessR (cleanR x) ((sortR l)[k]) = true) :
    sortR (l ++ [x]) = (sortR l).take k ++ cleanR x :: (sortR l).drop k := by
  have hr : ∀ p (hp : p < (sortR l).length), rankR ((sortR l)[p]) = (sortI (ranks l))[p]'(by have := hp; unfold sortR at this; simpa using this) := fun p hp => by
    have : (sortR l)[p] = unrank ((sortI (ranks l))[p]'(by have := hp; unfold sortR at this; simpa using this)) := List.getElem_map _
    rw [this, rank_unrank]
  have hlen : (sortR l).length = (sortI (ranks l)).length := by unfold sortR; simp
  have e : ranks (l ++ [x]) = ranks l ++ [rankR x] := by unfold ranks; simp
  have key := sort_insert (l := ranks l) (x := rankR x) (k := k) (by unfold ranks; simpa using hk) (fun y hy => ?_) (fun y hy => ?_)
  · show (sortI (ranks (l ++ [x]))).map unrank = _
    rw [e, key, List.map_append, List.map_cons, unrank_rank hx]
    show _ = ((sortI (ranks l)).map unrank).take k ++ cleanR x :: ((sortI (ranks l)).map unrank).drop k
    rw [List.map_take, List.map_drop]
  · obtain ⟨p, hp, rfl⟩ := List.mem_iff_getElem.1 hy
    have hp2 : p < k ∧ p < (sortI (ranks l)).length := by simp at hp; omega
    have := h1 p (by omega) hp2.1
    unfold lessR at this
    rw [rank_clean, hr p (by omega)] at this
    rw [List.getElem_take]
    simpa using this
  · obtain ⟨p, hp, rfl⟩ := List.mem_iff_getElem.1 hy
    have hp2 : k + p < (sortI (ranks l)).length := by simp at hp; omega
    have := h2 (by omega)
    unfold lessR at this
    rw [rank_clean, hr k (by omega)] at this
    rw [List.getElem_drop]
    have h5 : (sortI (ranks l))[k] ≤ (sortI (ranks l))[k + p] := by
      by_cases hp0 : p = 0
      · subst hp0; exact Int.le_refl _
      · exact List.pairwise_iff_getElem.1 (sortI_asc (ranks l)) k (k + p) (by omega) hp2 (by omega)
    have := of_decide_eq_true this
    omega
theorem sortR_us {l : List Rc} (h : UsR l) : UsR (sortR l) := fun r hr => by
  obtain ⟨n, hn, rfl⟩ := List.mem_map.1 hr
  obtain ⟨x, hx, rfl⟩ := List.mem_map.1 ((sortI_perm _).mem_iff.1 hn)
  rw [unrank_rank (h x hx).2]
  unfold cleanR
  split
  · exact ⟨by unfold U; simp, (h x hx).2⟩
  · exact ⟨by unfold U; simp, by unfold U; simp⟩
theorem clean_us {x : Rc} (h : U x.id) : U (cleanR x).live ∧ U (cleanR x).id := by
  unfold cleanR
  split
  · exact ⟨by unfold U; simp, h⟩
  · exact ⟨by unfold U; simp, by unfold U; simp⟩
theorem sortR_nil : sortR [] = [] := by
  have := sortR_len []
  exact List.length_eq_zero_iff.1 this
theorem own_snoc {w : World} {base : Nat} {v : Value} {L : List Rc} {X : Rc} (h : w.ownsRow base 24 2 v (L.length + 1) (L.flatMap rcC ++ [X].flatMap rcC)) : w.ownsRow base 24 2 v (L.length + 1) ((shiftL L X L.length).flatMap rcC) := by
  rw [shiftL_top, List.flatMap_append]; exact h
def SortRel (w : World) (l : List Rc) (v i : Value) (wr : World) : Prop := ∃ j : Nat, i = .int .i64 j ∧ j ≤ l.length ∧ wr.ownsRow w.heap.size 24 2 v j ((sortR (l.take j)).flatMap rcC) ∧ Below w.heap.size w wr
def FindRel (W : World) (L : List Rc) (X : Rc) (k : Value) (wr : World) : Prop := ∃ q : Nat, k = .int .i64 q ∧ q ≤ L.length ∧ (∀ p, (hp : p < L.length) → p < q → ¬ lessR X (L[p]) = true) ∧ Below W.heap.size W wr
def ShiftRel (w : World) (bx g c : Nat) (L : List Rc) (X : Rc) (k : Nat) (m : Value) (wr : World) : Prop := ∃ q : Nat, m = .int .i64 q ∧ k ≤ q ∧ q ≤ L.length ∧ wr.ownsRow w.heap.size 24 2 (.slice (some ⟨g, 0, none⟩) (L.length + 1) c) (L.length + 1) ((shiftL L X q).flatMap rcC) ∧ Below w.heap.size w wr ∧ wr.cell? ⟨bx, 0, none⟩ = some (.int .u64 X.live) ∧ wr.cell? ⟨bx, 1, none⟩ = some (.int .u64 X.id)
set_option maxHeartbeats 4000000 in
theorem ref13Sort_any (A : Option Addr) (c : Nat) (l : List Rc) (S : Nat → Prop) (w : World) (ha : RowR w S 2 rcC A l) (hl : l.length ≤ 1000) (hU : UsR l) :
    Calls Tryd.prog 18 #[.slice A l.length c] w fun e w' => ∃ v, e = .returned v ∧ w'.ownsRow w.heap.size 24 2 v l.length ((sortR l).flatMap rcC) ∧ Below w.heap.size w w' := by
  go_enter Tryd.func18, Tryd.ntmps18
  go_wp2
  go_loopw [3, 4] (fun v i wr => SortRel w l v i wr) (fun _ i _ => l.length - (intOf i).toNat)
  case atStart => exact ⟨0, rfl, Nat.zero_le _, by rw [List.take_zero, sortR_nil]; exact World.ownsRow_nil _ _ _ _, Below.refl _ _⟩
  case round =>
    obtain ⟨j, rfl, hj, hrow, hb⟩ := hrel
    by_cases hgo : j < l.length
    · obtain ⟨b, o, rfl, _, hc0, hc1⟩ := (ha.next hb).rec_ hgo
      have hux := hU _ (List.getElem_mem hgo)
      have HT := Lib.hid (show l.take (j + 1) = l.take j ++ [l[j]'hgo] from List.take_succ_eq_append_getElem hgo)
      have hLl : (sortR (l.take j)).length = j := by rw [sortR_len, List.length_take]; omega
      have HLU := Lib.hid (sortR_us (l := l.take j) (fun r hr => hU r (List.mem_of_mem_take hr)))
      have HTL := Lib.hid (show (l.take j).length = j by rw [List.length_take]; omega)
      have hsz := hb.size
      clear ha
      obtain ⟨x, hx⟩ : ∃ x, x = l[j]'hgo := ⟨_, rfl⟩
      rw [← hx] at hc0 hc1 hux HT
      obtain ⟨L, hL⟩ : ∃ L, L = sortR (l.take j) := ⟨_, rfl⟩
      rw [← hL] at hrow hLl HLU
      have HL := Lib.hid hL
      clear hx hL
      go_wp2_with (fail)
      refine (ref13Clean_any x _ hux.1).mono ?_
      rintro e w1 ⟨rfl, hb1⟩
      have h1 := hb.trans (hb1.mono hsz)
      obtain ⟨X, hX⟩ : ∃ X, X = cleanR x := ⟨_, rfl⟩
      rw [← hX]
      have HX := Lib.hid hX
      have HXU := Lib.hid (show U X.live ∧ U X.id by rw [hX]; exact clean_us hux.2)
      clear hX
      obtain ⟨W, hW⟩ : ∃ W, W = w1.alloc (.cells #[.int .u64 X.live, .int .u64 X.id] 24) := ⟨_, rfl⟩
      obtain ⟨bx, hbx⟩ : ∃ bx, bx = w1.heap.size := ⟨_, rfl⟩
      have h2 : Below w.heap.size w W := by rw [hW]; exact h1.alloc h1.size _
      have kx0 : W.cell? ⟨bx, 0, none⟩ = some (.int .u64 X.live) := by rw [hW, hbx]; simp [go_sem]
      have kx1 : W.cell? ⟨bx, 1, none⟩ = some (.int .u64 X.id) := by rw [hW, hbx]; simp [go_sem]
      have hrow0 := hrow
      have hrow := row_keep (w' := W) hrow (fun k hk => by rw [hW]; exact (Below.heap_alloc _ _ _ (by have := (hrow.lt k hk).2; have := hb1.size; omega)).trans (hb1.block k (hrow.lt k hk).2))
      have HRB := Lib.hid (show ∀ k, u3.ownBlock = some k → k < bx from fun k hk => by rw [hbx]; have := (hrow0.lt k hk).2; have := hb1.size; omega)
      have HBW := Lib.hid (show bx < W.heap.size by rw [hW, hbx]; simp)
      have HW := Lib.hid hW
      have HBX := Lib.hid hbx
      clear hW hbx hb hb1 h1 hc0 hc1
      go_upto_block 2 with (fail)
      rw [← HW.out, ← HBX.out]
      subst hLl
      go_cut [6] from 19 to 33 (fun s wx => ∃ q : Nat, s = .int .i64 q ∧ q ≤ L.length ∧ (∀ p, (hp : p < L.length) → p < q → ¬ lessR X (L[p]) = true) ∧ (∀ hp : q < L.length, lessR X (L[q]) = true) ∧ Below W.heap.size W wx)
      case first =>
        go_wp2_with (fail)
        go_loopw [6] (fun k wr => FindRel W L X k wr) (fun k _ => L.length + 1 - (intOf k).toNat)
        case atStart => exact ⟨0, rfl, Nat.zero_le _, fun p _ h => by omega, Below.refl _ _⟩
        case round =>
          obtain ⟨q, rfl, hq, hle, hbq⟩ := hrel
          have kx0 := (hbq.cell (p := ⟨bx, 0, none⟩) (lt_of_cell kx0)).trans kx0
          have kx1 := (hbq.cell (p := ⟨bx, 1, none⟩) (lt_of_cell kx1)).trans kx1
          by_cases hgo2 : q < L.length
          · obtain ⟨gb, gc, rfl, _, _, ky0, ky1, _, _⟩ := own_rec (row_keep hrow (fun k hk => hbq.block k (hrow.lt k hk).2)) hgo2
            have HYU := Lib.hid (HLU.out _ (List.getElem_mem hgo2))
            obtain ⟨LB, hLB⟩ : ∃ LB, lessR X (L[q]) = LB := ⟨_, rfl⟩
            obtain ⟨Y, hY⟩ : ∃ Y, Y = L[q]'hgo2 := ⟨_, rfl⟩
            have HLB0 := Lib.hid hLB
            rw [← hY] at ky0 ky1 HYU hLB
            have HLB := Lib.hid hLB
            have hd : decide ((q : Int) < (L.length : Int)) = true := decide_eq_true (by omega)
            clear hY hLB hrow
            go_upto_region 7 with (fail)
            refine dir_plain (by kernel_rfl) 13 [[], [], [(20, 1)], [(19, 0), (21, 2)], [(22, 3)], [(23, 4)], [(23, 4)], [(23, 4)], [(23, 4), (25, 6), (26, 7)], [(23, 4), (27, 8)], [(23, 4), (24, 5), (28, 9)], [(23, 4), (29, 10)], [(23, 4), (30, 11)]] [(19, 0), (20, 1), (21, 2), (22, 3), (23, 4), (24, 5), (25, 6), (26, 7), (27, 8), (28, 9), (29, 10), (30, 11), (31, 12)] [
                (fun v _ => v = .int .i64 q),
                (fun v _ => v = .slice (some ⟨gb, 0, none⟩) L.length gc),
                (fun v _ => v = .int .i64 L.length),
                (fun v _ => v = .bool true),
                (fun v _ => v = .bool true),
                (fun v _ => v = .agg #[.int .u64 X.live, .int .u64 X.id]),
                (fun v _ => v = .slice (some ⟨gb, 0, none⟩) L.length gc),
                (fun v _ => v = .int .i64 q),
                (fun v _ => v = .pointer (some ⟨gb, (q * 2), none⟩)),
                (fun v _ => v = .agg #[.int .u64 Y.live, .int .u64 Y.id]),
                (fun v _ => v = .bool LB),
                (fun v _ => v = .bool (!LB)),
                (fun v _ => v = .bool (!LB))
              ] (by kernel_rfl) (by kernel_rfl) (by kernel_rfl) (by decide) ⟨dstab_eq, dstab_eq, dstab_eq, dstab_eq, dstab_eq, dstab_eq, dstab_eq, dstab_eq, dstab_eq, dstab_eq, dstab_eq, dstab_eq, dstab_eq, trivial⟩ ?steps ?fin
            case steps =>
              refine ⟨?_, ?_, ?_, ?_, ?_, ?_, ?_, ?_, ?_, ?_, ?_, ?_, ?_, trivial⟩
              · intro vs g w2 hI hF hR K hK
                simp only [Facts, fill, Act.put, z1, z2, z3, z4, z5, Nat.reduceAdd] at hF hR hK ⊢
                go_simp
                exact hK _ () _ hI (Below.refl _ _) rfl
              · intro vs g w2 hI hF hR K hK
                simp only [Facts, fill, Act.put, z1, z2, z3, z4, z5, Nat.reduceAdd] at hF hR hK ⊢
                go_simp
                exact hK _ () _ hI (Below.refl _ _) rfl
              · intro vs g w2 hI hF hR K hK
                simp only [Facts, fill, Act.put, z1, z2, z3, z4, z5, Nat.reduceAdd] at hF hR hK ⊢
                obtain ⟨r1, -⟩ := hR
                generalize vs 1 = x1 at *
                subst r1
                go_simp
                exact hK _ () _ hI (Below.refl _ _) rfl
              · intro vs g w2 hI hF hR K hK
                simp only [Facts, fill, Act.put, z1, z2, z3, z4, z5, Nat.reduceAdd] at hF hR hK ⊢
                obtain ⟨r0, r2, -⟩ := hR
                generalize vs 0 = x0, vs 2 = x2 at *
                subst r0 r2
                go_simp
                exact hK _ () _ hI (Below.refl _ _) rfl
              · intro vs g w2 hI hF hR K hK
                simp only [Facts, fill, Act.put, z1, z2, z3, z4, z5, Nat.reduceAdd] at hF hR hK ⊢
                obtain ⟨r3, -⟩ := hR
                generalize vs 3 = x3 at *
                subst r3
                go_simp
                exact hK _ () _ hI (Below.refl _ _) rfl
              · intro vs g w2 hI hF hR K hK
                simp only [Facts, fill, Act.put, z1, z2, z3, z4, z5, Nat.reduceAdd] at hF hR hK ⊢
                obtain ⟨r4, -⟩ := hR
                generalize vs 4 = x4 at *
                subst r4
                have k0 := (hI.cell (cell_lt kx0)).trans kx0
                have k1 := (hI.cell (cell_lt kx1)).trans kx1
                go_simp
                exact hK _ () _ hI (Below.refl _ _) rfl
              · intro vs g w2 hI hF hR K hK
                simp only [Facts, fill, Act.put, z1, z2, z3, z4, z5, Nat.reduceAdd] at hF hR hK ⊢
                obtain ⟨r4, -⟩ := hR
                generalize vs 4 = x4 at *
                subst r4
                go_simp
                exact hK _ () _ hI (Below.refl _ _) rfl
              · intro vs g w2 hI hF hR K hK
                simp only [Facts, fill, Act.put, z1, z2, z3, z4, z5, Nat.reduceAdd] at hF hR hK ⊢
                obtain ⟨r4, -⟩ := hR
                generalize vs 4 = x4 at *
                subst r4
                go_simp
                exact hK _ () _ hI (Below.refl _ _) rfl
              · intro vs g w2 hI hF hR K hK
                simp only [Facts, fill, Act.put, z1, z2, z3, z4, z5, Nat.reduceAdd] at hF hR hK ⊢
                obtain ⟨r4, r6, r7, -⟩ := hR
                generalize vs 4 = x4, vs 6 = x6, vs 7 = x7 at *
                subst r4 r6 r7
                go_simp
                exact hK _ () _ hI (Below.refl _ _) rfl
              · intro vs g w2 hI hF hR K hK
                simp only [Facts, fill, Act.put, z1, z2, z3, z4, z5, Nat.reduceAdd] at hF hR hK ⊢
                obtain ⟨r4, r8, -⟩ := hR
                generalize vs 4 = x4, vs 8 = x8 at *
                subst r4 r8
                have k0 := (hI.cell (cell_lt ky0)).trans ky0
                have k1 := (hI.cell (cell_lt ky1)).trans ky1
                go_simp
                exact hK _ () _ hI (Below.refl _ _) rfl
              · intro vs g w2 hI hF hR K hK
                simp only [Facts, fill, Act.put, z1, z2, z3, z4, z5, Nat.reduceAdd] at hF hR hK ⊢
                obtain ⟨r4, r5, r9, -⟩ := hR
                generalize vs 4 = x4, vs 5 = x5, vs 9 = x9 at *
                subst r4 r5 r9
                go_simp
                refine (ref13Less_any X Y LB _ HXU.out HYU.out HLB.out).mono ?_
                rintro e w3 ⟨rfl, hb⟩
                exact hK _ () _ (hI.trans (hb.mono hI.size)) hb rfl
              · intro vs g w2 hI hF hR K hK
                simp only [Facts, fill, Act.put, z1, z2, z3, z4, z5, Nat.reduceAdd] at hF hR hK ⊢
                obtain ⟨r4, r10, -⟩ := hR
                generalize vs 4 = x4, vs 10 = x10 at *
                subst r4 r10
                go_simp
                exact hK _ () _ hI (Below.refl _ _) rfl
              · intro vs g w2 hI hF hR K hK
                simp only [Facts, fill, Act.put, z1, z2, z3, z4, z5, Nat.reduceAdd] at hF hR hK ⊢
                obtain ⟨r4, r11, -⟩ := hR
                generalize vs 4 = x4, vs 11 = x11 at *
                subst r4 r11
                go_simp
                exact hK _ () _ hI (Below.refl _ _) rfl
            case fin =>
              intro vs w2 hI hR
              have r12 := hR 12 (by decide)
              simp only [fill, Act.put, z1, z2, z3, z4, z5] at r12 ⊢
              clear hR
              generalize vs 12 = x12 at *
              subst r12
              refine NoPanic.normal ?_
              have h4 := hbq.trans (hI.mono hbq.size)
              rcases LB with _ | _
              · go_wp2
                exact ⟨⟨q + 1, by go_num, hgo2, fun p hp h => by
                  by_cases e : p = q
                  · subst e; rw [HLB0.out]; decide
                  · exact hle p hp (by omega), h4⟩, by simp [intOf]; omega⟩
              · go_wp2
                go_meet
                exact ⟨q, rfl, hq, hle, fun _ => HLB0.out, h4⟩
          · have hd : decide ((q : Int) < (L.length : Int)) = false := decide_eq_false (by omega)
            clear hrow
            obtain ⟨gb, gc, hu⟩ : ∃ A gc, u3 = .slice A L.length gc := row_form hrow0
            subst hu
            go_upto_region 7 with (fail)
            refine dir_plain (by kernel_rfl) 13 [[], [], [(20, 1)], [(19, 0), (21, 2)], [(22, 3)], [(23, 4)], [(23, 4)], [(23, 4)], [(23, 4), (25, 6), (26, 7)], [(23, 4), (27, 8)], [(23, 4), (24, 5), (28, 9)], [(23, 4), (29, 10)], [(23, 4), (30, 11)]] [(19, 0), (20, 1), (21, 2), (22, 3), (23, 4), (24, 5), (25, 6), (26, 7), (27, 8), (28, 9), (29, 10), (30, 11), (31, 12)] [
                (fun v _ => v = .int .i64 q),
                (fun v _ => v = .slice gb L.length gc),
                (fun v _ => v = .int .i64 L.length),
                (fun v _ => v = .bool false),
                (fun v _ => v = .bool false),
                (fun v _ => v = undef),
                (fun v _ => v = undef),
                (fun v _ => v = undef),
                (fun v _ => v = undef),
                (fun v _ => v = undef),
                (fun v _ => v = undef),
                (fun v _ => v = undef),
                (fun v _ => v = .bool false)
              ] (by kernel_rfl) (by kernel_rfl) (by kernel_rfl) (by decide) ⟨dstab_eq, dstab_eq, dstab_eq, dstab_eq, dstab_eq, dstab_eq, dstab_eq, dstab_eq, dstab_eq, dstab_eq, dstab_eq, dstab_eq, dstab_eq, trivial⟩ ?steps ?fin
            case steps =>
              refine ⟨?_, ?_, ?_, ?_, ?_, ?_, ?_, ?_, ?_, ?_, ?_, ?_, ?_, trivial⟩
              · intro vs g w2 hI hF hR K hK
                simp only [Facts, fill, Act.put, z1, z2, z3, z4, z5, Nat.reduceAdd] at hF hR hK ⊢
                go_simp
                exact hK _ () _ hI (Below.refl _ _) rfl
              · intro vs g w2 hI hF hR K hK
                simp only [Facts, fill, Act.put, z1, z2, z3, z4, z5, Nat.reduceAdd] at hF hR hK ⊢
                go_simp
                exact hK _ () _ hI (Below.refl _ _) rfl
              · intro vs g w2 hI hF hR K hK
                simp only [Facts, fill, Act.put, z1, z2, z3, z4, z5, Nat.reduceAdd] at hF hR hK ⊢
                obtain ⟨r1, -⟩ := hR
                generalize vs 1 = x1 at *
                subst r1
                go_simp
                exact hK _ () _ hI (Below.refl _ _) rfl
              · intro vs g w2 hI hF hR K hK
                simp only [Facts, fill, Act.put, z1, z2, z3, z4, z5, Nat.reduceAdd] at hF hR hK ⊢
                obtain ⟨r0, r2, -⟩ := hR
                generalize vs 0 = x0, vs 2 = x2 at *
                subst r0 r2
                go_simp
                exact hK _ () _ hI (Below.refl _ _) rfl
              · intro vs g w2 hI hF hR K hK
                simp only [Facts, fill, Act.put, z1, z2, z3, z4, z5, Nat.reduceAdd] at hF hR hK ⊢
                obtain ⟨r3, -⟩ := hR
                generalize vs 3 = x3 at *
                subst r3
                go_simp
                exact hK _ () _ hI (Below.refl _ _) rfl
              · intro vs g w2 hI hF hR K hK
                simp only [Facts, fill, Act.put, z1, z2, z3, z4, z5, Nat.reduceAdd] at hF hR hK ⊢
                obtain ⟨r4, -⟩ := hR
                generalize vs 4 = x4 at *
                subst r4
                go_simp
                exact hK _ () _ hI (Below.refl _ _) rfl
              · intro vs g w2 hI hF hR K hK
                simp only [Facts, fill, Act.put, z1, z2, z3, z4, z5, Nat.reduceAdd] at hF hR hK ⊢
                obtain ⟨r4, -⟩ := hR
                generalize vs 4 = x4 at *
                subst r4
                go_simp
                exact hK _ () _ hI (Below.refl _ _) rfl
              · intro vs g w2 hI hF hR K hK
                simp only [Facts, fill, Act.put, z1, z2, z3, z4, z5, Nat.reduceAdd] at hF hR hK ⊢
                obtain ⟨r4, -⟩ := hR
                generalize vs 4 = x4 at *
                subst r4
                go_simp
                exact hK _ () _ hI (Below.refl _ _) rfl
              · intro vs g w2 hI hF hR K hK
                simp only [Facts, fill, Act.put, z1, z2, z3, z4, z5, Nat.reduceAdd] at hF hR hK ⊢
                obtain ⟨r4, r6, r7, -⟩ := hR
                generalize vs 4 = x4, vs 6 = x6, vs 7 = x7 at *
                subst r4 r6 r7
                go_simp
                exact hK _ () _ hI (Below.refl _ _) rfl
              · intro vs g w2 hI hF hR K hK
                simp only [Facts, fill, Act.put, z1, z2, z3, z4, z5, Nat.reduceAdd] at hF hR hK ⊢
                obtain ⟨r4, r8, -⟩ := hR
                generalize vs 4 = x4, vs 8 = x8 at *
                subst r4 r8
                go_simp
                exact hK _ () _ hI (Below.refl _ _) rfl
              · intro vs g w2 hI hF hR K hK
                simp only [Facts, fill, Act.put, z1, z2, z3, z4, z5, Nat.reduceAdd] at hF hR hK ⊢
                obtain ⟨r4, r5, r9, -⟩ := hR
                generalize vs 4 = x4, vs 5 = x5, vs 9 = x9 at *
                subst r4 r5 r9
                go_simp
                exact hK _ () _ hI (Below.refl _ _) rfl
              · intro vs g w2 hI hF hR K hK
                simp only [Facts, fill, Act.put, z1, z2, z3, z4, z5, Nat.reduceAdd] at hF hR hK ⊢
                obtain ⟨r4, r10, -⟩ := hR
                generalize vs 4 = x4, vs 10 = x10 at *
                subst r4 r10
                go_simp
                exact hK _ () _ hI (Below.refl _ _) rfl
              · intro vs g w2 hI hF hR K hK
                simp only [Facts, fill, Act.put, z1, z2, z3, z4, z5, Nat.reduceAdd] at hF hR hK ⊢
                obtain ⟨r4, r11, -⟩ := hR
                generalize vs 4 = x4, vs 11 = x11 at *
                subst r4 r11
                go_simp
                exact hK _ () _ hI (Below.refl _ _) rfl
            case fin =>
              intro vs w2 hI hR
              have r12 := hR 12 (by decide)
              simp only [fill, Act.put, z1, z2, z3, z4, z5] at r12 ⊢
              clear hR
              generalize vs 12 = x12 at *
              subst r12
              refine NoPanic.normal ?_
              have h4 := hbq.trans (hI.mono hbq.size)
              go_wp2
              go_meet
              exact ⟨q, rfl, hq, hle, fun h => by omega, h4⟩
      case rest =>
        obtain ⟨q, rfl, hq, hle, hlt, hbq⟩ := hcut
        have kx0 := (hbq.cell (p := ⟨bx, 0, none⟩) (lt_of_cell kx0)).trans kx0
        have kx1 := (hbq.cell (p := ⟨bx, 1, none⟩) (lt_of_cell kx1)).trans kx1
        have hrow := row_keep (w' := wc) hrow (fun k hk => hbq.block k (hrow.lt k hk).2)
        have h3 := h2.trans (hbq.mono h2.size)
        clear h2
        go_wp2_with (first
          | (at_builtin; refine wp_app_row elemRc rfl _ _ rfl w.heap.size _ L.length (L.flatMap rcC) rfl (hrow.alloc _) (some ⟨wc.heap.size, 0, none⟩) 1 1 [X] (fun g => wc.heap.size ≤ g) rfl rfl (row_lit (C := rcC) (fun _ => rfl) [X]) (fun h => by cases h) (by omega) (by have := h3.size; simp; omega) ?_
             intro v' w4 hrow4 hgrow4 hloc
             have hb4 : Below w.heap.size w w4 := (h3.alloc h3.size _).grown hgrow4 (by have := h3.size; simp; omega) (fun k e => (hrow.lt k e).1)
             have hrow4 := own_snoc hrow4
             have hcs := hbq.size
             obtain ⟨g4, c4, rfl, hg4, hg4b⟩ := hrow4.form (by omega)
             have hne : g4 ≠ bx := fun e => by
               rcases hloc with h | h
               · have := HRB.out g4 h.symm; omega
               · injection h with h; have := HBW.out; simp at h; omega
             have hbk : w4.heap[bx]? = wc.heap[bx]? := (hgrow4.block bx (by have := HBW.out; simp; omega) (fun e => by have := HRB.out bx e.symm; omega)).trans (Below.heap_alloc _ _ _ (by have := HBW.out; omega))
             have kx0 := (World.cell?_of_block (a := ⟨bx, 0, none⟩) hbk).trans kx0
             have kx1 := (World.cell?_of_block (a := ⟨bx, 1, none⟩) hbk).trans kx1
             have e1 : IntKind.i64.wrap ((L.length : Int) + 1 - 1) = (L.length : Int) := by rw [wrap_s]; omega
             clear hrow hgrow4 hloc))
        go_loopw [7] (fun m wr => ShiftRel w bx g4 c4 L X q m wr) (fun m _ => (intOf m).toNat)
        case atStart => exact ⟨L.length, rfl, hq, Nat.le_refl _, hrow4, hb4, kx0, kx1⟩
        case round =>
          clear hrow4 hb4 kx0 kx1
          obtain ⟨m, rfl, hqm, hmL, hrow, hb, kx0, kx1⟩ := hrel
          have hz := hb.size
          by_cases hgt : q < m
          · obtain ⟨m, rfl⟩ : ∃ k, m = k + 1 := ⟨m - 1, by omega⟩
            have hY := flatC_at (C := rcC) (k := 2) (fun _ => rfl) _ _ _ (shiftL_prev (L := L) (x := X) (m := m) (by omega))
            have y0 := (World.ownsRow.cellAt hrow (m * 2) (by omega)).trans (hY 0 (by decide))
            have y1 := (World.ownsRow.cellAt hrow (m * 2 + 1) (by omega)).trans (hY 1 (by decide))
            have z0 := World.ownsRow.frozenAt hrow ((m + 1) * 2)
            have z1 := World.ownsRow.frozenAt hrow ((m + 1) * 2 + 1)
            have hW := flatC_at (C := rcC) (k := 2) (fun _ => rfl) _ _ _ (List.getElem?_eq_getElem (show m + 1 < (shiftL L X (m + 1)).length by rw [shiftL_len (by omega)]; omega))
            obtain ⟨v0, x0⟩ : ∃ v0, wr.cell? ⟨g4, (m + 1) * 2, none⟩ = some v0 := ⟨_, (World.ownsRow.cellAt hrow ((m + 1) * 2) (by omega)).trans (hW 0 (by decide))⟩
            obtain ⟨v1, x1⟩ : ∃ v1, wr.cell? ⟨g4, (m + 1) * 2 + 1, none⟩ = some v1 := ⟨_, (World.ownsRow.cellAt hrow ((m + 1) * 2 + 1) (by omega)).trans (hW 1 (by decide))⟩
            have hrow2 := own_setR hrow (m + 1) (L[m]'(by omega))
            rw [shiftL_step (by omega)] at hrow2
            have e2 : IntKind.i64.wrap (((m + 1 : Nat) : Int) - 1) = (m : Int) := by rw [wrap_s]; omega
            have hb2 : Below w.heap.size w ((wr.setCell ⟨g4, (m + 1) * 2, none⟩ (.int .u64 (L[m]'(by omega)).live)).setCell ⟨g4, (m + 1) * 2 + 1, none⟩ (.int .u64 (L[m]'(by omega)).id)) := (hb.setCell hg4 _).setCell hg4 _
            have ko0 := set_low (q := g4) (i := (m + 1) * 2 + 1) (v := .int .u64 (L[m]'(by omega)).id) (set_low (q := g4) (i := (m + 1) * 2) (v := .int .u64 (L[m]'(by omega)).live) kx0 (Ne.symm hne)) (Ne.symm hne)
            have ko1 := set_low (q := g4) (i := (m + 1) * 2 + 1) (v := .int .u64 (L[m]'(by omega)).id) (set_low (q := g4) (i := (m + 1) * 2) (v := .int .u64 (L[m]'(by omega)).live) kx1 (Ne.symm hne)) (Ne.symm hne)
            change wr.cell? ⟨g4, m * 2, none⟩ = some (.int .u64 (L[m]'(by omega)).live) at y0
            change wr.cell? ⟨g4, m * 2 + 1, none⟩ = some (.int .u64 (L[m]'(by omega)).id) at y1
            have HR2 := Lib.hid hrow2
            have HB2 := Lib.hid hb2
            have HK0 := Lib.hid ko0
            have HK1 := Lib.hid ko1
            clear hrow2 hb2 ko0 ko1 hY hW
            generalize (L[m]'(by omega)) = Y at *
            clear hrow kx0 kx1
            go_wp2
            exact ⟨⟨m, rfl, by omega, by omega, HR2.out, HB2.out, HK0.out, HK1.out⟩, by simp [intOf]⟩
          · obtain rfl : m = q := by omega
            have HN := Lib.hid (show sortR (l.take (L.length + 1)) = (shiftL L X m).set m X by
              rw [shiftL_end hmL, HT.out, HX.out]
              have key := sortR_snoc (l := l.take L.length) (x := x) (k := m) hux.2 (by rw [HTL.out]; exact hmL) (by rw [← HL.out, ← HX.out]; exact hle) (by rw [← HL.out, ← HX.out]; exact hlt)
              rw [key, ← HL.out])
            have z0 := World.ownsRow.frozenAt hrow (m * 2)
            have z1 := World.ownsRow.frozenAt hrow (m * 2 + 1)
            have hW := flatC_at (C := rcC) (k := 2) (fun _ => rfl) _ _ _ (List.getElem?_eq_getElem (show m < (shiftL L X m).length by rw [shiftL_len (by omega)]; omega))
            obtain ⟨v0, x0⟩ : ∃ v0, wr.cell? ⟨g4, m * 2, none⟩ = some v0 := ⟨_, (World.ownsRow.cellAt hrow (m * 2) (by omega)).trans (hW 0 (by decide))⟩
            obtain ⟨v1, x1⟩ : ∃ v1, wr.cell? ⟨g4, m * 2 + 1, none⟩ = some v1 := ⟨_, (World.ownsRow.cellAt hrow (m * 2 + 1) (by omega)).trans (hW 1 (by decide))⟩
            have hrow2 := own_setR hrow m X
            rw [← HN.out] at hrow2
            have hb2 : Below w.heap.size w ((wr.setCell ⟨g4, m * 2, none⟩ (.int .u64 X.live)).setCell ⟨g4, m * 2 + 1, none⟩ (.int .u64 X.id)) := (hb.setCell hg4 _).setCell hg4 _
            have HR2 := Lib.hid hrow2
            have HB2 := Lib.hid hb2
            clear hrow2 hb2 hW hrow hle hlt
            go_wp2
            exact ⟨⟨L.length + 1, by go_num, hgo, HR2.out, HB2.out⟩, by simp [intOf]; omega⟩
    · have HE := Lib.hid (show l.take j = l from List.take_of_length_le (by omega))
      obtain rfl : j = l.length := by omega
      rw [HE.out] at hrow
      clear ha
      go_wp2
      go_ret
      exact ⟨_, rfl, hrow, hb⟩
end Go.Proofs.YthdghhfdbckilaaDoor
