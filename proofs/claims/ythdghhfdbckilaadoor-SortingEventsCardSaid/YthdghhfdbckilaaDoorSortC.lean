/-
  Contracts of package sorting over the landed code: Sort.
-/
import Derived.Test.YthdghhfdbckilaaDoorSortB
import Derived.Test.YthdghhfdbckilaaDoorSortP
import Derived.Test.YthdghhfdbckilaaDoorTapeL
import Derived.Test.YthdghhfdbckilaaDoorRef12s
import Derived.Test.YthdghhfdbckilaaDoorArr11
import Derived.Test.YthdghhfdbckilaaDoorNetCl
import Derived.Lib.MinMax
namespace Go.Proofs.YthdghhfdbckilaaDoor
open Go.RowKit Go.Maps Go.Shelf
set_option maxRecDepth 100000
set_option linter.unusedVariables false
set_option linter.unusedSimpArgs false
attribute [local go_sem] Oper.semAt_some

/-- The events of the network for the least power of two that is at least n. -/
def pairE (n : Nat) : List Ev := (compsN (sizeN n)).map fun c => ⟨3, c.1, c.2⟩
def pairsE (cs : List (Nat × Nat)) : List Ev := cs.map fun c => ⟨3, c.1, c.2⟩
theorem pairsE_len (cs : List (Nat × Nat)) : (pairsE cs).length = cs.length := by unfold pairsE; simp
theorem pairsE_succ {cs : List (Nat × Nat)} {k : Nat} (h : k < cs.length) : pairsE (cs.take (k + 1)) = pairsE (cs.take k) ++ [⟨3, cs[k].1, cs[k].2⟩] := by unfold pairsE; rw [List.take_succ_eq_append_getElem h, List.map_append]; rfl
/-- What Sort's loop keeps. -/
structure SrtI (w : World) (T : Nat → Prop) (tv : Value) (evs : List Ev) (b D g N : Nat) (bs : List (Nat × Obj)) (es : List Ev) (rs : List Int) (W : World) : Prop where
  moved : Moved T w W
  size : D + 2 ≤ W.heap.size
  box0 : W.heap[w.heap.size]? = some (.cells #[tv] 37 (0, 0))
  box : W.heap[b]? = some (.cells #[.slice (some ⟨g, 0, none⟩) N N] 30 (0, 0))
  row : W.ownsRow w.heap.size 24 2 (.slice (some ⟨g, 0, none⟩) N N) N ((rs.map unrank).flatMap rcC)
  its : ∀ p ∈ bs, W.heap[p.1]? = some p.2
  tape : TapeO W (Star w T (D + 2)) tv (addT tv evs es)
theorem U_unrank {x : Int} (h : 0 ≤ x ∧ x ≤ 18446744073709551616) : U (unrank x).live ∧ U (unrank x).id := by
  unfold unrank
  split
  · exact ⟨U_zero, U_zero⟩
  · refine ⟨U_one, ?_⟩
    show U x
    unfold U
    omega
theorem cswap_unrank {rs : List Int} {lo hi : Nat} {x y : Int} {h1 : lo < rs.length} {h2 : hi < rs.length} (hx : rs[lo] = x) (hy : rs[hi] = y) :
    ordR (rs.map unrank) lo hi (selRc (decide (y < x)) (unrank y) (unrank x)) (selRc (decide (y < x)) (unrank x) (unrank y)) = (Net.cswap rs (lo, hi)).map unrank := by
  unfold Net.cswap ordR
  have e1 : rs.getD lo 0 = x := by rw [← hx]; simp [h1]
  have e2 : rs.getD hi 0 = y := by rw [← hy]; simp [h2]
  simp only [e1, e2, List.map_set]
  unfold selRc
  by_cases h : y < x
  · rw [decide_eq_true h, Int.min_eq_right (by omega), Int.max_eq_left (by omega)]; rfl
  · rw [decide_eq_false h, Int.min_eq_left (by omega), Int.max_eq_right (by omega)]; rfl
section
variable {w : World} {T : Nat → Prop} {tv : Value} {evs : List Ev} {b D g N : Nat} {bs : List (Nat × Obj)} {es es' : List Ev} {rs rs' : List Int} {W W' : World}
theorem SrtI.next (h : SrtI w T tv evs b D g N bs es rs W) (hb : Below W.heap.size W W') : SrtI w T tv evs b D g N bs es rs W' :=
  have lt : ∀ {j : Nat} {o : Obj}, W.heap[j]? = some o → j < W.heap.size := fun h => (Array.getElem?_eq_some_iff.1 h).1
  ⟨h.moved.trans (.of_below hb), Nat.le_trans h.size hb.size, (hb.block _ (lt h.box0)).trans h.box0, (hb.block _ (lt h.box)).trans h.box, row_keep h.row fun g' hg' => hb.block g' (World.ownsRow.lt h.row g' hg').2, fun p hp => (hb.block _ (lt (h.its p hp))).trans (h.its p hp), h.tape.next hb⟩
theorem SrtI.put (h : SrtI w T tv evs b D g N bs es rs W) {l : Nat} (hl : D ≤ l) (hl2 : l < D + 2) (hw : w.heap.size < D) (hb : b < D) (hg : g < D) (hbs : ∀ p ∈ bs, p.1 < D) (o : Obj) : SrtI w T tv evs b D g N bs es rs (W.putObj l o) := by
  have hsz : (W.putObj l o).heap.size = W.heap.size := World.putObj_size
  refine ⟨⟨h.moved.os, h.moved.tape, h.moved.output, by rw [hsz]; exact h.moved.size, fun j hj hT => (World.putObj_heap_other (by omega)).trans (h.moved.block j hj hT)⟩, by rw [hsz]; exact h.size, (World.putObj_heap_other (by omega)).trans h.box0, (World.putObj_heap_other (by omega)).trans h.box, row_keep h.row fun g' hg' => World.putObj_heap_other ?_, fun p hp => (World.putObj_heap_other (by have := hbs p hp; omega)).trans (h.its p hp), tape_put h.tape (by omega) (by omega) o⟩
  have : g = g' := by simpa [Value.ownBlock] using hg'
  omega
theorem SrtI.noted {U : Nat → Prop} (h : SrtI w T tv evs b D g N bs es rs W) (hm : Moved U W W') (hU : ∀ b, U b → Star w T (D + 2) b) (ht : TapeO W' (Star w T (D + 2)) tv (addT tv evs es')) (hgw : w.heap.size ≤ g) (hb1 : w.heap.size ≤ b) (hb : b < D) (hg : g < D) (hbs : ∀ p ∈ bs, w.heap.size ≤ p.1 ∧ p.1 < D) : SrtI w T tv evs b D g N bs es' rs W' := by
  have lt : ∀ {j : Nat} {o : Obj}, W.heap[j]? = some o → j < W.heap.size := fun h => (Array.getElem?_eq_some_iff.1 h).1
  have keep : ∀ j, w.heap.size ≤ j → j < D + 2 → j < W.heap.size → W'.heap[j]? = W.heap[j]? := fun j h1 h2 h3 => hm.block j h3 (fun e => Star.not h1 h2 (hU j e))
  refine ⟨⟨hm.os.trans h.moved.os, hm.tape.trans h.moved.tape, hm.output.trans h.moved.output, Nat.le_trans h.moved.size hm.size, fun j hj hT => (hm.block j (Nat.lt_of_lt_of_le hj h.moved.size) (fun e => by rcases hU j e with e | e; exact hT e.1; omega)).trans (h.moved.block j hj hT)⟩, Nat.le_trans h.size hm.size, (keep _ (Nat.le_refl _) (by omega) (lt h.box0)).trans h.box0, (keep _ hb1 (by omega) (lt h.box)).trans h.box, row_keep h.row fun g' hg' => ?_, fun p hp => (keep _ (hbs p hp).1 (by have := (hbs p hp).2; omega) (lt (h.its p hp))).trans (h.its p hp), ht⟩
  have e : g = g' := by simpa [Value.ownBlock] using hg'
  subst e
  exact keep _ hgw (by omega) (World.ownsRow.lt h.row g rfl).2
theorem SrtI.own (h : SrtI w T tv evs b D g N bs es rs W) (hrow : W'.ownsRow w.heap.size 24 2 (.slice (some ⟨g, 0, none⟩) N N) N ((rs'.map unrank).flatMap rcC)) (hm : Moved (fun b => b = g) W W') (hgw : w.heap.size ≤ g) (hgb : g < D + 2) (hne : b ≠ g ∧ w.heap.size ≠ g) (hbs : ∀ p ∈ bs, p.1 ≠ g) : SrtI w T tv evs b D g N bs es rs' W' := by
  have lt : ∀ {j : Nat} {o : Obj}, W.heap[j]? = some o → j < W.heap.size := fun h => (Array.getElem?_eq_some_iff.1 h).1
  exact ⟨moved_own h.moved hm hgw, Nat.le_trans h.size hm.size, (hm.block _ (lt h.box0) hne.2).trans h.box0, (hm.block _ (lt h.box) hne.1).trans h.box, hrow, fun p hp => (hm.block _ (lt (h.its p hp)) (hbs p hp)).trans (h.its p hp), h.tape.keep fun j hj hl => hm.block j hl (fun e => Star.not hgw hgb (e ▸ hj))⟩
end
set_option maxHeartbeats 8000000 in
theorem sortSort_c (tv : Value) (evs : List Ev) (T S : Nat → Prop) (A : Option Addr) (n c : Nat) (l : List Rc) (w : World) (hw : ∀ W, Moved T w W → Wts W) (ht : TapeO w T tv evs) (he : evs.length ≤ 500000) (ha : RowR w S 2 rcC A l) (hST : ∀ b, S b → ¬ T b) (hn : n = l.length) (hl : n ≤ 4096) (hU : UsR l) :
    Calls Tryd.prog 16 #[tv, .slice A n c] w fun e w' => ∃ (A' : Option Addr) (c' : Nat) (R : Nat → Prop), e = .returned (.slice A' n c') ∧ n ≤ c' ∧ (∀ b, R b → w.heap.size ≤ b) ∧ RowR w' R 2 rcC A' (sortR l) ∧ (A' = none → c' = 0) ∧ TapeO w' (fun g => (T g ∨ w.heap.size ≤ g) ∧ ¬ R g) tv (addT tv evs (pairE n)) ∧ Moved T w w' := by
  obtain ⟨tp, rfl⟩ : ∃ tp, tv = .pointer tp := by
    rcases ht with ⟨rfl, _⟩ | ⟨tb, rfl, _⟩
    · exact ⟨_, rfl⟩
    · exact ⟨_, rfl⟩
  obtain ⟨N, hs, hnN, hN4, hcase⟩ := sizeN_fit hl
  obtain ⟨hwi, hnl⟩ := net_pad hn hnN hU hcase
  have hcl := compsN_le (hcase.imp (fun h => h.2) id)
  have HE := Lib.hid (show pairE n = pairsE (compsN N) by unfold pairE pairsE; rw [hs])
  have HSR := Lib.hid (show ((sortI (ranks l) ++ List.replicate (N - n) 18446744073709551616).map unrank).take n = sortR l by
    rw [List.map_append, List.take_append_of_le_length (by rw [List.length_map, sortI_len]; unfold ranks; simp; omega), List.take_of_length_le (by rw [List.length_map, sortI_len]; unfold ranks; simp; omega)]; rfl)
  have HPL := Lib.hid (padI_le (N := N) hU)
  have HPN := Lib.hid (padI_len (N := N) (l := l) (by omega))
  obtain ⟨W0, hW0⟩ : ∃ W0, W0 = w.alloc (.cells #[.pointer tp] 37) := ⟨_, rfl⟩
  have hb0 : Below w.heap.size w W0 := by rw [hW0]; exact (Below.refl _ _).alloc (Nat.le_refl _) _
  have hs0 : W0.heap.size = w.heap.size + 1 := by rw [hW0]; simp
  have hbx0 : W0.heap[w.heap.size]? = some (.cells #[.pointer tp] 37 (0, 0)) := by rw [hW0]; exact heap_alloc_new w _
  have HW0 := Lib.hid hW0
  have HPD := Lib.hid (sortPadded_any A n c N l S W0 (hw _ (.of_below hb0)) (ha.next hb0) hn hs hnN hN4 hU)
  have HALL := Lib.hid (fun w => netAll_c N w)
  have HCL := Lib.hid (And.intro he hcl)
  generalize compsN N = cs at HCL hwi hnl hcl HE HALL
  have HWI := Lib.hid hwi
  have HNL := Lib.hid hnl
  have HNN := Lib.hid hn
  rw [HE.out]
  clear hW0 hwi hnl hcase hs hn
  refine (callsIn_wide (n := 9)).1 ?_
  refine callsIn_of_wp_marks Tryd.func16 rfl trivial ?_ rfl
  simp only [Tryd.ntmps16, List.size_toArray, List.length_cons, List.length_nil, Nat.reduceAdd, Nat.reduceSub, Array.replicate_succ, Array.replicate_zero, List.push_toArray, List.append_toArray, List.nil_append, List.cons_append]
  gi_wp2_with (fail)
  rw [← HW0.out]
  refine ⟨trivial, (callsIn_wide.2 HPD.out).mono ?_⟩
  rintro e w1 ⟨g, rfl, hrow1, hb1⟩
  have hgb := (World.ownsRow.lt hrow1 g rfl).1
  have hgl := (World.ownsRow.lt hrow1 g rfl).2
  have hs1 := hb1.size
  obtain ⟨w2, hw2⟩ : ∃ w2, w2 = w1.alloc (.cells #[.slice (some ⟨g, 0, none⟩) N N] 30) := ⟨_, rfl⟩
  have hb2 : Below w1.heap.size w1 w2 := by rw [hw2]; exact (Below.refl _ _).alloc (Nat.le_refl _) _
  have hs2 : w2.heap.size = w1.heap.size + 1 := by rw [hw2]; simp
  have hbx : w2.heap[w1.heap.size]? = some (.cells #[.slice (some ⟨g, 0, none⟩) N N] 30 (0, 0)) := by rw [hw2]; exact heap_alloc_new w1 _
  have HW2 := Lib.hid hw2
  clear hw2
  gi_wp2_with (fail)
  rw [← HW2.out]
  refine ⟨trivial, (callsIn_wide.2 (HALL.out w2)).mono ?_⟩
  rintro e w3 ⟨f, rfl, ⟨gf, lb, bs, rfl, eg, hbs, hy⟩, hb3⟩
  have hs3 := hb3.size
  have hlt0 : ∀ p ∈ bs, w2.heap.size ≤ p.1 ∧ p.1 < w3.heap.size := fun p hp => ⟨(hbs p hp).1, (Array.getElem?_eq_some_iff.1 (hbs p hp).2).1⟩
  have hb13 : Below w1.heap.size w1 w3 := hb2.trans (hb3.mono (by omega))
  have hb03 : Below W0.heap.size W0 w3 := hb1.trans (hb13.mono hs1)
  have hbw : Below w.heap.size w w3 := hb0.trans (hb03.mono (by omega))
  gi_wp2_with (fail)
  -- LOOP
  refine wpIn_rangeFunc_z (F := Fence.wide) (n := 9) rfl (by decide) (gf := gf) rfl trivial eg hy (fun _ => rfl)
    (fun k W => SrtI w T (.pointer tp) evs w1.heap.size w3.heap.size g N bs (pairsE (cs.take k)) ((cs.take k).foldl Net.cswap (padI N l)) W)
    (fun k W => SrtI w T (.pointer tp) evs w1.heap.size w3.heap.size g N bs (pairsE (cs.take k)) ((cs.take k).foldl Net.cswap (padI N l)) W)
    (fun _ _ => False) ?hI (fun _ _ _ h => h) ?h0 ?hpre ?hst ?hfi (fun _ _ _ _ h => h.elim)
    (fun k a' W => SrtI w T (.pointer tp) evs w1.heap.size w3.heap.size g N bs (pairsE (cs.take k)) ((cs.take k).foldl Net.cswap (padI N l)) W ∧ ∃ cb, w3.heap.size + 2 ≤ cb ∧ W.heap[cb]? = some (.cells #[.int .i64 ((cs.getD k (0, 0)).1 : Nat), .int .i64 ((cs.getD k (0, 0)).2 : Nat)] 62) ∧ TapeO W (fun b => Star w T (w3.heap.size + 2) b ∧ b ≠ cb) (.pointer tp) (addT (.pointer tp) evs (pairsE (cs.take k))) ∧
      a' = { tmps := #[.pointer tp, .slice A n c, .pointer (some ⟨w.heap.size, 0, none⟩), undef, .slice none 0 0, .pointer (some ⟨w1.heap.size, 0, none⟩), .pointer (some ⟨cb, 0, none⟩), .slice A n c, .slice (some ⟨g, 0, none⟩) N N, .slice (some ⟨g, 0, none⟩) N N, .int .i64 N, .func (.func gf) #[] lb, .agg #[.int .i64 ((cs.getD k (0, 0)).1 : Nat), .int .i64 ((cs.getD k (0, 0)).2 : Nat)], undef, undef, undef, undef, undef, undef, undef, undef, undef, undef, undef, undef, undef, undef, undef, undef, undef, undef, undef, undef, undef, undef], defers := [] }) ?hAx ?assign ?body ?done ?stop
  case hI => exact fun k W o h => h.put (by omega) (by omega) (by omega) (by omega) (by omega) (fun p hp => (hlt0 p hp).2) o
  case h0 =>
    intro o
    have hb4 : Below w3.heap.size w3 ((w3.alloc (.deferred (some []))).alloc o) := ((Below.refl _ _).alloc (Nat.le_refl _) _).alloc (by simp) _
    have h13 : Below w1.heap.size w1 ((w3.alloc (.deferred (some []))).alloc o) := hb13.trans (hb4.mono (by omega))
    refine ⟨.of_below (hbw.trans (hb4.mono (by omega))), by simp, (hb4.block _ (by omega)).trans ((hb03.block _ (by omega)).trans hbx0), (hb4.block _ (by omega)).trans ((hb3.block _ (by omega)).trans hbx), ?_, fun p hp => (hb4.block _ (hlt0 p hp).2).trans (hbs p hp).2, ?_⟩
    · exact row_lower (row_keep hrow1 fun g' hg' => h13.block g' (World.ownsRow.lt hrow1 g' hg').2) (by omega)
    · show TapeO _ _ _ (addT _ evs [])
      rw [addT_nil ht]
      exact tape_start ht hbw _ _ o
  case hpre => exact fun k W h => h.its
  case hst => exact fun k W W' _ hlt h hs => ⟨Same2.of_below hs hlt, h.next hs⟩
  case hfi => exact fun W W' hlt h hs => ⟨Same2.of_below hs hlt, h.next hs⟩
  case hAx =>
    rintro k a' W o ⟨h, cb, hcb, hh, ht', rfl⟩
    exact ⟨h.put (by omega) (by omega) (by omega) (by omega) (by omega) (fun p hp => (hlt0 p hp).2) o, cb, hcb, (World.putObj_heap_other (by omega)).trans hh, ht'.keep fun b hb _ => World.putObj_heap_other (fun e => Star.not (by omega) (by omega) (e ▸ hb.1)), rfl⟩
  case assign =>
    intro l' k W K hk hlt h hK
    have hsz := h.size
    dsimp only [cmpV]
    obtain ⟨p, hp⟩ : ∃ p, p = cs.getD k (0, 0) := ⟨_, rfl⟩
    rw [← hp]
    have HP := Lib.hid hp
    clear hp
    have hbn : Below W.heap.size W (W.alloc (.cells #[.int .i64 (p.1 : Nat), .int .i64 (p.2 : Nat)] 62)) := (Below.refl _ _).alloc (Nat.le_refl _) _
    gi_wp2
    refine hK _ _ (Same2.of_below hbn hlt) ⟨h.next hbn, W.heap.size, hsz, ?_, (h.tape.now.next hbn).imp fun b hb => ⟨hb.1, by have := hb.2; omega⟩, ?_⟩
    · rw [← HP.out]; exact heap_alloc_new W _
    · rw [← HP.out]
  case body =>
    rintro l' k a' W hk hlt ⟨h, cb, hcb, hh, htw, rfl⟩
    obtain ⟨ct, _⟩ := cells_one h.box0
    obtain ⟨cu, _⟩ := cells_one h.box
    obtain ⟨c0, c1'⟩ := cells_pair hh
    obtain ⟨rs, hrs⟩ : ∃ rs, rs = (cs.take k).foldl Net.cswap (padI N l) := ⟨_, rfl⟩
    have hwt : Net.Within N (cs.take k) := fun d hd => HWI.out d (List.mem_of_mem_take hd)
    have hrl : rs.length = N := by rw [hrs, Net.foldl_len]; exact HPN.out
    have hrb : ∀ z ∈ rs, 0 ≤ z ∧ z ≤ 18446744073709551616 := fun z hz => HPL.out z ((Net.foldl_perm hwt HPN.out).mem_iff.1 (hrs ▸ hz))
    have hcm : cs[k]'hk ∈ cs := List.getElem_mem hk
    obtain ⟨hin1, hin2, hne⟩ := HWI.out _ hcm
    have HT := Lib.hid (show (cs.take (k + 1)).foldl Net.cswap (padI N l) = Net.cswap rs (cs[k]'hk) by
      rw [List.take_succ_eq_append_getElem hk, List.foldl_append, ← hrs]; rfl)
    have HP := Lib.hid (pairsE_succ hk)
    have hel : (addT (.pointer tp) evs (pairsE (cs.take k))).length ≤ 1000000 := by
      have h1 := addT_le (.pointer tp) evs (pairsE (cs.take k))
      rw [pairsE_len, List.length_take] at h1
      have h2 := HCL.out.1
      have h3 := HCL.out.2
      omega
    rw [← hrs] at h
    rw [show cs.getD k (0, 0) = cs[k]'hk by simp [hk]] at c0 c1' ⊢
    generalize cs[k]'hk = d at c0 c1' HT HP hin1 hin2 hne ⊢
    obtain ⟨lo, hi⟩ := d
    simp only at c0 c1' hin1 hin2 hne ⊢
    obtain ⟨x, hxe⟩ : ∃ x, rs[lo]'(by rw [hrl]; exact hin1) = x := ⟨_, rfl⟩
    obtain ⟨y, hye⟩ : ∃ y, rs[hi]'(by rw [hrl]; exact hin2) = y := ⟨_, rfl⟩
    have hxb := hrb x (hxe ▸ List.getElem_mem _)
    have hyb := hrb y (hye ▸ List.getElem_mem _)
    have HCW := Lib.hid (cswap_unrank (lo := lo) (hi := hi) hxe hye)
    have hgw : w.heap.size ≤ g := by omega
    clear hrs hcm hwt hrb
    gi_wp2_with (fail)
    refine ⟨trivial, (callsIn_wide.2 (noteO_any (.pointer tp) _ _ 3 lo hi W htw hel (by decide) (fun b hb => ⟨.inr (by have := h.size; omega), by have := (Array.getElem?_eq_some_iff.1 hh).1; omega⟩))).mono ?_⟩
    rintro e W3 ⟨rfl, ht3, hm3⟩
    have hcbl : cb < W.heap.size := (Array.getElem?_eq_some_iff.1 hh).1
    have nst : ∀ b, w.heap.size ≤ b → b < w3.heap.size + 2 → ¬ (Star w T (w3.heap.size + 2) b ∧ b ≠ cb) := fun b h1 h2 h3 => Star.not h1 h2 h3.1
    have d0 := (hm3.cell (p := ⟨cb, 0, none⟩) hcbl (fun h => h.2 rfl)).trans c0
    have d1 := (hm3.cell (p := ⟨cb, 1, none⟩) hcbl (fun h => h.2 rfl)).trans c1'
    rw [addT_assoc] at ht3
    have h3 := h.noted hm3 (fun b hb => hb.1) (ht3.imp fun b hb => hb.1) hgw (by omega) (by omega) (by omega) (fun p hp => by have := hlt0 p hp; omega)
    have hsame : Same2 w3.heap.size W W3 := ⟨hm3.block _ (by omega) (nst _ (by omega) (by omega)), hm3.block _ (by omega) (nst _ (by omega) (by omega))⟩
    obtain ⟨d2, _⟩ := cells_one h3.box
    have hil : (lo : Int) < N := by omega
    have hih : (hi : Int) < N := by omega
    have hgn : g ≠ w1.heap.size := by omega
    clear ct cu c0 c1' hh htw hm3 ht3 hel h nst
    gi_wp2
    refine dir_round (by kernel_rfl) (by kernel_rfl) (fun _ _ h => h) 8 [[], [], [(20, 1)], [(19, 0), (21, 2)], [], [], [(24, 5)], [(23, 4), (25, 6)], [(22, 3), (26, 7)]] [(19, 0), (20, 1), (21, 2), (22, 3), (23, 4), (24, 5), (25, 6), (26, 7)] [
        (fun v _ => v = .slice (some ⟨g, 0, none⟩) N N),
        (fun v _ => v = .pointer (some ⟨cb, 0, none⟩)),
        (fun v _ => v = .int .i64 (lo : Nat)),
        (fun v _ => v = .pointer (some ⟨g, lo * 2, none⟩)),
        (fun v _ => v = .slice (some ⟨g, 0, none⟩) N N),
        (fun v _ => v = .pointer (some ⟨cb, 1, none⟩)),
        (fun v _ => v = .int .i64 (hi : Nat)),
        (fun v _ => v = .pointer (some ⟨g, hi * 2, none⟩))
      ] (by kernel_rfl) (by kernel_rfl) (by kernel_rfl) (by decide) ⟨dstab_eq, dstab_eq, dstab_eq, dstab_eq, dstab_eq, dstab_eq, dstab_eq, dstab_eq, trivial⟩ ?steps ?fin
    case steps =>
      refine ⟨?_, ?_, ?_, ?_, ?_, ?_, ?_, ?_, trivial⟩
      · intro vs g w2 hI hF hR K hK
        simp only [Facts, fill, Act.put, z1, z2, z3, z4, z5, Nat.reduceAdd] at hF hR hK ⊢
        have k0 := (hI.cell (lt_of_cell d2)).trans d2
        go_simp
        exact hK _ () _ hI (Below.refl _ _) rfl
      · intro vs g w2 hI hF hR K hK
        simp only [Facts, fill, Act.put, z1, z2, z3, z4, z5, Nat.reduceAdd] at hF hR hK ⊢
        go_simp
        exact hK _ () _ hI (Below.refl _ _) rfl
      · intro vs g w2 hI hF hR K hK
        simp only [Facts, fill, Act.put, z1, z2, z3, z4, z5, Nat.reduceAdd] at hF hR hK ⊢
        obtain ⟨r1, -⟩ := hR
        generalize vs 1 = x1 at *
        subst r1
        have k0 := (hI.cell (lt_of_cell d0)).trans d0
        go_simp
        exact hK _ () _ hI (Below.refl _ _) rfl
      · intro vs g w2 hI hF hR K hK
        simp only [Facts, fill, Act.put, z1, z2, z3, z4, z5, Nat.reduceAdd] at hF hR hK ⊢
        obtain ⟨r0, r2, -⟩ := hR
        generalize vs 0 = x0, vs 2 = x2 at *
        subst r0 r2
        go_simp
        exact hK _ () _ hI (Below.refl _ _) rfl
      · intro vs g w2 hI hF hR K hK
        simp only [Facts, fill, Act.put, z1, z2, z3, z4, z5, Nat.reduceAdd] at hF hR hK ⊢
        have k0 := (hI.cell (lt_of_cell d2)).trans d2
        go_simp
        exact hK _ () _ hI (Below.refl _ _) rfl
      · intro vs g w2 hI hF hR K hK
        simp only [Facts, fill, Act.put, z1, z2, z3, z4, z5, Nat.reduceAdd] at hF hR hK ⊢
        go_simp
        exact hK _ () _ hI (Below.refl _ _) rfl
      · intro vs g w2 hI hF hR K hK
        simp only [Facts, fill, Act.put, z1, z2, z3, z4, z5, Nat.reduceAdd] at hF hR hK ⊢
        obtain ⟨r5, -⟩ := hR
        generalize vs 5 = x5 at *
        subst r5
        have k0 := (hI.cell (lt_of_cell d1)).trans d1
        go_simp
        exact hK _ () _ hI (Below.refl _ _) rfl
      · intro vs g w2 hI hF hR K hK
        simp only [Facts, fill, Act.put, z1, z2, z3, z4, z5, Nat.reduceAdd] at hF hR hK ⊢
        obtain ⟨r4, r6, -⟩ := hR
        generalize vs 4 = x4, vs 6 = x6 at *
        subst r4 r6
        go_simp
        exact hK _ () _ hI (Below.refl _ _) rfl
    case fin =>
      intro vs w2 hI hR
      have r3 := hR 3 (by decide)
      have r7 := hR 7 (by decide)
      simp only [fill, Act.put, z1, z2, z3, z4, z5] at r3 r7 ⊢
      clear hR
      generalize vs 3 = x3 at *
      generalize vs 7 = x7 at *
      subst r3 r7
      have h5 := h3.next hI
      have hsz5 := h5.size
      refine wpOps_step rfl rfl ?_
      go_simp
      refine (sortOrder_any g N N w.heap.size lo hi (rs.map unrank) (unrank x) (unrank y) (decide (y < x)) w2 (fun W hm => hw W (moved_own h5.moved hm hgw)) h5.row (by rw [List.length_map, hrl]) (by rw [List.length_map, hrl]; exact hin1) (by rw [List.length_map, hrl]; exact hin2) hne (by rw [List.getElem_map, hxe]) (by rw [List.getElem_map, hye]) (U_unrank hxb) (U_unrank hyb) (by unfold lessR; rw [rank_unrank, rank_unrank])).mono ?_
      rintro e w6 ⟨rfl, hrow6, hm6⟩
      rw [HCW.out] at hrow6
      have h6 := h5.own hrow6 hm6 hgw (by omega) (by omega) (fun q hq => by have := (hlt0 q hq).1; omega)
      rw [← HT.out, ← HP.out] at h6
      exact ⟨hsame.trans ((Same2.of_below hI (by have := h3.size; omega)).trans ⟨hm6.block _ (by omega) (by omega), hm6.block _ (by omega) (by omega)⟩), h6⟩
  case done =>
    intro W h hK
    obtain ⟨cu, fu⟩ := cells_one h.box
    rw [List.take_length, HNL.out] at h
    have hmin : decide ((n : Int) < N) = true ∨ n = N := by
      by_cases e : n = N
      · exact .inr e
      · exact .inl (decide_eq_true (by omega))
    have hnNi : (n : Int) ≤ N := by omega
    have hfin := h.put (l := w3.heap.size) (by omega) (by omega) (by omega) (by omega) (by omega) (fun p hp => (hlt0 p hp).2) (.deferred none)
    have HFI := Lib.hid hfin
    clear hfin h
    gi_wp2
    refine ⟨by simp, .inl ⟨_, _, rfl, run_takeDeferred hK, ?_⟩⟩
    have h2 := HFI.out
    have hrow := h2.row
    have hML : ((sortI (ranks l) ++ List.replicate (N - n) 18446744073709551616).map unrank).length = N := by rw [List.length_map, ← HNL.out, Net.foldl_len]; exact HPN.out
    have hTK := HSR.out
    generalize (sortI (ranks l) ++ List.replicate (N - n) 18446744073709551616).map unrank = M at hrow hML hTK
    rw [show (min (n : Int) (N : Int)).toNat = n by omega]
    subst hML
    obtain ⟨A2, c2, e2, hc2, _, hr2, _⟩ := own_rowR (C := rcC) rcC_len hrow
    injection e2 with e3 e4 e5
    subst e3
    have hr3 := hr2.take n
    rw [hTK] at hr3
    exact ⟨_, results_tmp rfl _ _ _, some ⟨g, 0, none⟩, M.length, fun b => b = g, rfl, hnN, fun b hb => (by omega), hr3.imp fun b hb => by simpa [Value.ownBlock] using hb.symm, fun h => (by cases h),
      h2.tape.imp fun b hb => ⟨hb.elim (fun h => .inl h.1) (fun h => .inr (by omega)), fun e => Star.not (by omega) (by omega) (e ▸ hb)⟩, h2.moved⟩
  case stop =>
    rintro c W h
    exact h.elim
/-- With no tape. -/
theorem sortSort_n {S : Nat → Prop} {A : Option Addr} {n c : Nat} {l : List Rc} {w : World} (hw : Wts w) (ha : RowR w S 2 rcC A l) (hn : n = l.length) (hl : n ≤ 4096) (hU : UsR l) :
    Calls Tryd.prog 16 #[.pointer none, .slice A n c] w fun e w' => ∃ A' c', e = .returned (.slice A' n c') ∧ n ≤ c' ∧ RowR w' (fun b => w.heap.size ≤ b) 2 rcC A' (sortR l) ∧ (A' = none → c' = 0) ∧ Below w.heap.size w w' :=
  (sortSort_c (.pointer none) [] (fun _ => False) S A n c l w (fun W hm => hw.below hm.to_below) (.inl ⟨rfl, rfl⟩) (by simp) ha (fun _ _ h => h) hn hl hU).mono fun e w' ⟨A', c', R, h1, h2, h3, h4, h5, _, h6⟩ => ⟨A', c', h1, h2, h4.imp h3, h5, h6.to_below⟩
theorem sortCount_n {S : Nat → Prop} {A : Option Addr} {n c : Nat} {l : List Rc} {r : Int} {w : World} (hw : Wts w) (ha : RowR w S 2 rcC A l) (hn : n = l.length) (hl : n ≤ 4096) (hU : UsR l) (hr : (liveN l : Int) = r) :
    Calls Tryd.prog 19 #[.pointer none, .slice A n c] w fun e w' => e = .returned (.int .u64 r) ∧ Below w.heap.size w w' :=
  (sortCount_c (.pointer none) [] (fun _ => False) S A n c l r w (fun W hm => hw.below hm.to_below) (.inl ⟨rfl, rfl⟩) (by simp) ha (fun _ _ h => h) hn hl hU hr).mono fun e w' ⟨h1, _, h2⟩ => ⟨h1, h2.to_below⟩
end Go.Proofs.YthdghhfdbckilaaDoor
