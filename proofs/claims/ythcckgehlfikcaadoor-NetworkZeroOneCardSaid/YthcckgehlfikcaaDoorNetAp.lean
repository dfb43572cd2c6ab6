/-
  Contracts of package network over the landed code: Apply.
-/
import Derived.Test.YthcckgehlfikcaaDoorNetCl
import Derived.Test.YthcckgehlfikcaaDoorDirS
namespace Go.Proofs.YthcckgehlfikcaaDoor
open Go.RowKit Go.Shelf
set_option maxRecDepth 100000
set_option linter.unusedVariables false
set_option linter.unusedSimpArgs false
attribute [local go_sem] Oper.semAt_some

/-- What the exchanging loop keeps. -/
structure Appl (w : World) (b D g n c : Nat) (bs : List (Nat × Obj)) (ys : List Int) (W : World) : Prop where
  below : Below w.heap.size w W
  size : D + 2 ≤ W.heap.size
  box : W.heap[b]? = some (.cells #[.slice (some ⟨g, 0, none⟩) n c] 36 (0, 0))
  row : OwnK W w.heap.size 38 .u64 (.slice (some ⟨g, 0, none⟩) n c) ys
  its : ∀ p ∈ bs, W.heap[p.1]? = some p.2
theorem Appl.next {w : World} {b D g n c : Nat} {bs : List (Nat × Obj)} {ys : List Int} {W W' : World} (h : Appl w b D g n c bs ys W) (hb : Below W.heap.size W W') : Appl w b D g n c bs ys W' :=
  have lt : ∀ {j : Nat} {o : Obj}, W.heap[j]? = some o → j < W.heap.size := fun h => (Array.getElem?_eq_some_iff.1 h).1
  ⟨h.below.trans (hb.mono h.below.size), Nat.le_trans h.size hb.size, (hb.block b (lt h.box)).trans h.box, h.row.keep_ fun g hg => hb.block g (World.ownsRow.lt h.row g hg).2, fun p hp => (hb.block _ (lt (h.its p hp))).trans (h.its p hp)⟩
theorem Appl.put {w : World} {b D g n c : Nat} {bs : List (Nat × Obj)} {ys : List Int} {W : World} (h : Appl w b D g n c bs ys W) {l : Nat} (hl : D ≤ l) (hb : b < D) (hg : g < D) (hw : w.heap.size ≤ D) (hbs : ∀ p ∈ bs, p.1 < D) (o : Obj) : Appl w b D g n c bs ys (W.putObj l o) := by
  have hsz : (W.putObj l o).heap.size = W.heap.size := World.putObj_size
  refine ⟨⟨h.below.os, h.below.tape, h.below.output, by rw [hsz]; exact h.below.size, fun j hj => (World.putObj_heap_other (by omega)).trans (h.below.block j hj)⟩, by rw [hsz]; exact h.size, (World.putObj_heap_other (by omega)).trans h.box, h.row.keep_ fun g' hg' => World.putObj_heap_other ?_, fun p hp => (World.putObj_heap_other (by have := hbs p hp; omega)).trans (h.its p hp)⟩
  have : g = g' := by simpa [Value.ownBlock] using hg'
  omega
theorem Appl.set {w : World} {b D g n c : Nat} {bs : List (Nat × Obj)} {ys : List Int} {W : World} (h : Appl w b D g n c bs ys W) (hgw : w.heap.size ≤ g) (hgb : g ≠ b) (hbs : ∀ p ∈ bs, p.1 ≠ g) (hn : ys.length = n) (j : Nat) (x : Int) : Appl w b D g n c bs (ys.set j x) (W.setCell ⟨g, j, none⟩ (.int .u64 x)) := by
  have hsz : (W.setCell ⟨g, j, none⟩ (.int .u64 x)).heap.size = W.heap.size := by simp
  refine ⟨h.below.setCell hgw _, by rw [hsz]; exact h.size, (Below.heap_setCell _ _ _ _ (fun e => hgb e.symm)).trans h.box, (OwnK.set_ h.row hn j x).1, fun p hp => (Below.heap_setCell _ _ _ _ (hbs p hp)).trans (h.its p hp)⟩
theorem us_cswap {l : List Int} (h : Us l) (c : Nat × Nat) : Us (Net.cswap l c) := by
  have hs : ∀ {m : List Int} (j : Nat) {x : Int}, Us m → U x → Us (m.set j x) := fun {m} j {x} hm hx z hz => by
    rcases List.mem_or_eq_of_mem_set hz with hz | rfl
    · exact hm z hz
    · exact hx
  have hg : ∀ j, U (l.getD j 0) := fun j => by have := h.dgt j; unfold dgt at this; exact this
  have h1 := hg c.1
  have h2 := hg c.2
  unfold Net.cswap
  refine hs _ (hs _ h ?_) ?_ <;> (unfold U at *; omega)
theorem cswap_sel {ys : List Int} {lo hi : Nat} (hx : U (dgt ys lo)) (hy : U (dgt ys hi)) : Net.cswap ys (lo, hi) = (ys.set lo (sel (mk (decide (dgt ys hi < dgt ys lo))) (dgt ys hi) (dgt ys lo))).set hi (sel (mk (decide (dgt ys hi < dgt ys lo))) (dgt ys lo) (dgt ys hi)) := by
  rw [sel_mk hy hx, sel_mk hx hy]
  unfold Net.cswap
  have e1 : ys.getD lo 0 = dgt ys lo := rfl
  have e2 : ys.getD hi 0 = dgt ys hi := rfl
  simp only [e1, e2]
  by_cases h : dgt ys hi < dgt ys lo
  · simp only [h, decide_true, if_true]
    rw [Int.min_eq_right (by omega), Int.max_eq_left (by omega)]
  · simp only [h, decide_false]
    rw [Int.min_eq_left (by omega), Int.max_eq_right (by omega)]
    simp
set_option maxHeartbeats 8000000 in
theorem netApply_yes (A : Option Addr) (c : Nat) (xs : List Int) (S : Nat → Prop) (q : Nat) (w : World) (hw : Wts w) (ha : SlR w S .u64 A xs) (hq : q ≤ 12) (hn : xs.length = 2 ^ q) (hU : Us xs) :
    Calls Tryd.prog 18 #[.slice A xs.length c] w fun e w' => ∃ v, e = .returned v ∧ OwnK w' w.heap.size 38 .u64 v (Net.netL q xs) ∧ Below w.heap.size w w' := by
  have hp := pow_le_4096 hq
  have hp0 : 0 < 2 ^ q := Nat.pos_of_neZero _
  have HI := Lib.hid (show isN xs.length = true from (isN_iff _).2 ⟨q, hq, by rw [hn]⟩)
  have HCO := Lib.hid (show compsN xs.length = Net.comps q by unfold compsN; rw [HI.out, hn, lgN_pow hq]; rfl)
  have HWI := Lib.hid (hn ▸ Net.comps_within q : Net.Within xs.length (Net.comps q))
  have hl : xs.length ≤ 4096 := by omega
  have hl0 : 0 < xs.length := by omega
  have HNL := Lib.hid (show Net.netL q xs = (Net.comps q).foldl Net.cswap xs from rfl)
  generalize Net.comps q = cs at HCO HWI HNL
  generalize Net.netL q xs = zs at HNL ⊢
  clear hn hp hp0
  refine (callsIn_wide (n := 9)).1 ?_
  refine callsIn_of_wp_marks Tryd.func18 rfl trivial ?_ rfl
  simp only [Tryd.ntmps18, List.size_toArray, List.length_cons, List.length_nil, Nat.reduceAdd, Nat.reduceSub, Array.replicate_succ, Array.replicate_zero, List.push_toArray, List.append_toArray, List.nil_append, List.cons_append]
  gi_wp2_with (fail)
  refine ⟨trivial, (callsIn_wide.2 (exists_any _ w true HI.out)).mono ?_⟩
  rintro e w' ⟨rfl, hw'⟩
  obtain rfl := hw'.symm
  gi_wp2_with (fail)
  refine ⟨trivial, (callsIn_wide.2 (cloneU_any A c xs S w ha (by omega))).mono ?_⟩
  rintro e w1 ⟨v, rfl, hown1, hb1⟩
  obtain ⟨A1, c1, rfl, hc1, hg1⟩ := hown1.slice_ rfl
  obtain ⟨g, rfl, hgb⟩ := hg1 hl0
  have hgl := (World.ownsRow.lt hown1 g rfl).2
  have hs1 := hb1.size
  obtain ⟨w2, hw2⟩ : ∃ w2, w2 = w1.alloc (.cells #[.slice (some ⟨g, 0, none⟩) xs.length c1] 36) := ⟨_, rfl⟩
  have hb2 : Below w1.heap.size w1 w2 := by rw [hw2]; exact (Below.refl _ _).alloc (Nat.le_refl _) _
  have hs2 : w2.heap.size = w1.heap.size + 1 := by rw [hw2]; simp
  have hbx : w2.heap[w1.heap.size]? = some (.cells #[.slice (some ⟨g, 0, none⟩) xs.length c1] 36 (0, 0)) := by rw [hw2]; exact heap_alloc_new w1 _
  have HW2 := Lib.hid hw2
  clear hw2
  gi_wp2_with (fail)
  rw [← HW2.out]
  refine ⟨trivial, (callsIn_wide.2 (netAll_c xs.length w2)).mono ?_⟩
  rintro e w3 ⟨f, rfl, ⟨gf, lb, bs, rfl, eg, hbs, hy⟩, hb3⟩
  rw [HCO.out] at hy
  have hs3 := hb3.size
  have hlt0 : ∀ p ∈ bs, w2.heap.size ≤ p.1 ∧ p.1 < w3.heap.size := fun p hp => ⟨(hbs p hp).1, (Array.getElem?_eq_some_iff.1 (hbs p hp).2).1⟩
  have hbw : Below w.heap.size w w3 := (hb1.trans (hb2.mono hs1)).trans (hb3.mono (by omega))
  gi_wp2_with (fail)
  -- LOOP
  refine wpIn_rangeFunc_z (F := Fence.wide) (n := 9) rfl (by decide) (gf := gf) rfl trivial eg hy (fun _ => rfl)
    (fun k W => Appl w w1.heap.size w3.heap.size g xs.length c1 bs ((cs.take k).foldl Net.cswap xs) W)
    (fun k W => Appl w w1.heap.size w3.heap.size g xs.length c1 bs ((cs.take k).foldl Net.cswap xs) W)
    (fun _ _ => False) ?hI (fun _ _ _ h => h) ?h0 ?hpre ?hst ?hfi (fun _ _ _ _ h => h.elim)
    (fun k a' W => Appl w w1.heap.size w3.heap.size g xs.length c1 bs ((cs.take k).foldl Net.cswap xs) W ∧ ∃ cb, w3.heap.size + 2 ≤ cb ∧ W.heap[cb]? = some (.cells #[.int .i64 ((cs.getD k (0, 0)).1 : Nat), .int .i64 ((cs.getD k (0, 0)).2 : Nat)] 31) ∧
      a' = { tmps := #[.slice A xs.length c, undef, .slice none 0 0, .pointer (some ⟨w1.heap.size, 0, none⟩), .pointer (some ⟨cb, 0, none⟩), undef, undef, .slice A xs.length c, .int .i64 xs.length, .bool true, .bool false, .slice A xs.length c, .slice (some ⟨g, 0, none⟩) xs.length c1, .slice A xs.length c, .int .i64 xs.length, .func (.func gf) #[] lb, .agg #[.int .i64 ((cs.getD k (0, 0)).1 : Nat), .int .i64 ((cs.getD k (0, 0)).2 : Nat)], undef, undef, undef, undef, undef, undef, undef, undef, undef, undef, undef, undef, undef, undef, undef, undef, undef, undef, undef, undef, undef, undef, undef, undef, undef, undef, undef, undef], defers := [] }) ?hAx ?assign ?body ?done ?stop
  case hI => exact fun k W o h => h.put (by omega) (by omega) (by omega) (by omega) (fun p hp => (hlt0 p hp).2) o
  case h0 =>
    intro o
    have hb4 : Below w3.heap.size w3 ((w3.alloc (.deferred (some []))).alloc o) := ((Below.refl _ _).alloc (Nat.le_refl _) _).alloc (by simp) _
    have h13 : Below w1.heap.size w1 ((w3.alloc (.deferred (some []))).alloc o) := (hb2.trans (hb3.mono (by omega))).trans (hb4.mono (by omega))
    refine ⟨hbw.trans (hb4.mono (by omega)), by simp, (hb4.block _ (by omega)).trans ((hb3.block _ (by omega)).trans hbx), ?_, fun p hp => (hb4.block _ (hlt0 p hp).2).trans (hbs p hp).2⟩
    exact hown1.keep_ fun g' hg' => h13.block g' (World.ownsRow.lt hown1 g' hg').2
  case hpre => exact fun k W h => h.its
  case hst => exact fun k W W' _ hlt h hs => ⟨Same2.of_below hs hlt, h.next hs⟩
  case hfi => exact fun W W' hlt h hs => ⟨Same2.of_below hs hlt, h.next hs⟩
  case hAx =>
    rintro k a' W o ⟨h, cb, hcb, hh, rfl⟩
    exact ⟨h.put (by omega) (by omega) (by omega) (by omega) (fun p hp => (hlt0 p hp).2) o, cb, hcb, (World.putObj_heap_other (by omega)).trans hh, rfl⟩
  case assign =>
    intro l k W K hk hlt h hK
    have hsz := h.size
    dsimp only [cmpV]
    obtain ⟨p, hp⟩ : ∃ p, p = cs.getD k (0, 0) := ⟨_, rfl⟩
    rw [← hp]
    have HP := Lib.hid hp
    clear hp
    gi_wp2
    refine hK _ _ (Same2.of_below ((Below.refl _ _).alloc (Nat.le_refl _) _) hlt) ⟨h.next ((Below.refl _ _).alloc (Nat.le_refl _) _), W.heap.size, hsz, ?_, ?_⟩
    · rw [← HP.out]; exact heap_alloc_new W _
    · rw [← HP.out]
  case body =>
    rintro l k a' W hk hlt ⟨h, cb, hcb, hh, rfl⟩
    have hwW := hw.below h.below
    obtain ⟨cu, fu⟩ := cells_one h.box
    obtain ⟨c0, c1'⟩ := cells_pair hh
    obtain ⟨ys, hys⟩ : ∃ ys, ys = (cs.take k).foldl Net.cswap xs := ⟨_, rfl⟩
    have hyl : ys.length = xs.length := by rw [hys, Net.foldl_len]
    have hcm : cs[k]'hk ∈ cs := List.getElem_mem hk
    obtain ⟨hin1, hin2, hne⟩ := HWI.out _ hcm
    have HT := Lib.hid (show (cs.take (k + 1)).foldl Net.cswap xs = Net.cswap ys (cs[k]'hk) by
      rw [List.take_succ_eq_append_getElem hk, List.foldl_append, ← hys]; rfl)
    rw [← hys] at h
    rw [show cs.getD k (0, 0) = cs[k]'hk by simp [hk]] at c0 c1' ⊢
    have hyU : Us ys := by
      have : ∀ (ds : List (Nat × Nat)) (zs : List Int), Us zs → Us (ds.foldl Net.cswap zs) := fun ds => by
        induction ds with
        | nil => exact fun zs h => h
        | cons d ds ih => exact fun zs h => ih _ (us_cswap h d)
      rw [hys]; exact this _ _ hU
    generalize cs[k]'hk = d at c0 c1' HT hin1 hin2 hne ⊢
    obtain ⟨lo, hi⟩ := d
    simp only at c0 c1' hin1 hin2 hne ⊢
    have hx := h.row.cell_ hyl hin1
    have hy2 := h.row.cell_ hyl hin2
    have hfx := h.row.frozen_ hyl lo
    have hfy := h.row.frozen_ hyl hi
    have hxU : U (dgt ys lo) := hyU.dgt lo
    have hyU2 : U (dgt ys hi) := hyU.dgt hi
    have HCW := Lib.hid (cswap_sel hxU hyU2 : Net.cswap ys (lo, hi) = (ys.set lo (sel (mk (decide (dgt ys hi < dgt ys lo))) (dgt ys hi) (dgt ys lo))).set hi (sel (mk (decide (dgt ys hi < dgt ys lo))) (dgt ys lo) (dgt ys hi)))
    clear hys hcm
    generalize dgt ys lo = x at hx hxU HCW
    generalize dgt ys hi = y at hy2 hyU2 HCW
    have hgw : w.heap.size ≤ g := hgb
    have hgb : g ≠ w1.heap.size := by omega
    have hgc : g ≠ cb := by omega
    have hgb' : w1.heap.size ≠ g := by omega
    have hgc' : cb ≠ g := by omega
    have hbs2 : ∀ q ∈ bs, q.1 ≠ g := fun q hq => by have := (hlt0 q hq).1; omega
    have hil : (lo : Int) < xs.length := by omega
    have hih : (hi : Int) < xs.length := by omega
    have hsW := h.size
    gi_wp2
    refine quiet_round (by kernel_rfl) (by kernel_rfl) (by kernel_rfl) (fun _ _ h => h) ?_
    repeat (go_big_quiet_step (fail))
    refine wpQuiet_nil ?_
    intro _ hw'
    obtain ⟨nq, hw''⟩ := hw'
    subst hw''
    have hcu := cu
    gi_wp2
    have HSW := Lib.hid (fun w => swap_any (mk (decide (y < x))) x y w)
    obtain ⟨lo', hlo'⟩ : ∃ z, z = sel (mk (decide (y < x))) y x := ⟨_, rfl⟩
    obtain ⟨hi', hhi'⟩ : ∃ z, z = sel (mk (decide (y < x))) x y := ⟨_, rfl⟩
    rw [← hlo', ← hhi'] at HCW HSW
    clear hlo' hhi'
    have HWN := Lib.hid ((hwW.drewN nq) : Wts (W.drewN nq))
    have h1 := h.next (below_drewN' (Below.refl _ W) nq)
    have d0 : (W.drewN nq).cell? ⟨cb, 0, none⟩ = some (.int .i64 (lo : Nat)) := c0
    have d1 : (W.drewN nq).cell? ⟨cb, 1, none⟩ = some (.int .i64 (hi : Nat)) := c1'
    have du : (W.drewN nq).cell? ⟨w1.heap.size, 0, none⟩ = some (.slice (some ⟨g, 0, none⟩) xs.length c1) := cu
    have hsame1 : Same2 w3.heap.size W (W.drewN nq) := Same2.refl _ _
    have hgW : g < (W.drewN nq).heap.size := (World.ownsRow.lt h1.row g rfl).2
    have hfx1 : (W.drewN nq).frozen? ⟨g, lo, none⟩ = false := hfx
    have hx1 : (W.drewN nq).cell? ⟨g, lo, none⟩ = some (.int .u64 x) := hx
    generalize W.drewN nq = V at h1 d0 d1 du HWN hsame1 hgW hfx1 hx1 ⊢
    clear h hx hy2 hfx hfy cu fu c0 c1' hcu hwW
    refine dirS_round (by kernel_rfl) (by kernel_rfl) (fun _ _ h => h) 16 ⟨g, lo, none⟩ (.int .u64 lo') 17 [[], [], [(29, 1)], [], [], [(32, 4)], [], [], [(34, 6), (35, 7)], [], [], [(36, 8), (37, 9), (38, 10)], [(39, 11)], [(27, 12)], [(27, 12)], [(28, 0), (30, 2)], [(42, 15), (40, 13)], [(31, 3), (33, 5)], [(43, 17), (41, 14)]] [(28, 0), (29, 1), (30, 2), (31, 3), (32, 4), (33, 5), (34, 6), (35, 7), (36, 8), (37, 9), (38, 10), (39, 11), (27, 12), (40, 13), (41, 14), (42, 15)] [
        (fun v => v = .slice (some ⟨g, 0, none⟩) xs.length c1),
        (fun v => v = .pointer (some ⟨cb, 0, none⟩)),
        (fun v => v = .int .i64 (lo : Nat)),
        (fun v => v = .slice (some ⟨g, 0, none⟩) xs.length c1),
        (fun v => v = .pointer (some ⟨cb, 1, none⟩)),
        (fun v => v = .int .i64 (hi : Nat)),
        (fun v => v = .int .u64 y),
        (fun v => v = .int .u64 x),
        (fun v => v = .int .u64 (mk (decide (y < x)))),
        (fun v => v = .int .u64 x),
        (fun v => v = .int .u64 y),
        (fun v => v = .tuple #[.int .u64 lo', .int .u64 hi']),
        (fun v => v = .tuple #[.int .u64 lo', .int .u64 hi']),
        (fun v => v = .int .u64 lo'),
        (fun v => v = .int .u64 hi'),
        (fun v => v = .pointer (some ⟨g, lo, none⟩)),
        (fun v => True)
      ] (by kernel_rfl) (by kernel_rfl) (by kernel_rfl) (by decide) ?steps (by decide) ?fin
    case steps =>
      refine ⟨?_, ?_, ?_, ?_, ?_, ?_, ?_, ?_, ?_, ?_, ?_, ?_, ?_, ?_, ?_, ?_, ?_, trivial⟩
      · intro vs g1 w6 hI hF hR K hK
        simp only [Facts, fill, Act.put, z1, z2, z3, z4, z5, Nat.reduceAdd] at hF hR hK ⊢
        have k0 := putIf_cell hI hgb' du
        go_simp
        exact hK _ g1 _ hI (by simp [GdirS]) ⟨rfl, by simp⟩
      · intro vs g1 w6 hI hF hR K hK
        simp only [Facts, fill, Act.put, z1, z2, z3, z4, z5, Nat.reduceAdd] at hF hR hK ⊢
        go_simp
        exact hK _ g1 _ hI (by simp [GdirS]) ⟨rfl, by simp⟩
      · intro vs g1 w6 hI hF hR K hK
        simp only [Facts, fill, Act.put, z1, z2, z3, z4, z5, Nat.reduceAdd] at hF hR hK ⊢
        obtain ⟨⟨r1, -⟩, -⟩ := hR
        generalize vs 1 = x1 at *
        subst r1
        have k0 := putIf_cell hI hgc' d0
        go_simp
        exact hK _ g1 _ hI (by simp [GdirS]) ⟨rfl, by simp⟩
      · intro vs g1 w6 hI hF hR K hK
        simp only [Facts, fill, Act.put, z1, z2, z3, z4, z5, Nat.reduceAdd] at hF hR hK ⊢
        have k0 := putIf_cell hI hgb' du
        go_simp
        exact hK _ g1 _ hI (by simp [GdirS]) ⟨rfl, by simp⟩
      · intro vs g1 w6 hI hF hR K hK
        simp only [Facts, fill, Act.put, z1, z2, z3, z4, z5, Nat.reduceAdd] at hF hR hK ⊢
        go_simp
        exact hK _ g1 _ hI (by simp [GdirS]) ⟨rfl, by simp⟩
      · intro vs g1 w6 hI hF hR K hK
        simp only [Facts, fill, Act.put, z1, z2, z3, z4, z5, Nat.reduceAdd] at hF hR hK ⊢
        obtain ⟨⟨r4, -⟩, -⟩ := hR
        generalize vs 4 = x4 at *
        subst r4
        have k0 := putIf_cell hI hgc' d1
        go_simp
        exact hK _ g1 _ hI (by simp [GdirS]) ⟨rfl, by simp⟩
      · intro vs g1 w6 hI hF hR K hK
        simp only [Facts, fill, Act.put, z1, z2, z3, z4, z5, Nat.reduceAdd] at hF hR hK ⊢
        go_simp
        exact hK _ g1 _ hI (by simp [GdirS]) ⟨rfl, by simp⟩
      · intro vs g1 w6 hI hF hR K hK
        simp only [Facts, fill, Act.put, z1, z2, z3, z4, z5, Nat.reduceAdd] at hF hR hK ⊢
        go_simp
        exact hK _ g1 _ hI (by simp [GdirS]) ⟨rfl, by simp⟩
      · intro vs g1 w6 hI hF hR K hK
        simp only [Facts, fill, Act.put, z1, z2, z3, z4, z5, Nat.reduceAdd] at hF hR hK ⊢
        obtain ⟨⟨r6, -⟩, ⟨r7, -⟩, -⟩ := hR
        generalize vs 6 = x6, vs 7 = x7 at *
        subst r6 r7
        go_simp
        refine (less_any y x hyU2 hxU _ (hw.below (below_putIf h1.below hgw hI))).mono ?_
        rintro e w6 ⟨rfl, n6, rfl⟩
        exact hK _ g1 _ (below_drewN' hI n6) (by simp [GdirS]) ⟨rfl, by simp⟩
      · intro vs g1 w6 hI hF hR K hK
        simp only [Facts, fill, Act.put, z1, z2, z3, z4, z5, Nat.reduceAdd] at hF hR hK ⊢
        go_simp
        exact hK _ g1 _ hI (by simp [GdirS]) ⟨rfl, by simp⟩
      · intro vs g1 w6 hI hF hR K hK
        simp only [Facts, fill, Act.put, z1, z2, z3, z4, z5, Nat.reduceAdd] at hF hR hK ⊢
        go_simp
        exact hK _ g1 _ hI (by simp [GdirS]) ⟨rfl, by simp⟩
      · intro vs g1 w6 hI hF hR K hK
        simp only [Facts, fill, Act.put, z1, z2, z3, z4, z5, Nat.reduceAdd] at hF hR hK ⊢
        obtain ⟨⟨r8, -⟩, ⟨r9, -⟩, ⟨r10, -⟩, -⟩ := hR
        generalize vs 8 = x8, vs 9 = x9, vs 10 = x10 at *
        subst r8 r9 r10
        go_simp
        refine (HSW.out _).mono ?_
        rintro e w6 ⟨rfl, rfl⟩
        exact hK _ g1 _ hI (by simp [GdirS]) ⟨rfl, by simp⟩
      · intro vs g1 w6 hI hF hR K hK
        simp only [Facts, fill, Act.put, z1, z2, z3, z4, z5, Nat.reduceAdd] at hF hR hK ⊢
        obtain ⟨⟨r11, -⟩, -⟩ := hR
        generalize vs 11 = x11 at *
        subst r11
        go_simp
        exact hK _ g1 _ hI (by simp [GdirS]) ⟨rfl, by simp⟩
      · intro vs g1 w6 hI hF hR K hK
        simp only [Facts, fill, Act.put, z1, z2, z3, z4, z5, Nat.reduceAdd] at hF hR hK ⊢
        obtain ⟨⟨r12, -⟩, -⟩ := hR
        generalize vs 12 = x12 at *
        subst r12
        go_simp
        exact hK _ g1 _ hI (by simp [GdirS]) ⟨rfl, by simp⟩
      · intro vs g1 w6 hI hF hR K hK
        simp only [Facts, fill, Act.put, z1, z2, z3, z4, z5, Nat.reduceAdd] at hF hR hK ⊢
        obtain ⟨⟨r12, -⟩, -⟩ := hR
        generalize vs 12 = x12 at *
        subst r12
        go_simp
        exact hK _ g1 _ hI (by simp [GdirS]) ⟨rfl, by simp⟩
      · intro vs g1 w6 hI hF hR K hK
        simp only [Facts, fill, Act.put, z1, z2, z3, z4, z5, Nat.reduceAdd] at hF hR hK ⊢
        obtain ⟨⟨r0, -⟩, ⟨r2, -⟩, -⟩ := hR
        generalize vs 0 = x0, vs 2 = x2 at *
        subst r0 r2
        go_simp
        exact hK _ g1 _ hI (by simp [GdirS]) ⟨rfl, by simp⟩
      · intro vs g1 w6 hI hF hR K hK
        simp only [Facts, fill, Act.put, z1, z2, z3, z4, z5, Nat.reduceAdd] at hF hR hK ⊢
        obtain ⟨⟨r15, -⟩, ⟨r13, -⟩, -⟩ := hR
        generalize vs 15 = x15, vs 13 = x13 at *
        subst r15 r13
        have hg1 := hF trivial
        subst hg1
        have k1 : w6.cell? ⟨g, lo, none⟩ = some (.int .u64 x) := (World.cell?_of_block (hI.block g hgW)).trans hx1
        have k0 : w6.frozen? ⟨g, lo, none⟩ = false := (World.frozen?_of_block (hI.block g hgW)).trans hfx1
        go_simp
        exact hK undef true _ (below_put hI hgW (Nat.le_refl _)) (by simp [GdirS]) ⟨trivial, by simp⟩
    case fin =>
      intro vs w6 hI hR
      have r3 := hR 3 (by decide)
      have r5 := hR 5 (by decide)
      have r14 := hR 14 (by decide)
      simp only [fill, Act.put, z1, z2, z3, z4, z5] at r3 r5 r14 ⊢
      clear hR
      generalize vs 3 = x3 at *
      generalize vs 5 = x5 at *
      generalize vs 14 = x14 at *
      subst r3 r5 r14
      have h2 := h1.set hgw hgb hbs2 hyl lo lo'
      have h3 := h2.next (W' := w6) (by rw [show (V.setCell ⟨g, lo, none⟩ (.int .u64 lo')).heap.size = V.heap.size by simp]; exact hI)
      have h4 := h3.set hgw hgb hbs2 (by rw [List.length_set]; exact hyl) hi hi'
      rw [← HCW.out, ← HT.out] at h4
      have hfz : w6.frozen? ⟨g, hi, none⟩ = false := h3.row.frozen_ (by rw [List.length_set]; exact hyl) hi
      have hcz := h3.row.cell_ (by rw [List.length_set]; exact hyl) hin2
      obtain ⟨zz, hzz⟩ : ∃ zz, zz = dgt (ys.set lo lo') hi := ⟨_, rfl⟩
      rw [← hzz] at hcz
      clear hzz
      have hsV := h1.size
      have hne : ∀ j, w3.heap.size ≤ j → j < w3.heap.size + 2 → (w6.setCell ⟨g, hi, none⟩ (.int .u64 hi')).heap[j]? = V.heap[j]? := fun j hj hj2 =>
        (Below.heap_setCell _ _ _ _ (by show j ≠ g; omega)).trans ((hI.block j (by omega)).trans (Below.heap_setCell _ _ _ _ (by show j ≠ g; omega)))
      have hs6 : Same2 w3.heap.size W (w6.setCell ⟨g, hi, none⟩ (.int .u64 hi')) := ⟨(hne _ (by omega) (by omega)).trans hsame1.1, (hne _ (by omega) (by omega)).trans hsame1.2⟩
      refine wpOps_step rfl rfl ?_
      go_simp
      refine wpOps_step rfl rfl ?_
      go_simp
      exact ⟨hs6, h4⟩
  case done =>
    intro W h hK
    obtain ⟨cu, fu⟩ := cells_one h.box
    rw [List.take_length, ← HNL.out] at h
    gi_wp2
    refine ⟨by simp, .inl ⟨_, _, rfl, run_takeDeferred hK, ?_⟩⟩
    have h2 := h.put (l := w3.heap.size) (Nat.le_refl _) (by omega) (by omega) (by omega) (fun p hp => (hlt0 p hp).2) (.deferred none)
    exact ⟨_, results_tmp rfl _ _ _, .slice (some ⟨g, 0, none⟩) xs.length c1, rfl, h2.row, h2.below⟩
  case stop =>
    rintro c W h
    exact h.elim
theorem netApply_c (A : Option Addr) (n c : Nat) (xs : List Int) (S : Nat → Prop) (w : World) (hw : Wts w) (ha : SlR w S .u64 A xs) (hn : n = xs.length) (hl : n ≤ 4096) (hU : Us xs) : Calls Tryd.prog 18 #[.slice A n c] w fun e w' => ∃ v, e = .returned v ∧ OwnK w' w.heap.size 38 .u64 v (applyN xs) ∧ Below w.heap.size w w' := by
  subst hn
  obtain ⟨b, hb⟩ : ∃ b, isN xs.length = b := ⟨_, rfl⟩
  cases b with
  | true =>
    obtain ⟨q, hq, hn⟩ := (isN_iff _).1 hb
    have hn2 : xs.length = 2 ^ q := by exact_mod_cast hn
    have e : applyN xs = Net.netL q xs := by unfold applyN; rw [if_pos hb, hn, lgN_pow hq]
    rw [e]
    exact netApply_yes A c xs S q w hw ha hq hn2 hU
  | false =>
    have HV := Lib.hid (show applyN xs = [] by unfold applyN; rw [hb]; rfl)
    rw [HV.out]
    refine (callsIn_wide (n := 9)).1 ?_
    refine callsIn_of_wp_marks Tryd.func18 rfl trivial ?_ rfl
    simp only [Tryd.ntmps18, List.size_toArray, List.length_cons, List.length_nil, Nat.reduceAdd, Nat.reduceSub, Array.replicate_succ, Array.replicate_zero, List.push_toArray, List.append_toArray, List.nil_append, List.cons_append]
    clear ha
    gi_wp2_with (fail)
    refine ⟨trivial, (callsIn_wide.2 (exists_any _ w false hb)).mono ?_⟩
    rintro e w' ⟨rfl, hw'⟩
    obtain rfl := hw'.symm
    gi_wp2
    exact ⟨_, results_tmp rfl _ _ _, .slice none 0 0, rfl, OwnK.nil_ _ _ _ _, Below.refl _ _⟩
end Go.Proofs.YthcckgehlfikcaaDoor
