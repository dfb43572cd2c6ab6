/-
  Packed texts: CodB, GivesA, CodC3, CodX, RgK, Box7.
-/
import Derived.OwnWalk
import Derived.WalkSpells
import Derived.Shelf.RegionOpenPlain
import Derived.Test.YtcfdpimpleniaaaDoorP8
namespace Go.Proofs.YtcfdpimpleniaaaDoor
open Go.RowKit
set_option maxRecDepth 100000
set_option linter.unusedVariables false
set_option linter.unusedSimpArgs false

/-- A cursor in memory: the block g holds the slice of the bytes that are left. -/
def CurR (w : World) (T : Nat → Prop) (g : Nat) (l : List Int) : Prop :=
  ∃ (A : Option Addr) (n c : Nat), w.cell? ⟨g, 0, none⟩ = some (.slice A n c) ∧ w.frozen? ⟨g, 0, none⟩ = false ∧ SlR w T .u8 A l ∧ n = l.length ∧ n ≤ c
theorem CurR.keep {w w' : World} {T : Nat → Prop} {g : Nat} {l : List Int} (h : CurR w T g l) {U : Nat → Prop} (hm : Moved U w w') (hg : ¬ U g) (hT : ∀ b, T b → ¬ U b) : CurR w' T g l := by
  obtain ⟨A, n, c, h1, h2, h3, h4, h5⟩ := h
  have hlt := lt_of_cell h1
  exact ⟨A, n, c, (hm.cell hlt hg).trans h1, by have := hm.block g hlt hg; simp only [World.frozen?, this] at h2 ⊢; exact h2, h3.keep fun b o hb hl => hm.cell hl (hT b hb), h4, h5⟩
theorem CurR.next {w w' : World} {T : Nat → Prop} {g : Nat} {l : List Int} (h : CurR w T g l) (hb : Below w.heap.size w w') : CurR w' T g l :=
  h.keep (U := fun _ => False) (Moved.of_below hb) (fun h => h) (fun _ _ h => h)
theorem drop_take_all {l : List Int} {k m : Nat} (h : m = l.length - k) : (l.drop k).take m = l.drop k := List.take_of_length_le (by rw [List.length_drop]; omega)
def NbRel (w : World) (l : List Int) (k : Nat) (x t i : Value) (wr : World) : Prop :=
  ∃ (j : Nat) (xv : Int), i = .int .i64 j ∧ j ≤ k ∧ x = .int .u64 xv ∧ xv = wv (l.take j) ∧ wr = w
set_option maxHeartbeats 1000000 in
theorem curNumber_any (T : Nat → Prop) (g : Nat) (l : List Int) (k : Nat) (ki x : Int) (w : World) (h : CurR w T g l) (hT : ¬ T g) (hU : UB l) (hl : l.length ≤ 9223372036854775807) (hk1 : 1 ≤ k) (hk : k ≤ 8) (hkl : k ≤ l.length) (hki : ki = (k : Nat)) (hx : wv (l.take k) = x) :
    Calls Tryd.prog 74 #[.pointer (some ⟨g, 0, none⟩), .int .i64 ki] w fun e w' => e = .returned (.int .u64 x) ∧ CurR w' T g (l.drop k) ∧ Moved (fun b => b = g) w w' := by
  subst hki
  obtain ⟨A, n, c, hc, hf, hs, hn, hnc⟩ := h
  obtain ⟨b, o, rfl, hTb, hc0⟩ := hs.at_ (show 0 < l.length by omega)
  clear hc0
  have HX := Lib.hid hx
  have HN := Lib.hid hn
  have hkn : (k : Nat) ≤ n := by omega
  have hnl : n ≤ 9223372036854775807 := by omega
  have HS := Lib.hid hs
  clear hx hn
  go_enter Tryd.func74, Tryd.ntmps74
  go_wp2
  go_loopw [5, 6, 8] (fun x t i wr => NbRel w l k x t i wr) (fun _ _ i _ => k - (intOf i).toNat)
  case atStart => exact ⟨0, 0, rfl, Nat.zero_le _, rfl, rfl, rfl⟩
  case round =>
    obtain ⟨j, xv, rfl, hj, rfl, hx, rfl⟩ := hrel
    by_cases hgo : j < k
    · have hjl : j < l.length := by omega
      obtain ⟨b2, o2, e2, _, hcj⟩ := HS.out.at_ hjl
      obtain ⟨rfl, rfl⟩ : b = b2 ∧ o = o2 := by simpa using e2
      have hd := hU _ (List.getElem_mem hjl)
      have HT := Lib.hid (show l.take (j + 1) = l.take j ++ [l[j]] from (List.take_append_getElem hjl).symm)
      have hlen : (l.take j).length = j := by rw [List.length_take]; omega
      have hub : UB (l.take j) := fun x hx => hU x (List.mem_of_mem_take hx)
      have hw0 := (wv_ub hub).1
      have hw1 := wv_lt hub
      have HW := Lib.hid (wv_snoc (l.take j) l[j])
      rw [hlen] at hw1
      rw [hlen, ← hx] at HW
      rw [← hx] at hw0 hw1
      generalize l[j] = d at hcj hd HT HW
      obtain ⟨Z, hZ⟩ : ∃ Z, IntKind.u64.wrap (d * 2 ^ (8 * j)) = Z := ⟨_, rfl⟩
      have e3 := or_byte (a := xv) (d := d) (k := j) (by omega) hw0 hw1 ⟨by omega, by omega⟩
      rw [hZ] at e3
      obtain ⟨Y, hY⟩ : ∃ Y, xv + d * ((2 ^ (8 * j) : Nat) : Int) = Y := ⟨_, rfl⟩
      rw [hY] at e3
      have HV := Lib.hid (show Y = wv (l.take (j + 1)) by rw [HT.out, HW.out, hY])
      have e0 : IntKind.i64.wrap (8 * (j : Int)) = ((8 * j : Nat) : Int) := by rw [wrap_i64' (by omega) (by omega)]; omega
      have em : min (8 * j) 64 = 8 * j := by omega
      have e1 : IntKind.u64.wrap d = d := wrap_u64' (by omega) (by omega)
      have hjn : (j : Int) < n := by omega
      clear hx hY hd hw0 hw1 hlen hub
      go_wp2
      go_round
      case rel => exact ⟨j + 1, Y, by go_num, hgo, rfl, HV.out, rfl⟩
      case measure => simp [intOf]; omega
    · have hjk : j = k := by omega
      subst hjk
      rw [HX.out] at hx
      have HXV := Lib.hid hx
      have hjn : (j : Int) ≤ n := by omega
      clear hx
      have hln := HN.out
      by_cases hcj : c = j
      · subst hcj
        have HE := Lib.hid (show l.drop c = [] from List.drop_eq_nil_of_le (by omega))
        have HZ := Lib.hid (show n - c = 0 by omega)
        clear hln
        go_wp2
        go_ret
        refine ⟨by rw [HXV.out]; rfl, ⟨some ⟨b, o, none⟩, 0, 0, World.cell?_setCell_same _ _ _ hc, ?_, by rw [HE.out]; exact SlR.nil_ _ _ _ _, by rw [HE.out]; rfl, Nat.le_refl _⟩, moved_one⟩
        exact (World.frozen?_setCell _ _ _ _).trans hf
      · clear hln
        go_wp2
        go_ret
        refine ⟨by rw [HXV.out]; rfl, ⟨some ⟨b, o + j, none⟩, n - j, c - j, World.cell?_setCell_same _ _ _ hc, (World.frozen?_setCell _ _ _ _).trans hf, ?_, by rw [List.length_drop, HN.out], by omega⟩, moved_one⟩
        have := HS.out.sub_ j (l.length - j) (by omega)
        rw [drop_take_all rfl] at this
        exact this.set_ _ _ _ hT
/-- A block of two cells. -/
def BoxD (w : World) (b : Nat) (x y : Value) (t : TypeId) : Prop := w.heap[b]? = some (.cells #[x, y] t (0, 0))
theorem BoxD.at_ {w : World} {b : Nat} {x y : Value} {t : TypeId} (h : BoxD w b x y t) : (w.cell? ⟨b, 0, none⟩ = some x ∧ w.cell? ⟨b, 1, none⟩ = some y) ∧ (w.frozen? ⟨b, 0, none⟩ = false ∧ w.frozen? ⟨b, 1, none⟩ = false) := by
  unfold BoxD at h
  refine ⟨⟨?_, ?_⟩, ?_, ?_⟩ <;> simp [World.cell?, World.frozen?, h]
theorem BoxD.put2 {w : World} {b : Nat} {x0 y0 : Value} {t : TypeId} (h : BoxD w b x0 y0 t) (x y : Value) :
    BoxD ((w.setCell ⟨b, 0, none⟩ x).setCell ⟨b, 1, none⟩ y) b x y t ∧ Moved (fun g => g = b) w ((w.setCell ⟨b, 0, none⟩ x).setCell ⟨b, 1, none⟩ y) := by
  refine ⟨?_, moved_one.trans moved_one⟩
  unfold BoxD at h ⊢
  have h1 : (w.setCell ⟨b, 0, none⟩ x).heap[b]? = some (.cells #[x, y0] t (0, 0)) := by show (w.heap.modify b _)[b]? = _; rw [Array.getElem?_modify, if_pos rfl, h]; rfl
  show ((w.setCell ⟨b, 0, none⟩ x).heap.modify b _)[b]? = _
  rw [Array.getElem?_modify, if_pos rfl, h1]; rfl
/-- What a cursor's function gives. -/
def GivesC (T : Nat → Prop) (g : Nat) (l : List Int) (x : Value) (w : World) (e : Ending) (w' : World) : Prop :=
  e = .returned x ∧ CurR w' T g l ∧ Moved (fun b => b = g) w w'
theorem moved_new {w W w' : World} {g : Nat} (hb : Below w.heap.size w W) (hm : Moved (fun b => b = g ∨ w.heap.size ≤ b) W w') : Moved (fun b => b = g) w w' :=
  ⟨hm.os.trans hb.os, hm.tape.trans hb.tape, hm.output.trans hb.output, Nat.le_trans hb.size hm.size, fun b hlt hne => (hm.block b (Nat.lt_of_lt_of_le hlt hb.size) (fun e => e.elim hne (fun e => by omega))).trans (hb.block b hlt)⟩
theorem wAt_zero (l : List Int) : wAt l 0 = wv (l.take 8) := by unfold wAt; rw [List.drop_zero]
theorem wAt_drop (l : List Int) (a k : Nat) : wAt (l.drop k) a = wAt l (k + a) := by unfold wAt; rw [List.drop_drop]
theorem ptAt_drop (l : List Int) (a k : Nat) : ptAt (l.drop k) a = ptAt l (k + a) := by unfold ptAt; rw [wAt_drop, wAt_drop]; rfl
theorem UB.drop {l : List Int} (h : UB l) (k : Nat) : UB (l.drop k) := fun x hx => h x (List.mem_of_mem_drop hx)
theorem wrap_toS' {x : Int} (h : U x) : IntKind.i64.wrap x = toS x := by
  rw [wrap_s]; unfold toS; unfold U at h
  split <;> omega
set_option maxHeartbeats 1000000 in
theorem curPoint_any (T : Nat → Prop) (g : Nat) (l : List Int) (w : World) (h : CurR w T g l) (hT : ¬ T g) (hTl : ∀ b, T b → b < w.heap.size) (hU : UB l) (hl : l.length ≤ 9223372036854775807) (hk : 16 ≤ l.length) :
    Calls Tryd.prog 41 #[.pointer (some ⟨g, 0, none⟩)] w (GivesC T g (l.drop 16) (.agg #[.int .i64 (ptAt l 0).x, .int .i64 (ptAt l 0).y]) w) := by
  obtain ⟨X, hX⟩ : ∃ X, wv (l.take 8) = X := ⟨_, rfl⟩
  obtain ⟨Y, hY⟩ : ∃ Y, wv ((l.drop 8).take 8) = Y := ⟨_, rfl⟩
  have hl1 : (l.take 8).length = 8 := by rw [List.length_take]; omega
  have hl2 : ((l.drop 8).take 8).length = 8 := by rw [List.length_take, List.length_drop]; omega
  have hXU : U X := by rw [← hX]; exact wv_U (fun x hx => hU x (List.mem_of_mem_take hx)) hl1
  have hYU : U Y := by rw [← hY]; exact wv_U (fun x hx => hU x (List.mem_of_mem_drop (List.mem_of_mem_take hx))) hl2
  obtain ⟨p, hp⟩ : ∃ p, ptAt l 0 = p := ⟨_, rfl⟩
  have e1 : IntKind.i64.wrap X = p.x := by rw [wrap_toS' hXU, ← hp, ← hX, ← wAt_zero]; rfl
  have e2 : IntKind.i64.wrap Y = p.y := by rw [wrap_toS' hYU, ← hp, ← hY]; rfl
  have HX := Lib.hid hX
  have HY := Lib.hid hY
  rw [hp]
  obtain ⟨W, hW⟩ : ∃ W, W = w.alloc (.cells #[.int .i64 0, .int .i64 0] 65) := ⟨_, rfl⟩
  have h0 : Below w.heap.size w W := by rw [hW]; exact (Below.refl _ _).alloc (Nat.le_refl _) _
  obtain ⟨bx, hbx⟩ : ∃ b, b = w.heap.size := ⟨_, rfl⟩
  have hblk : BoxD W bx (.int .i64 0) (.int .i64 0) 65 := by unfold BoxD; rw [hW, hbx]; exact heap_alloc_new w _
  have hc1 := h.next h0
  have hgl : g < w.heap.size := by obtain ⟨_, _, _, h1, _⟩ := h; exact lt_of_cell h1
  have hbg : bx ≠ g := by omega
  have hbT : ∀ b, T b → b ≠ bx := fun b hb e => by have := hTl b hb; omega
  have hbW : bx < W.heap.size := by rw [hW, hbx]; simp
  have HW := Lib.hid hW
  have HBX := Lib.hid hbx
  clear hX hY hp hW hbx h
  go_enter Tryd.func41, Tryd.ntmps41
  go_upto_region 1 with (fail)
  rw [← HW.out, ← HBX.out]
  go_wp2_with (fail)
  refine (curNumber_any T g l 8 _ X W hc1 hT hU hl (by omega) (by omega) (by omega) rfl HX.out).mono ?_
  rintro e w1 ⟨rfl, hc2, hm1⟩
  go_wp2_with (fail)
  refine (curNumber_any T g (l.drop 8) 8 _ Y w1 hc2 hT (hU.drop 8) (by rw [List.length_drop]; omega) (by omega) (by omega) (by rw [List.length_drop]; omega) rfl HY.out).mono ?_
  rintro e w2 ⟨rfl, hc3, hm2⟩
  rw [List.drop_drop] at hc3
  have hm := hm1.trans hm2
  have hblk2 : BoxD w2 bx (.int .i64 0) (.int .i64 0) 65 := (hm.block bx hbW hbg).trans hblk
  obtain ⟨⟨k0, k1⟩, f0, f1⟩ := hblk2.at_
  clear hc2 hm1 hm2 hblk
  go_wp2
  obtain ⟨h3, hm3⟩ := hblk2.put2 (.int .i64 p.x) (.int .i64 p.y)
  obtain ⟨⟨r0, r1⟩, -⟩ := h3.at_
  refine bodyPost_ret (v := .agg #[.int .i64 p.x, .int .i64 p.y]) (by simp [results, Tryd.results41, go_sem, r0, r1]) rfl ⟨rfl, hc3.keep hm3 (fun e => hbg e.symm) hbT, moved_new h0 ((hm.imp fun _ => .inl).trans (hm3.imp fun b e => .inr ?_))⟩
  rw [e, HBX.out]
  exact Nat.le_refl _
set_option maxHeartbeats 1000000 in
theorem curRecord_any (T : Nat → Prop) (g : Nat) (l : List Int) (w : World) (h : CurR w T g l) (hT : ¬ T g) (hTl : ∀ b, T b → b < w.heap.size) (hU : UB l) (hl : l.length ≤ 9223372036854775807) (hk : 9 ≤ l.length) :
    Calls Tryd.prog 77 #[.pointer (some ⟨g, 0, none⟩)] w (GivesC T g (l.drop 9) (.agg #[.int .u64 (rcAt l 0).live, .int .u64 (rcAt l 0).id]) w) := by
  obtain ⟨X, hX⟩ : ∃ X, wv (l.take 1) = X := ⟨_, rfl⟩
  obtain ⟨Y, hY⟩ : ∃ Y, wv ((l.drop 1).take 8) = Y := ⟨_, rfl⟩
  have e1 : (rcAt l 0).live = X := by
    rw [← hX]
    match l, hk with
    | a :: l, _ => show dgt (a :: l) 0 = a + 256 * 0; rw [dgt_lt (by simp)]; show a = _; omega
  have e2 : (rcAt l 0).id = Y := by rw [← hY]; rfl
  have HX := Lib.hid hX
  have HY := Lib.hid hY
  rw [e1, e2]
  clear e1 e2
  obtain ⟨W, hW⟩ : ∃ W, W = w.alloc (.cells #[.int .u64 0, .int .u64 0] 101) := ⟨_, rfl⟩
  have h0 : Below w.heap.size w W := by rw [hW]; exact (Below.refl _ _).alloc (Nat.le_refl _) _
  obtain ⟨bx, hbx⟩ : ∃ b, b = w.heap.size := ⟨_, rfl⟩
  have hblk : BoxD W bx (.int .u64 0) (.int .u64 0) 101 := by unfold BoxD; rw [hW, hbx]; exact heap_alloc_new w _
  have hc1 := h.next h0
  have hgl : g < w.heap.size := by obtain ⟨_, _, _, h1, _⟩ := h; exact lt_of_cell h1
  have hbg : bx ≠ g := by omega
  have hbT : ∀ b, T b → b ≠ bx := fun b hb e => by have := hTl b hb; omega
  have hbW : bx < W.heap.size := by rw [hW, hbx]; simp
  have HW := Lib.hid hW
  have HBX := Lib.hid hbx
  clear hX hY hW hbx h
  go_enter Tryd.func77, Tryd.ntmps77
  go_upto_region 1 with (fail)
  rw [← HW.out, ← HBX.out]
  go_wp2_with (fail)
  refine (curNumber_any T g l 1 _ X W hc1 hT hU hl (by omega) (by omega) (by omega) rfl HX.out).mono ?_
  rintro e w1 ⟨rfl, hc2, hm1⟩
  go_wp2_with (fail)
  refine (curNumber_any T g (l.drop 1) 8 _ Y w1 hc2 hT (hU.drop 1) (by rw [List.length_drop]; omega) (by omega) (by omega) (by rw [List.length_drop]; omega) rfl HY.out).mono ?_
  rintro e w2 ⟨rfl, hc3, hm2⟩
  rw [List.drop_drop] at hc3
  have hm := hm1.trans hm2
  have hblk2 : BoxD w2 bx (.int .u64 0) (.int .u64 0) 101 := (hm.block bx hbW hbg).trans hblk
  obtain ⟨⟨k0, k1⟩, f0, f1⟩ := hblk2.at_
  clear hc2 hm1 hm2 hblk
  go_wp2
  obtain ⟨h3, hm3⟩ := hblk2.put2 (.int .u64 X) (.int .u64 Y)
  obtain ⟨⟨r0, r1⟩, -⟩ := h3.at_
  refine bodyPost_ret (v := .agg #[.int .u64 X, .int .u64 Y]) (by simp [results, Tryd.results77, go_sem, r0, r1]) rfl ⟨rfl, hc3.keep hm3 (fun e => hbg e.symm) hbT, moved_new h0 ((hm.imp fun _ => .inl).trans (hm3.imp fun b e => .inr ?_))⟩
  rw [e, HBX.out]
  exact Nat.le_refl _
theorem qrAt_drop (l : List Int) (a k : Nat) : qrAt (l.drop k) a = qrAt l (k + a) := by unfold qrAt; rw [ptAt_drop, wAt_drop]; rfl
theorem rcAt_drop (l : List Int) (a k : Nat) : rcAt (l.drop k) a = rcAt l (k + a) := by unfold rcAt; rw [wAt_drop, show dgt (l.drop k) a = dgt l (k + a) by simp [dgt, List.getElem?_drop]]; rfl
set_option maxHeartbeats 1000000 in
theorem curQuery_any (T : Nat → Prop) (gc : Nat) (l : List Int) (w : World) (h : CurR w T gc l) (hT : ¬ T gc) (hTl : ∀ b, T b → b < w.heap.size) (hU : UB l) (hl : l.length ≤ 9223372036854775807) (hk : 24 ≤ l.length) :
    Calls Tryd.prog 44 #[.pointer (some ⟨gc, 0, none⟩)] w (GivesC T gc (l.drop 24) (.agg #[.int .i64 (qrAt l 0).p.x, .int .i64 (qrAt l 0).p.y, .int .u64 (qrAt l 0).id]) w) := by
  obtain ⟨p, hp⟩ : ∃ p, ptAt l 0 = p := ⟨_, rfl⟩
  obtain ⟨Y, hY⟩ : ∃ Y, wv ((l.drop 16).take 8) = Y := ⟨_, rfl⟩
  have e1 : (qrAt l 0).p = p := hp
  have e2 : (qrAt l 0).id = Y := by rw [← hY]; rfl
  have HP := Lib.hid hp
  have HY := Lib.hid hY
  rw [e1, e2]
  clear e1 e2
  obtain ⟨W, hW⟩ : ∃ W, W = w.alloc (.cells #[.int .i64 0, .int .i64 0, .int .u64 0] 73) := ⟨_, rfl⟩
  have h0 : Below w.heap.size w W := by rw [hW]; exact (Below.refl _ _).alloc (Nat.le_refl _) _
  obtain ⟨bx, hbx⟩ : ∃ b, b = w.heap.size := ⟨_, rfl⟩
  have hblk : BoxT W bx (.int .i64 0) (.int .i64 0) (.int .u64 0) 73 := by unfold BoxT; rw [hW, hbx]; exact heap_alloc_new w _
  have hc1 := h.next h0
  have hgl : gc < w.heap.size := by obtain ⟨_, _, _, h1, _⟩ := h; exact lt_of_cell h1
  have hbg : bx ≠ gc := by omega
  have hbT : ∀ b, T b → b ≠ bx := fun b hb e => by have := hTl b hb; omega
  have hbW : bx < W.heap.size := by rw [hW, hbx]; simp
  have HW := Lib.hid hW
  have HBX := Lib.hid hbx
  clear hp hY hW hbx h
  go_enter Tryd.func44, Tryd.ntmps44
  go_upto_region 1 with (fail)
  rw [← HW.out, ← HBX.out]
  go_wp2_with (fail)
  refine (curPoint_any T gc l W hc1 hT (fun b hb => Nat.lt_of_lt_of_le (hTl b hb) h0.size) hU hl (by omega)).mono ?_
  rintro e w1 ⟨rfl, hc1, hm1⟩
  rw [HP.out]
  go_upto_region 2 with (fail)
  obtain ⟨W1, hW1⟩ : ∃ W1, W1 = w1.alloc (.cells #[.int .i64 p.x, .int .i64 p.y] 65) := ⟨_, rfl⟩
  have h2 : Below w1.heap.size w1 W1 := by rw [hW1]; exact (Below.refl _ _).alloc (Nat.le_refl _) _
  obtain ⟨by_, hby⟩ : ∃ b, b = w1.heap.size := ⟨_, rfl⟩
  have kx0 : W1.cell? ⟨by_, 0, none⟩ = some (.int .i64 p.x) := by rw [hW1, hby]; simp [go_sem]
  have kx1 : W1.cell? ⟨by_, 1, none⟩ = some (.int .i64 p.y) := by rw [hW1, hby]; simp [go_sem]
  rw [← hW1, ← hby]
  have hc2 := hc1.next h2
  have hnt : ¬ by_ = gc := by have := hm1.size; have := h0.size; omega
  have hblk1 : BoxT W1 bx (.int .i64 0) (.int .i64 0) (.int .u64 0) 73 := (h2.block bx (Nat.lt_of_lt_of_le hbW hm1.size)).trans ((hm1.block bx hbW hbg).trans hblk)
  have hbW2 : bx < W1.heap.size := Nat.lt_of_lt_of_le hbW (Nat.le_trans hm1.size h2.size)
  clear hW1 hby hblk hc1
  refine dirP_plain (by kernel_rfl) (fun b => b = gc) 2 [] 3 [[], [], [(7, 1)], [(6, 0), (8, 2)], [(9, 3)]] [(6, 0), (7, 1), (8, 2)] [
      (fun z_ => z_ = .agg #[.int .i64 p.x, .int .i64 p.y]),
      (fun z_ => z_ = .pointer (some ⟨gc, 0, none⟩)),
      (fun _ => True)
    ] [(fun _ _ => True), (fun _ _ => True), (fun _ _ => True)] (fun v' w' => v' = .int .u64 Y ∧ CurR w' T gc ((l.drop 16).drop 8) ∧ Moved (fun b => b = gc) W1 w')
    (by kernel_rfl) (by kernel_rfl) (by kernel_rfl) (by decide) ⟨fun _ _ _ h _ => h, fun _ _ _ h _ => h, fun _ _ _ h _ => h, trivial⟩ (fun v' w1 w2 h hb => ⟨h.1, h.2.1.next hb, h.2.2.trans (.of_below hb)⟩) ?steps (by decide) ?fin
  case steps =>
    refine ⟨?_, ?_, ?_, trivial⟩
    · intro vs g w2 hI hF hR K hK
      simp only [Facts, fill, Act.put, z1, z2, z3, z4, z5, Nat.reduceAdd] at hF hR hK ⊢
      have k0 := (hI.moved.cell (lt_of_cell kx0) hnt).trans kx0
      have k1 := (hI.moved.cell (lt_of_cell kx1) hnt).trans kx1
      go_simp
      exact hK _ _ _ (hI.step (by decide) (Below.refl _ _)) ⟨rfl, fun _ => Below.refl _ _⟩ ⟨updG_same _ _, rfl, fun _ => trivial, fun e => absurd e (by decide)⟩
    · intro vs g w2 hI hF hR K hK
      simp only [Facts, fill, Act.put, z1, z2, z3, z4, z5, Nat.reduceAdd] at hF hR hK ⊢
      go_simp
      exact hK _ _ _ (hI.step (by decide) (Below.refl _ _)) ⟨rfl, fun _ => Below.refl _ _⟩ ⟨updG_same _ _, rfl, fun _ => trivial, fun e => absurd e (by decide)⟩
    · intro vs g w2 hI hF hR K hK
      simp only [Facts, fill, Act.put, z1, z2, z3, z4, z5, Nat.reduceAdd] at hF hR hK ⊢
      obtain ⟨q1, -⟩ := hR
      have r1 : .pointer (some ⟨gc, 0, none⟩) = vs 1 := Eq.symm q1.val
      generalize vs 1 = x1 at *
      subst r1
      have hB := hI.below hF
      go_simp
      refine (curNumber_any T gc (l.drop 16) 8 _ Y w2 (hc2.next hB) hT (hU.drop 16) (by rw [List.length_drop]; omega) (by omega) (by omega) (by rw [List.length_drop]; omega) rfl HY.out).mono ?_
      rintro e w3 ⟨rfl, hc3, hm3⟩
      exact hK _ _ _ (hI.end_ (fun i hi => by cases hi) ((Moved.of_below hB).trans hm3)) ⟨rfl, fun e => absurd rfl e⟩ ⟨updG_same _ _, trivial, fun e => (by rw [updG_same] at e; cases e), fun _ => ⟨rfl, hc3, (Moved.of_below hB).trans hm3⟩⟩
  case fin =>
    intro vs w2 hm hpo hR
    have r0 : .agg #[.int .i64 p.x, .int .i64 p.y] = vs 0 := Eq.symm (hR 0 (by decide))
    simp only [fill, Act.put, z1, z2, z3, z4, z5] at ⊢
    clear hR
    generalize vs 0 = x0 at *
    generalize vs 2 = x2 at *
    subst r0
    obtain ⟨hv2, hc4, hm4⟩ := hpo
    subst hv2
    have hblk2 : BoxT w2 bx (.int .i64 0) (.int .i64 0) (.int .u64 0) 73 := (hm4.block bx hbW2 hbg).trans hblk1
    obtain ⟨⟨k0, k1, k2⟩, f0, f1, f2⟩ := hblk2.at_
    refine wpOps_step rfl rfl ?_
    go_simp
    refine wpOps_step rfl rfl ?_
    go_simp
    refine NoPanic.normal ?_
    go_wp2
    obtain ⟨h5, hm5⟩ := hblk2.put3 (x := .int .i64 p.x) (y := .int .i64 p.y) (z := .int .u64 Y) rfl
    obtain ⟨⟨r0, r1, r2⟩, -⟩ := h5.at_
    rw [List.drop_drop] at hc4
    refine bodyPost_ret (v := .agg #[.int .i64 p.x, .int .i64 p.y, .int .u64 Y]) (by simp [results, Tryd.results44, go_sem, r0, r1, r2]) rfl ⟨rfl, hc4.keep hm5 (fun e => hbg e.symm) hbT, ?_⟩
    refine moved_new h0 (((hm1.imp fun _ => .inl).trans ((Moved.of_below h2).trans (hm4.imp fun _ => .inl))).trans (hm5.imp fun b e => .inr ?_))
    rw [e, HBX.out]
    exact Nat.le_refl _
theorem infoTp : (Tryd.prog.info? 65).map (fun i => (i.zero, i.size, i.bytes)) = some (some (.agg #[.int .i64 0, .int .i64 0]), 2, 16) := by kernel_rfl
def TpRel (w : World) (T : Nat → Prop) (g : Nat) (l : List Int) (n : Nat) (t i : Value) (wr : World) : Prop :=
  ∃ k : Nat, i = .int .i64 k ∧ k ≤ n ∧ wr.ownsRow w.heap.size 65 2 (.slice (some ⟨w.heap.size, 0, none⟩) n n) n ((mixL (ptAt l) 16 n k (⟨0, 0⟩ : Pt)).flatMap ptC) ∧ CurR wr T g (l.drop (k * 16)) ∧ Moved (fun b => b = g) w wr
set_option maxHeartbeats 1000000 in
theorem takePoints_any (T : Nat → Prop) (g : Nat) (l : List Int) (n : Nat) (ni : Int) (w : World) (h : CurR w T g l) (hT : ¬ T g) (hTl : ∀ b, T b → b < w.heap.size) (hU : UB l) (hl : l.length ≤ 9223372036854775807) (hni : ni = (n : Nat)) (hn : n ≤ 100000) (hk : n * 16 ≤ l.length) :
    Calls Tryd.prog 39 #[.int .i64 ni, .func (.func 41) #[.pointer (some ⟨g, 0, none⟩)] #[]] w fun e w' => ∃ b, e = .returned (.slice (some ⟨b, 0, none⟩) n n) ∧ w'.ownsRow w.heap.size 65 2 (.slice (some ⟨b, 0, none⟩) n n) n ((listAt (ptAt l) 0 n 16).flatMap ptC) ∧ CurR w' T g (l.drop (n * 16)) ∧ Moved (fun b => b = g) w w' := by
  subst hni
  obtain ⟨i0, hi, hz0, hz1, hz2⟩ := info_parts infoTp
  have HK := Lib.hid hk
  have HC := Lib.hid h
  have hgl : g < w.heap.size := by obtain ⟨_, _, _, h1, _⟩ := h; exact lt_of_cell h1
  clear hk h
  go_enter Tryd.func39, Tryd.ntmps39
  go_wp2_with (first
    | (at_make; refine wpList_make_full _ rfl _ _ 25 rfl w.heap.size 65 i0 _ 2 Tryd.underlying25 hi hz0 hz1 .i64 .i64 n n n rfl rfl rfl rfl (by rw [hz2]; omega) (by unfold maxLen; omega) (Nat.le_refl _) ?_
       intro w1 hrow1 hgr1
       have hb1 : Below w.heap.size w w1 := (Below.refl _ _).grown hgr1 (Nat.le_refl _) (fun k e => by cases e)
       rw [show (madeCells (Value.agg #[.int .i64 0, .int .i64 0]).cells (n * 2)).toList = (List.replicate n ((⟨0, 0⟩ : Pt))).flatMap ptC from made_pair ptC_len _ (.int .i64 0) (.int .i64 0) rfl n] at hrow1))
  go_loopw [6, 11] (fun t i wr => TpRel w T g l n t i wr) (fun _ i _ => n - (intOf i).toNat)
  case atStart => exact ⟨0, rfl, Nat.zero_le _, by rw [mixL_zero]; exact hrow1, by rw [Nat.zero_mul, List.drop_zero]; exact HC.out.next hb1, .of_below hb1⟩
  case round =>
    clear hrow1 hgr1 hb1
    obtain ⟨k, rfl, hk, hrow, hc, hm⟩ := hrel
    by_cases hgo : k < n
    · have HS := Lib.hid (mixL_step (f := ptAt l) (s := 16) (z := (⟨0, 0⟩ : Pt)) hgo)
      have hml := mixL_len (f := ptAt l) (s := 16) (z := (⟨0, 0⟩ : Pt)) (Nat.le_of_lt hgo)
      have hks : k * 16 + 16 ≤ l.length := by have := HK.out; omega
      obtain ⟨x, hx⟩ : ∃ x, ptAt l (k * 16) = x := ⟨_, rfl⟩
      have HX := Lib.hid (show ptAt (l.drop (k * 16)) 0 = x by rw [ptAt_drop, Nat.add_zero]; exact hx)
      rw [hx] at HS
      generalize mixL (ptAt l) 16 n k (⟨0, 0⟩ : Pt) = L at hrow HS hml
      have hT2 : ∀ b, T b → b < wr.heap.size := fun b hb => Nat.lt_of_lt_of_le (hTl b hb) hm.size
      clear hx
      go_wp2_with (fail)
      refine (curPoint_any T g (l.drop (k * 16)) wr hc hT hT2 (hU.drop _) (by rw [List.length_drop]; omega) (by rw [List.length_drop]; omega)).mono ?_
      rintro e w2 ⟨rfl, hc2, hm2⟩
      rw [HX.out]
      rw [List.drop_drop, show k * 16 + 16 = (k + 1) * 16 by omega] at hc2
      have hrow2 := row_keep hrow (fun b hb => hm2.block b (World.ownsRow.lt hrow b hb).2 (fun e => by have := (World.ownsRow.lt hrow b hb).1; omega))
      obtain ⟨c0, q0, f0⟩ := own_cell ptC_len hml hrow2 hgo (show 0 < 2 by decide)
      obtain ⟨c1, q1, f1⟩ := own_cell ptC_len hml hrow2 hgo (show 1 < 2 by decide)
      rw [Nat.add_zero] at q0 f0
      have hrow3 := own_st2 (f := fun x => .int .i64 x.x) (g := fun x => .int .i64 x.y) (fun _ => rfl) hrow2 k x
      rw [HS.out] at hrow3
      have hm3 := (moved_at (W := w2) (b := w.heap.size) (o := k * 2) (v := .int .i64 x.x)).trans (moved_at (o := k * 2 + 1) (v := .int .i64 x.y))
      have hmf := moved_self (hm.trans hm2) hm3 (Nat.le_refl _)
      have hcf := hc2.keep hm3 (by omega) (fun b hb => by have := hTl b hb; omega)
      clear hm3 hc2 hm2 hrow2 hc hrow hm
      go_wp2
      go_roundw
      case rel => exact ⟨k + 1, by go_num, hgo, hrow3, hcf, hmf⟩
      case measure => simp [intOf]; omega
    · have hkn : k = n := by omega
      subst hkn
      rw [mixL_all] at hrow
      go_wp2
      go_ret
      exact ⟨_, rfl, hrow, hc, hm⟩
theorem infoTq : (Tryd.prog.info? 73).map (fun i => (i.zero, i.size, i.bytes)) = some (some (.agg #[.int .i64 0, .int .i64 0, .int .u64 0]), 3, 24) := by kernel_rfl
def TqRel (w : World) (T : Nat → Prop) (g : Nat) (l : List Int) (n : Nat) (t i : Value) (wr : World) : Prop :=
  ∃ k : Nat, i = .int .i64 k ∧ k ≤ n ∧ wr.ownsRow w.heap.size 73 3 (.slice (some ⟨w.heap.size, 0, none⟩) n n) n ((mixL (qrAt l) 24 n k (⟨⟨0, 0⟩, 0⟩ : Qr)).flatMap qrC) ∧ CurR wr T g (l.drop (k * 24)) ∧ Moved (fun b => b = g) w wr
set_option maxHeartbeats 1000000 in
theorem takeQueries_any (T : Nat → Prop) (g : Nat) (l : List Int) (n : Nat) (ni : Int) (w : World) (h : CurR w T g l) (hT : ¬ T g) (hTl : ∀ b, T b → b < w.heap.size) (hU : UB l) (hl : l.length ≤ 9223372036854775807) (hni : ni = (n : Nat)) (hn : n ≤ 100000) (hk : n * 24 ≤ l.length) :
    Calls Tryd.prog 43 #[.int .i64 ni, .func (.func 44) #[.pointer (some ⟨g, 0, none⟩)] #[]] w fun e w' => ∃ b, e = .returned (.slice (some ⟨b, 0, none⟩) n n) ∧ w'.ownsRow w.heap.size 73 3 (.slice (some ⟨b, 0, none⟩) n n) n ((listAt (qrAt l) 0 n 24).flatMap qrC) ∧ CurR w' T g (l.drop (n * 24)) ∧ Moved (fun b => b = g) w w' := by
  subst hni
  obtain ⟨i0, hi, hz0, hz1, hz2⟩ := info_parts infoTq
  have HK := Lib.hid hk
  have HC := Lib.hid h
  have hgl : g < w.heap.size := by obtain ⟨_, _, _, h1, _⟩ := h; exact lt_of_cell h1
  clear hk h
  go_enter Tryd.func43, Tryd.ntmps43
  go_wp2_with (first
    | (at_make; refine wpList_make_full _ rfl _ _ 26 rfl w.heap.size 73 i0 _ 3 Tryd.underlying26 hi hz0 hz1 .i64 .i64 n n n rfl rfl rfl rfl (by rw [hz2]; omega) (by unfold maxLen; omega) (Nat.le_refl _) ?_
       intro w1 hrow1 hgr1
       have hb1 : Below w.heap.size w w1 := (Below.refl _ _).grown hgr1 (Nat.le_refl _) (fun k e => by cases e)
       rw [show (madeCells (Value.agg #[.int .i64 0, .int .i64 0, .int .u64 0]).cells (n * 3)).toList = (List.replicate n ((⟨⟨0, 0⟩, 0⟩ : Qr))).flatMap qrC from made_three qrC_len _ (.int .i64 0) (.int .i64 0) (.int .u64 0) rfl n] at hrow1))
  go_loopw [6, 11] (fun t i wr => TqRel w T g l n t i wr) (fun _ i _ => n - (intOf i).toNat)
  case atStart => exact ⟨0, rfl, Nat.zero_le _, by rw [mixL_zero]; exact hrow1, by rw [Nat.zero_mul, List.drop_zero]; exact HC.out.next hb1, .of_below hb1⟩
  case round =>
    clear hrow1 hgr1 hb1
    obtain ⟨k, rfl, hk, hrow, hc, hm⟩ := hrel
    by_cases hgo : k < n
    · have HS := Lib.hid (mixL_step (f := qrAt l) (s := 24) (z := (⟨⟨0, 0⟩, 0⟩ : Qr)) hgo)
      have hml := mixL_len (f := qrAt l) (s := 24) (z := (⟨⟨0, 0⟩, 0⟩ : Qr)) (Nat.le_of_lt hgo)
      have hks : k * 24 + 24 ≤ l.length := by have := HK.out; omega
      obtain ⟨x, hx⟩ : ∃ x, qrAt l (k * 24) = x := ⟨_, rfl⟩
      have HX := Lib.hid (show qrAt (l.drop (k * 24)) 0 = x by rw [qrAt_drop, Nat.add_zero]; exact hx)
      rw [hx] at HS
      generalize mixL (qrAt l) 24 n k (⟨⟨0, 0⟩, 0⟩ : Qr) = L at hrow HS hml
      have hT2 : ∀ b, T b → b < wr.heap.size := fun b hb => Nat.lt_of_lt_of_le (hTl b hb) hm.size
      clear hx
      go_wp2_with (fail)
      refine (curQuery_any T g (l.drop (k * 24)) wr hc hT hT2 (hU.drop _) (by rw [List.length_drop]; omega) (by rw [List.length_drop]; omega)).mono ?_
      rintro e w2 ⟨rfl, hc2, hm2⟩
      rw [HX.out]
      rw [List.drop_drop, show k * 24 + 24 = (k + 1) * 24 by omega] at hc2
      have hrow2 := row_keep hrow (fun b hb => hm2.block b (World.ownsRow.lt hrow b hb).2 (fun e => by have := (World.ownsRow.lt hrow b hb).1; omega))
      obtain ⟨c0, q0, f0⟩ := own_cell qrC_len hml hrow2 hgo (show 0 < 3 by decide)
      obtain ⟨c1, q1, f1⟩ := own_cell qrC_len hml hrow2 hgo (show 1 < 3 by decide)
      obtain ⟨c2, q2, f2⟩ := own_cell qrC_len hml hrow2 hgo (show 2 < 3 by decide)
      rw [Nat.add_zero] at q0 f0
      have hrow3 := own_st3 (f := fun x => .int .i64 x.p.x) (g := fun x => .int .i64 x.p.y) (h' := fun x => .int .u64 x.id) (fun _ => rfl) hrow2 k x
      rw [HS.out] at hrow3
      have hm3 := (moved_at (W := w2) (b := w.heap.size) (o := k * 3) (v := .int .i64 x.p.x)).trans (moved_at (o := k * 3 + 1) (v := .int .i64 x.p.y))
      have hm3 := hm3.trans (moved_at (o := k * 3 + 2) (v := .int .u64 x.id))
      have hmf := moved_self (hm.trans hm2) hm3 (Nat.le_refl _)
      have hcf := hc2.keep hm3 (by omega) (fun b hb => by have := hTl b hb; omega)
      clear hm3 hc2 hm2 hrow2 hc hrow hm
      go_wp2
      go_roundw
      case rel => exact ⟨k + 1, by go_num, hgo, hrow3, hcf, hmf⟩
      case measure => simp [intOf]; omega
    · have hkn : k = n := by omega
      subst hkn
      rw [mixL_all] at hrow
      go_wp2
      go_ret
      exact ⟨_, rfl, hrow, hc, hm⟩
theorem infoTr : (Tryd.prog.info? 101).map (fun i => (i.zero, i.size, i.bytes)) = some (some (.agg #[.int .u64 0, .int .u64 0]), 2, 16) := by kernel_rfl
def TrRel (w : World) (T : Nat → Prop) (g : Nat) (l : List Int) (n : Nat) (t i : Value) (wr : World) : Prop :=
  ∃ k : Nat, i = .int .i64 k ∧ k ≤ n ∧ wr.ownsRow w.heap.size 101 2 (.slice (some ⟨w.heap.size, 0, none⟩) n n) n ((mixL (rcAt l) 9 n k (⟨0, 0⟩ : Rc)).flatMap rcC) ∧ CurR wr T g (l.drop (k * 9)) ∧ Moved (fun b => b = g) w wr
set_option maxHeartbeats 1000000 in
theorem takeRecords_any (T : Nat → Prop) (g : Nat) (l : List Int) (n : Nat) (ni : Int) (w : World) (h : CurR w T g l) (hT : ¬ T g) (hTl : ∀ b, T b → b < w.heap.size) (hU : UB l) (hl : l.length ≤ 9223372036854775807) (hni : ni = (n : Nat)) (hn : n ≤ 100000) (hk : n * 9 ≤ l.length) :
    Calls Tryd.prog 76 #[.int .i64 ni, .func (.func 77) #[.pointer (some ⟨g, 0, none⟩)] #[]] w fun e w' => ∃ b, e = .returned (.slice (some ⟨b, 0, none⟩) n n) ∧ w'.ownsRow w.heap.size 101 2 (.slice (some ⟨b, 0, none⟩) n n) n ((listAt (rcAt l) 0 n 9).flatMap rcC) ∧ CurR w' T g (l.drop (n * 9)) ∧ Moved (fun b => b = g) w w' := by
  subst hni
  obtain ⟨i0, hi, hz0, hz1, hz2⟩ := info_parts infoTr
  have HK := Lib.hid hk
  have HC := Lib.hid h
  have hgl : g < w.heap.size := by obtain ⟨_, _, _, h1, _⟩ := h; exact lt_of_cell h1
  clear hk h
  go_enter Tryd.func76, Tryd.ntmps76
  go_wp2_with (first
    | (at_make; refine wpList_make_full _ rfl _ _ 49 rfl w.heap.size 101 i0 _ 2 Tryd.underlying49 hi hz0 hz1 .i64 .i64 n n n rfl rfl rfl rfl (by rw [hz2]; omega) (by unfold maxLen; omega) (Nat.le_refl _) ?_
       intro w1 hrow1 hgr1
       have hb1 : Below w.heap.size w w1 := (Below.refl _ _).grown hgr1 (Nat.le_refl _) (fun k e => by cases e)
       rw [show (madeCells (Value.agg #[.int .u64 0, .int .u64 0]).cells (n * 2)).toList = (List.replicate n ((⟨0, 0⟩ : Rc))).flatMap rcC from made_pair rcC_len _ (.int .u64 0) (.int .u64 0) rfl n] at hrow1))
  go_loopw [6, 11] (fun t i wr => TrRel w T g l n t i wr) (fun _ i _ => n - (intOf i).toNat)
  case atStart => exact ⟨0, rfl, Nat.zero_le _, by rw [mixL_zero]; exact hrow1, by rw [Nat.zero_mul, List.drop_zero]; exact HC.out.next hb1, .of_below hb1⟩
  case round =>
    clear hrow1 hgr1 hb1
    obtain ⟨k, rfl, hk, hrow, hc, hm⟩ := hrel
    by_cases hgo : k < n
    · have HS := Lib.hid (mixL_step (f := rcAt l) (s := 9) (z := (⟨0, 0⟩ : Rc)) hgo)
      have hml := mixL_len (f := rcAt l) (s := 9) (z := (⟨0, 0⟩ : Rc)) (Nat.le_of_lt hgo)
      have hks : k * 9 + 9 ≤ l.length := by have := HK.out; omega
      obtain ⟨x, hx⟩ : ∃ x, rcAt l (k * 9) = x := ⟨_, rfl⟩
      have HX := Lib.hid (show rcAt (l.drop (k * 9)) 0 = x by rw [rcAt_drop, Nat.add_zero]; exact hx)
      rw [hx] at HS
      generalize mixL (rcAt l) 9 n k (⟨0, 0⟩ : Rc) = L at hrow HS hml
      have hT2 : ∀ b, T b → b < wr.heap.size := fun b hb => Nat.lt_of_lt_of_le (hTl b hb) hm.size
      clear hx
      go_wp2_with (fail)
      refine (curRecord_any T g (l.drop (k * 9)) wr hc hT hT2 (hU.drop _) (by rw [List.length_drop]; omega) (by rw [List.length_drop]; omega)).mono ?_
      rintro e w2 ⟨rfl, hc2, hm2⟩
      rw [HX.out]
      rw [List.drop_drop, show k * 9 + 9 = (k + 1) * 9 by omega] at hc2
      have hrow2 := row_keep hrow (fun b hb => hm2.block b (World.ownsRow.lt hrow b hb).2 (fun e => by have := (World.ownsRow.lt hrow b hb).1; omega))
      obtain ⟨c0, q0, f0⟩ := own_cell rcC_len hml hrow2 hgo (show 0 < 2 by decide)
      obtain ⟨c1, q1, f1⟩ := own_cell rcC_len hml hrow2 hgo (show 1 < 2 by decide)
      rw [Nat.add_zero] at q0 f0
      have hrow3 := own_st2 (f := fun x => .int .u64 x.live) (g := fun x => .int .u64 x.id) (fun _ => rfl) hrow2 k x
      rw [HS.out] at hrow3
      have hm3 := (moved_at (W := w2) (b := w.heap.size) (o := k * 2) (v := .int .u64 x.live)).trans (moved_at (o := k * 2 + 1) (v := .int .u64 x.id))
      have hmf := moved_self (hm.trans hm2) hm3 (Nat.le_refl _)
      have hcf := hc2.keep hm3 (by omega) (fun b hb => by have := hTl b hb; omega)
      clear hm3 hc2 hm2 hrow2 hc hrow hm
      go_wp2
      go_roundw
      case rel => exact ⟨k + 1, by go_num, hgo, hrow3, hcf, hmf⟩
      case measure => simp [intOf]; omega
    · have hkn : k = n := by omega
      subst hkn
      rw [mixL_all] at hrow
      go_wp2
      go_ret
      exact ⟨_, rfl, hrow, hc, hm⟩
end Go.Proofs.YtcfdpimpleniaaaDoor
namespace Go.Proofs.YtcfdpimpleniaaaDoor
open Go.RowKit
set_option maxRecDepth 100000
set_option linter.unusedVariables false
set_option linter.unusedSimpArgs false

/-- What Read gives. -/
def GivesA (w : World) (a : An) (er : Int) (e : Ending) (w' : World) : Prop :=
  ∃ (A : Option Addr) (m c : Nat), e = .returned (.tuple #[.agg #[.int .i64 a.v, .int .i64 a.n, .slice A m c], .int .i64 er]) ∧ m = a.l.length ∧ RowR w' (fun b => w.heap.size ≤ b) 2 rcC A a.l ∧ Below w.heap.size w w'
theorem givesA_bad {w w' : World} {a : An} {er : Int} (ha : a = ⟨0, 0, []⟩) (hb : Below w.heap.size w w') : GivesA w a er (.returned (.tuple #[.agg #[.int .i64 0, .int .i64 0, .slice none 0 0], .int .i64 er])) w' := by
  subst ha
  exact ⟨none, 0, 0, rfl, rfl, RowR.nil_ _ _ _, hb⟩
theorem sl_lit {w : World} {T : Nat → Prop} {A : Option Addr} {bs : List Int} {k : Nat} (h : SlR w T .u8 A bs) (hk : k < bs.length) : ∃ b o, A = some ⟨b, o, none⟩ ∧ T b ∧ w.cell? ⟨b, o + k, none⟩ = some (.int .u8 (Go.Proofs.YtcfdpimpleniaaaDoor.dgt bs k)) := by
  obtain ⟨b, o, e, hS, hc⟩ := h (by omega)
  exact ⟨b, o, e, hS, by rw [dgt_lt hk]; exact hc k _ (List.getElem?_eq_getElem hk)⟩
theorem sl_cell {w : World} {T : Nat → Prop} {b o : Nat} {bs : List Int} (h : SlR w T .u8 (some ⟨b, o, none⟩) bs) {k : Nat} (hk : k < bs.length) : w.cell? ⟨b, o + k, none⟩ = some (.int .u8 (Go.Proofs.YtcfdpimpleniaaaDoor.dgt bs k)) := by
  obtain ⟨b', o', e, _, hc⟩ := sl_lit h hk
  injection e with e
  injection e with e1 e2
  subst e1 e2
  exact hc
end Go.Proofs.YtcfdpimpleniaaaDoor
namespace Go.Proofs.YtcfdpimpleniaaaDoor
open Go.RowKit
set_option maxRecDepth 100000
set_option linter.unusedVariables false
set_option linter.unusedSimpArgs false

theorem listAt_drop {α : Type} {f : List Int → Nat → α} (hf : ∀ (l : List Int) (a k : Nat), f (l.drop k) a = f l (k + a)) (l : List Int) (k a n s : Nat) : listAt (f (l.drop k)) a n s = listAt (f l) (k + a) n s := by
  unfold listAt
  refine List.map_congr_left fun i _ => ?_
  rw [hf, Nat.add_assoc]
theorem wv_one {l : List Int} (h : 1 ≤ l.length) : wv (l.take 1) = dgt l 0 := by
  match l, h with
  | a :: l, _ => show a + 256 * 0 = dgt (a :: l) 0; rw [dgt_lt (by simp)]; show _ = a; omega
theorem wv_two {l : List Int} (h : 3 ≤ l.length) : wv ((l.drop 1).take 2) = dgt l 1 + 256 * dgt l 2 := by
  match l, h with
  | a :: b :: c :: l, _ =>
    show b + 256 * (c + 256 * 0) = _
    rw [dgt_lt (by simp), dgt_lt (by simp)]
    show _ = b + 256 * c
    omega
/-- What follows a response's first byte, as an answer. -/
def ansL (op pts : Int) (l : List Int) : An := ⟨dgt l 0, if op = 5 then dgt l 1 + 256 * dgt l 2 else 0, if op = 5 then listAt (rcAt l) 3 pts.toNat 9 else []⟩
theorem ansL_eq (h : Hq) (b : List Int) : ansAt h b = ansL h.op h.pts (b.drop 1) := by
  have hd : ∀ k, dgt (b.drop 1) k = dgt b (1 + k) := fun k => by simp [dgt, List.getElem?_drop, Nat.add_comm]
  unfold ansAt ansL
  rw [hd, hd, hd, listAt_drop rcAt_drop]
theorem dgt_bd {l : List Int} (h : UB l) (k : Nat) : 0 ≤ dgt l k ∧ dgt l k ≤ 255 := by have := h.dgt k; omega
theorem rcAt_U {l : List Int} (h : UB l) {a : Nat} (hl : a + 9 ≤ l.length) : U (rcAt l a).live ∧ U (rcAt l a).id := by
  refine ⟨?_, wAt_U h (by omega)⟩
  have := dgt_bd h a
  show U (dgt l a)
  unfold U
  omega
theorem ansL_U {op pts : Int} {l : List Int} (h : UB l) (hl : op = 5 → 3 + 9 * pts.toNat ≤ l.length) : UsR (ansL op pts l).l := by
  intro x hx
  unfold ansL at hx
  simp only at hx
  split at hx
  · rename_i e
    unfold listAt at hx
    obtain ⟨i, hi, rfl⟩ := List.mem_map.1 hx
    have := List.mem_range.1 hi
    exact rcAt_U h (by have := hl e; omega)
  · cases hx
set_option maxHeartbeats 4000000 in
theorem curAnswer_any (T : Nat → Prop) (g : Nat) (l : List Int) (op vx pts : Int) (sl : Value) (ks : List (Bool × Int)) (a : An) (w : World) (h : CurR w T g l) (hT : ¬ T g) (hTl : ∀ b, T b → b < w.heap.size) (hU : UB l) (hl : l.length ≤ 9223372036854775807)
    (hk : Okh ⟨op, vx, ks, pts⟩) (h1 : 1 ≤ l.length) (h5 : op = 5 → 3 + 9 * pts.toNat ≤ l.length) (ha : ansL op pts l = a) :
    Calls Tryd.prog 59 #[.pointer (some ⟨g, 0, none⟩), .agg #[.int .i64 op, .int .i64 vx, sl, .int .i64 pts]] w fun e w' => ∃ (A : Option Addr) (m c : Nat), e = .returned (.agg #[.int .i64 a.v, .int .i64 a.n, .slice A m c]) ∧ m = a.l.length ∧ RowR w' (fun b => w.heap.size ≤ b) 2 rcC A a.l ∧ Moved (fun b => b = g) w w' := by
  obtain ⟨W, hW⟩ : ∃ W, W = (w.alloc (.cells #[.int .i64 op, .int .i64 vx, sl, .int .i64 pts] 24)).alloc (.cells #[.int .i64 0, .int .i64 0, .slice none 0 0] 53) := ⟨_, rfl⟩
  obtain ⟨b, hb0⟩ : ∃ b, b = w.heap.size := ⟨_, rfl⟩
  have h0 : Below w.heap.size w W := by rw [hW]; exact ((Below.refl _ _).alloc (Nat.le_refl _) _).alloc (by simp) _
  have hWs : W.heap.size = w.heap.size + 2 := by rw [hW]; simp
  have g0 : W.cell? ⟨b, 0, none⟩ = some (.int .i64 op) := by rw [hW, hb0]; simp [go_sem]
  have g3 : W.cell? ⟨b, 3, none⟩ = some (.int .i64 pts) := by rw [hW, hb0]; simp [go_sem]
  have HRB := Lib.hid (show BoxT W (b + 1) (.int .i64 0) (.int .i64 0) (.slice none 0 0) 53 by
    rw [hW, hb0]; have := heap_alloc_new (w.alloc (.cells #[.int .i64 op, .int .i64 vx, sl, .int .i64 pts] 24)) (.cells #[.int .i64 0, .int .i64 0, .slice none 0 0] 53); simpa [BoxT] using this)
  have hgl : g < w.heap.size := by obtain ⟨_, _, _, h1, _⟩ := h; exact lt_of_cell h1
  have hc0 := h.next h0
  have HG := Lib.hid (show g < b ∧ b + 1 < W.heap.size ∧ b = w.heap.size from ⟨by omega, by omega, hb0⟩)
  have HTB := Lib.hid (show ∀ q, T q → q < b from fun q hq => by have := hTl q hq; omega)
  have HW := Lib.hid hW
  have HB := Lib.hid hb0
  obtain ⟨v, n, rs⟩ := a
  have HA := Lib.hid ha
  obtain ⟨X, hX⟩ : ∃ X, wv (l.take 1) = X := ⟨_, rfl⟩
  have hXd : X = dgt l 0 := by rw [← hX]; exact wv_one h1
  have hXb := dgt_bd hU 0
  rw [← hXd] at hXb
  have HV := Lib.hid (show X = v by have := HA.out; unfold ansL at this; injection this with e _ _; rw [hXd]; exact e)
  have HX := Lib.hid hX
  have e1 : IntKind.i64.wrap X = X := wrap_i64' (by omega) (by omega)
  have hpts := hk.pts5
  have hpt0 := hk.pts0
  simp only at hpts hpt0
  clear hW hb0 hWs ha hX hXd h hk
  go_enter Tryd.func59, Tryd.ntmps59
  go_upto_region 1 with (fail)
  rw [← HW.out, ← HB.out]
  go_wp2_with (fail)
  refine (curNumber_any T g l 1 _ X W hc0 hT hU hl (by omega) (by omega) (by omega) rfl HX.out).mono ?_
  rintro e w1 ⟨rfl, hc1, hm1⟩
  have k0 := (hm1.cell (lt_of_cell g0) (by have := HG.out; show ¬ b = g; omega)).trans g0
  have k3 := (hm1.cell (lt_of_cell g3) (by have := HG.out; show ¬ b = g; omega)).trans g3
  have hbx1 := HRB.out.same (hm1.block (b + 1) HG.out.2.1 (by have := HG.out; omega))
  go_upto_region 2 with (fail)
  obtain ⟨W2, hW2⟩ : ∃ W2, W2 = w1.alloc (.cells #[.int .i64 X, .int .i64 0, .slice none 0 0] 53) := ⟨_, rfl⟩
  obtain ⟨B5, hB5⟩ : ∃ B5, B5 = w1.heap.size := ⟨_, rfl⟩
  have h2 : Below w1.heap.size w1 W2 := by rw [hW2]; exact (Below.refl _ _).alloc (Nat.le_refl _) _
  have hz2 : W2.heap.size = w1.heap.size + 1 := by rw [hW2]; simp
  have hb5 : BoxT W2 B5 (.int .i64 X) (.int .i64 0) (.slice none 0 0) 53 := by rw [hW2, hB5]; exact heap_alloc_new w1 _
  rw [← hW2, ← hB5]
  have hc2 := hc1.next h2
  have hm2 : Moved (fun b => b = g) W W2 := hm1.trans (.of_below h2)
  have k0 := (h2.cell (lt_of_cell k0)).trans k0
  have k3 := (h2.cell (lt_of_cell k3)).trans k3
  have hbx2 := hbx1.same (h2.block (b + 1) (Nat.lt_of_lt_of_le HG.out.2.1 hm1.size))
  have HG5 := Lib.hid (show g < B5 ∧ b + 1 < B5 ∧ B5 < W2.heap.size from by have := HG.out; have := hm1.size; omega)
  clear hW2 hB5 hz2 hc1 hm1 hbx1 h2 g0 g3 hc0
  by_cases e5 : op = 5
  · subst e5
    have hp := hpts rfl
    have hl5 := h5 rfl
    obtain ⟨N, hN⟩ : ∃ N, N = pts.toNat := ⟨_, rfl⟩
    have hpN : pts = (N : Nat) := by omega
    obtain ⟨K, hK⟩ : ∃ K, wv ((l.drop 1).take 2) = K := ⟨_, rfl⟩
    have hKd : K = dgt l 1 + 256 * dgt l 2 := by rw [← hK]; exact wv_two (by omega)
    have hKb : 0 ≤ K ∧ K ≤ 65535 := by have := dgt_bd hU 1; have := dgt_bd hU 2; omega
    have HKN := Lib.hid (show K = n ∧ listAt (rcAt l) 3 N 9 = rs by
      have := HA.out
      unfold ansL at this
      rw [if_pos rfl, if_pos rfl, ← hN] at this
      injection this with _ e2 e3
      exact ⟨by rw [hKd]; exact e2, e3⟩)
    have HK := Lib.hid hK
    have e2 : IntKind.i64.wrap K = K := wrap_i64' (by omega) (by omega)
    rw [← hN] at hl5
    have HPN := Lib.hid hpN
    have hNb : 3 + 9 * N ≤ l.length ∧ N ≤ 100000 := by omega
    clear hK hKd hN hpts hpt0 h5 hpN
    go_wp2_with (fail)
    refine (curNumber_any T g (l.drop 1) 2 _ K W2 hc2 hT (hU.drop 1) (by rw [List.length_drop]; omega) (by omega) (by omega) (by rw [List.length_drop]; omega) rfl HK.out).mono ?_
    rintro e w3 ⟨rfl, hc3, hm3⟩
    rw [List.drop_drop] at hc3
    have k3 := (hm3.cell (lt_of_cell k3) (by have := HG.out; show ¬ b = g; omega)).trans k3
    have hb53 := hb5.same (hm3.block B5 HG5.out.2.2 (by have := HG5.out; omega))
    have hbx3 := hbx2.same (hm3.block (b + 1) (by have := HG5.out; omega) (by have := HG.out; omega))
    obtain ⟨⟨z0, z1, z2⟩, f0, f1, f2⟩ := hb53.at_
    go_upto_region 4 with (fail)
    obtain ⟨w4, hw4⟩ : ∃ w4, w4 = w3.setCell ⟨B5, 1, none⟩ (.int .i64 K) := ⟨_, rfl⟩
    have hm4 : Moved (fun q => q = B5) w3 w4 := by rw [hw4]; exact moved_one
    have hb54 : BoxT w4 B5 (.int .i64 X) (.int .i64 K) (.slice none 0 0) 53 := by rw [hw4]; exact (hb53.set (.int .i64 K)).2.1
    rw [← hw4]
    have k3 := (hm4.cell (lt_of_cell k3) (by have := HG5.out; show ¬ b = B5; omega)).trans k3
    have hc4 := hc3.keep hm4 (by have := HG5.out; omega) (fun q hq => by have := HTB.out q hq; have := HG5.out; omega)
    have hbx4 := hbx3.same (hm4.block (b + 1) (by have := HG5.out; have := hm3.size; omega) (by have := HG5.out; omega))
    have hs4 : W2.heap.size ≤ w4.heap.size := Nat.le_trans hm3.size hm4.size
    clear hw4 z0 z1 z2 f0 f1 f2 hb53 hbx3 hc3
    go_wp2_with (fail)
    refine (takeRecords_any T g (l.drop (1 + 2)) N pts w4 hc4 hT (fun q hq => by have := HTB.out q hq; have := HG5.out; omega) (hU.drop _) (by rw [List.length_drop]; omega) HPN.out hNb.2 (by rw [List.length_drop]; omega)).mono ?_
    rintro e w5 ⟨br, rfl, hrow5, hc5, hm5⟩
    rw [listAt_drop rcAt_drop, HKN.out.2] at hrow5
    have hb55 := hb54.same (hm5.block B5 (by have := HG5.out; omega) (by have := HG5.out; omega))
    have hbx5 := hbx4.same (hm5.block (b + 1) (by have := HG5.out; omega) (by have := HG.out; omega))
    have hbr : w4.heap.size ≤ br := (World.ownsRow.lt hrow5 br rfl).1
    have HRS := Lib.hid (show N = rs.length by rw [← HKN.out.2, listAt_len])
    have hrr := own_rowAt rcC_len HRS.out hrow5
    obtain ⟨⟨z0, z1, z2⟩, f0, f1, f2⟩ := hb55.at_
    go_upto_region 5 with (fail)
    obtain ⟨w6, hw6⟩ : ∃ w6, w6 = w5.setCell ⟨B5, 2, none⟩ (.slice (some ⟨br, 0, none⟩) N N) := ⟨_, rfl⟩
    have hm6 : Moved (fun q => q = B5) w5 w6 := by rw [hw6]; exact moved_one
    have hb56 : BoxT w6 B5 (.int .i64 X) (.int .i64 K) (.slice (some ⟨br, 0, none⟩) N N) 53 := by rw [hw6]; exact (hb55.set (.slice (some ⟨br, 0, none⟩) N N)).2.2
    rw [← hw6]
    have hbx6 := hbx5.same (hm6.block (b + 1) (by have := HG5.out; have := hm5.size; omega) (by have := HG5.out; omega))
    have hrr6 : RowR w6 (fun q => q = br) 2 rcC (some ⟨br, 0, none⟩) rs := hrr.keep fun q hq hlt => hm6.block q hlt (by have := HG5.out; omega)
    clear hw6 z0 z1 z2 f0 f1 f2 hb55 hbx5 hc4
    obtain ⟨⟨z0, z1, z2⟩, -⟩ := hb56.at_
    obtain ⟨⟨y0, y1, y2⟩, f0, f1, f2⟩ := hbx6.at_
    obtain ⟨hr7, hm7⟩ := hbx6.put3 (x := .int .i64 X) (y := .int .i64 K) (z := .slice (some ⟨br, 0, none⟩) N N) rfl
    obtain ⟨⟨r0, r1, r2⟩, -⟩ := hr7.at_
    go_wp2
    refine bodyPost_ret (v := .agg #[.int .i64 X, .int .i64 K, .slice (some ⟨br, 0, none⟩) N N]) (by simp [results, Tryd.results59, go_sem, r0, r1, r2]) rfl ⟨some ⟨br, 0, none⟩, N, N, by rw [HV.out, HKN.out.1], HRS.out, ?_, ?_⟩
    · refine (hrr6.keep fun q hq hlt => hm7.block q hlt (by have := HG5.out; omega)).imp fun q hq => ?_
      have := HG5.out; have := HG.out; omega
    · refine moved_new h0 (((((hm2.trans hm3).imp fun _ => .inl).trans (hm4.imp fun q e => .inr ?_)).trans (hm5.imp fun _ => .inl)).trans ((hm6.imp fun q e => .inr ?_).trans (hm7.imp fun q e => .inr ?_)))
      · have e : q = b + 1 := e; have := HG.out; omega
      · have e : q = B5 := e; have := HG5.out; have := HG.out; omega
      · have e : q = B5 := e; have := HG5.out; have := HG.out; omega
  · have d5 : (op == 5) = false := by rw [beq_eq_false_iff_ne]; exact e5
    have HKN := Lib.hid (show (0 : Int) = n ∧ ([] : List Rc) = rs by
      have := HA.out
      unfold ansL at this
      rw [if_neg e5, if_neg e5] at this
      injection this with _ e2 e3
      exact ⟨e2, e3⟩)
    clear e5 hpts hpt0 h5
    obtain ⟨⟨z0, z1, z2⟩, -⟩ := hb5.at_
    obtain ⟨⟨y0, y1, y2⟩, f0, f1, f2⟩ := hbx2.at_
    obtain ⟨hr7, hm7⟩ := hbx2.put3 (x := .int .i64 X) (y := .int .i64 0) (z := .slice none 0 0) rfl
    obtain ⟨⟨r0, r1, r2⟩, -⟩ := hr7.at_
    go_wp2
    refine bodyPost_ret (v := .agg #[.int .i64 X, .int .i64 0, .slice none 0 0]) (by simp [results, Tryd.results59, go_sem, r0, r1, r2]) rfl ⟨none, 0, 0, by rw [HV.out, ← HKN.out.1], by rw [← HKN.out.2]; rfl, by rw [← HKN.out.2]; exact RowR.nil_ _ _ _, ?_⟩
    refine moved_new h0 ((hm2.imp fun _ => .inl).trans (hm7.imp fun q e => .inr ?_))
    have e : q = b + 1 := e
    have := HG.out; omega
set_option maxHeartbeats 4000000 in
theorem codRead_c (op vx pts : Int) (hA : Option Addr) (hn hc : Nat) (hrs : List Rg) (A : Option Addr) (n c : Nat) (bs : List Int) (a : An) (er : Int) (w : World) (hw : Wts w)
    (hh : RowR w (fun g => g < w.heap.size) 3 rgC hA hrs) (hhn : hn = hrs.length) (hhl : hn ≤ 9223372036854775807) (hS : S op ∧ S vx ∧ S pts) (hv : ∀ r ∈ hrs, S r.v)
    (hb : SlR w (fun g => g < w.heap.size) .u8 A bs) (hnb : n = bs.length) (hU : UB bs) (hl : n ≤ 9223372036854775807) (hcp : n ≤ c)
    (hr : readA ⟨op, vx, hrs.map rgK, pts⟩ (rgP hrs) bs = (a, er)) :
    Calls Tryd.prog 21 #[.agg #[.int .i64 op, .int .i64 vx, .slice hA hn hc, .int .i64 pts], .slice A n c] w (GivesA w a er) := by
  obtain ⟨W, hW⟩ : ∃ W, W = (w.alloc (.cells #[.int .i64 op, .int .i64 vx, .slice hA hn hc, .int .i64 pts] 24)).alloc (.cells #[.int .i64 0, .int .i64 0, .slice none 0 0] 53) := ⟨_, rfl⟩
  obtain ⟨b, hb0⟩ : ∃ b, b = w.heap.size := ⟨_, rfl⟩
  have h0 : Below w.heap.size w W := by rw [hW]; exact ((Below.refl _ _).alloc (Nat.le_refl _) _).alloc (by simp) _
  have hWs : W.heap.size = w.heap.size + 2 := by rw [hW]; simp
  have g0 : W.cell? ⟨b, 0, none⟩ = some (.int .i64 op) := by rw [hW, hb0]; simp [go_sem]
  have g1 : W.cell? ⟨b, 1, none⟩ = some (.int .i64 vx) := by rw [hW, hb0]; simp [go_sem]
  have g2 : W.cell? ⟨b, 2, none⟩ = some (.slice hA hn hc) := by rw [hW, hb0]; simp [go_sem]
  have g3 : W.cell? ⟨b, 3, none⟩ = some (.int .i64 pts) := by rw [hW, hb0]; simp [go_sem]
  have HRB := Lib.hid (show BoxT W (b + 1) (.int .i64 0) (.int .i64 0) (.slice none 0 0) 53 by
    rw [hW, hb0]; have := heap_alloc_new (w.alloc (.cells #[.int .i64 op, .int .i64 vx, .slice hA hn hc, .int .i64 pts] 24)) (.cells #[.int .i64 0, .int .i64 0, .slice none 0 0] 53); simpa [BoxT] using this)
  have HG := Lib.hid (show b + 1 < W.heap.size ∧ b = w.heap.size from ⟨by omega, hb0⟩)
  obtain ⟨fe, hfe⟩ : ∃ fe, formErr ⟨op, vx, hrs.map rgK, pts⟩ (rgP hrs) = fe := ⟨_, rfl⟩
  have HFE := Lib.hid hfe
  have HHN := Lib.hid hhn
  have HN := Lib.hid hnb
  have HHW := Lib.hid (hh.next h0)
  have HSL := Lib.hid (hb.next h0)
  have HWT := Lib.hid (hw.below h0)
  have HSZ := Lib.hid h0.size
  have HW := Lib.hid hW
  have HB := Lib.hid hb0
  have HR := Lib.hid hr
  have HCL := Lib.hid (fun (w' : World) (hb : Below W.heap.size W w') => show w'.cell? ⟨b, 0, none⟩ = some (.int .i64 op) ∧ w'.cell? ⟨b, 1, none⟩ = some (.int .i64 vx) ∧ w'.cell? ⟨b, 2, none⟩ = some (.slice hA hn hc) ∧ w'.cell? ⟨b, 3, none⟩ = some (.int .i64 pts) from
    ⟨(hb.cell (lt_of_cell g0)).trans g0, (hb.cell (lt_of_cell g1)).trans g1, (hb.cell (lt_of_cell g2)).trans g2, (hb.cell (lt_of_cell g3)).trans g3⟩)
  -- what is given back with an error
  have HBAD := Lib.hid (fun (w' : World) (h : Below W.heap.size W w') (ha : a = ⟨0, 0, []⟩) (e' : Int) (he : er = e') => show ∃ w2, w2 = ((w'.setCell ⟨b + 1, 0, none⟩ (.int .i64 0)).setCell ⟨b + 1, 1, none⟩ (.int .i64 0)).setCell ⟨b + 1, 2, none⟩ (.slice none 0 0) ∧ (w2.cell? ⟨b + 1, 0, none⟩ = some (.int .i64 0) ∧ w2.cell? ⟨b + 1, 1, none⟩ = some (.int .i64 0) ∧ w2.cell? ⟨b + 1, 2, none⟩ = some (.slice none 0 0)) ∧ GivesA w a er (.returned (.tuple #[.agg #[.int .i64 0, .int .i64 0, .slice none 0 0], .int .i64 e'])) w2 from by
    have hbx := HRB.out.same (h.block (b + 1) HG.out.1)
    obtain ⟨h3, hm⟩ := hbx.put3 (x := .int .i64 0) (y := .int .i64 0) (z := .slice none 0 0) rfl
    refine ⟨_, rfl, h3.at_.1, he ▸ givesA_bad ha ?_⟩
    exact (hm.imp (U := fun g => w.heap.size ≤ g) fun g e => by have e : g = b + 1 := e; have := HG.out; omega).below (h0.trans (h.mono h0.size)) (fun _ h => h) (Nat.le_trans h0.size h.size))
  clear hW hb0 hh hb hfe hr hhn hnb hw hWs
  go_enter Tryd.func21, Tryd.ntmps21
  go_upto_region 1 with (fail)
  rw [← HW.out, ← HB.out]
  go_wp2_with (fail)
  refine (hdrFormat_cl op vx pts hA hn hc hrs fe _ W HWT.out (HHW.out.imp fun g hg => Nat.lt_of_lt_of_le hg HSZ.out) HHN.out hhl hS hv HFE.out rfl).mono ?_
  rintro e w1 ⟨v1, rfl, hown1, hb1⟩
  clear hown1 g0 g1 g2 g3
  have hbx1 := HRB.out.same (hb1.block (b + 1) HG.out.1)
  obtain ⟨⟨x0, x1, x2⟩, f0, f1, f2⟩ := hbx1.at_
  by_cases hf : fe = 0
  · subst hf
    obtain ⟨hk, hpf⟩ := formErr_ok.1 HFE.out
    have HK := Lib.hid hk
    clear hk hpf
    have HR2 := Lib.hid (show (if bs.length = 1 then (if 4 ≤ dgt bs 0 ∧ dgt bs 0 ≤ 8 then (⟨0, 0, []⟩, dgt bs 0) else (⟨0, 0, []⟩, 10)) else if (bs.length : Int) ≠ rspL ⟨op, vx, hrs.map rgK, pts⟩ then (⟨0, 0, []⟩, 8) else if dgt bs 0 = 0 ∧ isA ⟨op, vx, hrs.map rgK, pts⟩ (ansAt ⟨op, vx, hrs.map rgK, pts⟩ bs) = true then (ansAt ⟨op, vx, hrs.map rgK, pts⟩ bs, 0) else (⟨0, 0, []⟩, 10)) = (a, er) by
      rw [← HR.out]; unfold readA; rw [HFE.out]; exact (if_neg (show ¬ ((0 : Int) ≠ 0) by simp)).symm)
    by_cases h1 : n = 1
    · have hbl1 : bs.length = 1 := by rw [← HN.out]; exact h1
      have HR3 := Lib.hid HR2.out
      rw [if_pos hbl1] at HR3
      obtain ⟨pb, po, rfl, hTb, cw0⟩ := sl_lit HSL.out (show 0 < bs.length by omega)
      have c0 := (hb1.cell (lt_of_cell cw0)).trans cw0
      rw [Nat.add_zero] at c0
      have hd := dgt_bd hU 0
      generalize dgt bs 0 = x at c0 hd HR3
      subst h1
      obtain ⟨r, hr⟩ : ∃ r, (if 4 ≤ x ∧ x ≤ 8 then x else 10) = r := ⟨_, rfl⟩
      have HX := Lib.hid (show a = ⟨0, 0, []⟩ ∧ er = r by
        have := HR3.out
        by_cases hc : 4 ≤ x ∧ x ≤ 8
        · rw [if_pos hc] at this hr; injection this with e1 e2; exact ⟨e1.symm, by rw [← e2, ← hr]⟩
        · rw [if_neg hc] at this hr; injection this with e1 e2; exact ⟨e1.symm, by rw [← e2, ← hr]⟩)
      have HRr := Lib.hid hr
      clear hr cw0 hbl1
      go_wp2_with (fail)
      refine (errorOf_any x r w1 hd HRr.out).mono ?_
      rintro e w2 ⟨rfl, hw2⟩
      obtain rfl := hw2.symm
      obtain ⟨w5, hw5, ⟨r0, r1, r2⟩, hgive⟩ := HBAD.out w1 hb1 HX.out.1 r HX.out.2
      clear hw2
      go_wp2
      rw [← hw5]
      exact bodyPost_ret (v := .tuple #[.agg #[.int .i64 0, .int .i64 0, .slice none 0 0], .int .i64 r]) (by simp [results, Tryd.results21, go_sem, r0, r1, r2]) rfl hgive
    · have hbl1 : ¬ bs.length = 1 := by rw [← HN.out]; exact h1
      have HR3 := Lib.hid HR2.out
      rw [if_neg hbl1] at HR3
      have d1 : (((n : Nat) : Int) == 1) = false := by rw [beq_eq_false_iff_ne]; omega
      obtain ⟨rl, hrl⟩ : ∃ rl, rspL ⟨op, vx, hrs.map rgK, pts⟩ = rl := ⟨_, rfl⟩
      have HRL := Lib.hid hrl
      obtain ⟨k0, k1, k2, k3⟩ := HCL.out w1 hb1
      clear hrl hbl1
      go_wp2_with (fail)
      refine (hdrResponse_cl op vx pts hA hn hc hrs rl w1 (HWT.out.below hb1) ((HHW.out.imp fun g hg => Nat.lt_of_lt_of_le hg (Nat.le_trans HSZ.out hb1.size)).next hb1) HHN.out hhl hS hv (by rw [if_pos HFE.out]; exact HRL.out)).mono ?_
      rintro e w2 ⟨rfl, hb2⟩
      have hbw2 := hb1.trans (hb2.mono hb1.size)
      clear x0 x1 x2 f0 f1 f2 hbx1 k0 k1 k2 k3 hb2
      have hbx2 := HRB.out.same (hbw2.block (b + 1) HG.out.1)
      obtain ⟨⟨x0, x1, x2⟩, f0, f1, f2⟩ := hbx2.at_
      by_cases h2 : (n : Int) = rl
      · have d2 : (((n : Nat) : Int) != rl) = false := by rw [bne_eq_false_iff_eq]; exact h2
        have HR4 := Lib.hid HR3.out
        rw [if_neg (by rw [HRL.out, ← h2, HN.out]; simp)] at HR4
        have hrb : 2 ≤ rl ∧ (op = 5 → rl = 4 + 9 * pts) := by
          rw [← HRL.out]
          unfold rspL
          simp only
          split
          · rename_i e
            have := (HK.out.pts5 e).1
            simp only at this
            exact ⟨by omega, fun _ => rfl⟩
          · rename_i e
            exact ⟨by omega, fun e2 => absurd e2 e⟩
        have hn2 : 2 ≤ n ∧ (op = 5 → (n : Int) = 4 + 9 * pts) := by omega
        obtain ⟨pb, po, rfl, hTb, cw0⟩ := sl_lit HSL.out (show 0 < bs.length by have := HN.out; omega)
        have hsl1 := (HSL.out.sub_ 1 (bs.length - 1) (by have := HN.out; omega))
        rw [drop_take_all rfl] at hsl1
        have c0 := (hbw2.cell (lt_of_cell cw0)).trans cw0
        rw [Nat.add_zero] at c0
        have hd := dgt_bd hU 0
        have hsl2 := hsl1.next hbw2
        have HU1 := Lib.hid (hU.drop 1)
        have HL1 := Lib.hid (show (bs.drop 1).length = n - 1 by rw [List.length_drop, HN.out])
        have HAL := Lib.hid (show ansAt ⟨op, vx, hrs.map rgK, pts⟩ bs = ansL op pts (bs.drop 1) from ansL_eq ⟨op, vx, hrs.map rgK, pts⟩ bs)
        have HL5 := Lib.hid (show op = 5 → 3 + 9 * pts.toNat ≤ n - 1 from fun e => by
          have := hn2.2 e
          have := (HK.out.pts5 e).1
          simp only at this
          omega)
        have hn2' : 2 ≤ n := hn2.1
        clear hn2 hrb h2 cw0 hsl1
        obtain ⟨W3, hW3⟩ : ∃ W3, W3 = w2.alloc (.cells #[.slice (some ⟨pb, po + 1, none⟩) (n - 1) (c - 1)] 83) := ⟨_, rfl⟩
        obtain ⟨bc, hbc⟩ : ∃ bc, bc = w2.heap.size := ⟨_, rfl⟩
        have h3 : Below w2.heap.size w2 W3 := by rw [hW3]; exact (Below.refl _ _).alloc (Nat.le_refl _) _
        have hcur : CurR W3 (fun g => g < w.heap.size) bc (bs.drop 1) := by
          refine ⟨some ⟨pb, po + 1, none⟩, n - 1, c - 1, ?_, ?_, hsl2.next h3, HL1.out.symm, by omega⟩
          · rw [hW3, hbc]; simp [go_sem]
          · rw [hW3, hbc]; simp [go_sem]
        have hbw3 := hbw2.trans (h3.mono hbw2.size)
        have HGC := Lib.hid (show b + 1 < bc ∧ bc < W3.heap.size ∧ W.heap.size ≤ bc from ⟨by have := HG.out; have := hbw2.size; omega, by rw [hW3, hbc]; simp, by rw [hbc]; exact hbw2.size⟩)
        obtain ⟨D, hD⟩ : ∃ D, ansL op pts (bs.drop 1) = D := ⟨_, rfl⟩
        have HD := Lib.hid hD
        have HDU := Lib.hid (show UsR D.l from hD ▸ ansL_U HU1.out (fun e => by rw [HL1.out]; exact HL5.out e))
        clear hD
        have hcn : ¬ c = 1 := by omega
        have HW3 := Lib.hid hW3
        have HBC := Lib.hid hbc
        obtain ⟨k0, k1, k2, k3⟩ := HCL.out W3 hbw3
        have c3 := (h3.cell (lt_of_cell c0)).trans c0
        clear hW3 hbc hsl2 h3 c0 x0 x1 x2 f0 f1 f2 hbx2
        go_upto_region 9 with (fail)
        rw [← HW3.out, ← HBC.out]
        go_wp2_with (fail)
        refine (curAnswer_any (fun g => g < w.heap.size) bc (bs.drop 1) op vx pts (.slice hA hn hc) (hrs.map rgK) D W3 hcur (by have := HGC.out; have := HG.out; omega) (fun g hg => Nat.lt_of_lt_of_le hg (Nat.le_trans HSZ.out hbw3.size)) HU1.out (by rw [HL1.out]; omega) HK.out (by rw [HL1.out]; omega) (fun e => by rw [HL1.out]; exact HL5.out e) HD.out).mono ?_
        rintro e w4 ⟨A4, m4, c4, rfl, hm4, hr4, hmv4⟩
        have hbw4 : Below W.heap.size W w4 := hmv4.below hbw3 (fun g e => by have e : g = bc := e; have := HGC.out; omega) hbw3.size
        have c4' := (hmv4.cell (lt_of_cell c3) (by have hT : pb < w.heap.size := hTb; have := HGC.out; have := HG.out; show ¬ pb = bc; omega)).trans c3
        have hs4 : W3.heap.size ≤ w4.heap.size := hmv4.size
        obtain ⟨W5, hW5⟩ : ∃ W5, W5 = w4.alloc (.cells #[.int .i64 D.v, .int .i64 D.n, .slice A4 m4 c4] 53) := ⟨_, rfl⟩
        obtain ⟨B9, hB9⟩ : ∃ B9, B9 = w4.heap.size := ⟨_, rfl⟩
        have h5 : Below w4.heap.size w4 W5 := by rw [hW5]; exact (Below.refl _ _).alloc (Nat.le_refl _) _
        have n0 : W5.cell? ⟨B9, 0, none⟩ = some (.int .i64 D.v) := by rw [hW5, hB9]; simp [go_sem]
        have n1 : W5.cell? ⟨B9, 1, none⟩ = some (.int .i64 D.n) := by rw [hW5, hB9]; simp [go_sem]
        have n2 : W5.cell? ⟨B9, 2, none⟩ = some (.slice A4 m4 c4) := by rw [hW5, hB9]; simp [go_sem]
        have hbw5 := hbw4.trans (h5.mono hbw4.size)
        have c5 := (h5.cell (lt_of_cell c4')).trans c4'
        have hr5 := hr4.next h5
        have HW5 := Lib.hid hW5
        have HB9 := Lib.hid hB9
        have HM4 := Lib.hid hm4
        clear hW5 hB9 c3 c4' hr4 hmv4 h5 hbw4 k0 k1 k2 k3 hm4 hbw3 hcur
        obtain ⟨k0, k1, k2, k3⟩ := HCL.out W5 hbw5
        have hbx5 := HRB.out.same (hbw5.block (b + 1) HG.out.1)
        obtain ⟨⟨x0, x1, x2⟩, f0, f1, f2⟩ := hbx5.at_
        have HR5 := Lib.hid HR4.out
        rw [HAL.out] at HR5
        rw [HD.out] at HR5
        go_upto_region 10 with (fail)
        rw [← HW5.out, ← HB9.out]
        generalize dgt bs 0 = x at c5 hd HR5
        by_cases hx : x = 0
        · have d3 : (x != 0) = false := by rw [bne_eq_false_iff_eq]; exact hx
          obtain ⟨q, hq⟩ : ∃ q, isA ⟨op, vx, hrs.map rgK, pts⟩ D = q := ⟨_, rfl⟩
          have HQ := Lib.hid hq
          have HR6 := Lib.hid (show (if q = true then (D, (0 : Int)) else (⟨0, 0, []⟩, 10)) = (a, er) by
            rw [← HR5.out, hq]
            by_cases e : q = true
            · rw [if_pos e, if_pos ⟨hx, e⟩]
            · rw [if_neg e, if_neg (fun h => e h.2)])
          have hm9 : m4 ≤ 9223372036854775807 := by
            rw [HM4.out, ← HD.out]
            unfold ansL
            simp only
            split
            · rename_i e
              rw [listAt_len]
              have := HL5.out e
              omega
            · simp
          clear hx hq
          go_wp2_with (fail)
          refine (isAnswer_any op vx pts (.slice hA hn hc) (hrs.map rgK) D.v D.n A4 m4 c4 D.l _ q W5 (HWT.out.below hbw5) HK.out hr5 HM4.out hm9 HDU.out HQ.out).mono ?_
          rintro e w6 ⟨rfl, hb6⟩
          have hbw6 := hbw5.trans (hb6.mono hbw5.size)
          have n0 := (hb6.cell (lt_of_cell n0)).trans n0
          have n1 := (hb6.cell (lt_of_cell n1)).trans n1
          have n2 := (hb6.cell (lt_of_cell n2)).trans n2
          have hr6 := hr5.next hb6
          clear k0 k1 k2 k3 x0 x1 x2 f0 f1 f2 hbx5 c5 hb6 hr5
          have hbx6 := HRB.out.same (hbw6.block (b + 1) HG.out.1)
          obtain ⟨⟨x0, x1, x2⟩, f0, f1, f2⟩ := hbx6.at_
          cases q with
          | false =>
            have HX := Lib.hid (show a = ⟨0, 0, []⟩ ∧ er = 10 by
              have := HR6.out
              rw [if_neg (by simp)] at this
              injection this with e1 e2
              exact ⟨e1.symm, e2.symm⟩)
            obtain ⟨w7, hw7, ⟨r0, r1, r2⟩, hgive⟩ := HBAD.out w6 hbw6 HX.out.1 10 HX.out.2
            go_wp2
            rw [← hw7]
            exact bodyPost_ret (v := .tuple #[.agg #[.int .i64 0, .int .i64 0, .slice none 0 0], .int .i64 10]) (by simp [results, Tryd.results21, go_sem, r0, r1, r2]) rfl hgive
          | true =>
            have HX := Lib.hid (show a = D ∧ er = 0 by
              have := HR6.out
              rw [if_pos rfl] at this
              injection this with e1 e2
              exact ⟨e1.symm, e2.symm⟩)
            obtain ⟨hr7, hm7⟩ := hbx6.put3 (x := .int .i64 D.v) (y := .int .i64 D.n) (z := .slice A4 m4 c4) rfl
            obtain ⟨⟨r0, r1, r2⟩, -⟩ := hr7.at_
            go_wp2
            refine bodyPost_ret (v := .tuple #[.agg #[.int .i64 D.v, .int .i64 D.n, .slice A4 m4 c4], .int .i64 0]) (by simp [results, Tryd.results21, go_sem, r0, r1, r2]) rfl ?_
            rw [HX.out.1, HX.out.2]
            refine ⟨A4, m4, c4, rfl, HM4.out, ?_, ?_⟩
            · refine (hr6.keep fun g hg hlt => hm7.block g hlt (by have hg : W3.heap.size ≤ g := hg; have := HGC.out; omega)).imp fun g hg => ?_
              have hg : W3.heap.size ≤ g := hg
              have := HGC.out
              have := HG.out
              omega
            · exact (hm7.imp (U := fun g => w.heap.size ≤ g) fun g e => by have e : g = b + 1 := e; have := HG.out; omega).below (h0.trans (hbw6.mono h0.size)) (fun _ h => h) (Nat.le_trans h0.size hbw6.size)
        · have d3 : (x != 0) = true := by rw [bne_iff_ne]; exact hx
          have HX := Lib.hid (show a = ⟨0, 0, []⟩ ∧ er = 10 by
            have := HR5.out
            rw [if_neg (fun h => hx h.1)] at this
            injection this with e1 e2
            exact ⟨e1.symm, e2.symm⟩)
          obtain ⟨w7, hw7, ⟨r0, r1, r2⟩, hgive⟩ := HBAD.out W5 hbw5 HX.out.1 10 HX.out.2
          clear hx
          go_wp2
          rw [← hw7]
          exact bodyPost_ret (v := .tuple #[.agg #[.int .i64 0, .int .i64 0, .slice none 0 0], .int .i64 10]) (by simp [results, Tryd.results21, go_sem, r0, r1, r2]) rfl hgive
      · have d2 : (((n : Nat) : Int) != rl) = true := by rw [bne_iff_ne]; exact h2
        have HX := Lib.hid (show a = ⟨0, 0, []⟩ ∧ er = 8 by
          have := HR3.out
          rw [if_pos (by rw [HRL.out, ← HN.out]; exact h2)] at this
          injection this with e1 e2
          exact ⟨e1.symm, e2.symm⟩)
        obtain ⟨w5, hw5, ⟨r0, r1, r2⟩, hgive⟩ := HBAD.out w2 hbw2 HX.out.1 8 HX.out.2
        clear h2
        go_wp2
        rw [← hw5]
        exact bodyPost_ret (v := .tuple #[.agg #[.int .i64 0, .int .i64 0, .slice none 0 0], .int .i64 8]) (by simp [results, Tryd.results21, go_sem, r0, r1, r2]) rfl hgive
  · have d1 : (fe != 0) = true := by rw [bne_iff_ne]; exact hf
    have HX := Lib.hid (show a = ⟨0, 0, []⟩ ∧ er = fe by
      have := HR.out
      unfold readA at this
      rw [HFE.out, if_pos hf] at this
      injection this with e1 e2
      exact ⟨e1.symm, e2.symm⟩)
    obtain ⟨w5, hw5, ⟨r0, r1, r2⟩, hgive⟩ := HBAD.out w1 hb1 HX.out.1 fe HX.out.2
    clear hf
    go_wp2
    rw [← hw5]
    exact bodyPost_ret (v := .tuple #[.agg #[.int .i64 0, .int .i64 0, .slice none 0 0], .int .i64 fe]) (by simp [results, Tryd.results21, go_sem, r0, r1, r2]) rfl hgive
end Go.Proofs.YtcfdpimpleniaaaDoor
namespace Go.Proofs.YtcfdpimpleniaaaDoor
open Go

theorem regsAt_snoc (b : List Int) {ks : List (Bool × Int)} {k : Nat} (h : k < ks.length) (at_ : Nat) : regsAt b (ks.take (k + 1)) at_ = regsAt b (ks.take k) at_ ++ [(ks[k], ptsAt b (at_ + 16 * (ptsK (ks.take k)).toNat) (sizeF (ks[k]).2).toNat)] := by
  rw [List.take_succ_eq_append_getElem h, regsAt_append]; rfl
theorem ptsAt_S {bs : List Int} (hU : UB bs) {a n s : Nat} (h : ∀ i, i < n → a + i * s + 16 ≤ bs.length) : SsP (listAt (ptAt bs) a n s) := fun p hp => by
  unfold listAt at hp
  obtain ⟨i, hi, rfl⟩ := List.mem_map.1 hp
  exact ptAt_S hU (h i (List.mem_range.1 hi))
theorem qrsAt_ok {bs : List Int} (hU : UB bs) {a n : Nat} (h : a + n * 24 ≤ bs.length) : ∀ q ∈ listAt (qrAt bs) a n 24, OkQ q := fun q hq => by
  unfold listAt at hq
  obtain ⟨i, hi, rfl⟩ := List.mem_map.1 hq
  have h1 := List.mem_range.1 hi
  exact ⟨ptAt_S hU (by omega), wAt_U hU (by omega)⟩
theorem okh_vS {op vx pts : Int} {ks : List (Bool × Int)} (hk : Okh ⟨op, vx, ks, pts⟩) {x : Bool × Int} (hx : x ∈ ks) : S x.2 := by
  have h1 := hk.ok
  have h2 := hk.len0
  simp only at h1 h2
  by_cases h : 4 ≤ op
  · have h3 := h1 h
    unfold anyBad at h3
    have h4 := List.any_eq_false.1 h3 x hx
    have h5 := sizeF_bd x.2
    have h6 : sizeF x.2 ≠ 0 := by simpa using h4
    unfold sizeF at h6
    unfold S
    split at h6
    · omega
    · split at h6
      · omega
      · exact absurd rfl h6
  · rw [h2 (by omega)] at hx; cases hx
theorem ptsK_sn : ∀ (a : List (Bool × Int)) (x : Bool × Int), ptsK (a ++ [x]) = ptsK a + sizeF x.2
  | [], x => by rw [List.nil_append, ptsK_cons]; show sizeF x.2 + 0 = 0 + _; omega
  | y :: a, x => by rw [List.cons_append, ptsK_cons, ptsK_cons, ptsK_sn a x]; omega
theorem ptsK_at {ks : List (Bool × Int)} {k : Nat} (h : k < ks.length) : ptsK (ks.take (k + 1)) = ptsK (ks.take k) + sizeF (ks[k]).2 := by
  rw [List.take_succ_eq_append_getElem h, ptsK_sn]
theorem ptsK_part : ∀ (ks : List (Bool × Int)) (k : Nat), ptsK (ks.take k) ≤ ptsK ks
  | [], k => by simp
  | x :: ks, 0 => by have := ptsK_nn (x :: ks); simpa [ptsK] using this
  | x :: ks, k + 1 => by
    have := ptsK_part ks k
    rw [List.take_succ_cons, ptsK_cons, ptsK_cons]; omega
end Go.Proofs.YtcfdpimpleniaaaDoor
namespace Go.Proofs.YtcfdpimpleniaaaDoor
open Go.RowKit
set_option maxRecDepth 100000
set_option linter.unusedVariables false
set_option linter.unusedSimpArgs false

theorem cloneRgK_any (A : Option Addr) (c n : Nat) (l : List Rg) (S : Nat → Prop) (w : World) (ha : RowR w S 3 rgC A l) (hn : n = l.length) (hl : n ≤ 1000000) :
    Calls Tryd.prog 38 #[.slice A n c] w fun e w' => ∃ v, e = .returned v ∧ w'.ownsRow w.heap.size 63 3 v l.length (l.flatMap rgC) ∧ Below w.heap.size w w' := by
  have hq : ∀ (w : World) (a : Option Addr) (n c n' c' : Nat), (binOp .eql 22 (.slice a n c) (.slice none n' c')).run Tryd.prog w = .ok (.bool a.isNone) w := fun w a n c n' c' => Lib.run_eql_slice_nil w 22 63 a n c n' c' Tryd.underlying22
  subst hn
  cases A with
  | none =>
    obtain rfl := ha.nilOf
    go_enter Tryd.func38, Tryd.ntmps38
    go_wp2
    go_ret
    exact ⟨_, rfl, World.ownsRow_nil _ _ _ _, Below.refl _ _⟩
  | some ad =>
    have hrow : (w.alloc (.cells #[] 63)).ownsRow w.heap.size 63 3 (.slice (some ⟨w.heap.size, 0, none⟩) 0 0) 0 [] := World.ownsRow_made w #[] 0 (Nat.le_refl _) (by decide) rfl
    have ha2 := ha.next ((Below.refl w.heap.size w).alloc (Nat.le_refl _) (.cells #[] 63))
    clear ha
    go_enter Tryd.func38, Tryd.ntmps38
    go_wp2_with (first
      | (at_builtin; refine wp_app_row elemRg rfl _ _ rfl w.heap.size _ 0 [] rfl hrow (some ad) c l.length l S rfl rfl ha2 (fun h => by cases h) (by omega) (by simp) ?_
         intro v' w1 hown1 hgrow1 _))
    go_ret
    rw [Nat.zero_add, List.nil_append] at hown1
    exact ⟨_, rfl, hown1, ((Below.refl _ _).alloc (Nat.le_refl _) _).grown hgrow1 (by simp) (fun k e => by injection e with e; exact Nat.le_of_eq e)⟩
end Go.Proofs.YtcfdpimpleniaaaDoor
namespace Go.Proofs.YtcfdpimpleniaaaDoor
open Go.RowKit
set_option maxRecDepth 100000
set_option linter.unusedVariables false
set_option linter.unusedSimpArgs false

def Box7 (w : World) (b : Nat) (x0 x1 x2 x3 x4 x5 x6 : Value) (t : TypeId) : Prop := w.heap[b]? = some (.cells #[x0, x1, x2, x3, x4, x5, x6] t (0, 0))
theorem Box7.at_ {w : World} {b : Nat} {x0 x1 x2 x3 x4 x5 x6 : Value} {t : TypeId} (h : Box7 w b x0 x1 x2 x3 x4 x5 x6 t) : (w.cell? ⟨b, 0, none⟩ = some x0 ∧ w.cell? ⟨b, 1, none⟩ = some x1 ∧ w.cell? ⟨b, 2, none⟩ = some x2 ∧ w.cell? ⟨b, 3, none⟩ = some x3 ∧ w.cell? ⟨b, 4, none⟩ = some x4 ∧ w.cell? ⟨b, 5, none⟩ = some x5 ∧ w.cell? ⟨b, 6, none⟩ = some x6) ∧ (w.frozen? ⟨b, 0, none⟩ = false ∧ w.frozen? ⟨b, 1, none⟩ = false ∧ w.frozen? ⟨b, 2, none⟩ = false ∧ w.frozen? ⟨b, 3, none⟩ = false ∧ w.frozen? ⟨b, 4, none⟩ = false ∧ w.frozen? ⟨b, 5, none⟩ = false ∧ w.frozen? ⟨b, 6, none⟩ = false) := by
  unfold Box7 at h
  refine ⟨⟨?_, ?_, ?_, ?_, ?_, ?_, ?_⟩, ?_, ?_, ?_, ?_, ?_, ?_, ?_⟩ <;> simp [World.cell?, World.frozen?, h]
theorem Box7.new {w : World} {x0 x1 x2 x3 x4 x5 x6 : Value} {t : TypeId} : Box7 (w.alloc (.cells #[x0, x1, x2, x3, x4, x5, x6] t)) w.heap.size x0 x1 x2 x3 x4 x5 x6 t := heap_alloc_new w _
theorem Box7.lt {w : World} {b : Nat} {x0 x1 x2 x3 x4 x5 x6 : Value} {t : TypeId} (h : Box7 w b x0 x1 x2 x3 x4 x5 x6 t) : b < w.heap.size := (Array.getElem?_eq_some_iff.1 h).1
theorem Box7.same {w w' : World} {b : Nat} {x0 x1 x2 x3 x4 x5 x6 : Value} {t : TypeId} (h : Box7 w b x0 x1 x2 x3 x4 x5 x6 t) (e : w'.heap[b]? = w.heap[b]?) : Box7 w' b x0 x1 x2 x3 x4 x5 x6 t := e.trans h
theorem Box7.set0 {w : World} {b : Nat} {x0 x1 x2 x3 x4 x5 x6 : Value} {t : TypeId} (h : Box7 w b x0 x1 x2 x3 x4 x5 x6 t) (v : Value) : Box7 (w.setCell ⟨b, 0, none⟩ v) b v x1 x2 x3 x4 x5 x6 t := by
  unfold Box7 at h ⊢
  show (w.heap.modify b _)[b]? = _; rw [Array.getElem?_modify, if_pos rfl, h]; rfl
theorem Box7.set1 {w : World} {b : Nat} {x0 x1 x2 x3 x4 x5 x6 : Value} {t : TypeId} (h : Box7 w b x0 x1 x2 x3 x4 x5 x6 t) (v : Value) : Box7 (w.setCell ⟨b, 1, none⟩ v) b x0 v x2 x3 x4 x5 x6 t := by
  unfold Box7 at h ⊢
  show (w.heap.modify b _)[b]? = _; rw [Array.getElem?_modify, if_pos rfl, h]; rfl
theorem Box7.set2 {w : World} {b : Nat} {x0 x1 x2 x3 x4 x5 x6 : Value} {t : TypeId} (h : Box7 w b x0 x1 x2 x3 x4 x5 x6 t) (v : Value) : Box7 (w.setCell ⟨b, 2, none⟩ v) b x0 x1 v x3 x4 x5 x6 t := by
  unfold Box7 at h ⊢
  show (w.heap.modify b _)[b]? = _; rw [Array.getElem?_modify, if_pos rfl, h]; rfl
theorem Box7.set3 {w : World} {b : Nat} {x0 x1 x2 x3 x4 x5 x6 : Value} {t : TypeId} (h : Box7 w b x0 x1 x2 x3 x4 x5 x6 t) (v : Value) : Box7 (w.setCell ⟨b, 3, none⟩ v) b x0 x1 x2 v x4 x5 x6 t := by
  unfold Box7 at h ⊢
  show (w.heap.modify b _)[b]? = _; rw [Array.getElem?_modify, if_pos rfl, h]; rfl
theorem Box7.set4 {w : World} {b : Nat} {x0 x1 x2 x3 x4 x5 x6 : Value} {t : TypeId} (h : Box7 w b x0 x1 x2 x3 x4 x5 x6 t) (v : Value) : Box7 (w.setCell ⟨b, 4, none⟩ v) b x0 x1 x2 x3 v x5 x6 t := by
  unfold Box7 at h ⊢
  show (w.heap.modify b _)[b]? = _; rw [Array.getElem?_modify, if_pos rfl, h]; rfl
theorem Box7.set5 {w : World} {b : Nat} {x0 x1 x2 x3 x4 x5 x6 : Value} {t : TypeId} (h : Box7 w b x0 x1 x2 x3 x4 x5 x6 t) (v : Value) : Box7 (w.setCell ⟨b, 5, none⟩ v) b x0 x1 x2 x3 x4 v x6 t := by
  unfold Box7 at h ⊢
  show (w.heap.modify b _)[b]? = _; rw [Array.getElem?_modify, if_pos rfl, h]; rfl
theorem Box7.set6 {w : World} {b : Nat} {x0 x1 x2 x3 x4 x5 x6 : Value} {t : TypeId} (h : Box7 w b x0 x1 x2 x3 x4 x5 x6 t) (v : Value) : Box7 (w.setCell ⟨b, 6, none⟩ v) b x0 x1 x2 x3 x4 x5 v t := by
  unfold Box7 at h ⊢
  show (w.heap.modify b _)[b]? = _; rw [Array.getElem?_modify, if_pos rfl, h]; rfl
/-- All seven cells are stored. -/
theorem fin7 {w0 w Wf : World} {b B : Nat} {x0 x1 x2 x3 x4 x5 x6 y0 y1 y2 y3 y4 y5 y6 : Value} {t : TypeId} (h : Box7 w b x0 x1 x2 x3 x4 x5 x6 t) (hb : Below B w0 w) (hB : B ≤ b) (hWf : ((((((w.setCell ⟨b, 0, none⟩ y0).setCell ⟨b, 1, none⟩ y1).setCell ⟨b, 2, none⟩ y2).setCell ⟨b, 3, none⟩ y3).setCell ⟨b, 4, none⟩ y4).setCell ⟨b, 5, none⟩ y5).setCell ⟨b, 6, none⟩ y6 = Wf) :
    Below B w0 Wf ∧ (∀ g, g ≠ b → Wf.heap[g]? = w.heap[g]?) ∧ Box7 Wf b y0 y1 y2 y3 y4 y5 y6 t := by
  have h7 := ((((((h.set0 y0).set1 y1).set2 y2).set3 y3).set4 y4).set5 y5).set6 y6
  refine ⟨?_, fun g hg => ?_, hWf ▸ h7⟩
  · subst hWf
    exact ((((((hb.setCell (p := ⟨b, 0, none⟩) hB y0).setCell (p := ⟨b, 1, none⟩) hB y1).setCell (p := ⟨b, 2, none⟩) hB y2).setCell (p := ⟨b, 3, none⟩) hB y3).setCell (p := ⟨b, 4, none⟩) hB y4).setCell (p := ⟨b, 5, none⟩) hB y5).setCell (p := ⟨b, 6, none⟩) hB y6
  · subst hWf
    repeat rw [Below.heap_setCell _ _ _ _ hg]
end Go.Proofs.YtcfdpimpleniaaaDoor
