/-
  Packed texts: Ref17p, Ref17c, CodE.
-/
import Derived.Test.YtcfdpimpleniaaaDoorP3
namespace Go.Proofs.YtcfdpimpleniaaaDoor
open Go.RowKit Go.Maps
set_option maxRecDepth 100000
set_option linter.unusedVariables false
set_option linter.unusedSimpArgs false

/-- What Parse gives. -/
def GivesH (w : World) (P : PrS) (e : Ending) (w' : World) : Prop :=
  ∃ (A : Option Addr) (n c : Nat) (rs : List Rg), e = .returned (.tuple #[.agg #[.int .i64 P.h.op, .int .i64 P.h.vs, .slice A n c, .int .i64 P.h.pts], .int .i64 P.n, .int .i64 P.e]) ∧ n = rs.length ∧
    RowR w' (fun b => w.heap.size ≤ b) 3 rgC A rs ∧ rs.map rgK = P.h.ks ∧ rgP rs = false ∧ Below w.heap.size w w'
theorem givesH_bad {w w' : World} {P : PrS} {er : Int} (hP : P = badP er) (hb : Below w.heap.size w w') : GivesH w P (.returned (.tuple #[.agg #[.int .i64 0, .int .i64 0, .slice none 0 0, .int .i64 0], .int .i64 0, .int .i64 er])) w' := by
  subst hP
  exact ⟨none, 0, 0, [], rfl, rfl, RowR.nil_ _ _ _, rfl, rfl, hb⟩
theorem givesH_none {w w' : World} {P : PrS} {op vs : Int} {n : Nat} (hP : P = ⟨⟨op, vs, [], 0⟩, n, 0⟩) (hb : Below w.heap.size w w') : GivesH w P (.returned (.tuple #[.agg #[.int .i64 op, .int .i64 vs, .slice none 0 0, .int .i64 0], .int .i64 n, .int .i64 0])) w' := by
  subst hP
  exact ⟨none, 0, 0, [], rfl, rfl, RowR.nil_ _ _ _, rfl, rfl, hb⟩
theorem UB.at_ {l : List Int} (h : UB l) (k : Nat) : 0 ≤ Go.Proofs.YtcfdpimpleniaaaDoor.dgt l k ∧ Go.Proofs.YtcfdpimpleniaaaDoor.dgt l k ≤ 255 := by have := h.dgt k; omega
theorem sl_at {w : World} {S : Nat → Prop} {A : Option Addr} {bs : List Int} {k : Nat} (h : SlR w S .u8 A bs) (hk : k < bs.length) : ∃ b o, A = some ⟨b, o, none⟩ ∧ w.cell? ⟨b, o + k, none⟩ = some (.int .u8 (dgt bs k)) := by
  obtain ⟨b, o, e, _, hc⟩ := h (by omega)
  exact ⟨b, o, e, by rw [dgt_lt hk]; exact hc k _ (List.getElem?_eq_getElem hk)⟩
/-- A block of four cells. -/
def Box4 (w : World) (b : Nat) (x y z u : Value) (t : TypeId) : Prop := w.heap[b]? = some (.cells #[x, y, z, u] t (0, 0))
theorem Box4.at_ {w : World} {b : Nat} {x y z u : Value} {t : TypeId} (h : Box4 w b x y z u t) : (w.cell? ⟨b, 0, none⟩ = some x ∧ w.cell? ⟨b, 1, none⟩ = some y ∧ w.cell? ⟨b, 2, none⟩ = some z ∧ w.cell? ⟨b, 3, none⟩ = some u) ∧
    (w.frozen? ⟨b, 0, none⟩ = false ∧ w.frozen? ⟨b, 1, none⟩ = false ∧ w.frozen? ⟨b, 2, none⟩ = false ∧ w.frozen? ⟨b, 3, none⟩ = false) := by
  unfold Box4 at h
  refine ⟨⟨?_, ?_, ?_, ?_⟩, ?_, ?_, ?_, ?_⟩ <;> simp [World.cell?, World.frozen?, h]
theorem Box4.new {w : World} {x y z u : Value} {t : TypeId} : Box4 (w.alloc (.cells #[x, y, z, u] t)) w.heap.size x y z u t := heap_alloc_new w _
theorem Box4.lt {w : World} {b : Nat} {x y z u : Value} {t : TypeId} (h : Box4 w b x y z u t) : b < w.heap.size := by
  unfold Box4 at h; exact (Array.getElem?_eq_some_iff.1 h).1
theorem Box4.next {w w' : World} {b : Nat} {x y z u : Value} {t : TypeId} (h : Box4 w b x y z u t) {B : Nat} (hb : Below B w w') (hB : b < B) : Box4 w' b x y z u t := by
  unfold Box4 at h ⊢
  rw [hb.block b hB]; exact h
theorem Box4.other {w : World} {b : Nat} {x y z u : Value} {t : TypeId} (h : Box4 w b x y z u t) {c o : Nat} (hne : b ≠ c) (v : Value) : Box4 (w.setCell ⟨c, o, none⟩ v) b x y z u t := by
  unfold Box4 at h ⊢
  rw [Below.heap_setCell _ _ _ _ hne]; exact h
theorem Box4.set {w : World} {b : Nat} {x y z u : Value} {t : TypeId} (h : Box4 w b x y z u t) (v : Value) :
    Box4 (w.setCell ⟨b, 0, none⟩ v) b v y z u t ∧ Box4 (w.setCell ⟨b, 1, none⟩ v) b x v z u t ∧ Box4 (w.setCell ⟨b, 2, none⟩ v) b x y v u t ∧ Box4 (w.setCell ⟨b, 3, none⟩ v) b x y z v t := by
  unfold Box4 at h ⊢
  refine ⟨?_, ?_, ?_, ?_⟩ <;> (show (w.heap.modify b _)[b]? = _; rw [Array.getElem?_modify, if_pos rfl, h]; rfl)
theorem fin4 {w W Wf : World} {b B : Nat} {x y z u x0 y0 z0 u0 : Value} {t : TypeId} (h : Box4 W b x0 y0 z0 u0 t) (hb : Below B w W) (hB : B ≤ b)
    (hWf : (((W.setCell ⟨b, 0, none⟩ x).setCell ⟨b, 1, none⟩ y).setCell ⟨b, 2, none⟩ z).setCell ⟨b, 3, none⟩ u = Wf) :
    Below B w Wf ∧ (∀ g, g ≠ b → Wf.heap[g]? = W.heap[g]?) ∧ Wf.cell? ⟨b, 0, none⟩ = some x ∧ Wf.cell? ⟨b, 1, none⟩ = some y ∧ Wf.cell? ⟨b, 2, none⟩ = some z ∧ Wf.cell? ⟨b, 3, none⟩ = some u := by
  have h1 := (h.set x).1
  have h2 := (h1.set y).2.1
  have h3 := (h2.set z).2.2.1
  have h4 := (h3.set u).2.2.2
  rw [hWf] at h4
  refine ⟨?_, fun g hg => ?_, h4.at_.1⟩
  · subst hWf
    exact (((hb.setCell (p := ⟨b, 0, none⟩) hB x).setCell (p := ⟨b, 1, none⟩) hB y).setCell (p := ⟨b, 2, none⟩) hB z).setCell (p := ⟨b, 3, none⟩) hB u
  · subst hWf
    rw [Below.heap_setCell _ _ _ _ hg, Below.heap_setCell _ _ _ _ hg, Below.heap_setCell _ _ _ _ hg, Below.heap_setCell _ _ _ _ hg]
theorem ksOf_len {bs : List Int} {m : Nat} (h : 2 + m ≤ bs.length) : (ksOf bs m).length = m := by unfold ksOf; simp; omega
theorem ksOf_snoc {bs : List Int} {m j : Nat} (h : 2 + m ≤ bs.length) (hj : j < m) : (ksOf bs m).take (j + 1) = (ksOf bs m).take j ++ [rgOf (dgt bs (2 + j))] := by
  have hl := ksOf_len h
  rw [List.take_succ_eq_append_getElem (by omega)]
  congr 2
  unfold ksOf
  rw [List.getElem_map, List.getElem_take, List.getElem_drop, dgt_lt (by omega)]
theorem anyBad_app (a : List (Bool × Int)) (k : Bool × Int) : anyBad (a ++ [k]) = (anyBad a || decide (sizeF k.2 = 0)) := by unfold anyBad; rw [List.any_append]; simp
theorem anyBad_take {ks : List (Bool × Int)} {j : Nat} (h : anyBad (ks.take j) = true) : anyBad ks = true := by
  unfold anyBad at h ⊢
  rw [List.any_eq_true] at h ⊢
  obtain ⟨x, hx, hb⟩ := h
  exact ⟨x, List.mem_of_mem_take hx, hb⟩
def rg0 (k : Bool × Int) : Rg := ⟨k.1, k.2, none, 0, []⟩
theorem rg0_key (l : List (Bool × Int)) : (l.map rg0).map rgK = l := by rw [List.map_map]; exact List.map_id l
theorem rg0_pts (l : List (Bool × Int)) : rgP (l.map rg0) = false := by
  unfold rgP
  rw [List.any_map, List.any_eq_false]
  intro x _
  simp [rg0]
theorem dst_blk {B : Nat} {ob : Obj} : DStab (fun v w => ∃ g, v = .pointer (some ⟨g, 0, none⟩) ∧ B ≤ g ∧ w.heap[g]? = some ob) := fun v w w' ⟨g, e, hB, h⟩ hb => ⟨g, e, hB, (hb.block g (Array.getElem?_eq_some_iff.1 h).1).trans h⟩
/-- What stands between two rounds. -/
structure PR (w : World) (base bz bh : Nat) (x : Int) (ks : List (Bool × Int)) (j : Nat) (v : Value) (wr : World) : Prop where
  low : Below w.heap.size w wr
  size : base ≤ wr.heap.size
  z : Box4 wr bz (.int .i64 0) (.int .i64 0) (.slice none 0 0) (.int .i64 0) 24
  y : Box4 wr bh (.int .i64 x) (.int .i64 0) v (.int .i64 0) 24
  row : wr.ownsRow base 63 3 v j (((ks.take j).map rg0).flatMap rgC)
theorem PR.move {w : World} {base bz bh : Nat} {x : Int} {ks : List (Bool × Int)} {j : Nat} {v : Value} {wr W : World} (h : PR w base bz bh x ks j v wr) (hb : Below wr.heap.size wr W) (h1 : w.heap.size ≤ wr.heap.size) : PR w base bz bh x ks j v W :=
  ⟨h.low.trans (hb.mono h1), Nat.le_trans h.size hb.size, h.z.next hb h.z.lt, h.y.next hb h.y.lt, row_keep h.row fun g hg => hb.block g (World.ownsRow.lt h.row g hg).2⟩
def BoxE3 (w : World) (b : Nat) (x y z : Value) (t : TypeId) : Prop := w.heap[b]? = some (.cells #[x, y, z] t (0, 0))
theorem BoxE3.at_ {w : World} {b : Nat} {x y z : Value} {t : TypeId} (h : BoxE3 w b x y z t) : (w.cell? ⟨b, 0, none⟩ = some x ∧ w.cell? ⟨b, 1, none⟩ = some y ∧ w.cell? ⟨b, 2, none⟩ = some z) ∧
    (w.frozen? ⟨b, 0, none⟩ = false ∧ w.frozen? ⟨b, 1, none⟩ = false ∧ w.frozen? ⟨b, 2, none⟩ = false) := by
  unfold BoxE3 at h
  refine ⟨⟨?_, ?_, ?_⟩, ?_, ?_, ?_⟩ <;> simp [World.cell?, World.frozen?, h]
theorem put3 {w W w0 : World} {b B : Nat} {x y z x0 y0 z0 : Value} {t : TypeId} (h : BoxE3 w b x0 y0 z0 t) (hb : Below B w0 w) (hB : B ≤ b) (hW : ((w.setCell ⟨b, 0, none⟩ x).setCell ⟨b, 1, none⟩ y).setCell ⟨b, 2, none⟩ z = W) :
    BoxE3 W b x y z t ∧ Below B w0 W := by
  subst hW
  refine ⟨?_, ((hb.setCell (p := ⟨b, 0, none⟩) hB x).setCell (p := ⟨b, 1, none⟩) hB y).setCell (p := ⟨b, 2, none⟩) hB z⟩
  have h1 : BoxE3 (w.setCell ⟨b, 0, none⟩ x) b x y0 z0 t := by
    unfold BoxE3 at h ⊢
    show (w.heap.modify b _)[b]? = _; rw [Array.getElem?_modify, if_pos rfl, h]; rfl
  have h2 : BoxE3 ((w.setCell ⟨b, 0, none⟩ x).setCell ⟨b, 1, none⟩ y) b x y z0 t := by
    unfold BoxE3 at h1 ⊢
    show ((w.setCell ⟨b, 0, none⟩ x).heap.modify b _)[b]? = _; rw [Array.getElem?_modify, if_pos rfl, h1]; rfl
  unfold BoxE3 at h2 ⊢
  show (((w.setCell ⟨b, 0, none⟩ x).setCell ⟨b, 1, none⟩ y).heap.modify b _)[b]? = _; rw [Array.getElem?_modify, if_pos rfl, h2]; rfl
theorem PR.grow {w : World} {base bz bh : Nat} {x : Int} {ks : List (Bool × Int)} {j : Nat} {v v' : Value} {W w5 : World} {k : Bool × Int} (h : PR w base bz bh x ks j v W) (ob : Obj) (hbase : w.heap.size ≤ base) (hz : bz < base) (hh : bh < base) (hzh : bz ≠ bh) (hh2 : w.heap.size ≤ bh)
    (hr : w5.ownsRow base 63 3 v' (j + 1) ((((ks.take j).map rg0).flatMap rgC) ++ [rg0 k].flatMap rgC)) (hg : (W.alloc ob).grownBy w5 v.ownBlock) (hk : ks.take (j + 1) = ks.take j ++ [k]) :
    Box4 w5 bh (.int .i64 x) (.int .i64 0) v (.int .i64 0) 24 ∧ PR w base bz bh x ks (j + 1) v' (w5.setCell ⟨bh, 2, none⟩ v') := by
  have hsz := h.size
  have hal : Below W.heap.size W (W.alloc ob) := (Below.refl _ _).alloc (Nat.le_refl _) _
  have hown : ∀ g, v.ownBlock = some g → base ≤ g := fun g hg => (World.ownsRow.lt h.row g hg).1
  have hlow5 : Below w.heap.size w w5 := (h.low.trans (hal.mono h.low.size)).grown hg (by have := h.low.size; simp; omega) fun g hg => by have := hown g hg; omega
  have hbl : ∀ g, g < base → w5.heap[g]? = W.heap[g]? := fun g hg' => (hg.block g (by simp; omega) (fun e => by have := hown g e.symm; omega)).trans (hal.block g (by omega))
  have z5 : Box4 w5 bz (.int .i64 0) (.int .i64 0) (.slice none 0 0) (.int .i64 0) 24 := (hbl bz hz).trans h.z
  have y5 : Box4 w5 bh (.int .i64 x) (.int .i64 0) v (.int .i64 0) 24 := (hbl bh hh).trans h.y
  refine ⟨y5, hlow5.setCell (p := ⟨bh, 2, none⟩) hh2 _, by have := hg.size; simp at this ⊢; omega, z5.other hzh _, (y5.set v').2.2.1, ?_⟩
  rw [hk, List.map_append, List.flatMap_append]
  exact row_keep hr fun g hg => Below.heap_setCell _ _ _ _ (fun e => by have := (World.ownsRow.lt hr g hg).1; simp at e; omega)
def PRel (w : World) (base bz bh : Nat) (x : Int) (ks : List (Bool × Int)) (i _g : Value) (wr : World) : Prop :=
  ∃ (j : Nat) (v : Value), i = .int .i64 j ∧ j ≤ ks.length ∧ anyBad (ks.take j) = false ∧ PR w base bz bh x ks j v wr
theorem givesH_row {w Wf : World} {P : PrS} {op pts N : Int} {n base m c : Nat} {ks : List (Bool × Int)} {A : Option Addr} (hP : P = ⟨⟨op, 0, ks, pts⟩, n, 0⟩) (hb : Below w.heap.size w Wf) (hr : Wf.ownsRow base 63 3 (.slice A m c) m ((ks.map rg0).flatMap rgC)) (hm : m = ks.length) (hB : w.heap.size ≤ base) (hN : N = n) :
    GivesH w P (.returned (.tuple #[.agg #[.int .i64 op, .int .i64 0, .slice A m c, .int .i64 pts], .int .i64 N, .int .i64 0])) Wf := by
  subst hP hN
  have hm2 : m = (ks.map rg0).length := by rw [List.length_map, hm]
  refine ⟨A, m, c, ks.map rg0, rfl, hm2, ?_, rg0_key ks, rg0_pts ks, hb⟩
  have hr2 := hr
  rw [hm2] at hr2
  obtain ⟨A', c', e, _, _, hrow, _⟩ := own_rowR (C := rgC) (fun _ => rfl) hr2
  injection e with e1 e2 e3
  subst e1
  exact hrow.imp fun g hg => by have := (World.ownsRow.lt hr2 g hg).1; omega
set_option maxHeartbeats 2000000 in
theorem ref17Parse_any (A : Option Addr) (n c : Nat) (bs : List Int) (S : Nat → Prop) (P : PrS) (w : World) (hb : SlR w S .u8 A bs) (hn : n = bs.length) (hU : UB bs) (hl : n ≤ 9223372036854775807) (hP : parseH bs = P) :
    Calls Tryd.prog 46 #[.slice A n c] w (GivesH w P) := by
  by_cases h0 : n = 0
  · have HX := Lib.hid (show P = badP 4 by rw [← hP]; unfold parseH; rw [if_pos (by omega)])
    subst h0
    clear hb hP hn
    go_enter Tryd.func46, Tryd.ntmps46
    go_wp2
    refine bodyPost_ret (v := .tuple #[.agg #[.int .i64 0, .int .i64 0, .slice none 0 0, .int .i64 0], .int .i64 0, .int .i64 4]) (by simp [results, Tryd.results46, go_sem]) rfl (givesH_bad HX.out ((Below.refl _ _).alloc (Nat.le_refl _) _))
  have hne : 0 < bs.length := by omega
  obtain ⟨b, o, rfl, cx0⟩ := sl_at hb hne
  rw [Nat.add_zero] at cx0
  obtain ⟨hx0, hx1⟩ := hU.at_ 0
  have HP0 := Lib.hid (show P = if dgt bs 0 < 1 ∨ 5 < dgt bs 0 then badP 5 else if dgt bs 0 < 3 then ⟨⟨dgt bs 0, 0, [], 0⟩, 1, 0⟩ else if bs.length < 2 then badP 4 else parseK bs (dgt bs 0) (dgt bs 1) by rw [← hP]; unfold parseH; rw [if_neg (by omega)])
  have HN := Lib.hid hn
  have hn1 : 1 ≤ n := by omega
  have d0 : ((n : Int) == 0) = false := by rw [beq_eq_false_iff_ne]; omega
  obtain ⟨W0, hW0⟩ : ∃ W, W = w.alloc (.cells #[.int .i64 0, .int .i64 0, .slice none 0 0, .int .i64 0] 24) := ⟨_, rfl⟩
  have q0 : Below w.heap.size w W0 := by rw [hW0]; exact (Below.refl _ _).alloc (Nat.le_refl _) _
  have z0 : Box4 W0 w.heap.size (.int .i64 0) (.int .i64 0) (.slice none 0 0) (.int .i64 0) 24 := by rw [hW0]; exact Box4.new
  have hz0 : W0.heap.size = w.heap.size + 1 := by rw [hW0]; simp
  obtain ⟨x, hx⟩ : ∃ x, x = dgt bs 0 := ⟨_, rfl⟩
  rw [← hx] at cx0 hx0 hx1
  have HXx := Lib.hid hx
  obtain ⟨W1, hW1⟩ : ∃ W, W = W0.alloc (.cells #[.int .i64 x, .int .i64 0, .slice none 0 0, .int .i64 0] 24) := ⟨_, rfl⟩
  have q1 : Below W0.heap.size W0 W1 := by rw [hW1]; exact (Below.refl _ _).alloc (Nat.le_refl _) _
  have y0 : Box4 W1 W0.heap.size (.int .i64 x) (.int .i64 0) (.slice none 0 0) (.int .i64 0) 24 := by rw [hW1]; exact Box4.new
  have hz1 : W1.heap.size = w.heap.size + 2 := by rw [hW1]; simp; omega
  replace z0 := z0.next q1 (by omega)
  have q2 := q0.trans (q1.mono q0.size)
  have cxW : W0.cell? ⟨b, o, none⟩ = some (.int .u8 x) := (q0.cell (lt_of_cell cx0)).trans cx0
  rw [hz0] at y0
  obtain ⟨bz, hbz⟩ : ∃ b, b = w.heap.size := ⟨_, rfl⟩
  obtain ⟨bh, hbh⟩ : ∃ b, b = w.heap.size + 1 := ⟨_, rfl⟩
  have hzw : w.heap.size ≤ bz := by omega
  have hhw : w.heap.size ≤ bh := by omega
  have hzh : bz ≠ bh := by omega
  have hhz : bh ≠ bz := by omega
  have hzh1 : bz + 1 = bh := by omega
  rw [← hbz] at z0
  rw [← hbh] at y0
  obtain ⟨⟨zc0, zc1, zc2, zc3⟩, zf0, zf1, zf2, zf3⟩ := z0.at_
  obtain ⟨⟨yc0, yc1, yc2, yc3⟩, yf0, yf1, yf2, yf3⟩ := y0.at_
  have HW0 := Lib.hid hW0
  have HW1 := Lib.hid hW1
  have HBZ := Lib.hid hbz
  have HBH := Lib.hid hbh
  have hwin : Below w.heap.size w W1 := q2
  have HZ0 := Lib.hid hz0
  have HZ1 := Lib.hid hz1
  clear hW0 hW1 hP hn hx hbz hbh hz0 hz1
  go_enter Tryd.func46, Tryd.ntmps46
  go_upto_region 1 with (fail)
  rw [← HW0.out]
  go_upto_region 4 with (fail)
  rw [← HW1.out, HZ0.out, ← HBH.out, ← HBZ.out]
  clear q0 q1 q2 cxW cx0
  have HX5 := Lib.hid (fun (h : x < 1 ∨ 5 < x) => (HP0.out.trans (if_pos (by rw [← HXx.out]; exact h)) : P = badP 5))
  by_cases h1 : x < 1
  · have HX := Lib.hid (HX5.out (.inl h1))
    go_wp2
    generalize hWf : ((((W1.setCell ⟨bz, 0, none⟩ (.int .i64 0)).setCell ⟨bz, 1, none⟩ (.int .i64 0)).setCell ⟨bz, 2, none⟩ (.slice none 0 0)).setCell ⟨bz, 3, none⟩ (.int .i64 0)) = Wf
    obtain ⟨hbf, hof, r0, r1, r2, r3⟩ := fin4 z0 hwin hzw hWf
    clear hWf
    refine bodyPost_ret (v := .tuple #[.agg #[.int .i64 0, .int .i64 0, .slice none 0 0, .int .i64 0], .int .i64 0, .int .i64 5]) (by simp [results, Tryd.results46, go_sem, r0, r1, r2, r3]) rfl (givesH_bad HX.out hbf)
  by_cases h5 : 5 < x
  · have HX := Lib.hid (HX5.out (.inr h5))
    go_wp2
    generalize hWf : ((((W1.setCell ⟨bz, 0, none⟩ (.int .i64 0)).setCell ⟨bz, 1, none⟩ (.int .i64 0)).setCell ⟨bz, 2, none⟩ (.slice none 0 0)).setCell ⟨bz, 3, none⟩ (.int .i64 0)) = Wf
    obtain ⟨hbf, hof, r0, r1, r2, r3⟩ := fin4 z0 hwin hzw hWf
    clear hWf
    refine bodyPost_ret (v := .tuple #[.agg #[.int .i64 0, .int .i64 0, .slice none 0 0, .int .i64 0], .int .i64 0, .int .i64 5]) (by simp [results, Tryd.results46, go_sem, r0, r1, r2, r3]) rfl (givesH_bad HX.out hbf)
  have HP1 := Lib.hid (HP0.out.trans (if_neg (by rw [← HXx.out]; omega)))
  rw [← HXx.out] at HP1
  by_cases h3 : x < 3
  · have HX := Lib.hid (HP1.out.trans (if_pos h3))
    go_wp2
    generalize hWf : ((((W1.setCell ⟨bz, 0, none⟩ (.int .i64 x)).setCell ⟨bz, 1, none⟩ (.int .i64 0)).setCell ⟨bz, 2, none⟩ (.slice none 0 0)).setCell ⟨bz, 3, none⟩ (.int .i64 0)) = Wf
    obtain ⟨hbf, hof, r0, r1, r2, r3⟩ := fin4 z0 hwin hzw hWf
    clear hWf
    refine bodyPost_ret (v := .tuple #[.agg #[.int .i64 x, .int .i64 0, .slice none 0 0, .int .i64 0], .int .i64 1, .int .i64 0]) (by simp [results, Tryd.results46, go_sem, r0, r1, r2, r3]) rfl (givesH_none (n := 1) HX.out hbf)
  have HP2 := Lib.hid (HP1.out.trans (if_neg h3))
  by_cases hl2 : n < 2
  · have HX := Lib.hid (HP2.out.trans (if_pos (by rw [← HN.out]; exact hl2)))
    go_wp2
    generalize hWf : ((((W1.setCell ⟨bz, 0, none⟩ (.int .i64 0)).setCell ⟨bz, 1, none⟩ (.int .i64 0)).setCell ⟨bz, 2, none⟩ (.slice none 0 0)).setCell ⟨bz, 3, none⟩ (.int .i64 0)) = Wf
    obtain ⟨hbf, hof, r0, r1, r2, r3⟩ := fin4 z0 hwin hzw hWf
    clear hWf
    refine bodyPost_ret (v := .tuple #[.agg #[.int .i64 0, .int .i64 0, .slice none 0 0, .int .i64 0], .int .i64 0, .int .i64 4]) (by simp [results, Tryd.results46, go_sem, r0, r1, r2, r3]) rfl (givesH_bad HX.out hbf)
  have HP3 := Lib.hid (HP2.out.trans (if_neg (by rw [← HN.out]; exact hl2)))
  have hne2 : 1 < bs.length := by rw [← HN.out]; omega
  obtain ⟨b', o', ebo, cx1⟩ := sl_at (hb.next hwin) hne2
  injection ebo with ebo
  injection ebo with eb1 eb2
  subst eb1 eb2
  obtain ⟨hk0, hk1⟩ := hU.at_ 1
  obtain ⟨k, hk⟩ : ∃ k, k = dgt bs 1 := ⟨_, rfl⟩
  rw [← hk] at cx1 hk0 hk1 HP3
  clear hk hne2
  by_cases hx3 : x = 3
  · subst hx3
    have HP4 := Lib.hid (show P = if k < 3 ∨ 64 < k then badP 6 else ⟨⟨3, k, [], 0⟩, 2, 0⟩ by rw [HP3.out]; unfold parseK; rw [if_pos rfl])
    by_cases hk3 : k < 3
    · have HX := Lib.hid (HP4.out.trans (if_pos (.inl hk3)))
      go_wp2
      generalize hWf : ((((W1.setCell ⟨bz, 0, none⟩ (.int .i64 0)).setCell ⟨bz, 1, none⟩ (.int .i64 0)).setCell ⟨bz, 2, none⟩ (.slice none 0 0)).setCell ⟨bz, 3, none⟩ (.int .i64 0)) = Wf
      obtain ⟨hbf, hof, r0, r1, r2, r3⟩ := fin4 z0 hwin hzw hWf
      clear hWf
      refine bodyPost_ret (v := .tuple #[.agg #[.int .i64 0, .int .i64 0, .slice none 0 0, .int .i64 0], .int .i64 0, .int .i64 6]) (by simp [results, Tryd.results46, go_sem, r0, r1, r2, r3]) rfl (givesH_bad HX.out hbf)
    by_cases hk4 : 64 < k
    · have HX := Lib.hid (HP4.out.trans (if_pos (.inr hk4)))
      go_wp2
      generalize hWf : ((((W1.setCell ⟨bz, 0, none⟩ (.int .i64 0)).setCell ⟨bz, 1, none⟩ (.int .i64 0)).setCell ⟨bz, 2, none⟩ (.slice none 0 0)).setCell ⟨bz, 3, none⟩ (.int .i64 0)) = Wf
      obtain ⟨hbf, hof, r0, r1, r2, r3⟩ := fin4 z0 hwin hzw hWf
      clear hWf
      refine bodyPost_ret (v := .tuple #[.agg #[.int .i64 0, .int .i64 0, .slice none 0 0, .int .i64 0], .int .i64 0, .int .i64 6]) (by simp [results, Tryd.results46, go_sem, r0, r1, r2, r3]) rfl (givesH_bad HX.out hbf)
    have HX := Lib.hid (HP4.out.trans (if_neg (by omega)))
    go_upto_region 15 with (fail)
    generalize hW2 : W1.setCell ⟨bh, 1, none⟩ (.int .i64 k) = W2
    have hb2 : Below w.heap.size w W2 := by rw [← hW2]; exact hwin.setCell (p := ⟨bh, 1, none⟩) hhw _
    have z2 := z0.other (c := bh) (o := 1) hzh (.int .i64 k)
    have y2 := (y0.set (.int .i64 k)).2.1
    rw [hW2] at z2 y2
    clear hW2 zc0 zc1 zc2 zc3 zf0 zf1 zf2 zf3 yc0 yc1 yc2 yc3 yf0 yf1 yf2 yf3
    obtain ⟨⟨zc0, zc1, zc2, zc3⟩, zf0, zf1, zf2, zf3⟩ := z2.at_
    obtain ⟨⟨yc0, yc1, yc2, yc3⟩, yf0, yf1, yf2, yf3⟩ := y2.at_
    go_wp2
    generalize hWf : ((((W2.setCell ⟨bz, 0, none⟩ (.int .i64 3)).setCell ⟨bz, 1, none⟩ (.int .i64 k)).setCell ⟨bz, 2, none⟩ (.slice none 0 0)).setCell ⟨bz, 3, none⟩ (.int .i64 0)) = Wf
    obtain ⟨hbf, hof, r0, r1, r2, r3⟩ := fin4 z2 hb2 hzw hWf
    clear hWf
    refine bodyPost_ret (v := .tuple #[.agg #[.int .i64 3, .int .i64 k, .slice none 0 0, .int .i64 0], .int .i64 2, .int .i64 0]) (by simp [results, Tryd.results46, go_sem, r0, r1, r2, r3]) rfl (givesH_none (n := 2) HX.out hbf)
  have hx3' : (x == 3) = false := by rw [beq_eq_false_iff_ne]; exact hx3
  have HP4 := Lib.hid (show P = if k < 1 ∨ 64 < k then badP 6 else parseR bs x k.toNat by rw [HP3.out]; unfold parseK; rw [if_neg hx3])
  by_cases hk3 : k < 1
  · have HX := Lib.hid (HP4.out.trans (if_pos (.inl hk3)))
    go_wp2
    generalize hWf : ((((W1.setCell ⟨bz, 0, none⟩ (.int .i64 0)).setCell ⟨bz, 1, none⟩ (.int .i64 0)).setCell ⟨bz, 2, none⟩ (.slice none 0 0)).setCell ⟨bz, 3, none⟩ (.int .i64 0)) = Wf
    obtain ⟨hbf, hof, r0, r1, r2, r3⟩ := fin4 z0 hwin hzw hWf
    clear hWf
    refine bodyPost_ret (v := .tuple #[.agg #[.int .i64 0, .int .i64 0, .slice none 0 0, .int .i64 0], .int .i64 0, .int .i64 6]) (by simp [results, Tryd.results46, go_sem, r0, r1, r2, r3]) rfl (givesH_bad HX.out hbf)
  by_cases hk4 : 64 < k
  · have HX := Lib.hid (HP4.out.trans (if_pos (.inr hk4)))
    go_wp2
    generalize hWf : ((((W1.setCell ⟨bz, 0, none⟩ (.int .i64 0)).setCell ⟨bz, 1, none⟩ (.int .i64 0)).setCell ⟨bz, 2, none⟩ (.slice none 0 0)).setCell ⟨bz, 3, none⟩ (.int .i64 0)) = Wf
    obtain ⟨hbf, hof, r0, r1, r2, r3⟩ := fin4 z0 hwin hzw hWf
    clear hWf
    refine bodyPost_ret (v := .tuple #[.agg #[.int .i64 0, .int .i64 0, .slice none 0 0, .int .i64 0], .int .i64 0, .int .i64 6]) (by simp [results, Tryd.results46, go_sem, r0, r1, r2, r3]) rfl (givesH_bad HX.out hbf)
  obtain ⟨m, rfl⟩ : ∃ m : Nat, k = m := ⟨k.toNat, by omega⟩
  have HP5 := Lib.hid (show P = if bs.length < 2 + m then badP 4 else if anyBad (ksOf bs m) = true then badP 7 else if x = 4 then ⟨⟨4, 0, ksOf bs m, 0⟩, 2 + m, 0⟩ else parseP bs m by rw [HP4.out, if_neg (by omega)]; rfl)
  by_cases hlm : n < 2 + m
  · have HX := Lib.hid (HP5.out.trans (if_pos (by rw [← HN.out]; exact hlm)))
    go_wp2
    generalize hWf : ((((W1.setCell ⟨bz, 0, none⟩ (.int .i64 0)).setCell ⟨bz, 1, none⟩ (.int .i64 0)).setCell ⟨bz, 2, none⟩ (.slice none 0 0)).setCell ⟨bz, 3, none⟩ (.int .i64 0)) = Wf
    obtain ⟨hbf, hof, r0, r1, r2, r3⟩ := fin4 z0 hwin hzw hWf
    clear hWf
    refine bodyPost_ret (v := .tuple #[.agg #[.int .i64 0, .int .i64 0, .slice none 0 0, .int .i64 0], .int .i64 0, .int .i64 4]) (by simp [results, Tryd.results46, go_sem, r0, r1, r2, r3]) rfl (givesH_bad HX.out hbf)
  have HP6 := Lib.hid (HP5.out.trans (if_neg (by rw [← HN.out]; exact hlm)))
  have hlen2 : 2 + m ≤ bs.length := by rw [← HN.out]; omega
  have HKS := Lib.hid (ksOf_len hlen2)
  obtain ⟨ks, hks⟩ : ∃ ks, ks = ksOf bs m := ⟨_, rfl⟩
  have HSN := Lib.hid (fun (j : Nat) (hj : j < m) => (by rw [hks]; exact ksOf_snoc hlen2 hj : ks.take (j + 1) = ks.take j ++ [rgOf (dgt bs (2 + j))]))
  have HKO := Lib.hid hks
  rw [← hks] at HP6 HKS
  clear hks
  have hW1s : W1.heap.size = bh + 1 := by rw [HZ1.out, HBH.out]
  obtain ⟨base, hbase⟩ : ∃ b, b = W1.heap.size := ⟨_, rfl⟩
  have hbase1 : bz < base := by omega
  have hbase2 : bh < base := by omega
  have hbase3 : w.heap.size ≤ base := by omega
  go_upto_region 20 with (fail)
  clear zc0 zc1 zc2 zc3 zf0 zf1 zf2 zf3 yc0 yc1 yc2 yc3 yf0 yf1 yf2 yf3 cx1
  go_wp2
  go_loopw [7, 8] (fun i g wr => PRel w base bz bh x ks i g wr) (fun i _ _ => m - (intOf i).toNat)
  case atStart => exact ⟨0, _, rfl, Nat.zero_le _, rfl, hwin, by omega, z0, y0, World.ownsRow_nil _ _ _ _⟩
  case round =>
    clear z0 y0 hwin hbase hW1s
    obtain ⟨j, v, rfl, hj, hbad, hpr⟩ := hrel
    rw [HKS.out] at hj
    have HBAD := Lib.hid hbad
    clear hbad
    by_cases hgo : j < m
    · have hjl : 2 + j < bs.length := by omega
      obtain ⟨b', o', ebo, cx⟩ := sl_at (hb.next hpr.low) hjl
      injection ebo with ebo
      injection ebo with eb1 eb2
      subst eb1 eb2
      obtain ⟨hy0, hy1⟩ := hU.at_ (2 + j)
      have HS1 := Lib.hid (HSN.out j hgo)
      generalize dgt bs (2 + j) = y at *
      have hin : 2 + j < n := by omega
      have hy2 : 0 ≤ y % 128 ∧ y % 128 < 128 := by omega
      go_upto_region 23 with (fail)
      by_cases hd : 128 ≤ y
      · have hd1 : decide (128 ≤ y) = true := by simpa using hd
        refine dir_plain (by kernel_rfl) 15 [[], [], [(71, 1)], [(70, 0), (72, 2)], [(73, 3)], [(74, 4)], [], [], [(77, 7)], [(76, 6), (78, 8)], [(79, 9)], [(80, 10)], [(81, 11)], [(75, 5), (82, 12)], [], [(83, 13), (8, 14)]] [(70, 0), (71, 1), (72, 2), (73, 3), (74, 4), (75, 5), (76, 6), (77, 7), (78, 8), (79, 9), (80, 10), (81, 11), (82, 12), (83, 13), (8, 14)] [
            (fun v _ => v = .slice (some ⟨b, o, none⟩) n c),
            (fun v _ => v = .int .i64 j),
            (fun v _ => v = .int .i64 ((2 + j : Nat) : Int)),
            (fun v _ => v = .pointer (some ⟨b, o + (2 + j), none⟩)),
            (fun v _ => v = .int .u8 y),
            (fun v _ => v = .bool true),
            (fun v _ => v = .slice (some ⟨b, o, none⟩) n c),
            (fun v _ => v = .int .i64 j),
            (fun v _ => v = .int .i64 ((2 + j : Nat) : Int)),
            (fun v _ => v = .pointer (some ⟨b, o + (2 + j), none⟩)),
            (fun v _ => v = .int .u8 y),
            (fun v _ => v = .int .u8 (y % 128)),
            (fun v _ => v = .int .i64 (y % 128)),
            (fun v _ => v = .agg #[.bool true, .int .i64 (y % 128), .slice none 0 0]),
            (fun v w => ∃ g, v = .pointer (some ⟨g, 0, none⟩) ∧ wr.heap.size ≤ g ∧ w.heap[g]? = some (.cells #[.bool false, .int .i64 0, .slice none 0 0] 63 (0, 0)))
          ] (by kernel_rfl) (by kernel_rfl) (by kernel_rfl) (by decide) ⟨dstab_eq, dstab_eq, dstab_eq, dstab_eq, dstab_eq, dstab_eq, dstab_eq, dstab_eq, dstab_eq, dstab_eq, dstab_eq, dstab_eq, dstab_eq, dstab_eq, dst_blk, trivial⟩ ?steps ?fin
        case steps =>
          refine ⟨?_, ?_, ?_, ?_, ?_, ?_, ?_, ?_, ?_, ?_, ?_, ?_, ?_, ?_, ?_, trivial⟩
          · intro vs g w2 hI hF hR K hK
            simp only [Facts, fill, Act.put, z1, z2, z3, z4, z5, Nat.reduceAdd] at hF hR hK ⊢
            go_simp
            exact hK _ () _ hI (Below.refl _ _) rfl
          · intro vs g w2 hI hF hR K hK
            simp only [Facts, fill, Act.put, z1, z2, z3, z4, z5, Nat.reduceAdd] at hF hR hK ⊢
            go_simp
            exact hK _ () _ hI (Below.refl _ _) rfl
          · intro vs g w2 hI hF hR K hK
            simp only [Facts, fill, Act.put, z1, z2, z3, z4, z5, Nat.reduceAdd] at hF hR hK ⊢
            obtain ⟨r1, -⟩ := hR
            generalize vs 1 = x1 at *
            subst r1
            go_simp
            rw [show IntKind.i64.wrap (2 + (j : Int)) = ((2 + j : Nat) : Int) by rw [wrap_i64' (by omega) (by omega)]; omega]
            exact hK _ () _ hI (Below.refl _ _) rfl
          · intro vs g w2 hI hF hR K hK
            simp only [Facts, fill, Act.put, z1, z2, z3, z4, z5, Nat.reduceAdd] at hF hR hK ⊢
            obtain ⟨r0, r2, -⟩ := hR
            generalize vs 0 = x0, vs 2 = x2 at *
            subst r0 r2
            go_simp
            rw [if_pos (show 0 ≤ 2 + (j : Int) ∧ 2 + (j : Int) < n by omega), show (2 + (j : Int)).toNat = 2 + j by omega]
            exact hK _ () _ hI (Below.refl _ _) rfl
          · intro vs g w2 hI hF hR K hK
            simp only [Facts, fill, Act.put, z1, z2, z3, z4, z5, Nat.reduceAdd] at hF hR hK ⊢
            obtain ⟨r3, -⟩ := hR
            generalize vs 3 = x3 at *
            subst r3
            have k0 := (hI.cell (lt_of_cell cx)).trans cx
            go_simp
            exact hK _ () _ hI (Below.refl _ _) rfl
          · intro vs g w2 hI hF hR K hK
            simp only [Facts, fill, Act.put, z1, z2, z3, z4, z5, Nat.reduceAdd] at hF hR hK ⊢
            obtain ⟨r4, -⟩ := hR
            generalize vs 4 = x4 at *
            subst r4
            go_simp
            exact hK _ () _ hI (Below.refl _ _) rfl
          · intro vs g w2 hI hF hR K hK
            simp only [Facts, fill, Act.put, z1, z2, z3, z4, z5, Nat.reduceAdd] at hF hR hK ⊢
            go_simp
            exact hK _ () _ hI (Below.refl _ _) rfl
          · intro vs g w2 hI hF hR K hK
            simp only [Facts, fill, Act.put, z1, z2, z3, z4, z5, Nat.reduceAdd] at hF hR hK ⊢
            go_simp
            exact hK _ () _ hI (Below.refl _ _) rfl
          · intro vs g w2 hI hF hR K hK
            simp only [Facts, fill, Act.put, z1, z2, z3, z4, z5, Nat.reduceAdd] at hF hR hK ⊢
            obtain ⟨r7, -⟩ := hR
            generalize vs 7 = x7 at *
            subst r7
            go_simp
            rw [show IntKind.i64.wrap (2 + (j : Int)) = ((2 + j : Nat) : Int) by rw [wrap_i64' (by omega) (by omega)]; omega]
            exact hK _ () _ hI (Below.refl _ _) rfl
          · intro vs g w2 hI hF hR K hK
            simp only [Facts, fill, Act.put, z1, z2, z3, z4, z5, Nat.reduceAdd] at hF hR hK ⊢
            obtain ⟨r6, r8, -⟩ := hR
            generalize vs 6 = x6, vs 8 = x8 at *
            subst r6 r8
            go_simp
            rw [if_pos (show 0 ≤ 2 + (j : Int) ∧ 2 + (j : Int) < n by omega), show (2 + (j : Int)).toNat = 2 + j by omega]
            exact hK _ () _ hI (Below.refl _ _) rfl
          · intro vs g w2 hI hF hR K hK
            simp only [Facts, fill, Act.put, z1, z2, z3, z4, z5, Nat.reduceAdd] at hF hR hK ⊢
            obtain ⟨r9, -⟩ := hR
            generalize vs 9 = x9 at *
            subst r9
            have k0 := (hI.cell (lt_of_cell cx)).trans cx
            go_simp
            exact hK _ () _ hI (Below.refl _ _) rfl
          · intro vs g w2 hI hF hR K hK
            simp only [Facts, fill, Act.put, z1, z2, z3, z4, z5, Nat.reduceAdd] at hF hR hK ⊢
            obtain ⟨r10, -⟩ := hR
            generalize vs 10 = x10 at *
            subst r10
            go_simp
            first
              | exact hK _ () _ hI (Below.refl _ _) rfl
              | (rw [wrap_u8' (by omega) (by omega)]; exact hK _ () _ hI (Below.refl _ _) rfl)
              | exact hK _ () _ hI (Below.refl _ _) (by rw [Int.tmod_eq_emod_of_nonneg hy0])
          · intro vs g w2 hI hF hR K hK
            simp only [Facts, fill, Act.put, z1, z2, z3, z4, z5, Nat.reduceAdd] at hF hR hK ⊢
            obtain ⟨r11, -⟩ := hR
            generalize vs 11 = x11 at *
            subst r11
            go_simp
            rw [wrap_i64' (by omega) (by omega)]
            exact hK _ () _ hI (Below.refl _ _) rfl
          · intro vs g w2 hI hF hR K hK
            simp only [Facts, fill, Act.put, z1, z2, z3, z4, z5, Nat.reduceAdd] at hF hR hK ⊢
            obtain ⟨r5, r12, -⟩ := hR
            generalize vs 5 = x5, vs 12 = x12 at *
            subst r5 r12
            go_simp
            exact hK _ () _ hI (Below.refl _ _) rfl
          · intro vs g w2 hI hF hR K hK
            simp only [Facts, fill, Act.put, z1, z2, z3, z4, z5, Nat.reduceAdd] at hF hR hK ⊢
            go_simp
            exact hK _ () _ (hI.alloc hI.size _) ((Below.refl _ _).alloc (Nat.le_refl _) _) ⟨w2.heap.size, rfl, hI.size, heap_alloc_new w2 _⟩
        case fin =>
          intro vs w2 hI hR
          have r13 := hR 13 (by decide)
          have r14 := hR 14 (by decide)
          simp only [fill, Act.put, z1, z2, z3, z4, z5] at r13 r14 ⊢
          clear hR
          generalize vs 13 = x13 at *
          generalize vs 14 = x14 at *
          subst r13
          obtain ⟨g, rfl, hgw, hg⟩ := r14
          have hg : BoxE3 w2 g (.bool false) (.int .i64 0) (.slice none 0 0) 63 := hg
          obtain ⟨⟨gc0, gc1, gc2⟩, gf0, gf1, gf2⟩ := hg.at_
          refine wpOps_step rfl rfl ?_
          go_simp
          generalize hWg : ((w2.setCell ⟨g, 0, none⟩ (.bool true)).setCell ⟨g, 1, none⟩ (.int .i64 (y % 128))).setCell ⟨g, 2, none⟩ (.slice none 0 0) = Wg
          obtain ⟨hgn, hbg⟩ := put3 hg hI hgw hWg
          clear hWg gc0 gc1 gc2 gf0 gf1 gf2 hg hI
          have hprg := hpr.move hbg hpr.low.size
          have hws := hprg.low.size
          clear hpr hbg cx
          obtain ⟨⟨gc0, gc1, gc2⟩, gf0, gf1, gf2⟩ := hgn.at_
          obtain ⟨⟨yc0, yc1, yc2, yc3⟩, yf0, yf1, yf2, yf3⟩ := hprg.y.at_
          obtain ⟨⟨zc0, zc1, zc2, zc3⟩, zf0, zf1, zf2, zf3⟩ := hprg.z.at_
          obtain ⟨s, hs⟩ : ∃ s, sizeF (y % 128) = s := ⟨_, rfl⟩
          have HRG := Lib.hid (show rgOf y = (true, y % 128) by unfold rgOf; rw [hd1])
          have HAN := Lib.hid (show anyBad (ks.take (j + 1)) = decide (s = 0) by rw [HS1.out, anyBad_app, HBAD.out, HRG.out, ← hs]; rfl)
          have HS := Lib.hid hs
          clear hs hd hd1
          refine NoPanic.normal ?_
          go_wp2_with (fail)
          refine (ref16Size_any (y % 128) s _ HS.out).mono ?_
          rintro e w4 ⟨rfl, hw4⟩
          obtain rfl := hw4.symm
          clear hw4
          by_cases e1 : s = 0
          · have HX := Lib.hid (show P = badP 7 by rw [HP6.out, if_pos (anyBad_take (j := j + 1) (by rw [HAN.out, e1]; rfl))])
            subst e1
            go_wp2
            generalize hWf : ((((Wg.setCell ⟨bz, 0, none⟩ (.int .i64 0)).setCell ⟨bz, 1, none⟩ (.int .i64 0)).setCell ⟨bz, 2, none⟩ (.slice none 0 0)).setCell ⟨bz, 3, none⟩ (.int .i64 0)) = Wf
            obtain ⟨hbf, hof, r0, r1, r2, r3⟩ := fin4 hprg.z hprg.low hzw hWf
            clear hWf
            refine bodyPost_ret (v := .tuple #[.agg #[.int .i64 0, .int .i64 0, .slice none 0 0, .int .i64 0], .int .i64 0, .int .i64 7]) (by simp [results, Tryd.results46, go_sem, r0, r1, r2, r3]) rfl (givesH_bad HX.out hbf)
          · have d1 : (s == 0) = false := by rw [beq_eq_false_iff_ne]; exact e1
            have HAN2 := Lib.hid (show anyBad (ks.take (j + 1)) = false by rw [HAN.out]; exact decide_eq_false e1)
            clear e1
            have hbs : base ≤ Wg.heap.size := hprg.size
            have hjm : j + 1 ≤ 1000000 := by omega
            go_wp2_with (first
              | (at_builtin; refine wp_app_row elemRg rfl _ _ rfl base _ j (((ks.take j).map rg0).flatMap rgC) rfl (World.ownsRow.alloc hprg.row _) (some ⟨Wg.heap.size, 0, none⟩) 1 1 [rg0 (true, y % 128)] (fun g => Wg.heap.size ≤ g) rfl rfl (row_lit (C := rgC) (fun _ => rfl) [rg0 (true, y % 128)]) (fun h => by cases h) hjm (by simp; omega) ?_
                 intro v5 w5 hr5 hg5 _
                 obtain ⟨A5, c5, rfl⟩ := row_form hr5
                 obtain ⟨y5, hp5⟩ := hprg.grow _ hbase3 hbase1 hbase2 hzh hhw hr5 hg5 (by rw [HS1.out, HRG.out])
                 clear yc0 yc1 yc2 yc3 yf0 yf1 yf2 yf3 zc0 zc1 zc2 zc3 zf0 zf1 zf2 zf3 gc0 gc1 gc2 gf0 gf1 gf2
                 obtain ⟨⟨yc0, yc1, yc2, yc3⟩, yf0, yf1, yf2, yf3⟩ := y5.at_))
            go_roundw
            case rel => exact ⟨j + 1, _, by go_num, by rw [HKS.out]; omega, HAN2.out, hp5⟩
            case measure => simp [intOf]; omega
      · have hd1 : decide (128 ≤ y) = false := by simpa using hd
        refine dir_plain (by kernel_rfl) 15 [[], [], [(71, 1)], [(70, 0), (72, 2)], [(73, 3)], [(74, 4)], [], [], [(77, 7)], [(76, 6), (78, 8)], [(79, 9)], [(80, 10)], [(81, 11)], [(75, 5), (82, 12)], [], [(83, 13), (8, 14)]] [(70, 0), (71, 1), (72, 2), (73, 3), (74, 4), (75, 5), (76, 6), (77, 7), (78, 8), (79, 9), (80, 10), (81, 11), (82, 12), (83, 13), (8, 14)] [
            (fun v _ => v = .slice (some ⟨b, o, none⟩) n c),
            (fun v _ => v = .int .i64 j),
            (fun v _ => v = .int .i64 ((2 + j : Nat) : Int)),
            (fun v _ => v = .pointer (some ⟨b, o + (2 + j), none⟩)),
            (fun v _ => v = .int .u8 y),
            (fun v _ => v = .bool false),
            (fun v _ => v = .slice (some ⟨b, o, none⟩) n c),
            (fun v _ => v = .int .i64 j),
            (fun v _ => v = .int .i64 ((2 + j : Nat) : Int)),
            (fun v _ => v = .pointer (some ⟨b, o + (2 + j), none⟩)),
            (fun v _ => v = .int .u8 y),
            (fun v _ => v = .int .u8 (y % 128)),
            (fun v _ => v = .int .i64 (y % 128)),
            (fun v _ => v = .agg #[.bool false, .int .i64 (y % 128), .slice none 0 0]),
            (fun v w => ∃ g, v = .pointer (some ⟨g, 0, none⟩) ∧ wr.heap.size ≤ g ∧ w.heap[g]? = some (.cells #[.bool false, .int .i64 0, .slice none 0 0] 63 (0, 0)))
          ] (by kernel_rfl) (by kernel_rfl) (by kernel_rfl) (by decide) ⟨dstab_eq, dstab_eq, dstab_eq, dstab_eq, dstab_eq, dstab_eq, dstab_eq, dstab_eq, dstab_eq, dstab_eq, dstab_eq, dstab_eq, dstab_eq, dstab_eq, dst_blk, trivial⟩ ?steps ?fin
        case steps =>
          refine ⟨?_, ?_, ?_, ?_, ?_, ?_, ?_, ?_, ?_, ?_, ?_, ?_, ?_, ?_, ?_, trivial⟩
          · intro vs g w2 hI hF hR K hK
            simp only [Facts, fill, Act.put, z1, z2, z3, z4, z5, Nat.reduceAdd] at hF hR hK ⊢
            go_simp
            exact hK _ () _ hI (Below.refl _ _) rfl
          · intro vs g w2 hI hF hR K hK
            simp only [Facts, fill, Act.put, z1, z2, z3, z4, z5, Nat.reduceAdd] at hF hR hK ⊢
            go_simp
            exact hK _ () _ hI (Below.refl _ _) rfl
          · intro vs g w2 hI hF hR K hK
            simp only [Facts, fill, Act.put, z1, z2, z3, z4, z5, Nat.reduceAdd] at hF hR hK ⊢
            obtain ⟨r1, -⟩ := hR
            generalize vs 1 = x1 at *
            subst r1
            go_simp
            rw [show IntKind.i64.wrap (2 + (j : Int)) = ((2 + j : Nat) : Int) by rw [wrap_i64' (by omega) (by omega)]; omega]
            exact hK _ () _ hI (Below.refl _ _) rfl
          · intro vs g w2 hI hF hR K hK
            simp only [Facts, fill, Act.put, z1, z2, z3, z4, z5, Nat.reduceAdd] at hF hR hK ⊢
            obtain ⟨r0, r2, -⟩ := hR
            generalize vs 0 = x0, vs 2 = x2 at *
            subst r0 r2
            go_simp
            rw [if_pos (show 0 ≤ 2 + (j : Int) ∧ 2 + (j : Int) < n by omega), show (2 + (j : Int)).toNat = 2 + j by omega]
            exact hK _ () _ hI (Below.refl _ _) rfl
          · intro vs g w2 hI hF hR K hK
            simp only [Facts, fill, Act.put, z1, z2, z3, z4, z5, Nat.reduceAdd] at hF hR hK ⊢
            obtain ⟨r3, -⟩ := hR
            generalize vs 3 = x3 at *
            subst r3
            have k0 := (hI.cell (lt_of_cell cx)).trans cx
            go_simp
            exact hK _ () _ hI (Below.refl _ _) rfl
          · intro vs g w2 hI hF hR K hK
            simp only [Facts, fill, Act.put, z1, z2, z3, z4, z5, Nat.reduceAdd] at hF hR hK ⊢
            obtain ⟨r4, -⟩ := hR
            generalize vs 4 = x4 at *
            subst r4
            go_simp
            exact hK _ () _ hI (Below.refl _ _) rfl
          · intro vs g w2 hI hF hR K hK
            simp only [Facts, fill, Act.put, z1, z2, z3, z4, z5, Nat.reduceAdd] at hF hR hK ⊢
            go_simp
            exact hK _ () _ hI (Below.refl _ _) rfl
          · intro vs g w2 hI hF hR K hK
            simp only [Facts, fill, Act.put, z1, z2, z3, z4, z5, Nat.reduceAdd] at hF hR hK ⊢
            go_simp
            exact hK _ () _ hI (Below.refl _ _) rfl
          · intro vs g w2 hI hF hR K hK
            simp only [Facts, fill, Act.put, z1, z2, z3, z4, z5, Nat.reduceAdd] at hF hR hK ⊢
            obtain ⟨r7, -⟩ := hR
            generalize vs 7 = x7 at *
            subst r7
            go_simp
            rw [show IntKind.i64.wrap (2 + (j : Int)) = ((2 + j : Nat) : Int) by rw [wrap_i64' (by omega) (by omega)]; omega]
            exact hK _ () _ hI (Below.refl _ _) rfl
          · intro vs g w2 hI hF hR K hK
            simp only [Facts, fill, Act.put, z1, z2, z3, z4, z5, Nat.reduceAdd] at hF hR hK ⊢
            obtain ⟨r6, r8, -⟩ := hR
            generalize vs 6 = x6, vs 8 = x8 at *
            subst r6 r8
            go_simp
            rw [if_pos (show 0 ≤ 2 + (j : Int) ∧ 2 + (j : Int) < n by omega), show (2 + (j : Int)).toNat = 2 + j by omega]
            exact hK _ () _ hI (Below.refl _ _) rfl
          · intro vs g w2 hI hF hR K hK
            simp only [Facts, fill, Act.put, z1, z2, z3, z4, z5, Nat.reduceAdd] at hF hR hK ⊢
            obtain ⟨r9, -⟩ := hR
            generalize vs 9 = x9 at *
            subst r9
            have k0 := (hI.cell (lt_of_cell cx)).trans cx
            go_simp
            exact hK _ () _ hI (Below.refl _ _) rfl
          · intro vs g w2 hI hF hR K hK
            simp only [Facts, fill, Act.put, z1, z2, z3, z4, z5, Nat.reduceAdd] at hF hR hK ⊢
            obtain ⟨r10, -⟩ := hR
            generalize vs 10 = x10 at *
            subst r10
            go_simp
            first
              | exact hK _ () _ hI (Below.refl _ _) rfl
              | (rw [wrap_u8' (by omega) (by omega)]; exact hK _ () _ hI (Below.refl _ _) rfl)
              | exact hK _ () _ hI (Below.refl _ _) (by rw [Int.tmod_eq_emod_of_nonneg hy0])
          · intro vs g w2 hI hF hR K hK
            simp only [Facts, fill, Act.put, z1, z2, z3, z4, z5, Nat.reduceAdd] at hF hR hK ⊢
            obtain ⟨r11, -⟩ := hR
            generalize vs 11 = x11 at *
            subst r11
            go_simp
            rw [wrap_i64' (by omega) (by omega)]
            exact hK _ () _ hI (Below.refl _ _) rfl
          · intro vs g w2 hI hF hR K hK
            simp only [Facts, fill, Act.put, z1, z2, z3, z4, z5, Nat.reduceAdd] at hF hR hK ⊢
            obtain ⟨r5, r12, -⟩ := hR
            generalize vs 5 = x5, vs 12 = x12 at *
            subst r5 r12
            go_simp
            exact hK _ () _ hI (Below.refl _ _) rfl
          · intro vs g w2 hI hF hR K hK
            simp only [Facts, fill, Act.put, z1, z2, z3, z4, z5, Nat.reduceAdd] at hF hR hK ⊢
            go_simp
            exact hK _ () _ (hI.alloc hI.size _) ((Below.refl _ _).alloc (Nat.le_refl _) _) ⟨w2.heap.size, rfl, hI.size, heap_alloc_new w2 _⟩
        case fin =>
          intro vs w2 hI hR
          have r13 := hR 13 (by decide)
          have r14 := hR 14 (by decide)
          simp only [fill, Act.put, z1, z2, z3, z4, z5] at r13 r14 ⊢
          clear hR
          generalize vs 13 = x13 at *
          generalize vs 14 = x14 at *
          subst r13
          obtain ⟨g, rfl, hgw, hg⟩ := r14
          have hg : BoxE3 w2 g (.bool false) (.int .i64 0) (.slice none 0 0) 63 := hg
          obtain ⟨⟨gc0, gc1, gc2⟩, gf0, gf1, gf2⟩ := hg.at_
          refine wpOps_step rfl rfl ?_
          go_simp
          generalize hWg : ((w2.setCell ⟨g, 0, none⟩ (.bool false)).setCell ⟨g, 1, none⟩ (.int .i64 (y % 128))).setCell ⟨g, 2, none⟩ (.slice none 0 0) = Wg
          obtain ⟨hgn, hbg⟩ := put3 hg hI hgw hWg
          clear hWg gc0 gc1 gc2 gf0 gf1 gf2 hg hI
          have hprg := hpr.move hbg hpr.low.size
          have hws := hprg.low.size
          clear hpr hbg cx
          obtain ⟨⟨gc0, gc1, gc2⟩, gf0, gf1, gf2⟩ := hgn.at_
          obtain ⟨⟨yc0, yc1, yc2, yc3⟩, yf0, yf1, yf2, yf3⟩ := hprg.y.at_
          obtain ⟨⟨zc0, zc1, zc2, zc3⟩, zf0, zf1, zf2, zf3⟩ := hprg.z.at_
          obtain ⟨s, hs⟩ : ∃ s, sizeF (y % 128) = s := ⟨_, rfl⟩
          have HRG := Lib.hid (show rgOf y = (false, y % 128) by unfold rgOf; rw [hd1])
          have HAN := Lib.hid (show anyBad (ks.take (j + 1)) = decide (s = 0) by rw [HS1.out, anyBad_app, HBAD.out, HRG.out, ← hs]; rfl)
          have HS := Lib.hid hs
          clear hs hd hd1
          refine NoPanic.normal ?_
          go_wp2_with (fail)
          refine (ref16Size_any (y % 128) s _ HS.out).mono ?_
          rintro e w4 ⟨rfl, hw4⟩
          obtain rfl := hw4.symm
          clear hw4
          by_cases e1 : s = 0
          · have HX := Lib.hid (show P = badP 7 by rw [HP6.out, if_pos (anyBad_take (j := j + 1) (by rw [HAN.out, e1]; rfl))])
            subst e1
            go_wp2
            generalize hWf : ((((Wg.setCell ⟨bz, 0, none⟩ (.int .i64 0)).setCell ⟨bz, 1, none⟩ (.int .i64 0)).setCell ⟨bz, 2, none⟩ (.slice none 0 0)).setCell ⟨bz, 3, none⟩ (.int .i64 0)) = Wf
            obtain ⟨hbf, hof, r0, r1, r2, r3⟩ := fin4 hprg.z hprg.low hzw hWf
            clear hWf
            refine bodyPost_ret (v := .tuple #[.agg #[.int .i64 0, .int .i64 0, .slice none 0 0, .int .i64 0], .int .i64 0, .int .i64 7]) (by simp [results, Tryd.results46, go_sem, r0, r1, r2, r3]) rfl (givesH_bad HX.out hbf)
          · have d1 : (s == 0) = false := by rw [beq_eq_false_iff_ne]; exact e1
            have HAN2 := Lib.hid (show anyBad (ks.take (j + 1)) = false by rw [HAN.out]; exact decide_eq_false e1)
            clear e1
            have hbs : base ≤ Wg.heap.size := hprg.size
            have hjm : j + 1 ≤ 1000000 := by omega
            go_wp2_with (first
              | (at_builtin; refine wp_app_row elemRg rfl _ _ rfl base _ j (((ks.take j).map rg0).flatMap rgC) rfl (World.ownsRow.alloc hprg.row _) (some ⟨Wg.heap.size, 0, none⟩) 1 1 [rg0 (false, y % 128)] (fun g => Wg.heap.size ≤ g) rfl rfl (row_lit (C := rgC) (fun _ => rfl) [rg0 (false, y % 128)]) (fun h => by cases h) hjm (by simp; omega) ?_
                 intro v5 w5 hr5 hg5 _
                 obtain ⟨A5, c5, rfl⟩ := row_form hr5
                 obtain ⟨y5, hp5⟩ := hprg.grow _ hbase3 hbase1 hbase2 hzh hhw hr5 hg5 (by rw [HS1.out, HRG.out])
                 clear yc0 yc1 yc2 yc3 yf0 yf1 yf2 yf3 zc0 zc1 zc2 zc3 zf0 zf1 zf2 zf3 gc0 gc1 gc2 gf0 gf1 gf2
                 obtain ⟨⟨yc0, yc1, yc2, yc3⟩, yf0, yf1, yf2, yf3⟩ := y5.at_))
            go_roundw
            case rel => exact ⟨j + 1, _, by go_num, by rw [HKS.out]; omega, HAN2.out, hp5⟩
            case measure => simp [intOf]; omega
    · obtain rfl : j = m := by omega
      have HT := Lib.hid (show ks.take j = ks from List.take_of_length_le (by rw [HKS.out]; exact Nat.le_refl _))
      have HB := Lib.hid (show anyBad ks = false by rw [← HBAD.out, HT.out])
      have HP7 := Lib.hid (show P = if x = 4 then ⟨⟨4, 0, ks, 0⟩, 2 + j, 0⟩ else parseP bs j by rw [HP6.out, if_neg (by rw [HB.out]; simp)])
      obtain ⟨A5, c5, rfl⟩ := row_form hpr.row
      have hrow := hpr.row
      rw [HT.out] at hrow
      have hlow := hpr.low
      have hzb := hpr.z
      have hyb := hpr.y
      have hps := hpr.size
      clear hpr
      obtain ⟨⟨zc0, zc1, zc2, zc3⟩, zf0, zf1, zf2, zf3⟩ := hzb.at_
      obtain ⟨⟨yc0, yc1, yc2, yc3⟩, yf0, yf1, yf2, yf3⟩ := hyb.at_
      have hzr : ∀ g, (Value.slice A5 j c5).ownBlock = some g → g ≠ bz := fun g hg e => by have := (World.ownsRow.lt hrow g hg).1; omega
      have hyr : ∀ g, (Value.slice A5 j c5).ownBlock = some g → g ≠ bh := fun g hg e => by have := (World.ownsRow.lt hrow g hg).1; omega
      by_cases hx4 : x = 4
      · have HX := Lib.hid (HP7.out.trans (if_pos hx4))
        subst hx4
        go_wp2
        generalize hWf : ((((wr.setCell ⟨bz, 0, none⟩ (.int .i64 4)).setCell ⟨bz, 1, none⟩ (.int .i64 0)).setCell ⟨bz, 2, none⟩ (.slice A5 j c5)).setCell ⟨bz, 3, none⟩ (.int .i64 0)) = Wf
        obtain ⟨hbf, hof, r0, r1, r2, r3⟩ := fin4 hzb hlow hzw hWf
        clear hWf
        refine bodyPost_ret (v := .tuple #[.agg #[.int .i64 4, .int .i64 0, .slice A5 j c5, .int .i64 0], .int .i64 (2 + j), .int .i64 0]) (by simp [results, Tryd.results46, go_sem, r0, r1, r2, r3]) rfl (givesH_row HX.out hbf (row_keep hrow fun g hg => hof g (hzr g hg)) HKS.out.symm (by omega) (by omega))
      have hx4' : (x == 4) = false := by rw [beq_eq_false_iff_ne]; exact hx4
      have HP8 := Lib.hid (show P = if bs.length < 4 + j then badP 4 else if ptsOf bs j < 1 ∨ 4096 < ptsOf bs j then badP 6 else ⟨⟨5, 0, ksOf bs j, ptsOf bs j⟩, 4 + j, 0⟩ by rw [HP7.out, if_neg hx4]; rfl)
      rw [← HKO.out] at HP8
      by_cases hl4 : n < 4 + j
      · have HX := Lib.hid (HP8.out.trans (if_pos (by rw [← HN.out]; exact hl4)))
        go_wp2
        generalize hWf : ((((wr.setCell ⟨bz, 0, none⟩ (.int .i64 0)).setCell ⟨bz, 1, none⟩ (.int .i64 0)).setCell ⟨bz, 2, none⟩ (.slice none 0 0)).setCell ⟨bz, 3, none⟩ (.int .i64 0)) = Wf
        obtain ⟨hbf, hof, r0, r1, r2, r3⟩ := fin4 hzb hlow hzw hWf
        clear hWf
        refine bodyPost_ret (v := .tuple #[.agg #[.int .i64 0, .int .i64 0, .slice none 0 0, .int .i64 0], .int .i64 0, .int .i64 4]) (by simp [results, Tryd.results46, go_sem, r0, r1, r2, r3]) rfl (givesH_bad HX.out hbf)
      have HP9 := Lib.hid (HP8.out.trans (if_neg (by rw [← HN.out]; exact hl4)))
      obtain ⟨m, rfl⟩ : ∃ m, m = j := ⟨_, rfl⟩
      have hjl : 2 + m < bs.length := by rw [← HN.out]; omega
      have hjl3 : 3 + m < bs.length := by rw [← HN.out]; omega
      obtain ⟨b', o', ebo, cx⟩ := sl_at (hb.next hlow) hjl
      injection ebo with ebo
      injection ebo with eb1 eb2
      subst eb1 eb2
      obtain ⟨b', o', ebo, cy⟩ := sl_at (hb.next hlow) hjl3
      injection ebo with ebo
      injection ebo with eb1 eb2
      subst eb1 eb2
      obtain ⟨hy0, hy1⟩ := hU.at_ (2 + m)
      obtain ⟨hy2, hy3⟩ := hU.at_ (3 + m)
      rw [show ptsOf bs m = dgt bs (2 + m) + 256 * dgt bs (3 + m) from rfl] at HP9
      generalize dgt bs (2 + m) = y1 at *
      generalize dgt bs (3 + m) = y2 at *
      obtain rfl : x = 5 := by omega
      go_upto_region 31 with (fail)
      refine dir_plain (by kernel_rfl) 15 [[], [], [(108, 1)], [(107, 0), (109, 2)], [(110, 3)], [(111, 4)], [], [], [(114, 7)], [(113, 6), (115, 8)], [(116, 9)], [(117, 10)], [(118, 11)], [(112, 5), (119, 12)], [], [(120, 13), (121, 14)]] [(107, 0), (108, 1), (109, 2), (110, 3), (111, 4), (112, 5), (113, 6), (114, 7), (115, 8), (116, 9), (117, 10), (118, 11), (119, 12), (120, 13), (121, 14)] [
          (fun v _ => v = .slice (some ⟨b, o, none⟩) n c),
          (fun v _ => v = .int .i64 m),
          (fun v _ => v = .int .i64 ((2 + m : Nat) : Int)),
          (fun v _ => v = .pointer (some ⟨b, o + (2 + m), none⟩)),
          (fun v _ => v = .int .u8 y1),
          (fun v _ => v = .int .i64 y1),
          (fun v _ => v = .slice (some ⟨b, o, none⟩) n c),
          (fun v _ => v = .int .i64 m),
          (fun v _ => v = .int .i64 ((3 + m : Nat) : Int)),
          (fun v _ => v = .pointer (some ⟨b, o + (3 + m), none⟩)),
          (fun v _ => v = .int .u8 y2),
          (fun v _ => v = .int .i64 y2),
          (fun v _ => v = .int .i64 (256 * y2)),
          (fun v _ => v = .int .i64 (y1 + 256 * y2)),
          (fun v _ => v = .pointer (some ⟨bh, 3, none⟩))
        ] (by kernel_rfl) (by kernel_rfl) (by kernel_rfl) (by decide) ⟨dstab_eq, dstab_eq, dstab_eq, dstab_eq, dstab_eq, dstab_eq, dstab_eq, dstab_eq, dstab_eq, dstab_eq, dstab_eq, dstab_eq, dstab_eq, dstab_eq, dstab_eq, trivial⟩ ?steps ?fin
      case steps =>
        refine ⟨?_, ?_, ?_, ?_, ?_, ?_, ?_, ?_, ?_, ?_, ?_, ?_, ?_, ?_, ?_, trivial⟩
        · intro vs g w2 hI hF hR K hK
          simp only [Facts, fill, Act.put, z1, z2, z3, z4, z5, Nat.reduceAdd] at hF hR hK ⊢
          go_simp
          exact hK _ () _ hI (Below.refl _ _) rfl
        · intro vs g w2 hI hF hR K hK
          simp only [Facts, fill, Act.put, z1, z2, z3, z4, z5, Nat.reduceAdd] at hF hR hK ⊢
          go_simp
          exact hK _ () _ hI (Below.refl _ _) rfl
        · intro vs g w2 hI hF hR K hK
          simp only [Facts, fill, Act.put, z1, z2, z3, z4, z5, Nat.reduceAdd] at hF hR hK ⊢
          obtain ⟨r1, -⟩ := hR
          generalize vs 1 = x1 at *
          subst r1
          go_simp
          rw [show IntKind.i64.wrap (2 + (m : Int)) = ((2 + m : Nat) : Int) by rw [wrap_i64' (by omega) (by omega)]; omega]
          exact hK _ () _ hI (Below.refl _ _) rfl
        · intro vs g w2 hI hF hR K hK
          simp only [Facts, fill, Act.put, z1, z2, z3, z4, z5, Nat.reduceAdd] at hF hR hK ⊢
          obtain ⟨r0, r2, -⟩ := hR
          generalize vs 0 = x0, vs 2 = x2 at *
          subst r0 r2
          go_simp
          rw [if_pos (show 0 ≤ 2 + (m : Int) ∧ 2 + (m : Int) < n by omega), show (2 + (m : Int)).toNat = 2 + m by omega]
          exact hK _ () _ hI (Below.refl _ _) rfl
        · intro vs g w2 hI hF hR K hK
          simp only [Facts, fill, Act.put, z1, z2, z3, z4, z5, Nat.reduceAdd] at hF hR hK ⊢
          obtain ⟨r3, -⟩ := hR
          generalize vs 3 = x3 at *
          subst r3
          have k0 := (hI.cell (lt_of_cell cx)).trans cx
          go_simp
          exact hK _ () _ hI (Below.refl _ _) rfl
        · intro vs g w2 hI hF hR K hK
          simp only [Facts, fill, Act.put, z1, z2, z3, z4, z5, Nat.reduceAdd] at hF hR hK ⊢
          obtain ⟨r4, -⟩ := hR
          generalize vs 4 = x4 at *
          subst r4
          go_simp
          rw [wrap_i64' (by omega) (by omega)]
          exact hK _ () _ hI (Below.refl _ _) rfl
        · intro vs g w2 hI hF hR K hK
          simp only [Facts, fill, Act.put, z1, z2, z3, z4, z5, Nat.reduceAdd] at hF hR hK ⊢
          go_simp
          exact hK _ () _ hI (Below.refl _ _) rfl
        · intro vs g w2 hI hF hR K hK
          simp only [Facts, fill, Act.put, z1, z2, z3, z4, z5, Nat.reduceAdd] at hF hR hK ⊢
          go_simp
          exact hK _ () _ hI (Below.refl _ _) rfl
        · intro vs g w2 hI hF hR K hK
          simp only [Facts, fill, Act.put, z1, z2, z3, z4, z5, Nat.reduceAdd] at hF hR hK ⊢
          obtain ⟨r7, -⟩ := hR
          generalize vs 7 = x7 at *
          subst r7
          go_simp
          rw [show IntKind.i64.wrap (3 + (m : Int)) = ((3 + m : Nat) : Int) by rw [wrap_i64' (by omega) (by omega)]; omega]
          exact hK _ () _ hI (Below.refl _ _) rfl
        · intro vs g w2 hI hF hR K hK
          simp only [Facts, fill, Act.put, z1, z2, z3, z4, z5, Nat.reduceAdd] at hF hR hK ⊢
          obtain ⟨r6, r8, -⟩ := hR
          generalize vs 6 = x6, vs 8 = x8 at *
          subst r6 r8
          go_simp
          rw [if_pos (show 0 ≤ 3 + (m : Int) ∧ 3 + (m : Int) < n by omega), show (3 + (m : Int)).toNat = 3 + m by omega]
          exact hK _ () _ hI (Below.refl _ _) rfl
        · intro vs g w2 hI hF hR K hK
          simp only [Facts, fill, Act.put, z1, z2, z3, z4, z5, Nat.reduceAdd] at hF hR hK ⊢
          obtain ⟨r9, -⟩ := hR
          generalize vs 9 = x9 at *
          subst r9
          have k0 := (hI.cell (lt_of_cell cy)).trans cy
          go_simp
          exact hK _ () _ hI (Below.refl _ _) rfl
        · intro vs g w2 hI hF hR K hK
          simp only [Facts, fill, Act.put, z1, z2, z3, z4, z5, Nat.reduceAdd] at hF hR hK ⊢
          obtain ⟨r10, -⟩ := hR
          generalize vs 10 = x10 at *
          subst r10
          go_simp
          rw [wrap_i64' (by omega) (by omega)]
          exact hK _ () _ hI (Below.refl _ _) rfl
        · intro vs g w2 hI hF hR K hK
          simp only [Facts, fill, Act.put, z1, z2, z3, z4, z5, Nat.reduceAdd] at hF hR hK ⊢
          obtain ⟨r11, -⟩ := hR
          generalize vs 11 = x11 at *
          subst r11
          go_simp
          rw [wrap_i64' (by omega) (by omega)]
          exact hK _ () _ hI (Below.refl _ _) rfl
        · intro vs g w2 hI hF hR K hK
          simp only [Facts, fill, Act.put, z1, z2, z3, z4, z5, Nat.reduceAdd] at hF hR hK ⊢
          obtain ⟨r5, r12, -⟩ := hR
          generalize vs 5 = x5, vs 12 = x12 at *
          subst r5 r12
          go_simp
          rw [wrap_i64' (by omega) (by omega)]
          exact hK _ () _ hI (Below.refl _ _) rfl
        · intro vs g w2 hI hF hR K hK
          simp only [Facts, fill, Act.put, z1, z2, z3, z4, z5, Nat.reduceAdd] at hF hR hK ⊢
          go_simp
          exact hK _ () _ hI (Below.refl _ _) rfl
      case fin =>
        intro vs w2 hI hR
        have r13 := hR 13 (by decide)
        have r14 := hR 14 (by decide)
        simp only [fill, Act.put, z1, z2, z3, z4, z5] at r13 r14 ⊢
        clear hR
        generalize vs 13 = x13 at *
        generalize vs 14 = x14 at *
        subst r13 r14
        have q2 : Below w.heap.size w w2 := hlow.trans (hI.mono hlow.size)
        have zb2 := hzb.next hI hzb.lt
        have yb2 := hyb.next hI hyb.lt
        have hrow2 := row_keep hrow (fun g hg => hI.block g (World.ownsRow.lt hrow g hg).2)
        clear zc0 zc1 zc2 zc3 zf0 zf1 zf2 zf3 yc0 yc1 yc2 yc3 yf0 yf1 yf2 yf3
        obtain ⟨⟨yc0, yc1, yc2, yc3⟩, yf0, yf1, yf2, yf3⟩ := yb2.at_
        refine wpOps_step rfl rfl ?_
        go_simp
        generalize hWh : w2.setCell ⟨bh, 3, none⟩ (.int .i64 (y1 + 256 * y2)) = Wh
        have q3 : Below w.heap.size w Wh := by rw [← hWh]; exact q2.setCell (p := ⟨bh, 3, none⟩) hhw _
        have zb3 := zb2.other (c := bh) (o := 3) hzh (.int .i64 (y1 + 256 * y2))
        have yb3 := (yb2.set (.int .i64 (y1 + 256 * y2))).2.2.2
        rw [hWh] at zb3 yb3
        have hrow3 : Wh.ownsRow base 63 3 (.slice A5 m c5) m ((ks.map rg0).flatMap rgC) := by rw [← hWh]; exact row_keep hrow2 fun g hg => Below.heap_setCell _ _ _ _ (hyr g hg)
        clear hWh yc0 yc1 yc2 yc3 yf0 yf1 yf2 yf3 hI
        obtain ⟨⟨yc0, yc1, yc2, yc3⟩, yf0, yf1, yf2, yf3⟩ := yb3.at_
        obtain ⟨⟨zc0, zc1, zc2, zc3⟩, zf0, zf1, zf2, zf3⟩ := zb3.at_
        clear cx cy
        refine NoPanic.normal ?_
        by_cases hp1 : y1 + 256 * y2 < 1
        · have HX := Lib.hid (HP9.out.trans (if_pos (.inl hp1)))
          go_wp2
          generalize hWf : ((((Wh.setCell ⟨bz, 0, none⟩ (.int .i64 0)).setCell ⟨bz, 1, none⟩ (.int .i64 0)).setCell ⟨bz, 2, none⟩ (.slice none 0 0)).setCell ⟨bz, 3, none⟩ (.int .i64 0)) = Wf
          obtain ⟨hbf, hof, r0, r1, r2, r3⟩ := fin4 zb3 q3 hzw hWf
          clear hWf
          refine bodyPost_ret (v := .tuple #[.agg #[.int .i64 0, .int .i64 0, .slice none 0 0, .int .i64 0], .int .i64 0, .int .i64 6]) (by simp [results, Tryd.results46, go_sem, r0, r1, r2, r3]) rfl (givesH_bad HX.out hbf)
        by_cases hp4 : 4096 < y1 + 256 * y2
        · have HX := Lib.hid (HP9.out.trans (if_pos (.inr hp4)))
          go_wp2
          generalize hWf : ((((Wh.setCell ⟨bz, 0, none⟩ (.int .i64 0)).setCell ⟨bz, 1, none⟩ (.int .i64 0)).setCell ⟨bz, 2, none⟩ (.slice none 0 0)).setCell ⟨bz, 3, none⟩ (.int .i64 0)) = Wf
          obtain ⟨hbf, hof, r0, r1, r2, r3⟩ := fin4 zb3 q3 hzw hWf
          clear hWf
          refine bodyPost_ret (v := .tuple #[.agg #[.int .i64 0, .int .i64 0, .slice none 0 0, .int .i64 0], .int .i64 0, .int .i64 6]) (by simp [results, Tryd.results46, go_sem, r0, r1, r2, r3]) rfl (givesH_bad HX.out hbf)
        have HX := Lib.hid (HP9.out.trans (if_neg (by omega)))
        go_wp2
        generalize hWf : ((((Wh.setCell ⟨bz, 0, none⟩ (.int .i64 5)).setCell ⟨bz, 1, none⟩ (.int .i64 0)).setCell ⟨bz, 2, none⟩ (.slice A5 m c5)).setCell ⟨bz, 3, none⟩ (.int .i64 (y1 + 256 * y2))) = Wf
        obtain ⟨hbf, hof, r0, r1, r2, r3⟩ := fin4 zb3 q3 hzw hWf
        clear hWf
        refine bodyPost_ret (v := .tuple #[.agg #[.int .i64 5, .int .i64 0, .slice A5 m c5, .int .i64 (y1 + 256 * y2)], .int .i64 (4 + m), .int .i64 0]) (by simp [results, Tryd.results46, go_sem, r0, r1, r2, r3]) rfl (givesH_row HX.out hbf (row_keep hrow3 fun g hg => hof g (hzr g hg)) HKS.out.symm (by omega) (by omega))
end Go.Proofs.YtcfdpimpleniaaaDoor
namespace Go.Proofs.YtcfdpimpleniaaaDoor
open Go.RowKit Go.Maps
set_option maxRecDepth 100000
set_option linter.unusedVariables false
set_option linter.unusedSimpArgs false

theorem GivesH.open_ {w : World} {op vx pts er : Int} {ks : List (Bool × Int)} {m : Nat} {e : Ending} {w' : World} (h : GivesH w ⟨⟨op, vx, ks, pts⟩, m, er⟩ e w') :
    ∃ (A : Option Addr) (n c : Nat) (rs : List Rg), e = .returned (.tuple #[.agg #[.int .i64 op, .int .i64 vx, .slice A n c, .int .i64 pts], .int .i64 m, .int .i64 er]) ∧ n = rs.length ∧
      RowR w' (fun b => w.heap.size ≤ b) 3 rgC A rs ∧ rs.map rgK = ks ∧ rgP rs = false ∧ Below w.heap.size w w' := h
/-- What Format gives. -/
def GivesB (w : World) (er : Int) (bs : List Int) (e : Ending) (w' : World) : Prop := ∃ v, e = .returned (.tuple #[v, .int .i64 er]) ∧ OwnK w' w.heap.size 5 .u8 v bs ∧ Below w.heap.size w w'
theorem ref17Format_any (op vs pts : Int) (A : Option Addr) (n c : Nat) (rs : List Rg) (er : Int) (bs : List Int) (w : World) (ha : RowR w (fun g => g < w.heap.size) 3 rgC A rs) (hn : n = rs.length) (hl : n ≤ 9223372036854775807) (he : formErr ⟨op, vs, rs.map rgK, pts⟩ (rgP rs) = er) (hb : (if er = 0 then formB ⟨op, vs, rs.map rgK, pts⟩ else []) = bs) :
    Calls Tryd.prog 17 #[.agg #[.int .i64 op, .int .i64 vs, .slice A n c, .int .i64 pts]] w (GivesB w er bs) := by
  by_cases h : op < 1 ∨ 5 < op
  · exact ref17Format_bad op vs pts A n c rs er bs w ha hn hl h he hb
  · rcases (show op = 1 ∨ op = 2 ∨ op = 3 ∨ op = 4 ∨ op = 5 by omega) with rfl | rfl | rfl | rfl | rfl
    · exact ref17Format_1 vs pts A n c rs er bs w ha hn hl he hb
    · exact ref17Format_2 vs pts A n c rs er bs w ha hn hl he hb
    · exact ref17Format_3 vs pts A n c rs er bs w ha hn hl he hb
    · exact ref17Format_4 vs pts A n c rs er bs w ha hn hl he hb
    · exact ref17Format_5 vs pts A n c rs er bs w ha hn hl he hb
theorem payL_bd {h : Hq} (k : Okh h) : 0 ≤ payL h ∧ payL h ≤ 200000 := by
  have h0 := k.op
  unfold payL
  split
  · omega
  split
  · omega
  split
  · rename_i h3; have := k.vs3 h3; omega
  have h4 := k.len (by omega)
  have h5 := ptsK_bd h.ks
  split
  · omega
  · have := k.pts5 (by omega); omega
set_option maxHeartbeats 1000000 in
theorem ref17Classify_any (A : Option Addr) (n c : Nat) (bs : List Int) (S : Nat → Prop) (r : Int) (w : World) (hb : SlR w S .u8 A bs) (hn : n = bs.length) (hU : UB bs) (hl : n ≤ 9223372036854775807) (hr : classH bs = r) :
    Calls Tryd.prog 45 #[.slice A n c] w fun e w' => e = .returned (.int .i64 r) ∧ Below w.heap.size w w' := by
  have hok := parse_ok (b := bs) hU
  unfold classH at hr
  obtain ⟨P, hP⟩ : ∃ P, parseH bs = P := ⟨_, rfl⟩
  rw [hP] at hok hr
  obtain ⟨⟨op, vx, ks, pts⟩, m, er⟩ := P
  simp only at hr hok
  have HR := Lib.hid hr
  have HN := Lib.hid hn
  have HP := Lib.hid hP
  have HOK := Lib.hid hok
  clear hr hn hP hok
  go_enter Tryd.func45, Tryd.ntmps45
  go_wp2_with (fail)
  refine (ref17Parse_any A n c bs S _ w hb HN.out hU hl HP.out).mono ?_
  intro e w1 hg
  obtain ⟨A', n', c', rs, rfl, hn', hrow, hks, hpt, hb1⟩ := hg.open_
  have HNn := Lib.hid hn'
  have HKs := Lib.hid hks
  clear hn' hks
  go_upto_region 2 with (fail)
  obtain ⟨W, hW⟩ : ∃ W, W = w1.alloc (.cells #[.int .i64 op, .int .i64 vx, .slice A' n' c', .int .i64 pts] 24) := ⟨_, rfl⟩
  obtain ⟨h0, _, g0, g1, g2, g3⟩ := box4 hW
  obtain ⟨bg, hbg⟩ : ∃ b, b = w1.heap.size := ⟨_, rfl⟩
  rw [← hbg] at g0 g1 g2 g3
  rw [← hW, ← hbg]
  have hw1 := hb1.trans (h0.mono hb1.size)
  by_cases he : er = 0
  · subst he
    have hk := HOK.out rfl
    have h1 := hk.ok
    have h2 := hk.n2
    simp only at h1 h2
    obtain ⟨p, hp⟩ : ∃ p, payL ⟨op, vx, ks, pts⟩ = p := ⟨_, rfl⟩
    have hpb := payL_bd h1
    rw [hp] at hpb
    have hmn : m ≤ n := by rw [HN.out]; exact h2
    have hm68 : m ≤ 68 := by
      have h3 := hk.form
      simp only at h3
      have h4 := (formB_len h1).2
      rw [h3, List.length_take] at h4
      omega
    have HRr := Lib.hid HR.out
    rw [hp, if_pos rfl, ← HN.out] at HRr
    obtain rfl := HKs.out
    have HPp := Lib.hid hp
    have hrow1 := hrow.next h0
    clear hp hW hbg hk h2 hb
    go_wp2_with (fail)
    refine (ref17Payload_any op vx pts A' n' c' rs p _ _ hrow1 HNn.out h1 HPp.out).mono ?_
    rintro e w3 ⟨rfl, hb3⟩
    by_cases hq : (n : Int) = m + p
    · have HX := Lib.hid (show r = 0 by rw [← HRr.out, if_pos hq])
      have d1 : ((n : Int) != m + p) = false := by rw [bne_eq_false_iff_eq]; exact hq
      clear hq
      go_wp2
      go_ret
      exact ⟨by rw [HX.out]; rfl, hw1.trans (hb3.mono hw1.size)⟩
    · have HX := Lib.hid (show r = 8 by rw [← HRr.out, if_neg hq])
      have d1 : ((n : Int) != m + p) = true := by rw [bne_iff_ne]; exact hq
      clear hq
      go_wp2
      go_ret
      exact ⟨by rw [HX.out]; rfl, hw1.trans (hb3.mono hw1.size)⟩
  · have HX := Lib.hid (show r = er by rw [← HR.out, if_neg he])
    have d1 : (er == 0) = false := by rw [beq_eq_false_iff_ne]; exact he
    clear he hW hbg hb
    go_wp2
    go_ret
    exact ⟨by rw [HX.out]; rfl, hw1⟩
end Go.Proofs.YtcfdpimpleniaaaDoor
namespace Go.Proofs.YtcfdpimpleniaaaDoor
open Go.RowKit
set_option maxRecDepth 100000
set_option linter.unusedVariables false
set_option linter.unusedSimpArgs false

theorem box7 {w W : World} {t : TypeId} {a b c d e f g : Value} (hW : W = w.alloc (.cells #[a, b, c, d, e, f, g] t)) :
    Below w.heap.size w W ∧ W.heap.size = w.heap.size + 1 ∧ W.cell? ⟨w.heap.size, 0, none⟩ = some a ∧ W.cell? ⟨w.heap.size, 1, none⟩ = some b ∧ W.cell? ⟨w.heap.size, 2, none⟩ = some c ∧ W.cell? ⟨w.heap.size, 3, none⟩ = some d ∧ W.cell? ⟨w.heap.size, 4, none⟩ = some e ∧ W.cell? ⟨w.heap.size, 5, none⟩ = some f ∧ W.cell? ⟨w.heap.size, 6, none⟩ = some g := by
  subst hW
  refine ⟨(Below.refl _ _).alloc (Nat.le_refl _) _, by simp, ?_, ?_, ?_, ?_, ?_, ?_, ?_⟩ <;> simp [go_sem]
/-- The seven cells of a request's box. -/
structure ReqAt (w : World) (B : Nat) (op vx pts : Int) (hA : Option Addr) (hn hc : Nat) (RA : Option Addr) (rn rc : Nat) (PA : Option Addr) (pn pc : Nat) (QA : Option Addr) (qn qc : Nat) : Prop where
  c0 : w.cell? ⟨B, 0, none⟩ = some (.int .i64 op)
  c1 : w.cell? ⟨B, 1, none⟩ = some (.int .i64 vx)
  c2 : w.cell? ⟨B, 2, none⟩ = some (.slice hA hn hc)
  c3 : w.cell? ⟨B, 3, none⟩ = some (.int .i64 pts)
  c4 : w.cell? ⟨B, 4, none⟩ = some (.slice RA rn rc)
  c5 : w.cell? ⟨B, 5, none⟩ = some (.slice PA pn pc)
  c6 : w.cell? ⟨B, 6, none⟩ = some (.slice QA qn qc)
theorem ReqAt.next {w w' : World} {B : Nat} {op vx pts : Int} {hA : Option Addr} {hn hc : Nat} {RA : Option Addr} {rn rc : Nat} {PA : Option Addr} {pn pc : Nat} {QA : Option Addr} {qn qc : Nat} (h : ReqAt w B op vx pts hA hn hc RA rn rc PA pn pc QA qn qc) {C : Nat} (hb : Below C w w') (hB : B < C) : ReqAt w' B op vx pts hA hn hc RA rn rc PA pn pc QA qn qc :=
  ⟨(hb.cell (p := ⟨B, 0, none⟩) hB).trans h.c0, (hb.cell (p := ⟨B, 1, none⟩) hB).trans h.c1, (hb.cell (p := ⟨B, 2, none⟩) hB).trans h.c2, (hb.cell (p := ⟨B, 3, none⟩) hB).trans h.c3, (hb.cell (p := ⟨B, 4, none⟩) hB).trans h.c4, (hb.cell (p := ⟨B, 5, none⟩) hB).trans h.c5, (hb.cell (p := ⟨B, 6, none⟩) hB).trans h.c6⟩
/-- What the loops keep: the row of bytes, all else as it was. -/
structure EncI (W : World) (b : Value) (ys : List Int) (wr : World) : Prop where
  row : OwnK wr W.heap.size 5 .u8 b ys
  below : Below W.heap.size W wr
theorem EncI.grow {W : World} {b b' : Value} {ys zs : List Int} {wr wr' : World} (h : EncI W b ys wr) (k : Grew wr W.heap.size b zs b' wr') : EncI W b' zs wr' :=
  ⟨k.row, h.below.trans (k.below (fun g hg => (World.ownsRow.lt h.row g hg).1) h.below.size)⟩
theorem EncI.next {W : World} {b : Value} {ys : List Int} {wr wr' : World} (h : EncI W b ys wr) (k : Below wr.heap.size wr wr') : EncI W b ys wr' := ⟨h.row.nextB k, h.below.trans (k.mono h.below.size)⟩
theorem EncI.gives {w W : World} {b : Value} {ys : List Int} {wr : World} {r : Value} (h0 : Below w.heap.size w W) (h : EncI W b ys wr) (hr : r = .tuple #[b, .int .i64 0]) : GivesB w 0 ys (.returned r) wr := ⟨b, by rw [hr], h.row.base h0.size, h0.trans (h.below.mono h0.size)⟩
theorem givesB_bad {w w' : World} {er : Int} {bs : List Int} (h0 : er ≠ 0) (hb : bs = []) (h : Below w.heap.size w w') : GivesB w er bs (.returned (.tuple #[.slice none 0 0, .int .i64 er])) w' := by
  subst hb; exact ⟨_, rfl, OwnK.nil_ _ _ _ _, h⟩
theorem rgsB_le {rs : List Rg} (h : ∀ (j : Nat) (h : j < rs.length), rs[j].l.length ≤ 64) : ∀ k, k ≤ rs.length → (rgsB ((rs.take k).map rgD)).length ≤ 1024 * k
  | 0, _ => by simp [rgsB]
  | k + 1, hk => by
    rw [rgsB_snoc (by omega), List.length_append, flatK_len ptB_len]
    have h1 := rgsB_le h k (by omega)
    have h2 := h k (by omega)
    omega
theorem flat_take_le {α : Type} {B : α → List Int} {m : Nat} (hB : ∀ x, (B x).length = m) (l : List α) (k : Nat) : ((l.take k).flatMap B).length ≤ m * l.length := by
  rw [flatK_len hB, List.length_take]
  exact Nat.mul_le_mul_left _ (by omega)
def ERel1 (W : World) (b : Value) (ys : List Int) (rs hrs : List Rg) (i : Value) (wr : World) : Prop := ∃ k : Nat, i = .int .i64 k ∧ k ≤ rs.length ∧ LensTo rs hrs k ∧ EncI W b ys wr
def ERel2 (W : World) (fs : List Int) (rs hrs : List Rg) (b i : Value) (wr : World) : Prop := ∃ k : Nat, i = .int .i64 k ∧ k ≤ rs.length ∧ KindsTo rs hrs k ∧ EncI W b (fs ++ rgsB ((rs.take k).map rgD)) wr
def ERel3 (W : World) (fs : List Int) (l : List Pt) (b j : Value) (wr : World) : Prop := ∃ k : Nat, j = .int .i64 k ∧ k ≤ l.length ∧ EncI W b (fs ++ (l.take k).flatMap ptB) wr
def ERel5 (W : World) (fs : List Int) (l : List Qr) (b j : Value) (wr : World) : Prop := ∃ k : Nat, j = .int .i64 k ∧ k ≤ l.length ∧ EncI W b (fs ++ (l.take k).flatMap qrB) wr
theorem RowR.q3 {w : World} {T : Nat → Prop} {A : Option Addr} {l : List Qr} (h : RowR w T 3 qrC A l) {k : Nat} (hk : k < l.length) :
    ∃ b o, A = some ⟨b, o, none⟩ ∧ T b ∧ w.cell? ⟨b, o + k * 3, none⟩ = some (.int .i64 (l[k]).p.x) ∧ w.cell? ⟨b, o + k * 3 + 1, none⟩ = some (.int .i64 (l[k]).p.y) ∧ w.cell? ⟨b, o + k * 3 + 2, none⟩ = some (.int .u64 (l[k]).id) := by
  obtain ⟨b, o, e, hT, hc⟩ := h.at_ hk
  exact ⟨b, o, e, hT, hc 0 _ rfl, hc 1 _ rfl, hc 2 _ rfl⟩
theorem RowR.p2 {w : World} {T : Nat → Prop} {A : Option Addr} {l : List Pt} (h : RowR w T 2 ptC A l) {k : Nat} (hk : k < l.length) :
    ∃ b o, A = some ⟨b, o, none⟩ ∧ T b ∧ w.cell? ⟨b, o + k * 2, none⟩ = some (.int .i64 (l[k]).x) ∧ w.cell? ⟨b, o + k * 2 + 1, none⟩ = some (.int .i64 (l[k]).y) := by
  obtain ⟨b, o, e, hT, hc⟩ := h.at_ hk
  exact ⟨b, o, e, hT, hc 0 _ rfl, hc 1 _ rfl⟩
end Go.Proofs.YtcfdpimpleniaaaDoor
