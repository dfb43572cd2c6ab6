/-
  Packed texts: Law19e.
-/
import Derived.Deep.DeepCutAuto
import Derived.Deep.CutRange
import Derived.Deep.CutBlock
import Derived.OwnWalk
import Derived.Test.YthmkllpdkcmccaaGreatDoorP16
namespace Go.Proofs.YthmkllpdkcmccaaGreatDoor
open Go.RowKit Go.Maps
set_option maxRecDepth 100000
set_option linter.unusedVariables false
set_option linter.unusedSimpArgs false

theorem S_bits (o : BinOp) (x y : Int) : S (bits o .i64 x y) := S_wrap _
theorem lens_same : ∀ {a b : List RgD} {ks : List (Bool × Int)}, a.map (fun r => r.2.length) = b.map (fun r => r.2.length) → lens a ks = lens b ks
  | [], [], _, _ => rfl
  | [], _ :: _, _, h => by simp at h
  | _ :: _, [], _, h => by simp at h
  | x :: a, y :: b, [], _ => rfl
  | x :: a, y :: b, k :: ks, h => by
    simp only [List.map_cons, List.cons.injEq] at h
    show (decide ((x.2.length : Int) = sizeF k.2) && lens a ks) = (decide ((y.2.length : Int) = sizeF k.2) && lens b ks)
    rw [h.1, lens_same h.2]
/-- The error of Encode depends on the header and on lengths. -/
theorem encE_same {h : Hq} {a b : List RgD} {ps ps' : List Pt} {qs : List Qr} {p : Bool} (h1 : a.map Prod.fst = b.map Prod.fst) (h2 : a.map (fun r => r.2.length) = b.map (fun r => r.2.length)) (h3 : ps.length = ps'.length) : encE ⟨h, a, ps, qs⟩ p = encE ⟨h, b, ps', qs⟩ p := by
  have h4 : a.length = b.length := by have := congrArg List.length h1; simpa using this
  unfold encE kinds
  simp only [h1, h4, h3, lens_same h2]
/-- Regions of the same kinds and sizes. -/
def sameG (a b : List Rg) : Prop := a.map rgK = b.map rgK ∧ a.map (fun r => r.l.length) = b.map (fun r => r.l.length)
theorem sameG.len {a b : List Rg} (h : sameG a b) : a.length = b.length := by have := congrArg List.length h.1; simpa using this
theorem sameG_snoc {a : List Rg} {b : List Rg} {k : Nat} (hk : k < b.length) (h : sameG a (b.take k)) {r : Rg} (h1 : rgK r = rgK b[k]) (h2 : r.l.length = (b[k]).l.length) : sameG (a ++ [r]) (b.take (k + 1)) := by
  unfold sameG
  rw [List.take_succ_eq_append_getElem hk, List.map_append, List.map_append, List.map_append, List.map_append, h.1, h.2]
  simp [h1, h2]
theorem encE_rg {h : Hq} {a b : List Rg} {ps ps' : List Pt} {qs : List Qr} {p : Bool} (hs : sameG a b) (h3 : ps.length = ps'.length) : encE ⟨h, a.map rgD, ps, qs⟩ p = encE ⟨h, b.map rgD, ps', qs⟩ p := by
  refine encE_same ?_ ?_ h3
  · rw [List.map_map, List.map_map]; exact hs.1
  · rw [List.map_map, List.map_map]; exact hs.2
/-- What the loops keep: the request's box, the point's, the other request's. -/
structure ObI (w : World) (b2 b3 b5 lo : Nat) (C2 C3 : Array Value) (ov vv hv tv RV qv PV : Value) (l : List Pt) (W : World) : Prop where
  below : Below w.heap.size w W
  size : lo ≤ W.heap.size
  h2 : W.heap[b2]? = some (.cells C2 40 (0, 0))
  h3 : W.heap[b3]? = some (.cells C3 24 (0, 0))
  h5 : W.heap[b5]? = some (.cells #[ov, vv, hv, tv, RV, PV, qv] 40 (0, 0))
  prow : W.ownsRow lo 24 2 PV l.length (l.flatMap ptC)
  ss : SsP l
section
variable {w : World} {b2 b3 b5 lo : Nat} {C2 C3 : Array Value} {ov vv hv tv RV qv PV : Value} {l : List Pt} {W : World}
theorem lt_of_blk {W : World} {b : Nat} {o : Obj} (h : W.heap[b]? = some o) : b < W.heap.size := (Array.getElem?_eq_some_iff.1 h).1
theorem ObI.next {W' : World} (h : ObI w b2 b3 b5 lo C2 C3 ov vv hv tv RV qv PV l W) (hb : Below W.heap.size W W') (hs : w.heap.size ≤ W.heap.size) : ObI w b2 b3 b5 lo C2 C3 ov vv hv tv RV qv PV l W' :=
  ⟨h.below.trans (hb.mono hs), Nat.le_trans h.size hb.size, (hb.block _ (lt_of_blk h.h2)).trans h.h2, (hb.block _ (lt_of_blk h.h3)).trans h.h3, (hb.block _ (lt_of_blk h.h5)).trans h.h5, row_keep h.prow fun g hg => hb.block g (World.ownsRow.lt h.prow g hg).2, h.ss⟩
theorem ObI.point {W1 w' : World} {v' : Value} {p : Pt} (h : ObI w b2 b3 b5 lo C2 C3 ov vv hv tv RV qv PV l W) (hb : Below W.heap.size W W1) (hle : w.heap.size ≤ b5 ∧ w.heap.size ≤ lo ∧ b2 < lo ∧ b3 < lo ∧ b5 < lo ∧ b2 ≠ b5 ∧ b3 ≠ b5)
    (hrow : w'.ownsRow lo 24 2 v' (l ++ [p]).length ((l ++ [p]).flatMap ptC)) (hg : W1.grownBy w' PV.ownBlock) (hp : S p.x ∧ S p.y) :
    ObI w b2 b3 b5 lo C2 C3 ov vv hv tv RV qv v' (l ++ [p]) (w'.setCell ⟨b5, 5, none⟩ v') := by
  obtain ⟨l0, l1, l2, l3, l4, l5, l6⟩ := hle
  have h1 := h.next hb (Nat.le_trans l1 h.size)
  have hP : ∀ g, PV.ownBlock = some g → lo ≤ g := fun g hg => (World.ownsRow.lt h.prow g hg).1
  have ne : ∀ {b : Nat}, b < lo → some b ≠ PV.ownBlock := fun hb e => by have := hP _ e.symm; omega
  have hbw : Below w.heap.size w w' := h1.below.grown hg (Nat.le_trans l1 h1.size) (fun g hg => Nat.le_trans l1 (hP g hg))
  have k2 := (hg.block b2 (lt_of_blk h1.h2) (ne l2)).trans h1.h2
  have k3 := (hg.block b3 (lt_of_blk h1.h3) (ne l3)).trans h1.h3
  have k5 := (hg.block b5 (lt_of_blk h1.h5) (ne l4)).trans h1.h5
  refine ⟨hbw.setCell (p := ⟨b5, 5, none⟩) l0 v', ?_, ?_, ?_, set_at k5 5 v', ?_, fun q hq => ?_⟩
  · rw [show (w'.setCell ⟨b5, 5, none⟩ v').heap.size = w'.heap.size by simp]; exact Nat.le_trans h1.size hg.size
  · exact (Below.heap_setCell _ _ _ _ l5).trans k2
  · exact (Below.heap_setCell _ _ _ _ l6).trans k3
  · exact row_keep hrow fun g hg' => Below.heap_setCell _ _ _ _ (by show g ≠ b5; have := (World.ownsRow.lt hrow g hg').1; omega)
  · rcases List.mem_append.1 hq with hq | hq
    · exact h.ss q hq
    · rw [List.mem_singleton.1 hq]; exact hp
/-- With the regions, too. -/
structure ObG (w : World) (b2 b3 b5 lo : Nat) (C2 C3 : Array Value) (ov vv hv tv RV qv PV : Value) (l : List Pt) (gs : List Rg) (W : World) : Prop where
  ob : ObI w b2 b3 b5 lo C2 C3 ov vv hv tv RV qv PV l W
  rrow : W.ownsRow lo 53 3 RV gs.length (gs.flatMap rgC)
  rok : RegsOk W (fun g => lo ≤ g ∧ g < W.heap.size ∧ RV.ownBlock ≠ some g) gs
  off : ∀ g, PV.ownBlock = some g → RV.ownBlock ≠ some g
theorem ObG.region {W1 w' : World} {v' : Value} {r : Rg} {gs : List Rg} (h : ObG w b2 b3 b5 lo C2 C3 ov vv hv tv RV qv PV l gs W) (hb : Below W.heap.size W W1) (hle : w.heap.size ≤ b5 ∧ w.heap.size ≤ lo ∧ b2 < lo ∧ b3 < lo ∧ b5 < lo ∧ b2 ≠ b5 ∧ b3 ≠ b5)
    (hrow : w'.ownsRow lo 53 3 v' (gs ++ [r]).length ((gs ++ [r]).flatMap rgC)) (hg : W1.grownBy w' RV.ownBlock) (hv' : v'.ownBlock = RV.ownBlock ∨ v'.ownBlock = some W1.heap.size) (hr : RegOk W1 (fun g => W.heap.size ≤ g ∧ g < W1.heap.size) r) :
    ObG w b2 b3 b5 lo C2 C3 ov vv hv tv v' qv PV l (gs ++ [r]) (w'.setCell ⟨b5, 4, none⟩ v') := by
  obtain ⟨l0, l1, l2, l3, l4, l5, l6⟩ := hle
  have h1 := h.ob.next hb (Nat.le_trans l1 h.ob.size)
  have hR : ∀ g, RV.ownBlock = some g → lo ≤ g ∧ g < W.heap.size := fun g hg => World.ownsRow.lt h.rrow g hg
  have hP : ∀ g, PV.ownBlock = some g → lo ≤ g ∧ g < W.heap.size := fun g hg => World.ownsRow.lt h.ob.prow g hg
  have ne : ∀ {b : Nat}, b < lo → some b ≠ RV.ownBlock := fun hb e => by have := (hR _ e.symm).1; omega
  have hbw : Below w.heap.size w w' := h1.below.grown hg (Nat.le_trans l1 h1.size) (fun g hg => Nat.le_trans l1 (hR g hg).1)
  have k2 := (hg.block b2 (lt_of_blk h1.h2) (ne l2)).trans h1.h2
  have k3 := (hg.block b3 (lt_of_blk h1.h3) (ne l3)).trans h1.h3
  have k5 := (hg.block b5 (lt_of_blk h1.h5) (ne l4)).trans h1.h5
  have hsz : (w'.setCell ⟨b5, 4, none⟩ v').heap.size = w'.heap.size := by simp
  have hs1 := hb.size
  have hs2 := hg.size
  have hset : ∀ g, lo ≤ g → (w'.setCell ⟨b5, 4, none⟩ v').heap[g]? = w'.heap[g]? := fun g hg => Below.heap_setCell _ _ _ _ (by show g ≠ b5; omega)
  refine ⟨⟨hbw.setCell (p := ⟨b5, 4, none⟩) l0 v', by rw [hsz]; exact Nat.le_trans h1.size hg.size, (Below.heap_setCell _ _ _ _ l5).trans k2, (Below.heap_setCell _ _ _ _ l6).trans k3, set_at k5 4 v', ?_, h.ob.ss⟩, ?_, ?_, ?_⟩
  · refine row_keep h1.prow fun g hg' => (hset g (hP g hg').1).trans (hg.block g (by have := (hP g hg').2; omega) (fun e => h.off g hg' e.symm))
  · exact row_keep hrow fun g hg' => hset g (World.ownsRow.lt hrow g hg').1
  · intro x hx
    rcases List.mem_append.1 hx with hx | hx
    · have h7 := h.rok x hx
      refine ⟨(h7.row.keep fun g hg' hlt => (hset g hg'.1).trans ((hg.block g (by omega) (fun e => hg'.2.2 e.symm)).trans (hb.block g hlt))).imp fun g hg' => ⟨hg'.1, by rw [hsz]; omega, fun e => ?_⟩, h7.ss, h7.nil, h7.wf⟩
      rcases hv' with hv' | hv'
      · exact hg'.2.2 (hv'.symm.trans e)
      · rw [hv'] at e; injection e with e; omega
    · obtain rfl := List.mem_singleton.1 hx
      have hlo := h.ob.size
      refine ⟨(hr.row.keep fun g hg' hlt => (hset g (by omega)).trans (hg.block g hlt (fun e => by have := (hR g e.symm).2; omega))).imp fun g hg' => ⟨by omega, by rw [hsz]; omega, fun e => ?_⟩, hr.ss, hr.nil, hr.wf⟩
      rcases hv' with hv' | hv'
      · have := (hR g (hv'.symm.trans e)).2; omega
      · rw [hv'] at e; injection e with e; omega
  · intro g hg' e
    rcases hv' with hv' | hv'
    · exact h.off g hg' (hv'.symm.trans e)
    · rw [hv'] at e; injection e with e; have := (hP g hg').2; omega
end
theorem ObI.cells {w : World} {b2 b3 b5 lo : Nat} {C2 : Array Value} {ov vv hv tv RV qv PV : Value} {l : List Pt} {W : World} {x y : Value} (h : ObI w b2 b3 b5 lo C2 #[x, y] ov vv hv tv RV qv PV l W) :
    W.cell? ⟨b3, 0, none⟩ = some x ∧ W.cell? ⟨b3, 1, none⟩ = some y ∧ W.cell? ⟨b5, 4, none⟩ = some RV ∧ W.cell? ⟨b5, 5, none⟩ = some PV ∧ (∀ o, W.frozen? ⟨b5, o, none⟩ = false) := by
  refine ⟨?_, ?_, ?_, ?_, fun o => block_frozen h.h5 o⟩ <;> simp [World.cell?, h.h3, h.h5]
theorem blk7 {W : World} {b : Nat} {v0 v1 v2 v3 v4 v5 v6 : Value} {t : TypeId} (h : W.heap[b]? = some (.cells #[v0, v1, v2, v3, v4, v5, v6] t (0, 0))) :
    W.cell? ⟨b, 0, none⟩ = some v0 ∧ W.cell? ⟨b, 1, none⟩ = some v1 ∧ W.cell? ⟨b, 2, none⟩ = some v2 ∧ W.cell? ⟨b, 3, none⟩ = some v3 ∧ W.cell? ⟨b, 4, none⟩ = some v4 ∧ W.cell? ⟨b, 5, none⟩ = some v5 ∧ W.cell? ⟨b, 6, none⟩ = some v6 := by
  refine ⟨?_, ?_, ?_, ?_, ?_, ?_, ?_⟩ <;> simp [World.cell?, h]
/-- The regions are begun anew. -/
theorem ObI.clear {w : World} {b2 b3 b5 lo : Nat} {C2 C3 : Array Value} {ov vv hv tv RV RV' qv PV : Value} {l : List Pt} {W : World} (h : ObI w b2 b3 b5 lo C2 C3 ov vv hv tv RV qv PV l W) (hle : w.heap.size ≤ b5 ∧ w.heap.size ≤ lo ∧ b2 < lo ∧ b3 < lo ∧ b5 < lo ∧ b2 ≠ b5 ∧ b3 ≠ b5) : ObI w b2 b3 b5 lo C2 C3 ov vv hv tv RV' qv PV l (W.setCell ⟨b5, 4, none⟩ RV') := by
  obtain ⟨l0, l1, l2, l3, l4, l5, l6⟩ := hle
  refine ⟨h.below.setCell (p := ⟨b5, 4, none⟩) l0 RV', by rw [show (W.setCell ⟨b5, 4, none⟩ RV').heap.size = W.heap.size by simp]; exact h.size, (Below.heap_setCell _ _ _ _ l5).trans h.h2, (Below.heap_setCell _ _ _ _ l6).trans h.h3, set_at h.h5 4 RV', row_keep h.prow fun g hg' => Below.heap_setCell _ _ _ _ (by show g ≠ b5; have := (World.ownsRow.lt h.prow g hg').1; omega), h.ss⟩
/-- Only the request's lists change. -/
def ObL1 (w : World) (b2 b3 b5 lo : Nat) (C2 C3 : Array Value) (ov vv hv tv RV qv : Value) (n : Nat) (i : Value) (wr : World) : Prop :=
  ∃ (k : Nat) (A : Option Addr) (c : Nat) (l : List Pt), i = .int .i64 k ∧ k ≤ n ∧ l.length = k ∧ ObI w b2 b3 b5 lo C2 C3 ov vv hv tv RV qv (.slice A k c) l wr
def ObL2 (w : World) (b2 b3 b5 lo : Nat) (C2 C3 : Array Value) (ov vv hv tv qv PV : Value) (l : List Pt) (rs : List Rg) (i : Value) (wr : World) : Prop :=
  ∃ (k : Nat) (A : Option Addr) (c : Nat) (gs : List Rg), i = .int .i64 k ∧ k ≤ rs.length ∧ gs.length = k ∧ sameG gs (rs.take k) ∧ ObG w b2 b3 b5 lo C2 C3 ov vv hv tv (.slice A k c) qv PV l gs wr
def ObL3 (W9 : World) (n : Nat) (v i : Value) (wr : World) : Prop :=
  ∃ (V : Value) (j : Nat) (m : List Pt), V = v ∧ i = .int .i64 j ∧ j ≤ n ∧ m.length = j ∧ SsP m ∧ wr.ownsRow W9.heap.size 24 2 V j (m.flatMap ptC) ∧ Below W9.heap.size W9 wr
theorem own_formN {w : World} {base : Nat} {e : TypeId} {k : Nat} {α : Type} {C : α → List Value} (hk : ∀ x, (C x).length = k) {v : Value} {l : List α} {n : Nat} (hn : l.length = n) (h : w.ownsRow base e k v n (l.flatMap C)) :
    ∃ A c, v = .slice A n c ∧ n ≤ c ∧ RowR w (fun g => v.ownBlock = some g) k C A l ∧ (A = none → c = 0) := by
  subst hn
  obtain ⟨A, c, e, h1, _, h2, h3⟩ := own_rowR hk h
  exact ⟨A, c, e, h1, h2, h3⟩
theorem totF_one {rs : List Rg} (h : largeF rs = 0) {r : Rg} (hr : r ∈ rs) : r.l.length ≤ 250 ∧ rs.length ≤ 250 := by
  have h1 : totF rs ≤ 250 := by unfold largeF at h; split at h; exact absurd h (by decide); omega
  have h2 := totF_len rs
  have h3 : oneF r ≤ totF rs := by
    unfold totF
    obtain ⟨a, b, rfl⟩ := List.append_of_mem hr
    rw [List.map_append, List.map_cons, List.sum_append, List.sum_cons]; omega
  unfold oneF at h3
  omega
set_option maxHeartbeats 8000000 in
theorem law_engineIsOblivious (q : Int) (op vx pts : Int) (hA : Option Addr) (hn hc : Nat) (hrs : List Rg) (RA : Option Addr) (rn rc : Nat) (rs : List Rg) (PA : Option Addr) (pn pc : Nat) (ps : List Pt) (QA : Option Addr) (qn qc : Nat) (qs : List Qr) (x y : Int) (w : World) (hw : WtsC q w) (hr : ReqR w (fun _ => True) hA hn hc hrs RA rn rc rs PA pn pc ps QA qn qc qs) (hN : ReqN op vx pts hn rn pn qn hrs) :
    Calls Tryz.prog 5 #[.agg #[.int .i64 op, .int .i64 vx, .slice hA hn hc, .int .i64 pts, .slice RA rn rc, .slice PA pn pc, .slice QA qn qc], .agg #[.int .i64 x, .int .i64 y]] w fun e w' => e = .returned (.bool true) ∧ Below w.heap.size w w' := by
  obtain ⟨W0, hW0⟩ : ∃ W, W = w.alloc (.cells #[.int .i64 op, .int .i64 vx, .slice hA hn hc, .int .i64 pts, .slice RA rn rc, .slice PA pn pc, .slice QA qn qc] 40) := ⟨_, rfl⟩
  obtain ⟨W, hW⟩ : ∃ W, W = W0.alloc (.cells #[.int .i64 x, .int .i64 y] 24) := ⟨_, rfl⟩
  have hs0 : W0.heap.size = w.heap.size + 1 := by rw [hW0]; simp
  have hsW : W.heap.size = w.heap.size + 2 := by rw [hW]; simp [hs0]
  have ha0 : Below w.heap.size w W0 := by rw [hW0]; exact (Below.refl _ _).alloc (Nat.le_refl _) _
  have ha1 : Below W0.heap.size W0 W := by rw [hW]; exact (Below.refl _ _).alloc (Nat.le_refl _) _
  have h0 : Below w.heap.size w W := ha0.trans (ha1.mono ha0.size)
  have hh2 : W.heap[w.heap.size]? = some (.cells #[.int .i64 op, .int .i64 vx, .slice hA hn hc, .int .i64 pts, .slice RA rn rc, .slice PA pn pc, .slice QA qn qc] 40 (0, 0)) := (ha1.block _ (by omega)).trans (by rw [hW0]; exact heap_alloc_new w _)
  have hh3 : W.heap[w.heap.size + 1]? = some (.cells #[.int .i64 x, .int .i64 y] 24 (0, 0)) := by rw [hW, ← hs0]; exact heap_alloc_new W0 _
  obtain ⟨g0, g1, g2, g3, g4, g5, g6⟩ := blk7 hh2
  obtain ⟨B, hB⟩ : ∃ b, b = w.heap.size := ⟨_, rfl⟩
  rw [← hB] at g0 g1 g2 g3 g4 g5 g6 hh2 hh3
  have HRQ := Lib.hid (hr.next h0)
  have HRL := Lib.hid (reqLow hr)
  have HR0 := Lib.hid hr
  have HN := Lib.hid hN
  have HW := Lib.hid (show (w.alloc (.cells #[.int .i64 op, .int .i64 vx, .slice hA hn hc, .int .i64 pts, .slice RA rn rc, .slice PA pn pc, .slice QA qn qc] 40)).alloc (.cells #[.int .i64 x, .int .i64 y] 24) = W by rw [hW, hW0])
  have HB := Lib.hid hB
  have HH2 := Lib.hid hh2
  have HH3 := Lib.hid hh3
  have HSZ := Lib.hid hsW
  have hBW : B < W.heap.size := by omega
  obtain ⟨er, her⟩ : ∃ er, encE ⟨⟨op, vx, hrs.map rgK, pts⟩, rs.map rgD, ps, qs⟩ (rgP hrs) = er := ⟨_, rfl⟩
  have HE := Lib.hid her
  have HLE := Lib.hid (ansE_len (er := er) (op := op) (vs := vx) (pts := pts) (ks := hrs.map rgK) (fun h => (encE_ok (her.trans h)).1))
  clear hW hW0 hB hr hN her ha0 ha1 hs0 hh2 hh3 hsW
  go_enter Tryz.func5, Tryz.ntmps5
  go_upto_region 1 with (fail)
  rw [HW.out, ← HB.out]
  go_wp2_with (fail)
  refine (large19_any op vx pts hA hn hc hrs RA rn rc rs PA pn pc ps QA qn qc qs _ W HRQ.out.rrow HRQ.out.rlen HN.out.len.2.1).mono ?_
  rintro e w1 ⟨z, rfl, hz, hsm, hb1⟩
  have q1 := h0.trans (hb1.mono h0.size)
  clear g0 g1 g2 g3 g4 g5 g6
  rcases hz with rfl | rfl
  · obtain ⟨hlF, hhn, hpn, hqn⟩ := hsm rfl
    have HLF := Lib.hid hlF
    obtain ⟨b5, hb5⟩ : ∃ b, b = w1.heap.size := ⟨_, rfl⟩
    obtain ⟨W5, hW5⟩ : ∃ W, W = w1.alloc (.cells #[.int .i64 op, .int .i64 vx, .slice hA hn hc, .int .i64 pts, .slice RA rn rc, .slice none 0 0, .slice QA qn qc] 40) := ⟨_, rfl⟩
    have hs1 := hb1.size
    have hsz := HSZ.out
    have h5 : Below w1.heap.size w1 W5 := by rw [hW5]; exact (Below.refl _ _).alloc (Nat.le_refl _) _
    have hs5 : W5.heap.size = w1.heap.size + 1 := by rw [hW5]; simp
    have HLEE : Hid (w.heap.size ≤ b5 ∧ w.heap.size ≤ W5.heap.size ∧ B < W5.heap.size ∧ B + 1 < W5.heap.size ∧ b5 < W5.heap.size ∧ B ≠ b5 ∧ B + 1 ≠ b5) := Lib.hid (by have := HB.out; omega)
    have hOb : ObI w B (B + 1) b5 W5.heap.size #[.int .i64 op, .int .i64 vx, .slice hA hn hc, .int .i64 pts, .slice RA rn rc, .slice PA pn pc, .slice QA qn qc] #[.int .i64 x, .int .i64 y] (.int .i64 op) (.int .i64 vx) (.slice hA hn hc) (.int .i64 pts) (.slice RA rn rc) (.slice QA qn qc) (.slice none 0 0) [] W5 :=
      ⟨q1.trans (h5.mono q1.size), Nat.le_refl _, (h5.block B (by omega)).trans ((hb1.block B hBW).trans HH2.out), (h5.block (B + 1) (by have := HB.out; omega)).trans ((hb1.block (B + 1) (by have := HB.out; omega)).trans HH3.out), by rw [hW5, hb5]; exact heap_alloc_new w1 _, World.ownsRow_nil _ _ _ _, fun _ h => by cases h⟩
    have HW5 := Lib.hid hW5
    have HB5 := Lib.hid hb5
    have hwb : Below W.heap.size W W5 := hb1.trans (h5.mono hb1.size)
    obtain ⟨k0, k1, k2, k3, k4, k5, k6⟩ := blk7 ((hb1.block B hBW).trans HH2.out)
    clear hW5 hb5 h5 hsm hlF
    go_upto_region 5 with (fail)
    rw [← HW5.out, ← HB5.out]
    clear k0 k1 k2 k3 k4 k5 k6
    obtain ⟨k0, k1, k2, k3, k4, k5, k6⟩ := blk7 hOb.h2
    go_wp2
    go_loopw [28] (fun i wr => ObL1 w B (B + 1) b5 W5.heap.size #[.int .i64 op, .int .i64 vx, .slice hA hn hc, .int .i64 pts, .slice RA rn rc, .slice PA pn pc, .slice QA qn qc] #[.int .i64 x, .int .i64 y] (.int .i64 op) (.int .i64 vx) (.slice hA hn hc) (.int .i64 pts) (.slice RA rn rc) (.slice QA qn qc) pn i wr) (fun i _ => pn - (intOf i).toNat)
    case atStart => exact ⟨0, none, 0, [], rfl, Nat.zero_le _, rfl, hOb⟩
    case round =>
      clear hOb k0 k1 k2 k3 k4 k5 k6
      obtain ⟨k, A1, c1, l, rfl, hk, hlk, hI⟩ := hrel
      have hprow : wr.ownsRow W5.heap.size 24 2 (.slice A1 k c1) k (l.flatMap ptC) := by have h := hI.prow; rw [hlk] at h; exact h
      have HLK := Lib.hid hlk
      obtain ⟨u0, u1, u4, u5, uf⟩ := hI.cells
      obtain ⟨k0, k1, k2, k3, k4, k5, k6⟩ := blk7 hI.h2
      by_cases hgo : k < pn
      · have hrow := HR0.out.prow.next hI.below
        obtain ⟨b, o, eP, _, p0, p1⟩ := hrow.pt_ (k := k) (by rw [← HR0.out.plen]; exact hgo)
        subst eP
        generalize ps[k]'(by rw [← HR0.out.plen]; exact hgo) = X at p0 p1
        obtain ⟨bp, hbp⟩ : ∃ b, b = wr.heap.size := ⟨_, rfl⟩
        obtain ⟨Wp, hWp⟩ : ∃ W, W = wr.alloc (.cells #[.int .i64 X.x, .int .i64 X.y] 24) := ⟨_, rfl⟩
        have hbWp : Below wr.heap.size wr Wp := by rw [hWp]; exact (Below.refl _ _).alloc (Nat.le_refl _) _
        have z0 : Wp.cell? ⟨bp, 0, none⟩ = some (.int .i64 X.x) := by rw [hWp, hbp]; simp [go_sem]
        have z1 : Wp.cell? ⟨bp, 1, none⟩ = some (.int .i64 X.y) := by rw [hWp, hbp]; simp [go_sem]
        have HWp := Lib.hid hWp
        have HBp := Lib.hid hbp
        clear hWp hbp
        go_upto_region 8 with (fail)
        rw [← HWp.out, ← HBp.out]
        have v0 := keepW hbWp u0
        have v1 := keepW hbWp u1
        have v5 := keepW hbWp u5
        obtain ⟨m1, e1⟩ : ∃ m, IntKind.i64.wrap (X.y * x) = m := ⟨_, rfl⟩
        obtain ⟨P, hP⟩ : ∃ P : Pt, P = ⟨IntKind.i64.wrap (m1 + y), bits .xor .i64 X.x y⟩ := ⟨_, rfl⟩
        have e2 : IntKind.i64.wrap (m1 + y) = P.x := by rw [hP]
        have e3 : bits .xor .i64 X.x y = P.y := by rw [hP]
        have hPS : S P.x ∧ S P.y := by rw [← e2, ← e3]; exact ⟨S_wrap _, S_bits _ _ _⟩
        have HPS := Lib.hid hPS
        have hprow1 : Wp.ownsRow W5.heap.size 24 2 (.slice A1 k c1) k (l.flatMap ptC) := row_keep hprow fun g hg => hbWp.block g (World.ownsRow.lt hprow g hg).2
        have hsz5 := hI.size
        have hszp := hbWp.size
        have HI := Lib.hid hI
        have hb5b : b5 < Wp.heap.size := by have := HLEE.out; omega
        have h5p : Wp.heap[b5]? = _ := (hbWp.block b5 (lt_of_blk hI.h5)).trans hI.h5
        have hkk : k + 1 ≤ 1000000 := by omega
        clear u0 u1 u4 u5 uf k0 k1 k2 k3 k4 k5 k6 hP hPS hlk hI hprow hrow p0 p1
        go_wp2_with (first
          | (at_builtin; refine wp_app_row elemPt rfl _ _ rfl W5.heap.size _ k (l.flatMap ptC) rfl (World.ownsRow.alloc hprow1 _) (some ⟨Wp.heap.size, 0, none⟩) 1 1 [P] (fun g => Wp.heap.size ≤ g) rfl rfl (row_lit (C := ptC) ptC_len [P]) (fun h => by cases h) hkk (by simp; omega) ?_
             intro v' w2 hown2 hgrow2 hnew2
             have hrow2 : w2.ownsRow W5.heap.size 24 2 v' (l ++ [P]).length ((l ++ [P]).flatMap ptC) := by rw [List.length_append, HLK.out, List.flatMap_append]; exact hown2
             obtain ⟨A6, c6, hv6, _⟩ := own_formN ptC_len (show (l ++ [P]).length = k + 1 by rw [List.length_append, HLK.out]; rfl) (by rw [List.length_append, HLK.out] at hrow2; exact hrow2)
             subst hv6
             have hI2 := HI.out.point (hbWp.alloc hszp _) HLEE.out hrow2 hgrow2 HPS.out
             have hk2 : w2.heap[b5]? = _ := (hgrow2.block b5 (by simp; omega) (fun e => by have h1 := (World.ownsRow.lt hprow1 b5 e.symm).1; have := HLEE.out; omega)).trans ((Below.heap_alloc _ _ _ hb5b).trans h5p)
             obtain ⟨_, _, _, _, _, t5, _⟩ := blk7 hk2
             have tf := block_frozen hk2
             have HI2 := Lib.hid hI2
             clear hown2 hgrow2 hnew2 hrow2 hI2 hk2))
        go_roundw
        case rel => exact ⟨k + 1, A6, c6, l ++ [P], by go_num, hgo, by rw [List.length_append, HLK.out]; rfl, HI2.out⟩
        case measure => simp [intOf]; omega
      · have hkp : k = pn := by omega
        subst hkp
        obtain ⟨W10, hW10⟩ : ∃ W, W = wr.setCell ⟨b5, 4, none⟩ (.slice none 0 0) := ⟨_, rfl⟩
        have hI10 := hI.clear (RV' := .slice none 0 0) HLEE.out
        rw [← hW10] at hI10
        have HW10 := Lib.hid hW10
        have huf := uf 4
        clear hW10 hprow hI
        go_upto_region 11 with (fail)
        rw [← HW10.out]
        clear u0 u1 u4 u5 uf huf k0 k1 k2 k3 k4 k5 k6
        obtain ⟨k0, k1, k2, k3, k4, k5, k6⟩ := blk7 hI10.h2
        go_wp2
        go_loopw [56] (fun i wr => ObL2 w B (B + 1) b5 W5.heap.size #[.int .i64 op, .int .i64 vx, .slice hA hn hc, .int .i64 pts, .slice RA rn rc, .slice PA k pc, .slice QA qn qc] #[.int .i64 x, .int .i64 y] (.int .i64 op) (.int .i64 vx) (.slice hA hn hc) (.int .i64 pts) (.slice QA qn qc) (.slice A1 k c1) l rs i wr) (fun i _ => rn - (intOf i).toNat)
        case atStart => exact ⟨0, none, 0, [], rfl, Nat.zero_le _, rfl, by simp [sameG], hI10, World.ownsRow_nil _ _ _ _, fun r hr => (by cases hr), fun g _ e => (by simp [Value.ownBlock] at e)⟩
        case round =>
          clear hI10 k0 k1 k2 k3 k4 k5 k6
          obtain ⟨k2, A2, c2, gs, rfl, hk2, hgl, hsg, hG⟩ := hrel
          have HG := Lib.hid hG
          have HGL := Lib.hid hgl
          have HSG := Lib.hid hsg
          have hrn := HR0.out.rlen
          have hwow := hG.ob.size
          obtain ⟨u0, u1, u4, u5, uf⟩ := hG.ob.cells
          obtain ⟨n0, n1, n2, n3, n4, n5, n6⟩ := blk7 hG.ob.h2
          have HRN := Lib.hid hrn
          clear hsg
          by_cases hgo2 : k2 < rn
          · have hkr : k2 < rs.length := by rw [← HRN.out]; exact hgo2
            have hrow := HR0.out.rrow.next hG.ob.below
            obtain ⟨br, obr, eR, _, d0, d1, d2⟩ := hrow.rg2 (k := k2) hkr
            subst eR
            obtain ⟨⟨dd, vv, A3, c3, L⟩, hX⟩ : ∃ X, rs[k2]'hkr = X := ⟨_, rfl⟩
            have hok := HR0.out.rok _ (List.getElem_mem hkr)
            have hbd := totF_one HLF.out (List.getElem_mem hkr)
            rw [hX] at d0 d1 d2 hok hbd
            simp only at d0 d1 d2 hbd
            obtain ⟨nL, hnL⟩ : ∃ n, n = L.length := ⟨_, rfl⟩
            rw [← hnL] at d2 hbd
            have HNL := Lib.hid hnL
            have HX := Lib.hid hX
            have HOK := Lib.hid hok
            have hbd1 := hbd.1
            have hbd2 := hbd.2
            obtain ⟨b9, hb9⟩ : ∃ b, b = wr.heap.size := ⟨_, rfl⟩
            obtain ⟨W9, hW9⟩ : ∃ W, W = wr.alloc (.cells #[.bool dd, .int .i64 vv, .slice A3 nL c3] 53) := ⟨_, rfl⟩
            obtain ⟨hbW9, hs9, y0, y1, y2⟩ := box3e hW9
            have hk9 : W9.heap[b9]? = some (.cells #[.bool dd, .int .i64 vv, .slice A3 nL c3] 53 (0, 0)) := by rw [hW9, hb9]; exact heap_alloc_new wr _
            rw [← hb9] at y0 y1 y2
            have HW9 := Lib.hid hW9
            have HB9 := Lib.hid hb9
            have HK9 := Lib.hid hk9
            clear hW9 hb9 hnL hX hok hbd hrow hk9 hrn
            go_upto_region 14 with (fail)
            rw [← HW9.out, ← HB9.out]
            clear u0 u1 u4 u5 uf n0 n1 n2 n3 n4 n5 n6 d0 d1 d2
            go_wp2
            obtain ⟨wo, hwo⟩ : ∃ w0, w0 = wr := ⟨_, rfl⟩
            subst hwo
            go_loopw [10, 63] (fun v i wx => ObL3 W9 nL v i wx) (fun _ i _ => nL - (intOf i).toNat)
            case atStart => exact ⟨_, 0, [], rfl, rfl, Nat.zero_le _, rfl, fun _ h => (by cases h), World.ownsRow_nil _ _ _ _, Below.refl _ _⟩
            case round =>
              clear y0 y1 y2
              obtain ⟨V, j, m, hVV, rfl, hj, hml, hms, hmrow, hmb⟩ := hrel
              subst hVV
              have HML := Lib.hid hml
              have HMS := Lib.hid hms
              have hbx : Below wo.heap.size wo wr := hbW9.trans (hmb.mono (by omega))
              have hIx := HG.out.ob.next hbx (by have := HLEE.out; omega)
              obtain ⟨u0, u1, u4, u5, uf⟩ := hIx.cells
              have hx9 := (hmb.block b9 (by have := HB9.out; omega)).trans HK9.out
              have y0 : wr.cell? ⟨b9, 0, none⟩ = some (.bool dd) := by simp [World.cell?, hx9]
              have y1 : wr.cell? ⟨b9, 1, none⟩ = some (.int .i64 vv) := by simp [World.cell?, hx9]
              have y2 : wr.cell? ⟨b9, 2, none⟩ = some (.slice A3 nL c3) := by simp [World.cell?, hx9]
              have yf := block_frozen hx9
              have hs3 := hmb.size
              by_cases hgo3 : j < nL
              · have hjL : j < L.length := by rw [← HNL.out]; exact hgo3
                obtain ⟨b, ob, eP, _, p0, p1⟩ := (((HOK.out.row.next HG.out.ob.below).next hbx)).pt_ (k := j) hjL
                have eP : A3 = some ⟨b, ob, none⟩ := eP
                subst eP
                simp only at p0 p1
                generalize L[j]'hjL = X at p0 p1
                obtain ⟨bp, hbp⟩ : ∃ b, b = wr.heap.size := ⟨_, rfl⟩
                obtain ⟨Wp, hWp⟩ : ∃ W, W = wr.alloc (.cells #[.int .i64 X.x, .int .i64 X.y] 24) := ⟨_, rfl⟩
                have hbWp : Below wr.heap.size wr Wp := by rw [hWp]; exact (Below.refl _ _).alloc (Nat.le_refl _) _
                have z0 : Wp.cell? ⟨bp, 0, none⟩ = some (.int .i64 X.x) := by rw [hWp, hbp]; simp [go_sem]
                have z1 : Wp.cell? ⟨bp, 1, none⟩ = some (.int .i64 X.y) := by rw [hWp, hbp]; simp [go_sem]
                have HWp := Lib.hid hWp
                have HBp := Lib.hid hbp
                clear hWp hbp y0 y1 y2 yf
                go_upto_region 18 with (fail)
                rw [← HWp.out, ← HBp.out]
                have v0 := keepW hbWp u0
                have v1 := keepW hbWp u1
                obtain ⟨m1, e1⟩ : ∃ m, IntKind.i64.wrap (X.x * y) = m := ⟨_, rfl⟩
                obtain ⟨P, hP⟩ : ∃ P : Pt, P = ⟨bits .xor .i64 X.y x, IntKind.i64.wrap (m1 + x)⟩ := ⟨_, rfl⟩
                have e2 : IntKind.i64.wrap (m1 + x) = P.y := by rw [hP]
                have e3 : bits .xor .i64 X.y x = P.x := by rw [hP]
                have HPS := Lib.hid (show S P.x ∧ S P.y by rw [← e2, ← e3]; exact ⟨S_bits _ _ _, S_wrap _⟩)
                have hprow1 : Wp.ownsRow W9.heap.size 24 2 V j (m.flatMap ptC) := row_keep hmrow fun g hg => hbWp.block g (World.ownsRow.lt hmrow g hg).2
                have hszp := hbWp.size
                have hkk : j + 1 ≤ 1000000 := by omega
                clear u0 u1 u4 u5 uf hP hmrow p0 p1 hIx hx9
                go_wp2_with (first
                  | (at_builtin; refine wp_app_row elemPt rfl _ _ rfl W9.heap.size _ j (m.flatMap ptC) rfl (World.ownsRow.alloc hprow1 _) (some ⟨Wp.heap.size, 0, none⟩) 1 1 [P] (fun g => Wp.heap.size ≤ g) rfl rfl (row_lit (C := ptC) ptC_len [P]) (fun h => by cases h) hkk (by simp; omega) ?_
                     intro v' w2 hown2 hgrow2 hnew2
                     have HO2 := Lib.hid hown2
                     have HB2 := Lib.hid ((hmb.trans ((hbWp.alloc hszp _).mono hs3)).grown hgrow2 (by simp; omega) (fun g hg => (World.ownsRow.lt hprow1 g hg).1))
                     clear hown2 hgrow2 hnew2))
                go_roundw
                case rel => exact ⟨v', j + 1, m ++ [P], rfl, by go_num, hgo3, by rw [List.length_append, HML.out]; rfl, fun z hz => by (rcases List.mem_append.1 hz with hz | hz; exact HMS.out z hz; rw [List.mem_singleton.1 hz]; exact HPS.out), by rw [List.flatMap_append]; exact HO2.out, HB2.out⟩
                case measure => simp [intOf]; omega
              · have hjn : j = nL := by omega
                subst hjn
                obtain ⟨A4, c4, hV, hc4, hr4, hn4⟩ := own_formN ptC_len hml hmrow
                subst hV
                have hlow4 := World.ownsRow.lt hmrow
                obtain ⟨W20, hW20⟩ : ∃ W, W = wr.setCell ⟨b9, 2, none⟩ (.slice A4 j c4) := ⟨_, rfl⟩
                have hx20 : W20.heap[b9]? = some (.cells #[.bool dd, .int .i64 vv, .slice A4 j c4] 53 (0, 0)) := by rw [hW20]; exact set_at hx9 2 _
                have hb920 : Below b9 wr W20 := by rw [hW20]; exact (Below.refl _ _).setCell (p := ⟨b9, 2, none⟩) (Nat.le_refl _) _
                have hsz20 : W20.heap.size = wr.heap.size := by rw [hW20]; simp
                have hb20 : Below wo.heap.size wo W20 := by have h := hbx.trans (hb920.mono (by have := HB9.out; omega) : Below wo.heap.size wr W20); exact h
                have hr20 : RowR W20 (fun g => wo.heap.size ≤ g ∧ g < W20.heap.size) 2 ptC A4 m := by
                  refine (hr4.keep (w' := W20) fun g hg _ => ?_).imp fun g hg => by have := hlow4 g hg; omega
                  rw [hW20]
                  exact Below.heap_setCell _ _ _ _ (by show g ≠ b9; have := (hlow4 g hg).1; have := HB9.out; omega)
                have HR20 := Lib.hid hr20
                have HN4 := Lib.hid hn4
                have HW20 := Lib.hid hW20
                have HB20 := Lib.hid hb20
                have yf2 := yf 2
                clear hW20 hmrow hr4 hlow4 hr20 hn4 uf u0 u1 u5 hsz20
                go_upto_region 21 with (fail)
                rw [← HW20.out]
                clear y0 y1 y2 yf yf2 u4
                have z0 : W20.cell? ⟨b9, 0, none⟩ = some (.bool dd) := by simp [World.cell?, hx20]
                have z1 : W20.cell? ⟨b9, 1, none⟩ = some (.int .i64 vv) := by simp [World.cell?, hx20]
                have z2 : W20.cell? ⟨b9, 2, none⟩ = some (.slice A4 j c4) := by simp [World.cell?, hx20]
                have h520 := (HB20.out.block b5 (by have := HLEE.out; omega)).trans HG.out.ob.h5
                obtain ⟨_, _, _, _, t4, _, _⟩ := blk7 h520
                have hrrow20 : W20.ownsRow W5.heap.size 53 3 (.slice A2 k2 c2) k2 (gs.flatMap rgC) := by
                  have h := row_keep (w' := W20) HG.out.rrow fun g hg => HB20.out.block g (World.ownsRow.lt HG.out.rrow g hg).2
                  rw [HGL.out] at h; exact h
                obtain ⟨r, hr0⟩ : ∃ r : Rg, r = ⟨dd, vv, A4, c4, m⟩ := ⟨_, rfl⟩
                have hlit : RowR (W20.alloc (.cells #[.bool dd, .int .i64 vv, .slice A4 j c4] 53)) (fun g => W20.heap.size ≤ g) 3 rgC (some ⟨W20.heap.size, 0, none⟩) [r] := by
                  have h := row_lit (C := rgC) (w := W20) (t := 53) rgC_len [r]
                  rw [show ([r].flatMap rgC).toArray = #[.bool dd, .int .i64 vv, .slice A4 j c4] by rw [hr0]; simp [rgC, HML.out]] at h
                  exact h
                have hreg : RegOk (W20.alloc (.cells #[.bool dd, .int .i64 vv, .slice A4 j c4] 53)) (fun g => wo.heap.size ≤ g ∧ g < (W20.alloc (.cells #[.bool dd, .int .i64 vv, .slice A4 j c4] 53)).heap.size) r := by
                  rw [hr0]
                  exact ⟨(HR20.out.next ((Below.refl _ _).alloc (Nat.le_refl _) _)).imp fun g hg => ⟨hg.1, by simp; omega⟩, HMS.out, HN4.out, HOK.out.wf⟩
                have HREG := Lib.hid hreg
                have HRV := Lib.hid (And.intro (show rgK r = rgK (rs[k2]'hkr) by rw [HX.out, hr0]; rfl) (show r.l.length = (rs[k2]'hkr).l.length by rw [HX.out, hr0]; exact HML.out.trans HNL.out))
                have HLIT := Lib.hid hlit
                have hsz5 := HG.out.ob.size
                have hs20 := HB20.out.size
                have hk21 : k2 + 1 ≤ 1000000 := by omega
                clear hr0 hlit hreg
                go_wp2_with (first
                  | (at_builtin
                     (
                       refine wp_app_row elemRg rfl _ _ rfl W5.heap.size _ k2 (gs.flatMap rgC) rfl (World.ownsRow.alloc hrrow20 _) (some ⟨W20.heap.size, 0, none⟩) 1 1 [r] (fun g => W20.heap.size ≤ g) rfl rfl HLIT.out (fun h => by cases h) hk21 (by simp; omega) ?_
                       intro v' w6 hown6 hgrow6 hnew6
                       have hrow6 : w6.ownsRow W5.heap.size 53 3 v' (gs ++ [r]).length ((gs ++ [r]).flatMap rgC) := by rw [List.length_append, HGL.out, List.flatMap_append]; exact hown6
                       obtain ⟨A6, c6, hv6, _⟩ := own_formN rgC_len (show (gs ++ [r]).length = k2 + 1 by rw [List.length_append, HGL.out]; rfl) (by rw [List.length_append, HGL.out] at hrow6; exact hrow6)
                       subst hv6
                       have hG6 := HG.out.region (HB20.out.alloc hs20 _) HLEE.out hrow6 hgrow6 hnew6 HREG.out
                       have hk6 := (hgrow6.block b5 (by simp; have := HLEE.out; omega) (fun e => by have h1 := (World.ownsRow.lt hrrow20 b5 e.symm).1; have := HLEE.out; omega)).trans ((Below.heap_alloc _ _ _ (by have := HLEE.out; omega)).trans h520)
                       obtain ⟨_, _, _, _, t46, _, _⟩ := blk7 hk6
                       have tf6 := block_frozen hk6
                       have HG6 := Lib.hid hG6
                       clear hown6 hgrow6 hnew6 hrow6 hG6 hk6)))
                go_roundw
                case rel => exact ⟨k2 + 1, A6, c6, gs ++ [r], by go_num, hkr, by rw [List.length_append, HGL.out]; rfl, sameG_snoc hkr HSG.out HRV.out.1 HRV.out.2, HG6.out⟩
                case measure => simp [intOf]; omega
          · have hkn : k2 = rn := by omega
            subst hkn
            have hsame : sameG gs rs := by have h := HSG.out; rw [List.take_of_length_le (by rw [← HRN.out]; exact Nat.le_refl _)] at h; exact h
            have hG3 := hG.rrow
            rw [hgl] at hG3
            obtain ⟨A2', c2', e1, _, hrr, _⟩ := own_formN rgC_len hgl hG3
            injection e1 with e1 _ e3
            subst e1 e3
            have hP3 := hG.ob.prow
            rw [HLK.out] at hP3
            obtain ⟨A1', c1', e1, hcap, hpr, _⟩ := own_formN ptC_len HLK.out hP3
            injection e1 with e1 _ e3
            subst e1 e3
            have hreq2 : ReqR wr (fun _ => True) hA hn hc hrs A2 k2 c2 gs A1 k c1 l QA qn qc qs :=
              ⟨(HR0.out.next hG.ob.below).hrow, HR0.out.hlen, hrr.imp fun _ _ => trivial, hgl.symm, hG.rok.imp fun _ _ => trivial, hpr.imp fun _ _ => trivial, HLK.out.symm, hG.ob.ss, (HR0.out.next hG.ob.below).qrow, HR0.out.qlen, HR0.out.qok, hcap⟩
            have HREQ1 := Lib.hid (reqLow (HR0.out.next hG.ob.below))
            have HREQ2 := Lib.hid (reqLow hreq2)
            have HE2 := Lib.hid ((encE_rg (h := ⟨op, vx, hrs.map rgK, pts⟩) (qs := qs) (p := rgP hrs) hsame (HLK.out.trans HR0.out.plen)).trans HE.out)
            obtain ⟨⟨v1, f1⟩, hP1⟩ : ∃ P, ansVw q er op rs ps = P := ⟨_, rfl⟩
            obtain ⟨⟨v2, f2⟩, hP2⟩ : ∃ P, ansVw q er op gs l = P := ⟨_, rfl⟩
            have hf : f1 = f2 := by
              rcases ansV_split hP1 with ⟨a1, _, b1⟩ | ⟨a1, a2, _, b1⟩ | ⟨a1, a2, _, b1⟩ <;> rcases ansV_split hP2 with ⟨d1, _, g1⟩ | ⟨d1, d2, _, g1⟩ | ⟨d1, d2, _, g1⟩ <;> first | exact b1.trans g1.symm | exact absurd d1 a1 | exact absurd a1 d1 | exact absurd d2 a2 | exact absurd a2 d2
            subst hf
            have HP1 := Lib.hid hP1
            have HP2 := Lib.hid hP2
            have hLE := HLE.out
            have hswr : w.heap.size ≤ wr.heap.size := hG.ob.below.size
            have hble : B < wr.heap.size ∧ b5 < wr.heap.size := by have := HLEE.out; omega
            clear hsame hG3 hrr hP3 hpr hreq2 hP1 hP2 u0 u1 u4 u5 uf n0 n1 n2 n3 n4 n5 n6
            have hbwr := hG.ob.below
            have hg2 := hG.ob.h2
            have hg5 := hG.ob.h5
            clear hG hgl hlk hrn
            go_wp2_with (fail)
            refine (tapeNew_any wr).mono ?_
            rintro e w2 ⟨tb, rfl, ht, hb2⟩
            go_wp2_with (fail)
            refine (tapeNew_any w2).mono ?_
            rintro e w3 ⟨tc, rfl, hu, hb3⟩
            have hs2 := hb2.size
            have hs3 := hb3.size
            have h13 : Below wr.heap.size wr w3 := hb2.trans (hb3.mono hs2)
            have ht := ht.now.next hb3
            have hu := hu.now
            have j2 := (h13.block B hble.1).trans hg2
            obtain ⟨n0, n1, n2, n3, n4, n5, n6⟩ := blk7 j2
            go_wp2_with (fail)
            refine (engAnswer_c q (.pointer (some ⟨tb, 0, none⟩)) [] (fun g => wr.heap.size ≤ g ∧ g < w2.heap.size) (fun b => b < wr.heap.size) op vx pts hA hn hc hrs RA k2 rc rs PA k pc ps QA qn qc qs er (v1, f1) w3 (fun W' hm => hw.below (hbwr.trans ((hm.below h13 (fun g hg => by omega) h13.size).mono hswr))) ht.o (by simp)
              (HREQ1.out.next h13) (fun b hb h => by omega) HN.out HE.out HP1.out).mono ?_
            rintro e w4 ⟨⟨A4, c4, rfl⟩, ht4, hm4⟩
            simp only
            rw [addT_some, List.nil_append] at ht4
            have h14 := hm4.below h13 (fun g hg => by omega) h13.size
            have hu4 := hu.keep (w' := w4) (fun b hb hlt => hm4.block b hlt (fun h => by omega))
            have hs4 := hm4.size
            obtain ⟨W4, hW4⟩ : ∃ W, W = w4.alloc (.cells #[.int .i64 v1, .int .i64 0, .slice A4 0 c4] 44) := ⟨_, rfl⟩
            have hb4 : Below w4.heap.size w4 W4 := by rw [hW4]; exact (Below.refl _ _).alloc (Nat.le_refl _) _
            have h15 := h14.trans (hb4.mono h14.size)
            have ht5 := (ht4.next hb4).now
            have hu5 := hu4.next hb4
            have j5 := (h15.block b5 hble.2).trans hg5
            have hs5' := hb4.size
            have HW4 := Lib.hid hW4
            clear hW4 n0 n1 n2 n3 n4 n5 n6 ht hu ht4 hu4 hm4
            go_upto_region 25 with (fail)
            rw [← HW4.out]
            obtain ⟨n0, n1, n2, n3, n4, n5, n6⟩ := blk7 j5
            go_wp2_with (fail)
            refine (engAnswer_c q (.pointer (some ⟨tc, 0, none⟩)) [] (fun g => w2.heap.size ≤ g ∧ g < w3.heap.size) (fun b => b < wr.heap.size) op vx pts hA hn hc hrs A2 k2 c2 gs A1 k c1 l QA qn qc qs er (v2, f1) W4 (fun W' hm => hw.below (hbwr.trans ((hm.below h15 (fun g hg => by omega) h15.size).mono hswr))) hu5.o (by simp)
              (HREQ2.out.next h15) (fun b hb h => by omega) HN.out HE2.out HP2.out).mono ?_
            rintro e w6 ⟨⟨A6, c6, rfl⟩, hu6, hm6⟩
            simp only
            rw [addT_some, List.nil_append] at hu6
            have h16 := hm6.below h15 (fun g hg => by omega) h15.size
            have ht6 := ht5.keep (w' := w6) (fun b hb hlt => hm6.block b hlt (fun h => by omega))
            obtain ⟨W6, hW6⟩ : ∃ W, W = w6.alloc (.cells #[.int .i64 v2, .int .i64 0, .slice A6 0 c6] 44) := ⟨_, rfl⟩
            have hb6 : Below w6.heap.size w6 W6 := by rw [hW6]; exact (Below.refl _ _).alloc (Nat.le_refl _) _
            have h17 := h16.trans (hb6.mono h16.size)
            have ht7 := ht6.next hb6
            have hu7 := hu6.next hb6
            have q7 := hbwr.trans (h17.mono hswr)
            have HW6 := Lib.hid hW6
            clear hW6 n0 n1 n2 n3 n4 n5 n6 ht5 hu5 ht6 hu6 hm6
            go_upto_region 26 with (fail)
            rw [← HW6.out]
            have hd := beq_self_eq_true f1
            go_wp2_with (fail)
            refine (alive19_any q W6 (hw.below q7)).mono ?_
            rintro e w8 ⟨rfl, hb8⟩
            have ht8 := ht7.next hb8
            have hu8 := hu7.next hb8
            have q8 := q7.trans (hb8.mono q7.size)
            go_wp2_with (fail)
            refine (tapeEqual_any _ _ _ _ true _ _ w8 ht8 hu8 (by omega) (by omega) (by simp)).mono ?_
            rintro e w9 ⟨rfl, hb9⟩
            go_wp2
            go_ret
            exact ⟨rfl, q8.trans (hb9.mono q8.size)⟩
  · go_wp2_with (fail)
    refine (alive19_any q w1 (hw.below q1)).mono ?_
    rintro e w4 ⟨rfl, hb4⟩
    go_wp2
    go_ret
    exact ⟨rfl, q1.trans (hb4.mono q1.size)⟩
end Go.Proofs.YthmkllpdkcmccaaGreatDoor
