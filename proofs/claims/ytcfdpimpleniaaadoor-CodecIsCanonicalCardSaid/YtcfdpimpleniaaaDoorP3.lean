/-
  Packed texts: DirP, Grew, Hdr2, Net, Srt, Cod, Ref17, Ref17f.
-/
import Derived.Test.YtcfdpimpleniaaaDoorP2
namespace Go.Proofs.YtcfdpimpleniaaaDoor
open Go.RowKit
set_option maxRecDepth 100000
set_option linter.unusedVariables false
set_option linter.unusedSimpArgs false

section
variable {P : Program} {ops : Array Oper} {Q : Exit → Act → World → Prop}
def updG (g : Nat → Bool) (i : Nat) : Nat → Bool := fun j => if j = i then true else g j
/-- What holds all the time: g says which operations have come up. -/
structure InvP (T : Nat → Prop) (W : World) (p : Nat) (must : List Nat) (g : Nat → Bool) (w : World) : Prop where
  must : g p = true → ∀ i ∈ must, g i = true
  moved : Moved T W w
  below : g p = false → Below W.heap.size W w
structure FactP (p : Nat) (Vs : List (Value → Prop)) (Ws : List (Value → World → Prop)) (Post : Value → World → Prop) (i : Nat) (v : Value) (g : Nat → Bool) (w : World) : Prop where
  up : g i = true
  val : Vs.getD i (fun _ => True) v
  raw : g p = false → Ws.getD i (fun _ _ => True) v w
  post : i = p → Post v w
structure StepP (p j : Nat) (g : Nat → Bool) (w : World) (g' : Nat → Bool) (w' : World) : Prop where
  up : g' = updG g j
  below : j ≠ p → Below w.heap.size w w'
theorem updG_same (g : Nat → Bool) (i : Nat) : updG g i i = true := by unfold updG; simp
theorem updG_ne (g : Nat → Bool) {i j : Nat} (h : j ≠ i) : updG g i j = g j := by unfold updG; rw [if_neg h]
/-- An operation other than p comes up. -/
theorem InvP.step {T : Nat → Prop} {W : World} {p : Nat} {must : List Nat} {g : Nat → Bool} {w w' : World} (h : InvP T W p must g w) {i : Nat} (hi : i ≠ p) (hb : Below w.heap.size w w') : InvP T W p must (updG g i) w' :=
  ⟨fun e j hj => by
      rw [updG_ne g (fun e => hi e.symm)] at e
      have := h.must e j hj
      unfold updG; split
      · rfl
      · exact this,
    h.moved.trans (.of_below hb), fun e => by
      rw [updG_ne g (fun e => hi e.symm)] at e
      exact (h.below e).trans (hb.mono h.moved.size)⟩
theorem InvP.off {T : Nat → Prop} {W : World} {p : Nat} {must : List Nat} {g : Nat → Bool} {w : World} (h : InvP T W p must g w) {i : Nat} (hi : g i = false) (hm : i ∈ must) : g p = false := by
  cases e : g p with
  | false => rfl
  | true => have := h.must e i hm; rw [hi] at this; cases this
theorem InvP.end_ {T : Nat → Prop} {W : World} {p : Nat} {must : List Nat} {g : Nat → Bool} {w w' : World} (h : InvP T W p must g w) (hm : ∀ i ∈ must, g i = true) (hb : Moved T W w') : InvP T W p must (updG g p) w' :=
  ⟨fun _ j hj => by unfold updG; split; rfl; exact hm j hj, hb, fun e => by rw [updG_same] at e; cases e⟩
theorem dirP_any {a0 : Act} {W : World} (T : Nat → Prop) (p : Nat) (must : List Nat) (m : Nat) (pre : List (List (Nat × Nat))) (all : List (Nat × Nat)) (Vs : List (Value → Prop)) (Ws : List (Value → World → Prop)) (Post : Value → World → Prop) (chk : rgChkM ops m pre = true) (chk2 : allChkM ops m all = true) (chk3 : tailChk ops m = true) (hmn : m ≤ ops.size) (hst : DStabL Ws) (hpo : DStab Post)
    (steps : StepsL P ops Q a0 pre (InvP T W p must) (FactP p Vs Ws Post) (StepP p) (fun i g => g i = false) (ops.toList.take m) 0) (hp : p < m)
    (fin : ∀ vs w, Moved T W w → Post (vs p) w → (∀ i, i < m → Vs.getD i (fun _ => True) (vs i)) → wpOps P ops (NoPanic Q) (List.range' m (ops.size - m)) (fill a0 vs all) w) :
    wpAny P .any ops (NoPanic Q) ops.size (Array.replicate ops.size false) a0 W.drew :=
  tail_planM (Γ := Nat → Bool) (g0 := fun _ => false) m pre all chk chk2 chk3 hmn (InvP T W p must) (FactP p Vs Ws Post) (StepP p) (fun i g => g i = false)
    (fun i j v g w g' w' hij _ h hG => by
      obtain ⟨rfl, hb⟩ := hG
      refine ⟨by rw [updG_ne g hij]; exact h.up, h.val, fun e => ?_, fun e => ?_⟩
      · by_cases ejp : j = p
        · subst ejp; rw [updG_same] at e; cases e
        · rw [updG_ne g (fun e => ejp e.symm)] at e
          exact dstabL_at hst i v w w' (h.raw e) (hb ejp)
      · exact hpo v w w' (h.post e) (hb (fun e2 => hij (e.trans e2.symm))))
    (fun i j g w g' w' hij h hG => by obtain ⟨rfl, _⟩ := hG; exact (updG_ne g hij).trans h)
    ⟨fun e => (by cases e), .of_below (below_drewN' (Below.refl _ _) 1), fun _ => below_drewN' (Below.refl _ _) 1⟩ (fun _ => rfl) steps (fun vs g w h hr => fin vs w h.moved ((hr p hp).post rfl) fun i hi => (hr i hi).val)
theorem dirP_plain {id : Nat} {a0 : Act} {W : World} (hm : P.follows .mixedOrders = true) (T : Nat → Prop) (p : Nat) (must : List Nat) (m : Nat) (pre : List (List (Nat × Nat))) (all : List (Nat × Nat)) (Vs : List (Value → Prop)) (Ws : List (Value → World → Prop)) (Post : Value → World → Prop) (chk : rgChkM ops m pre = true) (chk2 : allChkM ops m all = true) (chk3 : tailChk ops m = true) (hmn : m ≤ ops.size) (hst : DStabL Ws) (hpo : DStab Post)
    (steps : StepsL P ops Q a0 pre (InvP T W p must) (FactP p Vs Ws Post) (StepP p) (fun i g => g i = false) (ops.toList.take m) 0) (hp : p < m)
    (fin : ∀ vs w, Moved T W w → Post (vs p) w → (∀ i, i < m → Vs.getD i (fun _ => True) (vs i)) → wpOps P ops (NoPanic Q) (List.range' m (ops.size - m)) (fill a0 vs all) w) :
    (Code.region id ops true).wp P Q a0 W := wp_region_noPanic (wp_region_any hm (dirP_any T p must m pre all Vs Ws Post chk chk2 chk3 hmn hst hpo steps hp fin))
end
end Go.Proofs.YtcfdpimpleniaaaDoor
namespace Go.Proofs.YtcfdpimpleniaaaDoor
open Go.RowKit
set_option maxRecDepth 100000
set_option linter.unusedVariables false
set_option linter.unusedSimpArgs false

def byC (d : Int) : List Value := [.int .u8 d]
theorem byC_len (d : Int) : (byC d).length = 1 := rfl
theorem byC_flat (l : List Int) : l.flatMap byC = l.map (Value.int .u8) := by
  induction l with
  | nil => rfl
  | cons d l ih => rw [List.flatMap_cons, ih]; rfl
theorem elemB : ElemT Tryd.prog 31 5 1 byC := by
  obtain ⟨i0, hi, hz0, hz1, hz2⟩ := info_parts infoB
  exact ⟨Tryd.underlying31, ⟨i0, _, hi, hz0, hz1, by rw [hz2]; decide, rfl⟩, by decide, fun _ => rfl, fun x u hu => by simp [byC] at hu; subst hu; rfl⟩
/-- A row v of one's own has become v', with the bytes l. -/
structure Grew (w : World) (base : Nat) (v : Value) (l : List Int) (v' : Value) (w' : World) : Prop where
  row : OwnK w' base 5 .u8 v' l
  moved : Moved (fun b => v.ownBlock = some b) w w'
  own : ∀ b, v'.ownBlock = some b → v.ownBlock = some b ∨ w.heap.size ≤ b
theorem Grew.refl {w : World} {base : Nat} {v : Value} {l : List Int} (h : OwnK w base 5 .u8 v l) : Grew w base v l v w := ⟨h, Moved.refl _ _, fun b hb => .inl hb⟩
theorem Grew.trans {w w1 w2 : World} {base : Nat} {v v1 v2 : Value} {l1 l2 : List Int} (h : Grew w base v l1 v1 w1) (k : Grew w1 base v1 l2 v2 w2) : Grew w base v l2 v2 w2 :=
  ⟨k.row, ⟨k.moved.os.trans h.moved.os, k.moved.tape.trans h.moved.tape, k.moved.output.trans h.moved.output, Nat.le_trans h.moved.size k.moved.size, fun b hb hn => (k.moved.block b (Nat.lt_of_lt_of_le hb h.moved.size) (fun e => (h.own b e).elim hn (fun e2 => by omega))).trans (h.moved.block b hb hn)⟩,
    fun b hb => (k.own b hb).elim (h.own b) (fun e => .inr (Nat.le_trans h.moved.size e))⟩
/-- Fresh memory ahead of the growing. -/
theorem Grew.ahead {w w1 w2 : World} {base : Nat} {v v2 : Value} {l : List Int} (h : Below w.heap.size w w1) (k : Grew w1 base v l v2 w2) : Grew w base v l v2 w2 :=
  ⟨k.row, ⟨k.moved.os.trans h.os, k.moved.tape.trans h.tape, k.moved.output.trans h.output, Nat.le_trans h.size k.moved.size, fun b hb hn => (k.moved.block b (Nat.lt_of_lt_of_le hb h.size) hn).trans (h.block b hb)⟩,
    fun b hb => (k.own b hb).imp id (fun e => Nat.le_trans h.size e)⟩
theorem OwnK.nextB {w w' : World} {base : Nat} {v : Value} {l : List Int} (h : OwnK w base 5 .u8 v l) (hb : Below w.heap.size w w') : OwnK w' base 5 .u8 v l := h.keep_ fun g hg => hb.block g (World.ownsRow.lt h g hg).2
theorem Grew.behind {w w1 w2 : World} {base : Nat} {v v1 : Value} {l : List Int} (h : Grew w base v l v1 w1) (k : Below w1.heap.size w1 w2) : Grew w base v l v1 w2 :=
  ⟨h.row.nextB k, h.moved.trans (.of_below k), h.own⟩
theorem Grew.below {w w' : World} {base B : Nat} {v v' : Value} {l : List Int} (h : Grew w base v l v' w') (hv : ∀ b, v.ownBlock = some b → B ≤ b) (hB : B ≤ w.heap.size) : Below B w w' :=
  ⟨h.moved.os, h.moved.tape, h.moved.output, h.moved.size, fun k hk => h.moved.block k (by omega) (fun e => by have := hv k e; omega)⟩
theorem Grew.dst {w : World} {base : Nat} {v : Value} {l : List Int} : DStab (fun v' w' => Grew w base v l v' w') := fun v' w1 w2 h hb => h.behind hb
theorem grown_moved {w w' : World} {v : Value} (h : w.grownBy w' v.ownBlock) : Moved (fun b => v.ownBlock = some b) w w' :=
  ⟨h.os, h.tape, h.output, h.size, fun g hg hn => h.block g hg (fun e => hn e.symm)⟩
/-- append of literal bytes. -/
theorem wp_grow_lit {ops : Array Oper} {rest : List Oper} {o : Oper} {a : Act} {Q : Exit → Act → World → Prop} {w : World} (hgd : o.guard = none) (s x : Operand)
    (ho : o.op = .call { callee := .builtin .append, args := #[s, x], argTypes := #[31, 31] }) (base : Nat) (v : Value) (ys : List Int) (hs : a.eval s = v) (hown : OwnK w base 5 .u8 v ys)
    (xs : List Int) (n c : Nat) (hx : a.eval x = .slice (some ⟨w.heap.size, 0, none⟩) n c) (hn : n = xs.length) (h1 : ys.length + xs.length ≤ 1000000) (hbase : base ≤ w.heap.size)
    (h : ∀ v' w', Grew w base v (ys ++ xs) v' w' → wpList Tryd.prog ops Q rest (a.put o.dst v') w') : wpList Tryd.prog ops Q (o :: rest) a (w.alloc (.cells (xs.map (Value.int .u8)).toArray 5)) := by
  have hb : Below w.heap.size w (w.alloc (.cells (xs.map (Value.int .u8)).toArray 5)) := (Below.refl _ _).alloc (Nat.le_refl _) _
  have hrow := row_lit (C := byC) (w := w) (t := 5) byC_len xs
  rw [byC_flat] at hrow
  refine wp_app_row elemB hgd s x ho base v ys.length (ys.map (Value.int .u8)) hs (World.ownsRow.alloc hown _) (some ⟨w.heap.size, 0, none⟩) c n xs (fun g => w.heap.size ≤ g) hx hn hrow (fun h => by cases h) (by omega) (by simp; omega) fun v' w' k1 k2 k3 => h v' w' ?_
  rw [byC_flat, ← List.map_append, hn, ← List.length_append] at k1
  refine Grew.ahead hb ⟨k1, grown_moved k2, fun b hb => ?_⟩
  rcases k3 with k3 | k3
  · rw [k3] at hb; exact .inl hb
  · rw [k3] at hb; injection hb with hb; exact .inr (by omega)
end Go.Proofs.YtcfdpimpleniaaaDoor
namespace Go.Proofs.YtcfdpimpleniaaaDoor
open Go.RowKit Go.Maps
set_option maxRecDepth 100000
set_option linter.unusedVariables false
set_option linter.unusedSimpArgs false

theorem back_map {t : List Int} (h : UB t) : (t.map rgOf).map rgB = t := by
  rw [List.map_map]
  conv => rhs; rw [← List.map_id t]
  exact List.map_congr_left fun x hx => rg_forth (h x hx)
structure Back (b : List Int) (P : PrS) : Prop where
  ok : Okh P.h
  form : formB P.h = b.take P.n
  n1 : 1 ≤ P.n
  n2 : P.n ≤ b.length
theorem take_dgt {t : List Int} {k : Nat} (h : k + 2 ≤ t.length) : t.take (k + 2) = t.take k ++ [dgt t k, dgt t (k + 1)] := by
  rw [List.take_succ_eq_append_getElem (by omega), List.take_succ_eq_append_getElem (by omega), dgt_lt (by omega), dgt_lt (by omega), List.append_assoc]; rfl
theorem parse_ok {b : List Int} (hU : UB b) (he : (parseH b).e = 0) : Back b (parseH b) := by
  match b, hU, he with
  | [], _, he => exact absurd he (by show (4 : Int) ≠ 0; decide)
  | x :: b1, hU, he =>
    have d0 : dgt (x :: b1) 0 = x := rfl
    have e0 : parseH (x :: b1) = if x < 1 ∨ 5 < x then badP 5 else if x < 3 then ⟨⟨x, 0, [], 0⟩, 1, 0⟩ else if (x :: b1).length < 2 then badP 4 else parseK (x :: b1) x (dgt (x :: b1) 1) := by
      unfold parseH; rw [if_neg (by simp), d0]
    rw [e0] at he ⊢
    by_cases h1 : x < 1 ∨ 5 < x
    · rw [if_pos h1] at he; exact absurd he (by show (5 : Int) ≠ 0; decide)
    rw [if_neg h1] at he ⊢
    by_cases h2 : x < 3
    · rw [if_pos h2]
      refine ⟨⟨by simp only; omega, by simp only; omega, by simp only; omega, by simp only; omega, by simp only; omega, fun _ => rfl, fun _ => rfl, fun _ => rfl⟩, ?_, by simp, by simp⟩
      unfold formB
      rw [if_neg (by simp only; omega), if_neg (by simp only; omega), if_neg (by simp only; omega)]; rfl
    rw [if_neg h2] at he ⊢
    match b1, hU, he with
    | [], _, he => exact absurd he (by show (4 : Int) ≠ 0; decide)
    | y :: t, hU, he =>
      have d1 : dgt (x :: y :: t) 1 = y := rfl
      rw [d1, if_neg (by simp)] at he ⊢
      have hUt : UB t := fun z hz => hU z (by simp [hz])
      by_cases h3 : x = 3
      · subst h3
        have e1 : parseK (3 :: y :: t) 3 y = if y < 3 ∨ 64 < y then badP 6 else ⟨⟨3, y, [], 0⟩, 2, 0⟩ := by unfold parseK; rw [if_pos rfl]
        rw [e1] at he ⊢
        by_cases h4 : y < 3 ∨ 64 < y
        · rw [if_pos h4] at he; exact absurd he (by show (6 : Int) ≠ 0; decide)
        rw [if_neg h4]
        refine ⟨⟨by simp only; omega, by simp only; omega, by simp only; omega, by simp only; omega, by simp only; omega, fun h => absurd rfl h, fun _ => rfl, fun _ => rfl⟩, ?_, by simp, by simp⟩
        unfold formB
        rw [if_pos rfl, if_neg (by simp only; omega), if_neg (by simp only; omega)]; rfl
      have e1 : parseK (x :: y :: t) x y = if y < 1 ∨ 64 < y then badP 6 else parseR (x :: y :: t) x y.toNat := by unfold parseK; rw [if_neg h3]
      rw [e1] at he ⊢
      by_cases h4 : y < 1 ∨ 64 < y
      · rw [if_pos h4] at he; exact absurd he (by show (6 : Int) ≠ 0; decide)
      rw [if_neg h4] at he ⊢
      obtain ⟨k, rfl⟩ : ∃ k : Nat, y = k := ⟨y.toNat, by omega⟩
      rw [Int.toNat_natCast] at he ⊢
      have e2 : ksOf (x :: (k : Int) :: t) k = (t.take k).map rgOf := rfl
      unfold parseR at he ⊢
      rw [e2] at he ⊢
      by_cases h5 : (x :: (k : Int) :: t).length < 2 + k
      · rw [if_pos h5] at he; exact absurd he (by show (4 : Int) ≠ 0; decide)
      rw [if_neg h5] at he ⊢
      have hkl : k ≤ t.length := by simp at h5; omega
      by_cases h6 : anyBad ((t.take k).map rgOf) = true
      · rw [if_pos h6] at he; exact absurd he (by show (7 : Int) ≠ 0; decide)
      rw [if_neg h6] at he ⊢
      have hbad : anyBad ((t.take k).map rgOf) = false := by simpa using h6
      have hlk : ((t.take k).map rgOf).length = k := by simp; omega
      have hbk : ((t.take k).map rgOf).map rgB = t.take k := back_map (hUt.take k)
      by_cases h7 : x = 4
      · subst h7
        rw [if_pos rfl]
        refine ⟨⟨by simp only; omega, by simp only; omega, fun _ => by simp only; omega, fun _ => hbad, by simp only; omega, fun _ => rfl, by simp only; omega, fun _ => rfl⟩, ?_, by simp only; omega, by simp; omega⟩
        unfold formB
        simp only
        rw [if_neg (by omega), if_pos (by omega), if_neg (by omega), hbk, hlk, show 2 + k = k + 1 + 1 by omega]
        simp
      rw [if_neg h7] at he ⊢
      obtain rfl : x = 5 := by omega
      unfold parseP at he ⊢
      rw [e2] at he ⊢
      by_cases h8 : (5 :: (k : Int) :: t).length < 4 + k
      · rw [if_pos h8] at he; exact absurd he (by show (4 : Int) ≠ 0; decide)
      rw [if_neg h8] at he ⊢
      have hkl2 : k + 2 ≤ t.length := by simp at h8; omega
      have e3 : ptsOf (5 :: (k : Int) :: t) k = dgt t k + 256 * dgt t (k + 1) := by
        unfold ptsOf; rw [show 2 + k = k + 1 + 1 by omega, show 3 + k = k + 1 + 1 + 1 by omega]; rfl
      rw [e3] at he ⊢
      by_cases h9 : dgt t k + 256 * dgt t (k + 1) < 1 ∨ 4096 < dgt t k + 256 * dgt t (k + 1)
      · rw [if_pos h9] at he; exact absurd he (by show (6 : Int) ≠ 0; decide)
      rw [if_neg h9]
      have b0 := hUt.dgt k
      have b1 := hUt.dgt (k + 1)
      refine ⟨⟨by simp only; omega, by simp only; omega, fun _ => by simp only; omega, fun _ => hbad, fun _ => by simp only; omega, fun _ => rfl, by simp only; omega, fun h => absurd rfl h⟩, ?_, by simp only; omega, by simp; omega⟩
      unfold formB
      simp only
      rw [if_neg (by omega), if_pos (by omega), if_pos trivial, hbk, hlk, show 4 + k = k + 2 + 1 + 1 by omega, show (dgt t k + 256 * dgt t (k + 1)) % 256 = dgt t k by omega, show (dgt t k + 256 * dgt t (k + 1)) / 256 = dgt t (k + 1) by omega]
      simp only [List.take_succ_cons, take_dgt hkl2]
      simp
end Go.Proofs.YtcfdpimpleniaaaDoor
namespace Go.Proofs.YtcfdpimpleniaaaDoor
open Go.RowKit
set_option maxRecDepth 100000
set_option linter.unusedVariables false
set_option linter.unusedSimpArgs false
namespace Net

theorem div_low {x h i : Nat} (hi : i < h) : (x * (2 * h) + i) / h % 2 = 0 := by
  have : (x * (2 * h) + i) / h = 2 * x := by
    rw [show x * (2 * h) + i = i + h * (2 * x) by rw [show x * (2 * h) = h * (2 * x) by rw [Nat.mul_comm, Nat.mul_right_comm, Nat.mul_comm h, Nat.mul_assoc]]; omega]
    rw [Nat.add_mul_div_left _ _ (by omega), Nat.div_eq_of_lt hi, Nat.zero_add]
  omega
theorem div_high {x h i : Nat} (hi : i < h) : (x * (2 * h) + (i + h)) / h % 2 = 1 := by
  have : (x * (2 * h) + (i + h)) / h = 2 * x + 1 := by
    rw [show x * (2 * h) + (i + h) = i + h * (2 * x + 1) by rw [Nat.mul_add, show x * (2 * h) = h * (2 * x) by rw [Nat.mul_comm, Nat.mul_right_comm, Nat.mul_comm h, Nat.mul_assoc]]; omega]
    rw [Nat.add_mul_div_left _ _ (by omega), Nat.div_eq_of_lt hi, Nat.zero_add]
  omega
/- The same on numbers, and by single comparators. -/
def app (s : Nat → Int) (c : Nat × Nat) : Nat → Int := fun x => if x = c.1 then min (s c.1) (s c.2) else if x = c.2 then max (s c.1) (s c.2) else s x
def low (j x : Nat) : Nat := if x / j % 2 = 0 then x else x - j
theorem parts {j : Nat} (hj : 0 < j) (x : Nat) : ∃ u v, v < j ∧ ((x = 2 * j * u + v ∧ x / j % 2 = 0) ∨ (x = 2 * j * u + (v + j) ∧ x / j % 2 = 1)) := by
  have hlt := Nat.mod_lt x (show 0 < 2 * j by omega)
  have hdm := Nat.div_add_mod x (2 * j)
  by_cases h : x % (2 * j) < j
  · refine ⟨x / (2 * j), x % (2 * j), h, .inl ⟨hdm.symm, ?_⟩⟩
    have := div_low (x := x / (2 * j)) (h := j) h
    rwa [Nat.mul_comm (x / (2 * j)), hdm] at this
  · refine ⟨x / (2 * j), x % (2 * j) - j, by omega, .inr ⟨by omega, ?_⟩⟩
    have := div_high (x := x / (2 * j)) (h := j) (i := x % (2 * j) - j) (by omega)
    rwa [Nat.mul_comm (x / (2 * j)), show x % (2 * j) - j + j = x % (2 * j) by omega, hdm] at this
/- Lists. -/
/-- Comparators within n. -/
def Within (n : Nat) (cs : List (Nat × Nat)) : Prop := ∀ c ∈ cs, c.1 < n ∧ c.2 < n ∧ c.1 ≠ c.2
/- All rounds. -/
end Net
end Go.Proofs.YtcfdpimpleniaaaDoor
namespace Go.Proofs.YtcfdpimpleniaaaDoor
open Go.RowKit
set_option maxRecDepth 100000
set_option linter.unusedVariables false
set_option linter.unusedSimpArgs false

/-- A record. -/
structure Rc where
  live : Int
  id : Int
  deriving DecidableEq
def rcC (r : Rc) : List Value := [.int .u64 r.live, .int .u64 r.id]
theorem rcC_len (r : Rc) : (rcC r).length = 2 := rfl
/-- The place of a clean record in the order. -/
def rankR (r : Rc) : Int := if r.live % 2 = 1 then r.id else 18446744073709551616
def ranks (l : List Rc) : List Int := l.map rankR
end Go.Proofs.YtcfdpimpleniaaaDoor
namespace Go.Proofs.YtcfdpimpleniaaaDoor
open Go

/-! ### Requests -/
abbrev RgD := (Bool × Int) × List Pt
def rgD (r : Rg) : RgD := (rgK r, r.l)
structure Rqd where
  h : Hq
  rs : List RgD
  ps : List Pt
  qs : List Qr
def cntP (h : Hq) : Int := if h.op = 1 then 3 else if h.op = 2 then 4 else if h.op = 3 then h.vs + 1 else if h.op = 4 then 1 else 0
def cntQ (h : Hq) : Int := if h.op = 1 ∨ h.op = 2 ∨ h.op = 3 ∨ h.op = 4 then 0 else h.pts
def lens : List RgD → List (Bool × Int) → Bool
  | r :: rs, k :: ks => decide ((r.2.length : Int) = sizeF k.2) && lens rs ks
  | _, _ => true
def kinds (rs : List RgD) (ks : List (Bool × Int)) : Bool := decide (rs.map Prod.fst = ks)
/-- The error of Encode. -/
def encE (r : Rqd) (p : Bool) : Int :=
  if formErr r.h p ≠ 0 then formErr r.h p
  else if ¬ (r.rs.length = r.h.ks.length ∧ (r.ps.length : Int) = cntP r.h ∧ (r.qs.length : Int) = cntQ r.h) then 8
  else if lens r.rs r.h.ks = false then 8
  else if kinds r.rs r.h.ks = false then 2 else 0
def rgsB (rs : List RgD) : List Int := rs.flatMap fun r => r.2.flatMap ptB
def encB (r : Rqd) : List Int := formB r.h ++ (rgsB r.rs ++ (r.ps.flatMap ptB ++ r.qs.flatMap qrB))
/-- What Decode gives where there is no error. -/
def regsAt (b : List Int) : List (Bool × Int) → Nat → List RgD
  | [], _ => []
  | k :: ks, at_ => (k, ptsAt b at_ (sizeF k.2).toNat) :: regsAt b ks (at_ + 16 * (sizeF k.2).toNat)
def decR (b : List Int) : Rqd :=
  let P := parseH b
  let o := P.n + 16 * (ptsK P.h.ks).toNat
  ⟨P.h, regsAt b P.h.ks P.n, ptsAt b o (cntP P.h).toNat, qrsAt b o (cntQ P.h).toNat⟩
theorem ptsK_cons (k : Bool × Int) (ks : List (Bool × Int)) : ptsK (k :: ks) = sizeF k.2 + ptsK ks := rfl
theorem ptsK_nn : ∀ ks : List (Bool × Int), 0 ≤ ptsK ks
  | [] => by simp [ptsK]
  | k :: ks => by have := ptsK_nn ks; have := sizeF_bd k.2; rw [ptsK_cons]; omega
theorem sizeF_nn (v : Int) : 0 ≤ sizeF v := by have := sizeF_bd v; omega
theorem regsAt_append (b : List Int) : ∀ (a c : List (Bool × Int)) (at_ : Nat), regsAt b (a ++ c) at_ = regsAt b a at_ ++ regsAt b c (at_ + 16 * (ptsK a).toNat)
  | [], c, at_ => by simp [regsAt, ptsK]
  | k :: a, c, at_ => by
    have h1 := sizeF_nn k.2
    have h2 := ptsK_nn a
    show (k, _) :: regsAt b (a ++ c) _ = (k, _) :: (regsAt b a _ ++ _)
    rw [regsAt_append b a c, ptsK_cons, show at_ + 16 * (sizeF k.2).toNat + 16 * (ptsK a).toNat = at_ + 16 * (sizeF k.2 + ptsK a).toNat by omega]
theorem regsAt_len (b : List Int) : ∀ (ks : List (Bool × Int)) (at_ : Nat), (regsAt b ks at_).length = ks.length
  | [], _ => rfl
  | k :: ks, at_ => by show (regsAt b ks _).length + 1 = _; rw [regsAt_len b ks]; rfl
theorem regsAt_kinds (b : List Int) : ∀ (ks : List (Bool × Int)) (at_ : Nat), (regsAt b ks at_).map Prod.fst = ks
  | [], _ => rfl
  | k :: ks, at_ => by show k :: (regsAt b ks _).map Prod.fst = _; rw [regsAt_kinds b ks]
theorem regsAt_lens (b : List Int) : ∀ (ks : List (Bool × Int)) (at_ : Nat), lens (regsAt b ks at_) ks = true
  | [], _ => rfl
  | k :: ks, at_ => by
    have h1 := sizeF_nn k.2
    show (decide (((ptsAt b at_ (sizeF k.2).toNat).length : Int) = sizeF k.2) && lens (regsAt b ks _) ks) = true
    rw [regsAt_lens b ks, show (ptsAt b at_ (sizeF k.2).toNat).length = (sizeF k.2).toNat from listAt_len _ _ _ _]
    simp; omega
theorem regsAt_back {b : List Int} (h : UB b) : ∀ (ks : List (Bool × Int)) (at_ : Nat), at_ + 16 * (ptsK ks).toNat ≤ b.length → rgsB (regsAt b ks at_) = (b.drop at_).take (16 * (ptsK ks).toNat)
  | [], _, _ => by simp [regsAt, rgsB, ptsK]
  | k :: ks, at_, hl => by
    have h1 := sizeF_nn k.2
    have h2 := ptsK_nn ks
    rw [ptsK_cons] at hl ⊢
    show (ptsAt b at_ (sizeF k.2).toNat).flatMap ptB ++ rgsB (regsAt b ks _) = _
    rw [regsAt_back h ks _ (by omega), show (ptsAt b at_ (sizeF k.2).toNat).flatMap ptB = (b.drop at_).take ((sizeF k.2).toNat * 16) from listAt_back (fun a ha => ptAt_back h ha) _ _ (by omega),
      show 16 * (sizeF k.2 + ptsK ks).toNat = (sizeF k.2).toNat * 16 + 16 * (ptsK ks).toNat by omega, take_two, Nat.mul_comm 16 (sizeF k.2).toNat]
theorem regsAt_in : ∀ (rs : List RgD) (a c : List Int), (∀ r ∈ rs, SsP r.2 ∧ (r.2.length : Int) = sizeF r.1.2) → regsAt (a ++ (rgsB rs ++ c)) (rs.map Prod.fst) a.length = rs
  | [], _, _, _ => rfl
  | r :: rs, a, c, h => by
    obtain ⟨h1, h2⟩ := h r (by simp)
    have e1 := listAt_in (f := ptAt) ptB_len r.2 a (rgsB rs ++ c) fun p hp a c => ptAt_in (h1 p hp) a c
    have e2 := regsAt_in rs (a ++ r.2.flatMap ptB) c fun q hq => h q (by simp [hq])
    have hl : (r.2.flatMap ptB).length = 16 * r.2.length := by
      have : ∀ l : List Pt, (l.flatMap ptB).length = 16 * l.length := fun l => by
        induction l with
        | nil => rfl
        | cons p l ih => rw [List.flatMap_cons, List.length_append, ih, ptB_len, List.length_cons]; omega
      exact this _
    rw [List.length_append, hl] at e2
    have hr : rgsB (r :: rs) = r.2.flatMap ptB ++ rgsB rs := rfl
    rw [hr]
    simp only [List.append_assoc] at e1 e2 ⊢
    show (r.1, ptsAt _ a.length (sizeF r.1.2).toNat) :: regsAt _ (rs.map Prod.fst) (a.length + 16 * (sizeF r.1.2).toNat) = r :: rs
    rw [← h2, Int.toNat_natCast, e2]
    unfold ptsAt
    rw [e1]
/-! ### Encode and Decode are inverse -/
theorem payL_eq {h : Hq} (k : Okh h) : payL h = 16 * ptsK h.ks + 16 * cntP h + 24 * cntQ h := by
  have h1 := k.op
  unfold payL cntP cntQ
  by_cases e1 : h.op = 1
  · rw [k.len0 (by omega)]; simp [e1, ptsK]
  by_cases e2 : h.op = 2
  · rw [k.len0 (by omega)]; simp [e2, ptsK]
  by_cases e3 : h.op = 3
  · rw [k.len0 (by omega)]; simp [e3, ptsK]
  by_cases e4 : h.op = 4
  · simp [e4]; omega
  · simp [e1, e2, e3, e4]
theorem cnt_nn {h : Hq} (k : Okh h) : 0 ≤ cntP h ∧ cntP h ≤ 65 ∧ 0 ≤ cntQ h ∧ cntQ h ≤ 4096 := by
  have h1 := k.op
  unfold cntP cntQ
  have h3 := k.vs3
  have h5 := k.pts5
  refine ⟨?_, ?_, ?_, ?_⟩ <;> (repeat' split) <;> omega
def OkQ (q : Qr) : Prop := (S q.p.x ∧ S q.p.y) ∧ U q.id
theorem flatK_len {α : Type} {B : α → List Int} {k : Nat} (hB : ∀ x, (B x).length = k) : ∀ l : List α, (l.flatMap B).length = k * l.length
  | [] => rfl
  | x :: l => by rw [List.flatMap_cons, List.length_append, flatK_len hB l, hB, List.length_cons, Nat.mul_succ, Nat.add_comm]
theorem rgs_len : ∀ {rs : List RgD} {ks : List (Bool × Int)}, rs.length = ks.length → lens rs ks = true → ((rgsB rs).length : Int) = 16 * ptsK ks
  | [], [], _, _ => rfl
  | r :: rs, k :: ks, hl, h => by
    simp only [lens, Bool.and_eq_true, decide_eq_true_eq] at h
    have h1 := rgs_len (rs := rs) (ks := ks) (by simpa using hl) h.2
    show (((r.2.flatMap ptB) ++ rgsB rs).length : Int) = _
    rw [List.length_append, flatK_len ptB_len, ptsK_cons]
    have := h.1
    push_cast
    omega
  | [], _ :: _, hl, _ => by simp at hl
  | _ :: _, [], hl, _ => by simp at hl
theorem lens_each : ∀ {rs : List RgD} {ks : List (Bool × Int)}, rs.map Prod.fst = ks → lens rs ks = true → ∀ r ∈ rs, (r.2.length : Int) = sizeF r.1.2
  | [], _, _, _ => fun r hr => by cases hr
  | r :: rs, [], e, _ => by cases e
  | r :: rs, k :: ks, e, h => fun q hq => by
    rw [List.map_cons] at e
    injection e with e1 e2
    simp only [lens, Bool.and_eq_true, decide_eq_true_eq] at h
    rcases List.mem_cons.1 hq with rfl | hq
    · rw [h.1, e1]
    · exact lens_each e2 h.2 q hq
theorem encE_ok {r : Rqd} {p : Bool} (h : encE r p = 0) : Okh r.h ∧ p = false ∧ r.rs.length = r.h.ks.length ∧ (r.ps.length : Int) = cntP r.h ∧ (r.qs.length : Int) = cntQ r.h ∧ lens r.rs r.h.ks = true ∧ r.rs.map Prod.fst = r.h.ks := by
  unfold encE at h
  split at h
  · rename_i h1; exact absurd h h1
  split at h
  · cases h
  split at h
  · cases h
  split at h
  · cases h
  rename_i h1 h2 h3 h4
  have h1 : formErr r.h p = 0 := by simpa using h1
  obtain ⟨hk, hp⟩ := formErr_ok.1 h1
  have h2 : r.rs.length = r.h.ks.length ∧ (r.ps.length : Int) = cntP r.h ∧ (r.qs.length : Int) = cntQ r.h := Classical.not_not.1 h2
  have h4 : kinds r.rs r.h.ks = true := by simpa using h4
  exact ⟨hk, hp, h2.1, h2.2.1, h2.2.2, by simpa using h3, of_decide_eq_true h4⟩
theorem ub_flat {α : Type} {B : α → List Int} (hB : ∀ x, UB (B x)) (l : List α) : UB (l.flatMap B) := fun x hx => by
  obtain ⟨y, _, hy⟩ := List.mem_flatMap.1 hx
  exact hB y x hy
theorem encB_ub {r : Rqd} (k : Okh r.h) : UB (encB r) := (formB_ub k).app ((ub_flat (fun _ => ub_flat ptB_ub _) _).app ((ub_flat ptB_ub _).app (ub_flat qrB_ub _)))
/-- Encoding and then decoding. -/
theorem dec_enc {r : Rqd} {p : Bool} (h : encE r p = 0) (hS : ∀ x ∈ r.rs, SsP x.2) (hP : SsP r.ps) (hQ : ∀ q ∈ r.qs, OkQ q) : classH (encB r) = 0 ∧ decR (encB r) = r := by
  obtain ⟨hk, _, h1, h2, h3, h4, h5⟩ := encE_ok h
  obtain ⟨hd, rs, ps, qs⟩ := r
  simp only at hk h1 h2 h3 h4 h5 hS hP hQ
  have hl := rgs_len h1 h4
  have hcn := cnt_nn hk
  have hpn := ptsK_nn hd.ks
  have hpar : parseH (encB ⟨hd, rs, ps, qs⟩) = ⟨hd, (formB hd).length, 0⟩ := parse_form hk _
  constructor
  · unfold classH
    rw [hpar]
    simp only [if_true]
    rw [if_pos]
    rw [payL_eq hk]
    show ((formB hd ++ (rgsB rs ++ (ps.flatMap ptB ++ qs.flatMap qrB))).length : Int) = _
    rw [List.length_append, List.length_append, List.length_append, flatK_len ptB_len, flatK_len qrB_len]
    push_cast
    omega
  · unfold decR
    rw [hpar]
    simp only
    have e1 := regsAt_in rs (formB hd) (ps.flatMap ptB ++ qs.flatMap qrB) fun r hr => ⟨hS r hr, lens_each h5 h4 r hr⟩
    have e2 := listAt_in (f := ptAt) ptB_len ps (formB hd ++ rgsB rs) (qs.flatMap qrB) fun p hp a c => ptAt_in (hP p hp) a c
    have e3 := listAt_in (f := qrAt) qrB_len qs (formB hd ++ rgsB rs ++ ps.flatMap ptB) [] fun q hq a c => qrAt_in (hQ q hq) a c
    rw [List.length_append] at e2
    rw [List.length_append, List.length_append, flatK_len ptB_len, List.append_nil] at e3
    have hb : encB ⟨hd, rs, ps, qs⟩ = formB hd ++ (rgsB rs ++ (ps.flatMap ptB ++ qs.flatMap qrB)) := rfl
    rw [hb, ← h5, e1]
    simp only [List.append_assoc] at e2 e3
    rw [h5, show (formB hd).length + 16 * (ptsK hd.ks).toNat = (formB hd).length + (rgsB rs).length by omega]
    have ep : (cntP hd).toNat = ps.length := by omega
    have eq : (cntQ hd).toNat = qs.length := by omega
    rw [ep, eq]
    unfold ptsAt qrsAt
    rw [e2]
    by_cases h0 : qs = []
    · subst h0; rfl
    by_cases hp0 : ps = []
    · subst hp0
      simp only [List.flatMap_nil, List.nil_append, List.length_nil, Nat.mul_zero, Nat.add_zero] at e3 ⊢
      rw [e3]
    · exfalso
      have a1 : 0 < ps.length := List.length_pos_iff.2 hp0
      have a2 : 0 < qs.length := List.length_pos_iff.2 h0
      unfold cntP at h2
      unfold cntQ at h3
      have := hk.op
      split at h3
      · omega
      · repeat' split at h2
        all_goals omega
/-- Decoding and then encoding. -/
theorem enc_dec {b : List Int} (hU : UB b) (h : classH b = 0) : encE (decR b) false = 0 ∧ encB (decR b) = b ∧ Okh (decR b).h := by
  unfold classH at h
  by_cases he : (parseH b).e = 0
  · rw [if_pos he] at h
    obtain ⟨hk, hf, h1, h2⟩ := parse_ok hU he
    have hl : (b.length : Int) = (parseH b).n + payL (parseH b).h := by
      by_cases e : (b.length : Int) = (parseH b).n + payL (parseH b).h
      · exact e
      · rw [if_neg e] at h; cases h
    unfold decR
    generalize parseH b = P at *
    obtain ⟨hd, n, er⟩ := P
    simp only at *
    have hcn := cnt_nn hk
    have hpn := ptsK_nn hd.ks
    rw [payL_eq hk] at hl
    refine ⟨?_, ?_, hk⟩
    · unfold encE
      simp only
      rw [if_neg (by rw [formErr_ok.2 ⟨hk, rfl⟩]; simp), if_neg, if_neg (by rw [regsAt_lens]; simp), if_neg]
      · unfold kinds; rw [regsAt_kinds]; simp
      · refine Classical.not_not.2 ⟨regsAt_len _ _ _, ?_, ?_⟩
        · rw [show (ptsAt b (n + 16 * (ptsK hd.ks).toNat) (cntP hd).toNat).length = (cntP hd).toNat from listAt_len _ _ _ _]; omega
        · rw [show (qrsAt b (n + 16 * (ptsK hd.ks).toNat) (cntQ hd).toNat).length = (cntQ hd).toNat from listAt_len _ _ _ _]; omega
    · unfold encB
      simp only
      rw [hf, regsAt_back hU hd.ks n (by omega)]
      have hq : cntP hd = 0 ∨ cntQ hd = 0 := by
        unfold cntP cntQ
        by_cases e : hd.op = 1 ∨ hd.op = 2 ∨ hd.op = 3 ∨ hd.op = 4
        · rw [if_pos e]; exact .inr rfl
        · rw [if_neg (by omega), if_neg (by omega), if_neg (by omega), if_neg (by omega)]; exact .inl rfl
      have ep : (ptsAt b (n + 16 * (ptsK hd.ks).toNat) (cntP hd).toNat).flatMap ptB = (b.drop (n + 16 * (ptsK hd.ks).toNat)).take ((cntP hd).toNat * 16) := listAt_back (fun a ha => ptAt_back hU ha) _ _ (by omega)
      have eq : (qrsAt b (n + 16 * (ptsK hd.ks).toNat) (cntQ hd).toNat).flatMap qrB = (b.drop (n + 16 * (ptsK hd.ks).toNat)).take ((cntQ hd).toNat * 24) := listAt_back (fun a ha => qrAt_back hU ha) _ _ (by omega)
      rw [ep, eq]
      have hend : (b.drop (n + 16 * (ptsK hd.ks).toNat)).take ((cntP hd).toNat * 16) ++ (b.drop (n + 16 * (ptsK hd.ks).toNat)).take ((cntQ hd).toNat * 24) = b.drop (n + 16 * (ptsK hd.ks).toNat) := by
        have hdl : (b.drop (n + 16 * (ptsK hd.ks).toNat)).length = b.length - (n + 16 * (ptsK hd.ks).toNat) := List.length_drop
        rcases hq with e | e
        · rw [e]
          simp only [Int.toNat_zero, Nat.zero_mul, List.take_zero, List.nil_append]
          exact List.take_of_length_le (by omega)
        · rw [e]
          simp only [Int.toNat_zero, Nat.zero_mul, List.take_zero, List.append_nil]
          exact List.take_of_length_le (by omega)
      rw [hend, ← List.drop_drop, List.take_append_drop, List.take_append_drop]
  · rw [if_neg he] at h; exact absurd h he
/-! ### Answers -/
structure An where
  v : Int
  n : Int
  l : List Rc
  deriving DecidableEq
def mostA (op : Int) : Int := if op = 3 then 3 else if op = 5 then 1 else 2
def recsA : Int → List Rc → Bool
  | _, [] => true
  | n, x :: l => (if 0 < n then decide (x.live = 1) else decide (x.live = 0) && decide (x.id = 0)) && recsA (n - 1) l
def headA (h : Hq) (a : An) : Bool := decide (0 ≤ a.v) && decide (a.v ≤ mostA h.op) && decide ((a.l.length : Int) = h.pts) && decide (0 ≤ a.n) && decide (a.n ≤ h.pts) && !(decide (a.v = 0) && decide (0 < a.n))
def isA (h : Hq) (a : An) : Bool := headA h a && recsA a.n a.l
def rcB (r : Rc) : List Int := r.live :: digs 8 r.id
def rspB (h : Hq) (a : An) : List Int := [0, a.v] ++ ((if h.op = 5 then [a.n % 256, a.n / 256] else []) ++ a.l.flatMap rcB)
def rspE (h : Hq) (p : Bool) (a : An) : Int := if formErr h p ≠ 0 then formErr h p else if isA h a then 0 else 10
def rcAt (b : List Int) (at_ : Nat) : Rc := ⟨dgt b at_, wAt b (at_ + 1)⟩
def ansAt (h : Hq) (b : List Int) : An := ⟨dgt b 1, if h.op = 5 then dgt b 2 + 256 * dgt b 3 else 0, if h.op = 5 then listAt (rcAt b) 4 h.pts.toNat 9 else []⟩
/-- What Read gives: an answer and an error. -/
def readA (h : Hq) (p : Bool) (b : List Int) : An × Int :=
  if formErr h p ≠ 0 then (⟨0, 0, []⟩, formErr h p)
  else if b.length = 1 then (if 4 ≤ dgt b 0 ∧ dgt b 0 ≤ 8 then (⟨0, 0, []⟩, dgt b 0) else (⟨0, 0, []⟩, 10))
  else if (b.length : Int) ≠ rspL h then (⟨0, 0, []⟩, 8)
  else if dgt b 0 = 0 ∧ isA h (ansAt h b) = true then (ansAt h b, 0) else (⟨0, 0, []⟩, 10)
theorem rcB_len (r : Rc) : (rcB r).length = 9 := by unfold rcB; rw [List.length_cons, digs_len]
theorem rcAt_in {r : Rc} (h : U r.id) (a c : List Int) : rcAt (a ++ (rcB r ++ c)) a.length = r := by
  obtain ⟨x, i⟩ := r
  unfold rcAt rcB
  have h1 := wAt_in h (a ++ [x]) c
  rw [List.length_append] at h1
  simp only [List.append_assoc, List.singleton_append, List.length_singleton] at h1
  simp only [List.cons_append]
  rw [h1]
  congr 1
  unfold dgt
  simp
theorem recsA_live : ∀ {n : Int} {l : List Rc}, recsA n l = true → ∀ x ∈ l, x.live = 0 ∨ x.live = 1
  | _, [], _, x, hx => by cases hx
  | n, y :: l, h, x, hx => by
    simp only [recsA, Bool.and_eq_true] at h
    rcases List.mem_cons.1 hx with rfl | hx
    · have h1 := h.1
      split at h1
      · exact .inr (of_decide_eq_true h1)
      · rw [Bool.and_eq_true] at h1; exact .inl (of_decide_eq_true h1.1)
    · exact recsA_live h.2 x hx
theorem headA_iff {h : Hq} {a : An} : headA h a = true ↔ 0 ≤ a.v ∧ a.v ≤ mostA h.op ∧ (a.l.length : Int) = h.pts ∧ 0 ≤ a.n ∧ a.n ≤ h.pts ∧ (a.v = 0 → a.n ≤ 0) := by
  unfold headA
  simp only [Bool.and_eq_true, decide_eq_true_eq, Bool.not_eq_true', Bool.and_eq_false_iff, decide_eq_false_iff_not]
  constructor
  · rintro ⟨⟨⟨⟨⟨h1, h2⟩, h3⟩, h4⟩, h5⟩, h6⟩
    exact ⟨h1, h2, h3, h4, h5, fun e => by omega⟩
  · rintro ⟨h1, h2, h3, h4, h5, h6⟩
    exact ⟨⟨⟨⟨⟨h1, h2⟩, h3⟩, h4⟩, h5⟩, by omega⟩
/-- Reading what was responded. -/
theorem read_rsp {h : Hq} {p : Bool} {a : An} (he : rspE h p a = 0) (hU : ∀ x ∈ a.l, U x.id) : readA h p (rspB h a) = (a, 0) := by
  unfold rspE at he
  have hf : formErr h p = 0 := by
    by_cases e : formErr h p = 0
    · exact e
    · rw [if_pos e] at he; exact absurd he e
  rw [if_neg (by simpa using hf)] at he
  have hi : isA h a = true := by
    by_cases e : isA h a = true
    · exact e
    · rw [if_neg e] at he; cases he
  obtain ⟨hk, _⟩ := formErr_ok.1 hf
  have hh := hi
  unfold isA at hh
  rw [Bool.and_eq_true] at hh
  obtain ⟨g1, g2, g3, g4, g5, g6⟩ := headA_iff.1 hh.1
  obtain ⟨v, n, l⟩ := a
  simp only at g1 g2 g3 g4 g5 g6 hU
  have hop := hk.op
  have hp5 := hk.pts5
  have hp0 := hk.pts0
  have hlen : (rspB h ⟨v, n, l⟩).length = 2 + ((if h.op = 5 then 2 else 0) + 9 * l.length) := by
    unfold rspB
    rw [List.length_append, List.length_append, flatK_len rcB_len]
    split <;> rfl
  have hd1 : dgt (rspB h ⟨v, n, l⟩) 1 = v := rfl
  have hd0 : dgt (rspB h ⟨v, n, l⟩) 0 = 0 := rfl
  have hans : ansAt h (rspB h ⟨v, n, l⟩) = ⟨v, n, l⟩ := by
    unfold ansAt
    rw [hd1]
    by_cases e : h.op = 5
    · rw [if_pos e, if_pos e]
      have hb : rspB h ⟨v, n, l⟩ = [0, v, n % 256, n / 256] ++ (l.flatMap rcB ++ []) := by unfold rspB; rw [if_pos e]; simp
      have e3 := listAt_in (f := rcAt) rcB_len l [0, v, n % 256, n / 256] [] fun r hr a c => rcAt_in (hU r hr) a c
      rw [← hb] at e3
      have h2 : dgt (rspB h ⟨v, n, l⟩) 2 = n % 256 := by rw [hb]; rfl
      have h3 : dgt (rspB h ⟨v, n, l⟩) 3 = n / 256 := by rw [hb]; rfl
      rw [h2, h3, show h.pts.toNat = l.length by omega, show n % 256 + 256 * (n / 256) = n by omega]
      have e4 : listAt (rcAt (rspB h ⟨v, n, l⟩)) 4 l.length 9 = l := e3
      rw [e4]
    · rw [if_neg e, if_neg e]
      have := hp0 e
      have hl0 : l = [] := List.eq_nil_of_length_eq_zero (by omega)
      rw [hl0, show n = 0 by omega]
  unfold readA
  rw [if_neg (by simpa using hf), if_neg (by rw [hlen]; omega), if_neg, hans, if_pos ⟨hd0, hi⟩]
  rw [hlen]
  unfold rspL
  split <;> simp <;> omega
/-! ### Encode, check by check -/
theorem lens_iff : ∀ {rs : List RgD} {ks : List (Bool × Int)}, rs.length = ks.length → (lens rs ks = true ↔ ∀ (j : Nat) (h1 : j < rs.length) (h2 : j < ks.length), ((rs[j]).2.length : Int) = sizeF (ks[j]).2)
  | [], [], _ => ⟨fun _ j h1 => absurd h1 (by simp), fun _ => rfl⟩
  | r :: rs, k :: ks, hl => by
    have ih := lens_iff (rs := rs) (ks := ks) (by simpa using hl)
    simp only [lens, Bool.and_eq_true, decide_eq_true_eq, ih]
    constructor
    · rintro ⟨h0, h⟩ j h1 h2
      cases j with
      | zero => exact h0
      | succ j => exact h j (by simpa using h1) (by simpa using h2)
    · intro h
      exact ⟨h 0 (by simp) (by simp), fun j h1 h2 => h (j + 1) (by simpa using h1) (by simpa using h2)⟩
  | [], _ :: _, hl => by simp at hl
  | _ :: _, [], hl => by simp at hl
def LensTo (rs hrs : List Rg) (k : Nat) : Prop := ∀ (j : Nat) (h1 : j < rs.length) (h2 : j < hrs.length), j < k → ((rs[j]).l.length : Int) = sizeF (hrs[j]).v
def KindsTo (rs hrs : List Rg) (k : Nat) : Prop := ∀ (j : Nat) (h1 : j < rs.length) (h2 : j < hrs.length), j < k → rs[j].d = hrs[j].d ∧ rs[j].v = hrs[j].v
theorem LensTo.succ {rs hrs : List Rg} {k : Nat} (h : LensTo rs hrs k) (h1 : k < rs.length) (h2 : k < hrs.length) (e : ((rs[k]).l.length : Int) = sizeF (hrs[k]).v) : LensTo rs hrs (k + 1) := fun j g1 g2 hj => by
  by_cases ej : j = k
  · subst ej; exact e
  · exact h j g1 g2 (by omega)
theorem KindsTo.succ {rs hrs : List Rg} {k : Nat} (h : KindsTo rs hrs k) (h1 : k < rs.length) (h2 : k < hrs.length) (e : rs[k].d = hrs[k].d ∧ rs[k].v = hrs[k].v) : KindsTo rs hrs (k + 1) := fun j g1 g2 hj => by
  by_cases ej : j = k
  · subst ej; exact e
  · exact h j g1 g2 (by omega)
theorem lens_to {rs hrs : List Rg} (hl : rs.length = hrs.length) : lens (rs.map rgD) (hrs.map rgK) = true ↔ LensTo rs hrs rs.length := by
  rw [lens_iff (by simpa using hl)]
  constructor
  · intro h j h1 h2 _
    have := h j (by simpa using h1) (by simpa using h2)
    rw [List.getElem_map, List.getElem_map] at this
    exact this
  · intro h j h1 h2
    rw [List.getElem_map, List.getElem_map]
    exact h j (by simpa using h1) (by simpa using h2) (by simpa using h1)
theorem kinds_to {rs hrs : List Rg} (hl : rs.length = hrs.length) : kinds (rs.map rgD) (hrs.map rgK) = true ↔ KindsTo rs hrs rs.length := by
  unfold kinds
  rw [decide_eq_true_eq, List.map_map]
  constructor
  · intro h j h1 h2 _
    have h3 : (rs.map (Prod.fst ∘ rgD))[j]'(by simpa using h1) = (hrs.map rgK)[j]'(by simpa using h2) := by simp only [h]
    rw [List.getElem_map, List.getElem_map] at h3
    simp only [Function.comp, rgD, rgK, Prod.mk.injEq] at h3
    exact h3
  · intro h
    refine List.ext_getElem (by simpa using hl) fun j h1 h2 => ?_
    rw [List.getElem_map, List.getElem_map]
    have := h j (by simpa using h1) (by simpa using h2) (by simpa using h1)
    simp only [Function.comp, rgD, rgK, this.1, this.2]
theorem enc_fmt {r : Rqd} {p : Bool} (h : formErr r.h p ≠ 0) : encE r p = formErr r.h p := by unfold encE; rw [if_pos h]
theorem enc_cnt {r : Rqd} {p : Bool} (h0 : formErr r.h p = 0) (h : ¬ (r.rs.length = r.h.ks.length ∧ (r.ps.length : Int) = cntP r.h ∧ (r.qs.length : Int) = cntQ r.h)) : encE r p = 8 := by unfold encE; rw [if_neg (by simpa using h0), if_pos h]
theorem enc_len {r : Rqd} {p : Bool} (h0 : formErr r.h p = 0) (h1 : r.rs.length = r.h.ks.length ∧ (r.ps.length : Int) = cntP r.h ∧ (r.qs.length : Int) = cntQ r.h) (h : lens r.rs r.h.ks = false) : encE r p = 8 := by
  unfold encE; rw [if_neg (by simpa using h0), if_neg (Classical.not_not.2 h1), if_pos h]
theorem enc_kind {r : Rqd} {p : Bool} (h0 : formErr r.h p = 0) (h1 : r.rs.length = r.h.ks.length ∧ (r.ps.length : Int) = cntP r.h ∧ (r.qs.length : Int) = cntQ r.h) (h2 : lens r.rs r.h.ks = true) (h : kinds r.rs r.h.ks = false) : encE r p = 2 := by
  unfold encE; rw [if_neg (by simpa using h0), if_neg (Classical.not_not.2 h1), if_neg (by rw [h2]; simp), if_pos h]
theorem enc_ok {r : Rqd} {p : Bool} (h0 : formErr r.h p = 0) (h1 : r.rs.length = r.h.ks.length ∧ (r.ps.length : Int) = cntP r.h ∧ (r.qs.length : Int) = cntQ r.h) (h2 : lens r.rs r.h.ks = true) (h3 : kinds r.rs r.h.ks = true) : encE r p = 0 := by
  unfold encE; rw [if_neg (by simpa using h0), if_neg (Classical.not_not.2 h1), if_neg (by rw [h2]; simp), if_neg (by rw [h3]; simp)]
theorem rgsB_snoc {rs : List Rg} {k : Nat} (h : k < rs.length) : rgsB ((rs.take (k + 1)).map rgD) = rgsB ((rs.take k).map rgD) ++ (rs[k]).l.flatMap ptB := by
  rw [List.take_succ_eq_append_getElem h, List.map_append]
  unfold rgsB
  rw [List.flatMap_append]
  simp [rgD]
theorem flat_snoc {α : Type} (B : α → List Int) {l : List α} {k : Nat} (h : k < l.length) : (l.take (k + 1)).flatMap B = (l.take k).flatMap B ++ B l[k] := by
  rw [List.take_succ_eq_append_getElem h, List.flatMap_append]; simp
def qrC (q : Qr) : List Value := [.int .i64 q.p.x, .int .i64 q.p.y, .int .u64 q.id]
theorem qrC_len (q : Qr) : (qrC q).length = 3 := rfl
end Go.Proofs.YtcfdpimpleniaaaDoor
namespace Go.Proofs.YtcfdpimpleniaaaDoor
open Go.RowKit Go.Maps
set_option maxRecDepth 100000
set_option linter.unusedVariables false
set_option linter.unusedSimpArgs false

theorem box4 {w W : World} {t : TypeId} {a b c d : Value} (hW : W = w.alloc (.cells #[a, b, c, d] t)) :
    Below w.heap.size w W ∧ W.heap.size = w.heap.size + 1 ∧ W.cell? ⟨w.heap.size, 0, none⟩ = some a ∧ W.cell? ⟨w.heap.size, 1, none⟩ = some b ∧ W.cell? ⟨w.heap.size, 2, none⟩ = some c ∧ W.cell? ⟨w.heap.size, 3, none⟩ = some d := by
  subst hW
  refine ⟨(Below.refl _ _).alloc (Nat.le_refl _) _, by simp, ?_, ?_, ?_, ?_⟩ <;> simp [go_sem]
theorem rgs_at {w : World} {T : Nat → Prop} {A : Option Addr} {rs : List Rg} (h : RowR w T 3 rgC A rs) {k : Nat} (hk : k < rs.length) :
    ∃ b o, A = some ⟨b, o, none⟩ ∧ T b ∧ ∃ (d : Bool) (v : Int) (A2 : Option Addr) (m c : Nat), rs[k].d = d ∧ rs[k].v = v ∧ rs[k].l.length = m ∧
      w.cell? ⟨b, o + k * 3, none⟩ = some (.bool d) ∧ w.cell? ⟨b, o + k * 3 + 1, none⟩ = some (.int .i64 v) ∧ w.cell? ⟨b, o + k * 3 + 2, none⟩ = some (.slice A2 m c) := by
  obtain ⟨b, o, e, hT, c0, c1, c2⟩ := h.rg2 hk
  exact ⟨b, o, e, hT, _, _, _, _, _, rfl, rfl, rfl, c0, c1, c2⟩
theorem ptsK_snoc (a : List (Bool × Int)) (x : Bool × Int) : ptsK (a ++ [x]) = ptsK a + sizeF x.2 := by
  induction a with
  | nil => simp [ptsK]
  | cons y a ih => simp only [List.cons_append, ptsK, ih]; omega
theorem ptsK_bd : ∀ ks : List (Bool × Int), 0 ≤ ptsK ks ∧ ptsK ks ≤ 64 * ks.length
  | [] => ⟨by simp [ptsK], by simp [ptsK]⟩
  | k :: ks => by
    have := ptsK_bd ks
    have := sizeF_bd k.2
    simp only [ptsK, List.length_cons]
    omega
theorem ptsK_take {rs : List Rg} {k : Nat} (h : k < rs.length) : ptsK ((rs.take (k + 1)).map rgK) = ptsK ((rs.take k).map rgK) + sizeF (rs[k]).v := by
  rw [List.take_succ_eq_append_getElem h, List.map_append]; exact ptsK_snoc _ _
def PtRel (W : World) (rs : List Rg) (m i : Value) (wr : World) : Prop := ∃ k : Nat, i = .int .i64 k ∧ k ≤ rs.length ∧ m = .int .i64 (ptsK ((rs.take k).map rgK)) ∧ wr = W
theorem ref17Points_any (op vs pts : Int) (A : Option Addr) (n c : Nat) (rs : List Rg) (r : Int) (T : Nat → Prop) (w : World) (ha : RowR w T 3 rgC A rs) (hn : n = rs.length) (hl : n ≤ 1000000) (hr : ptsK (rs.map rgK) = r) :
    Calls Tryd.prog 51 #[.agg #[.int .i64 op, .int .i64 vs, .slice A n c, .int .i64 pts]] w fun e w' => e = .returned (.int .i64 r) ∧ Below w.heap.size w w' := by
  obtain ⟨W, hW⟩ : ∃ W, W = w.alloc (.cells #[.int .i64 op, .int .i64 vs, .slice A n c, .int .i64 pts] 24) := ⟨_, rfl⟩
  obtain ⟨h0, _, g0, g1, g2, g3⟩ := box4 hW
  obtain ⟨bg, hbg⟩ : ∃ b, b = w.heap.size := ⟨_, rfl⟩
  rw [← hbg] at g0 g1 g2 g3
  have HW := Lib.hid hW
  have Hbg := Lib.hid hbg
  have HN := Lib.hid hn
  have HR := Lib.hid hr
  have ha1 := ha.next h0
  clear hW hbg hn hr ha
  go_enter Tryd.func51, Tryd.ntmps51
  go_upto_region 1 with (fail)
  rw [← HW.out, ← Hbg.out]
  go_wp2
  go_loopw [3, 4] (fun m i wr => PtRel W rs m i wr) (fun _ i _ => n - (intOf i).toNat)
  case atStart => exact ⟨0, rfl, Nat.zero_le _, rfl, rfl⟩
  case round =>
    obtain ⟨k, rfl, hk, rfl, rfl⟩ := hrel
    rw [← HN.out] at hk
    by_cases hgo : k < n
    · have hgo2 : k < rs.length := by rw [← HN.out]; exact hgo
      have HP := Lib.hid (ptsK_take hgo2)
      have hbd := ptsK_bd ((rs.take k).map rgK)
      have hbl : ((rs.take k).map rgK).length ≤ 1000000 := by simp; omega
      obtain ⟨b, o, rfl, _, d, v, A2, m2, c2, hd, hv, hm, k0, k1, k2⟩ := rgs_at ha1 hgo2
      obtain ⟨s, hs⟩ : ∃ s, sizeF v = s := ⟨_, rfl⟩
      have hsb := sizeF_bd v
      rw [hs] at hsb
      rw [hv, hs] at HP
      obtain ⟨x, hx⟩ : ∃ x, x = ptsK ((rs.take k).map rgK) := ⟨_, rfl⟩
      rw [← hx] at hbd HP
      simp only [← hx]
      have HS := Lib.hid hs
      clear hs hd hv hm ha1 hx
      go_wp2_with (fail)
      refine (ref16Size_any v s _ HS.out).mono ?_
      rintro e w2 ⟨rfl, hw2⟩
      obtain rfl := hw2.symm
      go_wp2
      go_roundw
      case rel => exact ⟨k + 1, by go_num, by rw [← HN.out]; omega, by rw [HP.out], rfl⟩
      case measure => simp [intOf]; omega
    · have HE := Lib.hid (show ptsK ((rs.take k).map rgK) = r by rw [← HR.out, List.take_of_length_le (by rw [← HN.out]; omega)])
      clear ha1
      go_wp2
      go_ret
      exact ⟨by rw [HE.out]; rfl, h0⟩
/-- Same, of headers that read the same. -/
def SmRel (W : World) (i : Value) (wr : World) : Prop := ∃ k q : Nat, i = .int .i64 k ∧ wr = W.drewN q
theorem ref17Same_yes (op vs pts : Int) (A B : Option Addr) (n c d : Nat) (rs rs2 : List Rg) (T U : Nat → Prop) (w : World) (ha : RowR w T 3 rgC A rs) (hb : RowR w U 3 rgC B rs2) (hn : n = rs.length) (hm : n = rs2.length) (hl : n ≤ 1000000)
    (hq : ∀ k (h1 : k < rs.length) (h2 : k < rs2.length), rs[k].d = rs2[k].d ∧ rs[k].v = rs2[k].v ∧ rs[k].l.length = rs2[k].l.length) :
    Calls Tryd.prog 49 #[.agg #[.int .i64 op, .int .i64 vs, .slice A n c, .int .i64 pts], .agg #[.int .i64 op, .int .i64 vs, .slice B n d, .int .i64 pts]] w fun e w' => e = .returned (.bool true) ∧ Below w.heap.size w w' := by
  obtain ⟨W1, hW1⟩ : ∃ W, W = w.alloc (.cells #[.int .i64 op, .int .i64 vs, .slice A n c, .int .i64 pts] 24) := ⟨_, rfl⟩
  obtain ⟨h1, hs1, g0, g1, g2, g3⟩ := box4 hW1
  obtain ⟨W, hW⟩ : ∃ W, W = W1.alloc (.cells #[.int .i64 op, .int .i64 vs, .slice B n d, .int .i64 pts] 24) := ⟨_, rfl⟩
  obtain ⟨h2, hs2, e0, e1, e2, e3⟩ := box4 hW
  have h0 := h1.trans (h2.mono h1.size)
  replace g0 := (h2.cell (lt_of_cell g0)).trans g0
  replace g1 := (h2.cell (lt_of_cell g1)).trans g1
  replace g2 := (h2.cell (lt_of_cell g2)).trans g2
  replace g3 := (h2.cell (lt_of_cell g3)).trans g3
  rw [hs1] at e0 e1 e2 e3
  obtain ⟨bg, hbg⟩ : ∃ b, b = w.heap.size := ⟨_, rfl⟩
  obtain ⟨bh, hbh⟩ : ∃ b, b = w.heap.size + 1 := ⟨_, rfl⟩
  rw [← hbg] at g0 g1 g2 g3
  rw [← hbh] at e0 e1 e2 e3
  have HW := Lib.hid hW
  have HW1 := Lib.hid hW1
  have Hbg := Lib.hid hbg
  have Hbh := Lib.hid hbh
  have HN := Lib.hid hn
  have HM := Lib.hid hm
  have HQ := Lib.hid hq
  have ha1 := ha.next h0
  have hb1 := hb.next h0
  clear hW hW1 hbg hbh hn hm hq ha hb hs1 hs2 h1 h2
  go_enter Tryd.func49, Tryd.ntmps49
  go_upto_region 1 with (fail)
  rw [← HW1.out, ← HW.out, ← Hbh.out, ← Hbg.out]
  go_wp2
  go_loopw [5] (fun i wr => SmRel W i wr) (fun i _ => n - (intOf i).toNat)
  case atStart => exact ⟨0, 0, rfl, rfl⟩
  case round =>
    obtain ⟨k, q, rfl, rfl⟩ := hrel
    by_cases hgo : k < n
    · have hgo2 : k < rs.length := by rw [← HN.out]; exact hgo
      have hgo3 : k < rs2.length := by rw [← HM.out]; exact hgo
      obtain ⟨q1, q2, q3⟩ := HQ.out k hgo2 hgo3
      obtain ⟨b, o, rfl, _, d1, v1, A1, m1, c1, hd, hv, hm, k0, k1, k2⟩ := rgs_at ha1 hgo2
      obtain ⟨b', o', rfl, _, d2, v2, A2, m2, c2, hd', hv', hm', j0, j1, j2⟩ := rgs_at hb1 hgo3
      obtain rfl : d2 = d1 := by rw [← hd', ← q1, hd]
      obtain rfl : v2 = v1 := by rw [← hv', ← q2, hv]
      obtain rfl : m2 = m1 := by rw [← hm', ← q3, hm]
      clear q1 q2 q3 hd hv hm hd' hv' hm' ha1 hb1
      cases d2
      all_goals
        go_wp2
        go_quiet (fail)
        go_wp2
        go_roundw
        case rel => exact ⟨k + 1, _, by go_num, rfl⟩
        case measure => simp [intOf]; omega
    · clear ha1 hb1
      go_wp2
      go_ret
      exact ⟨rfl, below_drewN' h0 q⟩
theorem ref17Response_any (op vs pts : Int) (A : Option Addr) (n c : Nat) (ks : List (Bool × Int)) (r : Int) (w : World) (hk : Okh ⟨op, vs, ks, pts⟩) (hr : rspL ⟨op, vs, ks, pts⟩ = r) :
    Calls Tryd.prog 60 #[.agg #[.int .i64 op, .int .i64 vs, .slice A n c, .int .i64 pts]] w fun e w' => e = .returned (.int .i64 r) ∧ Below w.heap.size w w' := by
  obtain ⟨W, hW⟩ : ∃ W, W = w.alloc (.cells #[.int .i64 op, .int .i64 vs, .slice A n c, .int .i64 pts] 24) := ⟨_, rfl⟩
  obtain ⟨h0, _, g0, g1, g2, g3⟩ := box4 hW
  obtain ⟨bg, hbg⟩ : ∃ b, b = w.heap.size := ⟨_, rfl⟩
  rw [← hbg] at g0 g1 g2 g3
  have HW := Lib.hid hW
  have Hbg := Lib.hid hbg
  by_cases h5 : op = 5
  · have hp := hk.pts5 h5
    simp only at hp
    have HR := Lib.hid (show r = 4 + 9 * pts by rw [← hr]; unfold rspL; rw [if_pos h5])
    subst h5
    clear hW hbg hr hk
    go_enter Tryd.func60, Tryd.ntmps60
    go_upto_region 1 with (fail)
    rw [← HW.out, ← Hbg.out]
    go_wp2
    go_ret
    exact ⟨by rw [HR.out]; rfl, h0⟩
  · have HR := Lib.hid (show r = 2 by rw [← hr]; unfold rspL; rw [if_neg h5])
    have d5 : (op == 5) = false := by rw [beq_eq_false_iff_ne]; exact h5
    clear hW hbg hr hk
    go_enter Tryd.func60, Tryd.ntmps60
    go_upto_region 1 with (fail)
    rw [← HW.out, ← Hbg.out]
    go_wp2
    go_ret
    exact ⟨by rw [HR.out]; rfl, h0⟩
set_option maxHeartbeats 1000000 in
theorem ref17Payload_any (op vx pts : Int) (A : Option Addr) (n c : Nat) (rs : List Rg) (r : Int) (T : Nat → Prop) (w : World) (ha : RowR w T 3 rgC A rs) (hn : n = rs.length) (hk : Okh ⟨op, vx, rs.map rgK, pts⟩) (hr : payL ⟨op, vx, rs.map rgK, pts⟩ = r) :
    Calls Tryd.prog 18 #[.agg #[.int .i64 op, .int .i64 vx, .slice A n c, .int .i64 pts]] w fun e w' => e = .returned (.int .i64 r) ∧ Below w.heap.size w w' := by
  obtain ⟨W, hW⟩ : ∃ W, W = w.alloc (.cells #[.int .i64 op, .int .i64 vx, .slice A n c, .int .i64 pts] 24) := ⟨_, rfl⟩
  obtain ⟨h0, _, g0, g1, g2, g3⟩ := box4 hW
  obtain ⟨bg, hbg⟩ : ∃ b, b = w.heap.size := ⟨_, rfl⟩
  rw [← hbg] at g0 g1 g2 g3
  have HW := Lib.hid hW
  have Hbg := Lib.hid hbg
  have ha1 := ha.next h0
  have HN := Lib.hid hn
  have hn1 : 4 ≤ op → n ≤ 64 := fun h => by have := (hk.len h).2; simp only [List.length_map] at this; omega
  have hxb : 4 ≤ op → ptsK (rs.map rgK) ≤ 4096 := fun h => by have := hn1 h; have := (ptsK_bd (rs.map rgK)).2; rw [List.length_map] at this; omega
  have hx0 := (ptsK_bd (rs.map rgK)).1
  clear hn
  have hop := hk.op
  simp only at hop
  unfold payL at hr
  simp only at hr
  by_cases h1 : op = 1
  · rw [if_pos h1] at hr
    have HR := Lib.hid hr
    subst h1
    clear hW hbg hr hk hxb hn1 hx0
    go_enter Tryd.func18, Tryd.ntmps18
    go_upto_region 1 with (fail)
    rw [← HW.out, ← Hbg.out]
    go_wp2
    go_ret
    exact ⟨by rw [HR.out]; rfl, h0⟩
  rw [if_neg h1] at hr
  have d1 : (op == 1) = false := by rw [beq_eq_false_iff_ne]; exact h1
  by_cases h2 : op = 2
  · rw [if_pos h2] at hr
    have HR := Lib.hid hr
    subst h2
    clear hW hbg hr hk hxb hn1 hx0
    go_enter Tryd.func18, Tryd.ntmps18
    go_upto_region 1 with (fail)
    rw [← HW.out, ← Hbg.out]
    go_wp2
    go_ret
    exact ⟨by rw [HR.out]; rfl, h0⟩
  rw [if_neg h2] at hr
  have d2 : (op == 2) = false := by rw [beq_eq_false_iff_ne]; exact h2
  by_cases h3 : op = 3
  · rw [if_pos h3] at hr
    have hv := hk.vs3 h3
    simp only at hv
    have HR := Lib.hid hr
    subst h3
    clear hW hbg hr hk hxb hn1 hx0
    go_enter Tryd.func18, Tryd.ntmps18
    go_upto_region 1 with (fail)
    rw [← HW.out, ← Hbg.out]
    go_wp2
    go_ret
    exact ⟨by rw [← HR.out]; rfl, h0⟩
  rw [if_neg h3] at hr
  have d3 : (op == 3) = false := by rw [beq_eq_false_iff_ne]; exact h3
  obtain ⟨x, hx⟩ : ∃ x, ptsK (rs.map rgK) = x := ⟨_, rfl⟩
  rw [hx] at hx0 hxb hr
  have HX := Lib.hid hx
  have hx1 : x ≤ 4096 := hxb (by omega)
  have hn2 : n ≤ 64 := hn1 (by omega)
  clear hxb hn1
  by_cases h4 : op = 4
  · rw [if_pos h4] at hr
    have HR := Lib.hid hr
    subst h4
    clear hW hbg hr hk hx d1 d2 d3
    go_enter Tryd.func18, Tryd.ntmps18
    go_upto_region 1 with (fail)
    rw [← HW.out, ← Hbg.out]
    go_wp2_with (fail)
    refine (ref17Points_any 4 vx pts A n c rs x T _ ha1 HN.out (by omega) HX.out).mono ?_
    rintro e w2 ⟨rfl, hb2⟩
    go_wp2
    go_ret
    exact ⟨by rw [← HR.out]; rfl, h0.trans (hb2.mono h0.size)⟩
  · rw [if_neg h4] at hr
    have hp := hk.pts5 (by show op = 5; omega)
    simp only at hp
    have HR := Lib.hid hr
    obtain rfl : op = 5 := by omega
    clear hW hbg hr hk hx d1 d2 d3
    go_enter Tryd.func18, Tryd.ntmps18
    go_upto_region 1 with (fail)
    rw [← HW.out, ← Hbg.out]
    go_upto_region 10 with (fail)
    refine dir_plain (by kernel_rfl) 8 [[], [(21, 0)], [(22, 1)], [], [(24, 3)], [(25, 4)], [(23, 2), (26, 5)], [(27, 6)]] [(21, 0), (22, 1), (23, 2), (24, 3), (25, 4), (26, 5), (27, 6), (2, 7)] [
        (fun v _ => v = .agg #[.int .i64 5, .int .i64 vx, .slice A n c, .int .i64 pts]),
        (fun v _ => v = .int .i64 x),
        (fun v _ => v = .int .i64 (16 * x)),
        (fun v _ => v = .pointer (some ⟨bg, 3, none⟩)),
        (fun v _ => v = .int .i64 pts),
        (fun v _ => v = .int .i64 (24 * pts)),
        (fun v _ => v = .int .i64 (16 * x + 24 * pts)),
        (fun v _ => v = .int .i64 (16 * x + 24 * pts))
      ] (by kernel_rfl) (by kernel_rfl) (by kernel_rfl) (by decide) ⟨dstab_eq, dstab_eq, dstab_eq, dstab_eq, dstab_eq, dstab_eq, dstab_eq, dstab_eq, trivial⟩ ?steps ?fin
    case steps =>
      refine ⟨?_, ?_, ?_, ?_, ?_, ?_, ?_, ?_, trivial⟩
      · intro vs g w2 hI hF hR K hK
        simp only [Facts, fill, Act.put, z1, z2, z3, z4, z5, Nat.reduceAdd] at hF hR hK ⊢
        have k0 := (hI.cell (lt_of_cell g0)).trans g0
        have k1 := (hI.cell (lt_of_cell g1)).trans g1
        have k2 := (hI.cell (lt_of_cell g2)).trans g2
        have k3 := (hI.cell (lt_of_cell g3)).trans g3
        go_simp
        exact hK _ () _ hI (Below.refl _ _) rfl
      · intro vs g w2 hI hF hR K hK
        simp only [Facts, fill, Act.put, z1, z2, z3, z4, z5, Nat.reduceAdd] at hF hR hK ⊢
        obtain ⟨r0, -⟩ := hR
        generalize vs 0 = x0 at *
        subst r0
        go_simp
        refine (ref17Points_any 5 vx pts A n c rs x T _ (ha1.next hI) HN.out (by omega) HX.out).mono ?_
        rintro e w3 ⟨rfl, hb⟩
        exact hK _ () _ (hI.trans (hb.mono hI.size)) hb rfl
      · intro vs g w2 hI hF hR K hK
        simp only [Facts, fill, Act.put, z1, z2, z3, z4, z5, Nat.reduceAdd] at hF hR hK ⊢
        obtain ⟨r1, -⟩ := hR
        generalize vs 1 = x1 at *
        subst r1
        go_simp
        rw [wrap_i64' (by omega) (by omega)]
        exact hK _ () _ hI (Below.refl _ _) rfl
      · intro vs g w2 hI hF hR K hK
        simp only [Facts, fill, Act.put, z1, z2, z3, z4, z5, Nat.reduceAdd] at hF hR hK ⊢
        go_simp
        exact hK _ () _ hI (Below.refl _ _) rfl
      · intro vs g w2 hI hF hR K hK
        simp only [Facts, fill, Act.put, z1, z2, z3, z4, z5, Nat.reduceAdd] at hF hR hK ⊢
        obtain ⟨r3, -⟩ := hR
        generalize vs 3 = x3 at *
        subst r3
        have k0 := (hI.cell (lt_of_cell g3)).trans g3
        go_simp
        exact hK _ () _ hI (Below.refl _ _) rfl
      · intro vs g w2 hI hF hR K hK
        simp only [Facts, fill, Act.put, z1, z2, z3, z4, z5, Nat.reduceAdd] at hF hR hK ⊢
        obtain ⟨r4, -⟩ := hR
        generalize vs 4 = x4 at *
        subst r4
        go_simp
        rw [wrap_i64' (by omega) (by omega)]
        exact hK _ () _ hI (Below.refl _ _) rfl
      · intro vs g w2 hI hF hR K hK
        simp only [Facts, fill, Act.put, z1, z2, z3, z4, z5, Nat.reduceAdd] at hF hR hK ⊢
        obtain ⟨r2, r5, -⟩ := hR
        generalize vs 2 = x2, vs 5 = x5 at *
        subst r2 r5
        go_simp
        rw [wrap_i64' (by omega) (by omega)]
        exact hK _ () _ hI (Below.refl _ _) rfl
      · intro vs g w2 hI hF hR K hK
        simp only [Facts, fill, Act.put, z1, z2, z3, z4, z5, Nat.reduceAdd] at hF hR hK ⊢
        obtain ⟨r6, -⟩ := hR
        generalize vs 6 = x6 at *
        subst r6
        go_simp
        exact hK _ () _ hI (Below.refl _ _) rfl
    case fin =>
      intro vs w2 hI hR
      have r7 := hR 7 (by decide)
      simp only [fill, Act.put, z1, z2, z3, z4, z5] at r7 ⊢
      clear hR
      generalize vs 7 = x7 at *
      subst r7
      refine NoPanic.normal ?_
      go_wp2
      go_ret
      exact ⟨by rw [← HR.out]; rfl, h0.trans (hI.mono h0.size)⟩
end Go.Proofs.YtcfdpimpleniaaaDoor
namespace Go.Proofs.YtcfdpimpleniaaaDoor
open Go.RowKit Go.Maps
set_option maxRecDepth 100000
set_option linter.unusedVariables false
set_option linter.unusedSimpArgs false

theorem fe_op {h : Hq} {p : Bool} (h1 : h.op < 1 ∨ 5 < h.op) : formErr h p = 5 := by unfold formErr; rw [if_pos h1]
theorem fe_3 {h : Hq} {p : Bool} (h1 : h.op = 3) (h2 : h.vs < 3 ∨ 64 < h.vs) : formErr h p = 6 := by unfold formErr; rw [if_neg (by omega), if_pos ⟨h1, h2⟩]
/-- Behind the checks of one's own. -/
def feU (h : Hq) (p : Bool) : Int := if unusedH h = true then 2 else if p = true then 2 else 0
theorem fe_12 {h : Hq} {p : Bool} (h1 : 1 ≤ h.op ∧ h.op < 3) : formErr h p = feU h p := by
  unfold formErr; rw [if_neg (by omega), if_neg (by omega), if_neg (by omega), if_neg (by omega), if_neg (by omega)]; rfl
theorem fe_3u {h : Hq} {p : Bool} (h1 : h.op = 3) (h2 : 3 ≤ h.vs ∧ h.vs ≤ 64) : formErr h p = feU h p := by
  unfold formErr; rw [if_neg (by omega), if_neg (by omega), if_neg (by omega), if_neg (by omega), if_neg (by omega)]; rfl
theorem fe_len {h : Hq} {p : Bool} (h1 : 4 ≤ h.op ∧ h.op ≤ 5) (h2 : h.ks.length < 1 ∨ 64 < h.ks.length) : formErr h p = 6 := by
  unfold formErr; rw [if_neg (by omega), if_neg (by omega), if_pos (by omega)]
theorem fe_bad {h : Hq} {p : Bool} (h1 : 4 ≤ h.op ∧ h.op ≤ 5) (h2 : 1 ≤ h.ks.length ∧ h.ks.length ≤ 64) (h3 : anyBad h.ks = true) : formErr h p = 7 := by
  unfold formErr; rw [if_neg (by omega), if_neg (by omega), if_neg (by omega), if_pos ⟨h1.1, h3⟩]
theorem fe_4u {h : Hq} {p : Bool} (h1 : h.op = 4) (h2 : 1 ≤ h.ks.length ∧ h.ks.length ≤ 64) (h3 : anyBad h.ks = false) : formErr h p = feU h p := by
  unfold formErr; rw [if_neg (by omega), if_neg (by omega), if_neg (by omega), if_neg (by rw [h3]; simp), if_neg (by omega)]; rfl
theorem fe_5p {h : Hq} {p : Bool} (h1 : h.op = 5) (h2 : 1 ≤ h.ks.length ∧ h.ks.length ≤ 64) (h3 : anyBad h.ks = false) (h4 : h.pts < 1 ∨ 4096 < h.pts) : formErr h p = 6 := by
  unfold formErr; rw [if_neg (by omega), if_neg (by omega), if_neg (by omega), if_neg (by rw [h3]; simp), if_pos ⟨h1, h4⟩]
theorem fe_5u {h : Hq} {p : Bool} (h1 : h.op = 5) (h2 : 1 ≤ h.ks.length ∧ h.ks.length ≤ 64) (h3 : anyBad h.ks = false) (h4 : 1 ≤ h.pts ∧ h.pts ≤ 4096) : formErr h p = feU h p := by
  unfold formErr; rw [if_neg (by omega), if_neg (by omega), if_neg (by omega), if_neg (by rw [h3]; simp), if_neg (by omega)]; rfl
theorem feU_2 {h : Hq} {p : Bool} (h1 : ¬ ((h.op ≠ 3 → h.vs = 0) ∧ (h.op < 4 → h.ks.length = 0) ∧ (h.op ≠ 5 → h.pts = 0))) : feU h p = 2 := by
  unfold feU
  have : unusedH h = true := by
    by_cases e : unusedH h = false
    · exact absurd ((unused_iff h).1 e) h1
    · simpa using e
  rw [if_pos this]
theorem feU_p {h : Hq} {p : Bool} (h1 : (h.op ≠ 3 → h.vs = 0) ∧ (h.op < 4 → h.ks.length = 0) ∧ (h.op ≠ 5 → h.pts = 0)) : feU h p = if p = true then 2 else 0 := by
  unfold feU
  rw [(unused_iff h).2 h1]; rfl
theorem any_snoc {rs : List Rg} {k : Nat} (h : k < rs.length) : anyBad ((rs.take (k + 1)).map rgK) = (anyBad ((rs.take k).map rgK) || decide (sizeF (rs[k]).v = 0)) := by
  unfold anyBad
  rw [List.take_succ_eq_append_getElem h, List.map_append, List.any_append]; simp [rgK]
theorem rgP_snoc {rs : List Rg} {k : Nat} (h : k < rs.length) : rgP (rs.take (k + 1)) = (rgP (rs.take k) || decide (0 < (rs[k]).l.length)) := by
  unfold rgP
  rw [List.take_succ_eq_append_getElem h, List.any_append]; simp
theorem any_of_take {rs : List Rg} {k : Nat} (h : anyBad ((rs.take k).map rgK) = true) : anyBad (rs.map rgK) = true := by
  unfold anyBad at h ⊢
  rw [List.any_eq_true] at h ⊢
  obtain ⟨x, hx, hb⟩ := h
  obtain ⟨r, hr, rfl⟩ := List.mem_map.1 hx
  exact ⟨_, List.mem_map.2 ⟨r, List.mem_of_mem_take hr, rfl⟩, hb⟩
theorem rgP_of_take {rs : List Rg} {k : Nat} (h : rgP (rs.take k) = true) : rgP rs = true := by
  unfold rgP at h ⊢
  rw [List.any_eq_true] at h ⊢
  obtain ⟨x, hx, hb⟩ := h
  exact ⟨x, List.mem_of_mem_take hx, hb⟩
theorem bytes_snoc {rs : List Rg} {k : Nat} (h : k < rs.length) (pre : List Int) : pre ++ ((rs.take (k + 1)).map rgK).map rgB = pre ++ ((rs.take k).map rgK).map rgB ++ [rgB (rgK rs[k])] := by
  rw [List.take_succ_eq_append_getElem h, List.map_append, List.map_append, List.append_assoc]; rfl
theorem bd_of_any {rs : List Rg} (h : anyBad (rs.map rgK) = false) {k : Nat} (hk : k < rs.length) : 0 ≤ (rs[k]).v ∧ (rs[k]).v ≤ 64 := by
  have := badK h (rgK rs[k]) (List.mem_map.2 ⟨_, List.getElem_mem hk, rfl⟩)
  unfold rgK at this
  simp only at this
  omega
def F1Rel (W : World) (rs : List Rg) (i : Value) (wr : World) : Prop := ∃ k : Nat, i = .int .i64 k ∧ k ≤ rs.length ∧ anyBad ((rs.take k).map rgK) = false ∧ wr = W
def F2Rel (W : World) (rs : List Rg) (pre : List Int) (b i _c : Value) (wr : World) : Prop :=
  ∃ k : Nat, i = .int .i64 k ∧ k ≤ rs.length ∧ rgP (rs.take k) = false ∧ OwnK wr W.heap.size 5 .u8 b (pre ++ ((rs.take k).map rgK).map rgB) ∧ Below W.heap.size W wr
set_option maxHeartbeats 1000000 in
theorem ref17Format_bad (op vs pts : Int) (A : Option Addr) (n c : Nat) (rs : List Rg) (er : Int) (bs : List Int) (w : World) (ha0 : RowR w (fun g => g < w.heap.size) 3 rgC A rs) (hn : n = rs.length) (hl : n ≤ 9223372036854775807) (ho : op < 1 ∨ 5 < op) (he : formErr ⟨op, vs, rs.map rgK, pts⟩ (rgP rs) = er) (hb : (if er = 0 then formB ⟨op, vs, rs.map rgK, pts⟩ else []) = bs) :
    Calls Tryd.prog 17 #[.agg #[.int .i64 op, .int .i64 vs, .slice A n c, .int .i64 pts]] w fun e w' => ∃ v, e = .returned (.tuple #[v, .int .i64 er]) ∧ OwnK w' w.heap.size 5 .u8 v bs ∧ Below w.heap.size w w' := by
  obtain ⟨W, hW⟩ : ∃ W, W = w.alloc (.cells #[.int .i64 op, .int .i64 vs, .slice A n c, .int .i64 pts] 24) := ⟨_, rfl⟩
  obtain ⟨h0, hsz, g0, g1, g2, g3⟩ := box4 hW
  obtain ⟨bg, hbg⟩ : ∃ b, b = w.heap.size := ⟨_, rfl⟩
  rw [← hbg] at g0 g1 g2 g3
  have HW := Lib.hid hW
  have Hbg := Lib.hid hbg
  have ha := (ha0.next h0).imp (T := fun g => g < W.heap.size) fun g hg => by omega
  have HKL := Lib.hid (show (rs.map rgK).length = n by rw [List.length_map, hn])
  have HN := Lib.hid hn
  have HE := Lib.hid he
  have HB := Lib.hid hb
  clear hW hbg hn he hb ha0
  have HX := Lib.hid (show er = 5 by rw [← HE.out]; exact fe_op ho)
  by_cases h1 : op < 1
  · clear ha ho
    go_enter Tryd.func17, Tryd.ntmps17
    go_upto_region 1 with (fail)
    rw [← HW.out, ← Hbg.out]
    go_wp2
    go_ret2
    exact ⟨_, by rw [HX.out]; rfl, by rw [← HB.out, HX.out]; exact OwnK.nil_ _ _ _ _, h0⟩
  · have h2 : 5 < op := by omega
    clear ha ho
    go_enter Tryd.func17, Tryd.ntmps17
    go_upto_region 1 with (fail)
    rw [← HW.out, ← Hbg.out]
    go_wp2
    go_ret2
    exact ⟨_, by rw [HX.out]; rfl, by rw [← HB.out, HX.out]; exact OwnK.nil_ _ _ _ _, h0⟩
set_option maxHeartbeats 1000000 in
theorem ref17Format_1 (vs pts : Int) (A : Option Addr) (n c : Nat) (rs : List Rg) (er : Int) (bs : List Int) (w : World) (ha0 : RowR w (fun g => g < w.heap.size) 3 rgC A rs) (hn : n = rs.length) (hl : n ≤ 9223372036854775807) (he : formErr ⟨1, vs, rs.map rgK, pts⟩ (rgP rs) = er) (hb : (if er = 0 then formB ⟨1, vs, rs.map rgK, pts⟩ else []) = bs) :
    Calls Tryd.prog 17 #[.agg #[.int .i64 1, .int .i64 vs, .slice A n c, .int .i64 pts]] w fun e w' => ∃ v, e = .returned (.tuple #[v, .int .i64 er]) ∧ OwnK w' w.heap.size 5 .u8 v bs ∧ Below w.heap.size w w' := by
  obtain ⟨W, hW⟩ : ∃ W, W = w.alloc (.cells #[.int .i64 1, .int .i64 vs, .slice A n c, .int .i64 pts] 24) := ⟨_, rfl⟩
  obtain ⟨h0, hsz, g0, g1, g2, g3⟩ := box4 hW
  obtain ⟨bg, hbg⟩ : ∃ b, b = w.heap.size := ⟨_, rfl⟩
  rw [← hbg] at g0 g1 g2 g3
  have HW := Lib.hid hW
  have Hbg := Lib.hid hbg
  have ha := (ha0.next h0).imp (T := fun g => g < W.heap.size) fun g hg => by omega
  have HKL := Lib.hid (show (rs.map rgK).length = n by rw [List.length_map, hn])
  have HN := Lib.hid hn
  have HE := Lib.hid he
  have HB := Lib.hid hb
  clear hW hbg hn he hb ha0
  by_cases hvs : vs ≠ 0
  · have d1 : (vs == 0) = false := by rw [beq_eq_false_iff_ne]; exact hvs
    have d2 : (vs != 0) = true := by rw [bne_iff_ne]; exact hvs
    have HX := Lib.hid (show er = 2 by rw [← HE.out, fe_12 (by simp only; omega)]; exact feU_2 (by simp only; rw [HKL.out]; omega))
    clear ha
    go_enter Tryd.func17, Tryd.ntmps17
    go_upto_region 1 with (fail)
    rw [← HW.out, ← Hbg.out]
    go_wp2
    go_ret2
    exact ⟨_, by rw [HX.out]; rfl, by rw [← HB.out, HX.out]; exact OwnK.nil_ _ _ _ _, h0⟩
  obtain rfl : vs = 0 := by omega
  by_cases hnn : n ≠ 0
  · have hn1 : 1 ≤ n := by omega
    have HKL0 := hn1
    have HX := Lib.hid (show er = 2 by rw [← HE.out, fe_12 (by simp only; omega)]; exact feU_2 (by simp only; rw [HKL.out]; omega))
    clear ha
    go_enter Tryd.func17, Tryd.ntmps17
    go_upto_region 1 with (fail)
    rw [← HW.out, ← Hbg.out]
    go_wp2
    go_ret2
    exact ⟨_, by rw [HX.out]; rfl, by rw [← HB.out, HX.out]; exact OwnK.nil_ _ _ _ _, h0⟩
  obtain rfl : n = 0 := by omega
  by_cases hpts : pts ≠ 0
  · have d1 : (pts == 0) = false := by rw [beq_eq_false_iff_ne]; exact hpts
    have d2 : (pts != 0) = true := by rw [bne_iff_ne]; exact hpts
    have HX := Lib.hid (show er = 2 by rw [← HE.out, fe_12 (by simp only; omega)]; exact feU_2 (by simp only; rw [HKL.out]; omega))
    clear ha
    go_enter Tryd.func17, Tryd.ntmps17
    go_upto_region 1 with (fail)
    rw [← HW.out, ← Hbg.out]
    go_wp2
    go_ret2
    exact ⟨_, by rw [HX.out]; rfl, by rw [← HB.out, HX.out]; exact OwnK.nil_ _ _ _ _, h0⟩
  obtain rfl : pts = 0 := by omega
  have HRS := Lib.hid (show rs = [] from List.length_eq_zero_iff.1 HN.out.symm)
  have HX := Lib.hid (show er = 0 by rw [← HE.out, fe_12 (by simp only; omega), feU_p ⟨fun _ => rfl, fun _ => HKL.out, fun _ => rfl⟩, HRS.out]; rfl)
  have HBS := Lib.hid (show [1] = bs by rw [← HB.out, if_pos HX.out, HRS.out]; rfl)
  clear ha
  go_enter Tryd.func17, Tryd.ntmps17
  go_upto_region 1 with (fail)
  rw [← HW.out, ← Hbg.out]
  go_upto_region 18 with (fail)
  obtain ⟨W1, hW1⟩ : ∃ W1, W1 = W.alloc (.cells #[.int .u8 1] 5) := ⟨_, rfl⟩
  have q1 : Below W.heap.size W W1 := by rw [hW1]; exact (Below.refl _ _).alloc (Nat.le_refl _) _
  obtain ⟨v1, hv1⟩ : ∃ v, v = Value.slice (some ⟨w.heap.size + 1, 0, none⟩) 1 1 := ⟨_, rfl⟩
  have own1 : OwnK W1 W.heap.size 5 .u8 v1 [1] := by rw [hW1, hv1, ← hsz]; exact own_lit _ (by decide) _ (Nat.le_refl _)
  rw [← hW1, ← hv1]
  clear hW1 hv1
  have j0 := (q1.cell (p := ⟨bg, 0, none⟩) (lt_of_cell g0)).trans g0
  have j1 := (q1.cell (p := ⟨bg, 1, none⟩) (lt_of_cell g1)).trans g1
  have j2 := (q1.cell (p := ⟨bg, 2, none⟩) (lt_of_cell g2)).trans g2
  have j3 := (q1.cell (p := ⟨bg, 3, none⟩) (lt_of_cell g3)).trans g3
  go_wp2
  go_loopw [5, 6, 7] (fun b i c wr => i = .int .i64 0 ∧ b = v1 ∧ wr = W1) (fun _ _ _ _ => 0)
  case atStart => exact ⟨rfl, rfl, rfl⟩
  case round =>
    obtain ⟨rfl, rfl, rfl⟩ := hrel
    go_wp2
    go_ret2
    exact ⟨_, by rw [HX.out]; rfl, by rw [← HBS.out]; exact (own1).base h0.size, h0.trans (q1.mono h0.size)⟩
set_option maxHeartbeats 1000000 in
theorem ref17Format_2 (vs pts : Int) (A : Option Addr) (n c : Nat) (rs : List Rg) (er : Int) (bs : List Int) (w : World) (ha0 : RowR w (fun g => g < w.heap.size) 3 rgC A rs) (hn : n = rs.length) (hl : n ≤ 9223372036854775807) (he : formErr ⟨2, vs, rs.map rgK, pts⟩ (rgP rs) = er) (hb : (if er = 0 then formB ⟨2, vs, rs.map rgK, pts⟩ else []) = bs) :
    Calls Tryd.prog 17 #[.agg #[.int .i64 2, .int .i64 vs, .slice A n c, .int .i64 pts]] w fun e w' => ∃ v, e = .returned (.tuple #[v, .int .i64 er]) ∧ OwnK w' w.heap.size 5 .u8 v bs ∧ Below w.heap.size w w' := by
  obtain ⟨W, hW⟩ : ∃ W, W = w.alloc (.cells #[.int .i64 2, .int .i64 vs, .slice A n c, .int .i64 pts] 24) := ⟨_, rfl⟩
  obtain ⟨h0, hsz, g0, g1, g2, g3⟩ := box4 hW
  obtain ⟨bg, hbg⟩ : ∃ b, b = w.heap.size := ⟨_, rfl⟩
  rw [← hbg] at g0 g1 g2 g3
  have HW := Lib.hid hW
  have Hbg := Lib.hid hbg
  have ha := (ha0.next h0).imp (T := fun g => g < W.heap.size) fun g hg => by omega
  have HKL := Lib.hid (show (rs.map rgK).length = n by rw [List.length_map, hn])
  have HN := Lib.hid hn
  have HE := Lib.hid he
  have HB := Lib.hid hb
  clear hW hbg hn he hb ha0
  by_cases hvs : vs ≠ 0
  · have d1 : (vs == 0) = false := by rw [beq_eq_false_iff_ne]; exact hvs
    have d2 : (vs != 0) = true := by rw [bne_iff_ne]; exact hvs
    have HX := Lib.hid (show er = 2 by rw [← HE.out, fe_12 (by simp only; omega)]; exact feU_2 (by simp only; rw [HKL.out]; omega))
    clear ha
    go_enter Tryd.func17, Tryd.ntmps17
    go_upto_region 1 with (fail)
    rw [← HW.out, ← Hbg.out]
    go_wp2
    go_ret2
    exact ⟨_, by rw [HX.out]; rfl, by rw [← HB.out, HX.out]; exact OwnK.nil_ _ _ _ _, h0⟩
  obtain rfl : vs = 0 := by omega
  by_cases hnn : n ≠ 0
  · have hn1 : 1 ≤ n := by omega
    have HKL0 := hn1
    have HX := Lib.hid (show er = 2 by rw [← HE.out, fe_12 (by simp only; omega)]; exact feU_2 (by simp only; rw [HKL.out]; omega))
    clear ha
    go_enter Tryd.func17, Tryd.ntmps17
    go_upto_region 1 with (fail)
    rw [← HW.out, ← Hbg.out]
    go_wp2
    go_ret2
    exact ⟨_, by rw [HX.out]; rfl, by rw [← HB.out, HX.out]; exact OwnK.nil_ _ _ _ _, h0⟩
  obtain rfl : n = 0 := by omega
  by_cases hpts : pts ≠ 0
  · have d1 : (pts == 0) = false := by rw [beq_eq_false_iff_ne]; exact hpts
    have d2 : (pts != 0) = true := by rw [bne_iff_ne]; exact hpts
    have HX := Lib.hid (show er = 2 by rw [← HE.out, fe_12 (by simp only; omega)]; exact feU_2 (by simp only; rw [HKL.out]; omega))
    clear ha
    go_enter Tryd.func17, Tryd.ntmps17
    go_upto_region 1 with (fail)
    rw [← HW.out, ← Hbg.out]
    go_wp2
    go_ret2
    exact ⟨_, by rw [HX.out]; rfl, by rw [← HB.out, HX.out]; exact OwnK.nil_ _ _ _ _, h0⟩
  obtain rfl : pts = 0 := by omega
  have HRS := Lib.hid (show rs = [] from List.length_eq_zero_iff.1 HN.out.symm)
  have HX := Lib.hid (show er = 0 by rw [← HE.out, fe_12 (by simp only; omega), feU_p ⟨fun _ => rfl, fun _ => HKL.out, fun _ => rfl⟩, HRS.out]; rfl)
  have HBS := Lib.hid (show [2] = bs by rw [← HB.out, if_pos HX.out, HRS.out]; rfl)
  clear ha
  go_enter Tryd.func17, Tryd.ntmps17
  go_upto_region 1 with (fail)
  rw [← HW.out, ← Hbg.out]
  go_upto_region 18 with (fail)
  obtain ⟨W1, hW1⟩ : ∃ W1, W1 = W.alloc (.cells #[.int .u8 2] 5) := ⟨_, rfl⟩
  have q1 : Below W.heap.size W W1 := by rw [hW1]; exact (Below.refl _ _).alloc (Nat.le_refl _) _
  obtain ⟨v1, hv1⟩ : ∃ v, v = Value.slice (some ⟨w.heap.size + 1, 0, none⟩) 1 1 := ⟨_, rfl⟩
  have own1 : OwnK W1 W.heap.size 5 .u8 v1 [2] := by rw [hW1, hv1, ← hsz]; exact own_lit _ (by decide) _ (Nat.le_refl _)
  rw [← hW1, ← hv1]
  clear hW1 hv1
  have j0 := (q1.cell (p := ⟨bg, 0, none⟩) (lt_of_cell g0)).trans g0
  have j1 := (q1.cell (p := ⟨bg, 1, none⟩) (lt_of_cell g1)).trans g1
  have j2 := (q1.cell (p := ⟨bg, 2, none⟩) (lt_of_cell g2)).trans g2
  have j3 := (q1.cell (p := ⟨bg, 3, none⟩) (lt_of_cell g3)).trans g3
  go_wp2
  go_loopw [5, 6, 7] (fun b i c wr => i = .int .i64 0 ∧ b = v1 ∧ wr = W1) (fun _ _ _ _ => 0)
  case atStart => exact ⟨rfl, rfl, rfl⟩
  case round =>
    obtain ⟨rfl, rfl, rfl⟩ := hrel
    go_wp2
    go_ret2
    exact ⟨_, by rw [HX.out]; rfl, by rw [← HBS.out]; exact (own1).base h0.size, h0.trans (q1.mono h0.size)⟩
set_option maxHeartbeats 1000000 in
theorem ref17Format_3 (vs pts : Int) (A : Option Addr) (n c : Nat) (rs : List Rg) (er : Int) (bs : List Int) (w : World) (ha0 : RowR w (fun g => g < w.heap.size) 3 rgC A rs) (hn : n = rs.length) (hl : n ≤ 9223372036854775807) (he : formErr ⟨3, vs, rs.map rgK, pts⟩ (rgP rs) = er) (hb : (if er = 0 then formB ⟨3, vs, rs.map rgK, pts⟩ else []) = bs) :
    Calls Tryd.prog 17 #[.agg #[.int .i64 3, .int .i64 vs, .slice A n c, .int .i64 pts]] w fun e w' => ∃ v, e = .returned (.tuple #[v, .int .i64 er]) ∧ OwnK w' w.heap.size 5 .u8 v bs ∧ Below w.heap.size w w' := by
  obtain ⟨W, hW⟩ : ∃ W, W = w.alloc (.cells #[.int .i64 3, .int .i64 vs, .slice A n c, .int .i64 pts] 24) := ⟨_, rfl⟩
  obtain ⟨h0, hsz, g0, g1, g2, g3⟩ := box4 hW
  obtain ⟨bg, hbg⟩ : ∃ b, b = w.heap.size := ⟨_, rfl⟩
  rw [← hbg] at g0 g1 g2 g3
  have HW := Lib.hid hW
  have Hbg := Lib.hid hbg
  have ha := (ha0.next h0).imp (T := fun g => g < W.heap.size) fun g hg => by omega
  have HKL := Lib.hid (show (rs.map rgK).length = n by rw [List.length_map, hn])
  have HN := Lib.hid hn
  have HE := Lib.hid he
  have HB := Lib.hid hb
  clear hW hbg hn he hb ha0
  by_cases hv3 : vs < 3
  · have HX := Lib.hid (show er = 6 by rw [← HE.out]; exact fe_3 rfl (.inl hv3))
    clear ha
    go_enter Tryd.func17, Tryd.ntmps17
    go_upto_region 1 with (fail)
    rw [← HW.out, ← Hbg.out]
    go_wp2
    go_ret2
    exact ⟨_, by rw [HX.out]; rfl, by rw [← HB.out, HX.out]; exact OwnK.nil_ _ _ _ _, h0⟩
  by_cases hv4 : 64 < vs
  · have HX := Lib.hid (show er = 6 by rw [← HE.out]; exact fe_3 rfl (.inr hv4))
    clear ha
    go_enter Tryd.func17, Tryd.ntmps17
    go_upto_region 1 with (fail)
    rw [← HW.out, ← Hbg.out]
    go_wp2
    go_ret2
    exact ⟨_, by rw [HX.out]; rfl, by rw [← HB.out, HX.out]; exact OwnK.nil_ _ _ _ _, h0⟩
  by_cases hnn : n ≠ 0
  · have hn1 : 1 ≤ n := by omega
    have HKL0 := hn1
    have HX := Lib.hid (show er = 2 by rw [← HE.out, fe_3u rfl (by simp only; omega)]; exact feU_2 (by simp only; rw [HKL.out]; omega))
    clear ha
    go_enter Tryd.func17, Tryd.ntmps17
    go_upto_region 1 with (fail)
    rw [← HW.out, ← Hbg.out]
    go_wp2
    go_ret2
    exact ⟨_, by rw [HX.out]; rfl, by rw [← HB.out, HX.out]; exact OwnK.nil_ _ _ _ _, h0⟩
  obtain rfl : n = 0 := by omega
  by_cases hpts : pts ≠ 0
  · have d1 : (pts == 0) = false := by rw [beq_eq_false_iff_ne]; exact hpts
    have d2 : (pts != 0) = true := by rw [bne_iff_ne]; exact hpts
    have HX := Lib.hid (show er = 2 by rw [← HE.out, fe_3u rfl (by simp only; omega)]; exact feU_2 (by simp only; rw [HKL.out]; omega))
    clear ha
    go_enter Tryd.func17, Tryd.ntmps17
    go_upto_region 1 with (fail)
    rw [← HW.out, ← Hbg.out]
    go_wp2
    go_ret2
    exact ⟨_, by rw [HX.out]; rfl, by rw [← HB.out, HX.out]; exact OwnK.nil_ _ _ _ _, h0⟩
  obtain rfl : pts = 0 := by omega
  have HRS := Lib.hid (show rs = [] from List.length_eq_zero_iff.1 HN.out.symm)
  have HX := Lib.hid (show er = 0 by rw [← HE.out, fe_3u rfl (by simp only; omega), feU_p ⟨fun h => absurd rfl h, fun _ => HKL.out, fun _ => rfl⟩, HRS.out]; rfl)
  have HBS := Lib.hid (show [3, vs] = bs by rw [← HB.out, if_pos HX.out, HRS.out]; rfl)
  clear ha
  go_enter Tryd.func17, Tryd.ntmps17
  go_upto_region 1 with (fail)
  rw [← HW.out, ← Hbg.out]
  go_upto_region 18 with (fail)
  obtain ⟨W1, hW1⟩ : ∃ W1, W1 = W.alloc (.cells #[.int .u8 3] 5) := ⟨_, rfl⟩
  have q1 : Below W.heap.size W W1 := by rw [hW1]; exact (Below.refl _ _).alloc (Nat.le_refl _) _
  obtain ⟨v1, hv1⟩ : ∃ v, v = Value.slice (some ⟨w.heap.size + 1, 0, none⟩) 1 1 := ⟨_, rfl⟩
  have own1 : OwnK W1 W.heap.size 5 .u8 v1 [3] := by rw [hW1, hv1, ← hsz]; exact own_lit _ (by decide) _ (Nat.le_refl _)
  rw [← hW1, ← hv1]
  clear hW1 hv1
  have j0 := (q1.cell (p := ⟨bg, 0, none⟩) (lt_of_cell g0)).trans g0
  have j1 := (q1.cell (p := ⟨bg, 1, none⟩) (lt_of_cell g1)).trans g1
  have j2 := (q1.cell (p := ⟨bg, 2, none⟩) (lt_of_cell g2)).trans g2
  have j3 := (q1.cell (p := ⟨bg, 3, none⟩) (lt_of_cell g3)).trans g3
  go_wp2_with (first
      | (at_builtin; refine wp_app_lit rfl _ _ rfl W.heap.size _ [3] rfl own1 [vs] 1 1 rfl rfl (by simp) q1.size ?_
         intro v2 W2 own2 hb2
         have q2 := q1.trans hb2
         have k0 := (q2.cell (p := ⟨bg, 0, none⟩) (lt_of_cell g0)).trans g0
         have k1 := (q2.cell (p := ⟨bg, 1, none⟩) (lt_of_cell g1)).trans g1
         have k2 := (q2.cell (p := ⟨bg, 2, none⟩) (lt_of_cell g2)).trans g2
         clear j0 j1 j2))
  go_loopw [5, 6, 7] (fun b i c wr => i = .int .i64 0 ∧ b = v2 ∧ wr = W2) (fun _ _ _ _ => 0)
  case atStart => exact ⟨rfl, rfl, rfl⟩
  case round =>
    obtain ⟨rfl, rfl, rfl⟩ := hrel
    go_wp2
    go_ret2
    exact ⟨_, by rw [HX.out]; rfl, by rw [← HBS.out]; exact (own2).base h0.size, h0.trans ((q1.trans hb2).mono h0.size)⟩
set_option maxHeartbeats 1000000 in
theorem ref17Format_4 (vs pts : Int) (A : Option Addr) (n c : Nat) (rs : List Rg) (er : Int) (bs : List Int) (w : World) (ha0 : RowR w (fun g => g < w.heap.size) 3 rgC A rs) (hn : n = rs.length) (hl : n ≤ 9223372036854775807) (he : formErr ⟨4, vs, rs.map rgK, pts⟩ (rgP rs) = er) (hb : (if er = 0 then formB ⟨4, vs, rs.map rgK, pts⟩ else []) = bs) :
    Calls Tryd.prog 17 #[.agg #[.int .i64 4, .int .i64 vs, .slice A n c, .int .i64 pts]] w fun e w' => ∃ v, e = .returned (.tuple #[v, .int .i64 er]) ∧ OwnK w' w.heap.size 5 .u8 v bs ∧ Below w.heap.size w w' := by
  obtain ⟨W, hW⟩ : ∃ W, W = w.alloc (.cells #[.int .i64 4, .int .i64 vs, .slice A n c, .int .i64 pts] 24) := ⟨_, rfl⟩
  obtain ⟨h0, hsz, g0, g1, g2, g3⟩ := box4 hW
  obtain ⟨bg, hbg⟩ : ∃ b, b = w.heap.size := ⟨_, rfl⟩
  rw [← hbg] at g0 g1 g2 g3
  have HW := Lib.hid hW
  have Hbg := Lib.hid hbg
  have ha := (ha0.next h0).imp (T := fun g => g < W.heap.size) fun g hg => by omega
  have HKL := Lib.hid (show (rs.map rgK).length = n by rw [List.length_map, hn])
  have HN := Lib.hid hn
  have HE := Lib.hid he
  have HB := Lib.hid hb
  clear hW hbg hn he hb ha0
  by_cases hn1 : n < 1
  · have HX := Lib.hid (show er = 6 by rw [← HE.out]; exact fe_len (by simp only; omega) (.inl (by rw [HKL.out]; exact hn1)))
    clear ha
    go_enter Tryd.func17, Tryd.ntmps17
    go_upto_region 1 with (fail)
    rw [← HW.out, ← Hbg.out]
    go_wp2
    go_ret2
    exact ⟨_, by rw [HX.out]; rfl, by rw [← HB.out, HX.out]; exact OwnK.nil_ _ _ _ _, h0⟩
  by_cases hn64 : 64 < n
  · have HX := Lib.hid (show er = 6 by rw [← HE.out]; exact fe_len (by simp only; omega) (.inr (by rw [HKL.out]; exact hn64)))
    clear ha
    go_enter Tryd.func17, Tryd.ntmps17
    go_upto_region 1 with (fail)
    rw [← HW.out, ← Hbg.out]
    go_wp2
    go_ret2
    exact ⟨_, by rw [HX.out]; rfl, by rw [← HB.out, HX.out]; exact OwnK.nil_ _ _ _ _, h0⟩
  have HLN := Lib.hid (show 1 ≤ (rs.map rgK).length ∧ (rs.map rgK).length ≤ 64 by rw [HKL.out]; omega)
  go_enter Tryd.func17, Tryd.ntmps17
  go_upto_region 1 with (fail)
  rw [← HW.out, ← Hbg.out]
  go_wp2
  go_loopw [4] (fun i wr => F1Rel W rs i wr) (fun i _ => n - (intOf i).toNat)
  case atStart => exact ⟨0, rfl, Nat.zero_le _, rfl, rfl⟩
  case round =>
    obtain ⟨k, rfl, hk, hck, hwr⟩ := hrel
    obtain rfl := hwr.symm
    clear hwr
    rw [← HN.out] at hk
    have HK := Lib.hid hck
    clear hck
    by_cases hgo : k < n
    · have hgo2 : k < rs.length := by rw [← HN.out]; exact hgo
      have HS1 := Lib.hid (any_snoc hgo2)
      obtain ⟨b, o, rfl, _, d, v, A2, m2, c2, hd, hv, hm, k0, k1, k2⟩ := rgs_at ha hgo2
      rw [hv, HK.out, Bool.false_or] at HS1
      obtain ⟨s, hs⟩ : ∃ s, sizeF v = s := ⟨_, rfl⟩
      rw [hs] at HS1
      have HS := Lib.hid hs
      clear hs hd hv hm ha
      go_wp2_with (fail)
      refine (ref16Size_any v s _ HS.out).mono ?_
      rintro e w2 ⟨rfl, hw2⟩
      obtain rfl := hw2.symm
      by_cases e1 : s = 0
      · have HX := Lib.hid (show er = 7 by rw [← HE.out]; exact fe_bad (by simp only; omega) HLN.out (any_of_take (k := k + 1) (by rw [HS1.out, e1]; rfl)))
        subst e1
        go_wp2
        go_ret2
        exact ⟨_, by rw [HX.out]; rfl, by rw [← HB.out, HX.out]; exact OwnK.nil_ _ _ _ _, h0⟩
      · have d1 : (s == 0) = false := by rw [beq_eq_false_iff_ne]; exact e1
        have HS2 := Lib.hid (show anyBad ((rs.take (k + 1)).map rgK) = false by rw [HS1.out]; exact decide_eq_false e1)
        clear e1
        go_wp2
        go_roundw
        case rel => exact ⟨k + 1, by go_num, by rw [← HN.out]; omega, HS2.out, rfl⟩
        case measure => simp [intOf]; omega
    · have HA := Lib.hid (show anyBad (rs.map rgK) = false by rw [← HK.out, List.take_of_length_le (by rw [← HN.out]; omega)])
      by_cases hvs : vs ≠ 0
      · have d1 : (vs == 0) = false := by rw [beq_eq_false_iff_ne]; exact hvs
        have d2 : (vs != 0) = true := by rw [bne_iff_ne]; exact hvs
        have HX := Lib.hid (show er = 2 by rw [← HE.out, fe_4u rfl HLN.out HA.out]; exact feU_2 (by simp only; omega))
        clear ha
        go_wp2
        go_ret2
        exact ⟨_, by rw [HX.out]; rfl, by rw [← HB.out, HX.out]; exact OwnK.nil_ _ _ _ _, h0⟩
      obtain rfl : vs = 0 := by omega
      by_cases hpts : pts ≠ 0
      · have d1 : (pts == 0) = false := by rw [beq_eq_false_iff_ne]; exact hpts
        have d2 : (pts != 0) = true := by rw [bne_iff_ne]; exact hpts
        have HX := Lib.hid (show er = 2 by rw [← HE.out, fe_4u rfl HLN.out HA.out]; exact feU_2 (by simp only; omega))
        clear ha
        go_wp2
        go_ret2
        exact ⟨_, by rw [HX.out]; rfl, by rw [← HB.out, HX.out]; exact OwnK.nil_ _ _ _ _, h0⟩
      obtain rfl : pts = 0 := by omega
      have HU := Lib.hid (show er = if rgP rs = true then 2 else 0 by rw [← HE.out, fe_4u rfl HLN.out HA.out, feU_p ⟨fun _ => rfl, fun h => absurd h (by simp only; omega), fun _ => rfl⟩])
      have HBd := Lib.hid (fun (j : Nat) (hj : j < rs.length) => bd_of_any HA.out hj)
      go_upto_region 18 with (fail)
      obtain ⟨W1, hW1⟩ : ∃ W1, W1 = W.alloc (.cells #[.int .u8 4] 5) := ⟨_, rfl⟩
      have q1 : Below W.heap.size W W1 := by rw [hW1]; exact (Below.refl _ _).alloc (Nat.le_refl _) _
      obtain ⟨v1, hv1⟩ : ∃ v, v = Value.slice (some ⟨w.heap.size + 1, 0, none⟩) 1 1 := ⟨_, rfl⟩
      have own1 : OwnK W1 W.heap.size 5 .u8 v1 [4] := by rw [hW1, hv1, ← hsz]; exact own_lit _ (by decide) _ (Nat.le_refl _)
      rw [← hW1, ← hv1]
      clear hW1 hv1
      have j0 := (q1.cell (p := ⟨bg, 0, none⟩) (lt_of_cell g0)).trans g0
      have j1 := (q1.cell (p := ⟨bg, 1, none⟩) (lt_of_cell g1)).trans g1
      have j2 := (q1.cell (p := ⟨bg, 2, none⟩) (lt_of_cell g2)).trans g2
      have j3 := (q1.cell (p := ⟨bg, 3, none⟩) (lt_of_cell g3)).trans g3
      go_wp2_with (first
        | (at_builtin; refine wp_app_lit rfl _ _ rfl W.heap.size _ [4] rfl own1 [(n : Int)] 1 1 rfl rfl (by simp) q1.size ?_
           intro v2 W2 own2 hb2
           have q2 := q1.trans hb2
           have k0 := (q2.cell (p := ⟨bg, 0, none⟩) (lt_of_cell g0)).trans g0
           have k1 := (q2.cell (p := ⟨bg, 1, none⟩) (lt_of_cell g1)).trans g1
           have k2 := (q2.cell (p := ⟨bg, 2, none⟩) (lt_of_cell g2)).trans g2
           clear j0 j1 j2 j3))
      go_loopw [5, 6, 7] (fun b i c wr => F2Rel W rs [4, (n : Int)] b i c wr) (fun _ i _ _ => n - (intOf i).toNat)
      case atStart => exact ⟨0, rfl, Nat.zero_le _, rfl, own2, q2⟩
      case round =>
        clear k0 k1 k2 q2 own2 own1 q1 hb2
        obtain ⟨j, rfl, hj, hp, hown, hbr⟩ := hrel
        rw [← HN.out] at hj
        have HP := Lib.hid hp
        have HO := Lib.hid hown
        clear hp hown
        have k0 := (hbr.cell (p := ⟨bg, 0, none⟩) (lt_of_cell g0)).trans g0
        have k2 := (hbr.cell (p := ⟨bg, 2, none⟩) (lt_of_cell g2)).trans g2
        have k3 := (hbr.cell (p := ⟨bg, 3, none⟩) (lt_of_cell g3)).trans g3
        clear g0 g1 g2 g3
        by_cases hgj : j < n
        · have hgj2 : j < rs.length := by rw [← HN.out]; exact hgj
          have HP1 := Lib.hid (rgP_snoc hgj2)
          have HB1 := Lib.hid (bytes_snoc hgj2 [4, (n : Int)])
          have hvb := HBd.out j hgj2
          obtain ⟨b, o, rfl, _, d, v, A2, m2, c2, hd, hv, hm, i0, i1, i2⟩ := rgs_at (ha.next hbr) hgj2
          rw [hm, HP.out, Bool.false_or] at HP1
          rw [show rgK rs[j] = (d, v) from Prod.ext hd hv] at HB1
          rw [hv] at hvb
          clear hd hv hm ha
          by_cases hm0 : m2 = 0
          · subst hm0
            have HP2 := Lib.hid (show rgP (rs.take (j + 1)) = false by rw [HP1.out]; rfl)
            cases d
            · go_wp2_with (first
                | (at_builtin; refine wp_app_lit rfl _ _ rfl W.heap.size _ _ rfl HO.out [v] 1 1 rfl rfl (by simp; omega) hbr.size ?_
                   intro v3 W3 own3 hb3))
              go_roundw
              case rel => exact ⟨j + 1, by go_num, by rw [← HN.out]; omega, HP2.out, by rw [HB1.out]; exact own3, hbr.trans hb3⟩
              case measure => simp [intOf]; omega
            · go_wp2_with (first
                | (at_builtin; refine wp_app_lit rfl _ _ rfl W.heap.size _ _ rfl HO.out [v + 128] 1 1 rfl rfl (by simp; omega) hbr.size ?_
                   intro v3 W3 own3 hb3))
              go_roundw
              case rel => exact ⟨j + 1, by go_num, by rw [← HN.out]; omega, HP2.out, by rw [HB1.out]; exact own3, hbr.trans hb3⟩
              case measure => simp [intOf]; omega
          · have HX := Lib.hid (show er = 2 by rw [HU.out, if_pos (rgP_of_take (k := j + 1) (by rw [HP1.out]; simp; omega))])
            have hm1 : 1 ≤ m2 := by omega
            have h1 := h0.trans (hbr.mono h0.size)
            go_wp2
            go_ret2
            exact ⟨_, by rw [HX.out]; rfl, by rw [← HB.out, HX.out]; exact OwnK.nil_ _ _ _ _, h1⟩
        · have HT := Lib.hid (show rs.take j = rs from List.take_of_length_le (by rw [← HN.out]; omega))
          rw [HT.out] at HP HO
          have HX := Lib.hid (show er = 0 by rw [HU.out, HP.out]; rfl)
          have HBS := Lib.hid (show [4, (n : Int)] ++ (rs.map rgK).map rgB = bs by rw [← HB.out, if_pos HX.out]; unfold formB; rw [HKL.out]; simp)
          have hjn : j ≤ 64 := by omega
          have h1 := h0.trans (hbr.mono h0.size)
          clear ha
          go_wp2
          go_ret2
          exact ⟨_, by rw [HX.out]; rfl, by rw [← HBS.out]; exact HO.out.base h0.size, h1⟩
set_option maxHeartbeats 1000000 in
theorem ref17Format_5 (vs pts : Int) (A : Option Addr) (n c : Nat) (rs : List Rg) (er : Int) (bs : List Int) (w : World) (ha0 : RowR w (fun g => g < w.heap.size) 3 rgC A rs) (hn : n = rs.length) (hl : n ≤ 9223372036854775807) (he : formErr ⟨5, vs, rs.map rgK, pts⟩ (rgP rs) = er) (hb : (if er = 0 then formB ⟨5, vs, rs.map rgK, pts⟩ else []) = bs) :
    Calls Tryd.prog 17 #[.agg #[.int .i64 5, .int .i64 vs, .slice A n c, .int .i64 pts]] w fun e w' => ∃ v, e = .returned (.tuple #[v, .int .i64 er]) ∧ OwnK w' w.heap.size 5 .u8 v bs ∧ Below w.heap.size w w' := by
  obtain ⟨W, hW⟩ : ∃ W, W = w.alloc (.cells #[.int .i64 5, .int .i64 vs, .slice A n c, .int .i64 pts] 24) := ⟨_, rfl⟩
  obtain ⟨h0, hsz, g0, g1, g2, g3⟩ := box4 hW
  obtain ⟨bg, hbg⟩ : ∃ b, b = w.heap.size := ⟨_, rfl⟩
  rw [← hbg] at g0 g1 g2 g3
  have HW := Lib.hid hW
  have Hbg := Lib.hid hbg
  have ha := (ha0.next h0).imp (T := fun g => g < W.heap.size) fun g hg => by omega
  have HKL := Lib.hid (show (rs.map rgK).length = n by rw [List.length_map, hn])
  have HN := Lib.hid hn
  have HE := Lib.hid he
  have HB := Lib.hid hb
  clear hW hbg hn he hb ha0
  by_cases hn1 : n < 1
  · have HX := Lib.hid (show er = 6 by rw [← HE.out]; exact fe_len (by simp only; omega) (.inl (by rw [HKL.out]; exact hn1)))
    clear ha
    go_enter Tryd.func17, Tryd.ntmps17
    go_upto_region 1 with (fail)
    rw [← HW.out, ← Hbg.out]
    go_wp2
    go_ret2
    exact ⟨_, by rw [HX.out]; rfl, by rw [← HB.out, HX.out]; exact OwnK.nil_ _ _ _ _, h0⟩
  by_cases hn64 : 64 < n
  · have HX := Lib.hid (show er = 6 by rw [← HE.out]; exact fe_len (by simp only; omega) (.inr (by rw [HKL.out]; exact hn64)))
    clear ha
    go_enter Tryd.func17, Tryd.ntmps17
    go_upto_region 1 with (fail)
    rw [← HW.out, ← Hbg.out]
    go_wp2
    go_ret2
    exact ⟨_, by rw [HX.out]; rfl, by rw [← HB.out, HX.out]; exact OwnK.nil_ _ _ _ _, h0⟩
  have HLN := Lib.hid (show 1 ≤ (rs.map rgK).length ∧ (rs.map rgK).length ≤ 64 by rw [HKL.out]; omega)
  go_enter Tryd.func17, Tryd.ntmps17
  go_upto_region 1 with (fail)
  rw [← HW.out, ← Hbg.out]
  go_wp2
  go_loopw [4] (fun i wr => F1Rel W rs i wr) (fun i _ => n - (intOf i).toNat)
  case atStart => exact ⟨0, rfl, Nat.zero_le _, rfl, rfl⟩
  case round =>
    obtain ⟨k, rfl, hk, hck, hwr⟩ := hrel
    obtain rfl := hwr.symm
    clear hwr
    rw [← HN.out] at hk
    have HK := Lib.hid hck
    clear hck
    by_cases hgo : k < n
    · have hgo2 : k < rs.length := by rw [← HN.out]; exact hgo
      have HS1 := Lib.hid (any_snoc hgo2)
      obtain ⟨b, o, rfl, _, d, v, A2, m2, c2, hd, hv, hm, k0, k1, k2⟩ := rgs_at ha hgo2
      rw [hv, HK.out, Bool.false_or] at HS1
      obtain ⟨s, hs⟩ : ∃ s, sizeF v = s := ⟨_, rfl⟩
      rw [hs] at HS1
      have HS := Lib.hid hs
      clear hs hd hv hm ha
      go_wp2_with (fail)
      refine (ref16Size_any v s _ HS.out).mono ?_
      rintro e w2 ⟨rfl, hw2⟩
      obtain rfl := hw2.symm
      by_cases e1 : s = 0
      · have HX := Lib.hid (show er = 7 by rw [← HE.out]; exact fe_bad (by simp only; omega) HLN.out (any_of_take (k := k + 1) (by rw [HS1.out, e1]; rfl)))
        subst e1
        go_wp2
        go_ret2
        exact ⟨_, by rw [HX.out]; rfl, by rw [← HB.out, HX.out]; exact OwnK.nil_ _ _ _ _, h0⟩
      · have d1 : (s == 0) = false := by rw [beq_eq_false_iff_ne]; exact e1
        have HS2 := Lib.hid (show anyBad ((rs.take (k + 1)).map rgK) = false by rw [HS1.out]; exact decide_eq_false e1)
        clear e1
        go_wp2
        go_roundw
        case rel => exact ⟨k + 1, by go_num, by rw [← HN.out]; omega, HS2.out, rfl⟩
        case measure => simp [intOf]; omega
    · have HA := Lib.hid (show anyBad (rs.map rgK) = false by rw [← HK.out, List.take_of_length_le (by rw [← HN.out]; omega)])
      by_cases hp1 : pts < 1
      · have HX := Lib.hid (show er = 6 by rw [← HE.out]; exact fe_5p rfl HLN.out HA.out (.inl hp1))
        clear ha
        go_wp2
        go_ret2
        exact ⟨_, by rw [HX.out]; rfl, by rw [← HB.out, HX.out]; exact OwnK.nil_ _ _ _ _, h0⟩
      by_cases hp4 : 4096 < pts
      · have HX := Lib.hid (show er = 6 by rw [← HE.out]; exact fe_5p rfl HLN.out HA.out (.inr hp4))
        clear ha
        go_wp2
        go_ret2
        exact ⟨_, by rw [HX.out]; rfl, by rw [← HB.out, HX.out]; exact OwnK.nil_ _ _ _ _, h0⟩
      by_cases hvs : vs ≠ 0
      · have d1 : (vs == 0) = false := by rw [beq_eq_false_iff_ne]; exact hvs
        have d2 : (vs != 0) = true := by rw [bne_iff_ne]; exact hvs
        have HX := Lib.hid (show er = 2 by rw [← HE.out, fe_5u rfl HLN.out HA.out ⟨by simp only; omega, by simp only; omega⟩]; exact feU_2 (by simp only; omega))
        clear ha
        go_wp2
        go_ret2
        exact ⟨_, by rw [HX.out]; rfl, by rw [← HB.out, HX.out]; exact OwnK.nil_ _ _ _ _, h0⟩
      obtain rfl : vs = 0 := by omega
      have HU := Lib.hid (show er = if rgP rs = true then 2 else 0 by rw [← HE.out, fe_5u rfl HLN.out HA.out ⟨by simp only; omega, by simp only; omega⟩, feU_p ⟨fun _ => rfl, fun h => absurd h (by simp only; omega), fun h => absurd rfl h⟩])
      have HBd := Lib.hid (fun (j : Nat) (hj : j < rs.length) => bd_of_any HA.out hj)
      go_upto_region 18 with (fail)
      obtain ⟨W1, hW1⟩ : ∃ W1, W1 = W.alloc (.cells #[.int .u8 5] 5) := ⟨_, rfl⟩
      have q1 : Below W.heap.size W W1 := by rw [hW1]; exact (Below.refl _ _).alloc (Nat.le_refl _) _
      obtain ⟨v1, hv1⟩ : ∃ v, v = Value.slice (some ⟨w.heap.size + 1, 0, none⟩) 1 1 := ⟨_, rfl⟩
      have own1 : OwnK W1 W.heap.size 5 .u8 v1 [5] := by rw [hW1, hv1, ← hsz]; exact own_lit _ (by decide) _ (Nat.le_refl _)
      rw [← hW1, ← hv1]
      clear hW1 hv1
      have j0 := (q1.cell (p := ⟨bg, 0, none⟩) (lt_of_cell g0)).trans g0
      have j1 := (q1.cell (p := ⟨bg, 1, none⟩) (lt_of_cell g1)).trans g1
      have j2 := (q1.cell (p := ⟨bg, 2, none⟩) (lt_of_cell g2)).trans g2
      have j3 := (q1.cell (p := ⟨bg, 3, none⟩) (lt_of_cell g3)).trans g3
      go_wp2_with (first
        | (at_builtin; refine wp_app_lit rfl _ _ rfl W.heap.size _ [5] rfl own1 [(n : Int)] 1 1 rfl rfl (by simp) q1.size ?_
           intro v2 W2 own2 hb2
           have q2 := q1.trans hb2
           have k0 := (q2.cell (p := ⟨bg, 0, none⟩) (lt_of_cell g0)).trans g0
           have k1 := (q2.cell (p := ⟨bg, 1, none⟩) (lt_of_cell g1)).trans g1
           have k2 := (q2.cell (p := ⟨bg, 2, none⟩) (lt_of_cell g2)).trans g2
           clear j0 j1 j2 j3))
      go_loopw [5, 6, 7] (fun b i c wr => F2Rel W rs [5, (n : Int)] b i c wr) (fun _ i _ _ => n - (intOf i).toNat)
      case atStart => exact ⟨0, rfl, Nat.zero_le _, rfl, own2, q2⟩
      case round =>
        clear k0 k1 k2 q2 own2 own1 q1 hb2
        obtain ⟨j, rfl, hj, hp, hown, hbr⟩ := hrel
        rw [← HN.out] at hj
        have HP := Lib.hid hp
        have HO := Lib.hid hown
        clear hp hown
        have k0 := (hbr.cell (p := ⟨bg, 0, none⟩) (lt_of_cell g0)).trans g0
        have k2 := (hbr.cell (p := ⟨bg, 2, none⟩) (lt_of_cell g2)).trans g2
        have k3 := (hbr.cell (p := ⟨bg, 3, none⟩) (lt_of_cell g3)).trans g3
        clear g0 g1 g2 g3
        by_cases hgj : j < n
        · have hgj2 : j < rs.length := by rw [← HN.out]; exact hgj
          have HP1 := Lib.hid (rgP_snoc hgj2)
          have HB1 := Lib.hid (bytes_snoc hgj2 [5, (n : Int)])
          have hvb := HBd.out j hgj2
          obtain ⟨b, o, rfl, _, d, v, A2, m2, c2, hd, hv, hm, i0, i1, i2⟩ := rgs_at (ha.next hbr) hgj2
          rw [hm, HP.out, Bool.false_or] at HP1
          rw [show rgK rs[j] = (d, v) from Prod.ext hd hv] at HB1
          rw [hv] at hvb
          clear hd hv hm ha
          by_cases hm0 : m2 = 0
          · subst hm0
            have HP2 := Lib.hid (show rgP (rs.take (j + 1)) = false by rw [HP1.out]; rfl)
            cases d
            · go_wp2_with (first
                | (at_builtin; refine wp_app_lit rfl _ _ rfl W.heap.size _ _ rfl HO.out [v] 1 1 rfl rfl (by simp; omega) hbr.size ?_
                   intro v3 W3 own3 hb3))
              go_roundw
              case rel => exact ⟨j + 1, by go_num, by rw [← HN.out]; omega, HP2.out, by rw [HB1.out]; exact own3, hbr.trans hb3⟩
              case measure => simp [intOf]; omega
            · go_wp2_with (first
                | (at_builtin; refine wp_app_lit rfl _ _ rfl W.heap.size _ _ rfl HO.out [v + 128] 1 1 rfl rfl (by simp; omega) hbr.size ?_
                   intro v3 W3 own3 hb3))
              go_roundw
              case rel => exact ⟨j + 1, by go_num, by rw [← HN.out]; omega, HP2.out, by rw [HB1.out]; exact own3, hbr.trans hb3⟩
              case measure => simp [intOf]; omega
          · have HX := Lib.hid (show er = 2 by rw [HU.out, if_pos (rgP_of_take (k := j + 1) (by rw [HP1.out]; simp; omega))])
            have hm1 : 1 ≤ m2 := by omega
            have h1 := h0.trans (hbr.mono h0.size)
            go_wp2
            go_ret2
            exact ⟨_, by rw [HX.out]; rfl, by rw [← HB.out, HX.out]; exact OwnK.nil_ _ _ _ _, h1⟩
        · have HT := Lib.hid (show rs.take j = rs from List.take_of_length_le (by rw [← HN.out]; omega))
          rw [HT.out] at HP HO
          have HX := Lib.hid (show er = 0 by rw [HU.out, HP.out]; rfl)
          have HBS := Lib.hid (show [5, (n : Int)] ++ (rs.map rgK).map rgB ++ [pts % 256, pts / 256] = bs by rw [← HB.out, if_pos HX.out]; unfold formB; rw [HKL.out]; simp)
          have hjn : j ≤ 64 := by omega
          have h1 := h0.trans (hbr.mono h0.size)
          clear ha
          have hrl : rs.length ≤ 64 := by rw [← HN.out]; omega
          go_wp2_with (first
            | (at_builtin; refine wp_app_lit rfl _ _ rfl W.heap.size _ _ rfl HO.out [pts % 256, pts / 256] 2 2 rfl rfl (by simp; omega) hbr.size ?_
               intro v3 W3 own3 hb3))
          go_ret2
          exact ⟨_, by rw [HX.out]; rfl, by rw [← HBS.out]; exact own3.base h0.size, h0.trans ((hbr.trans hb3).mono h0.size)⟩
end Go.Proofs.YtcfdpimpleniaaaDoor
