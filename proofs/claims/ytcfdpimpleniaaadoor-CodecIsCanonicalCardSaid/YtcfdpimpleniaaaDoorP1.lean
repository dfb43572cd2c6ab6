/-
  Packed texts: Base, Poly, CardKit, Open, Row, Words, RgA, Hdr, Cod0, CodN.
-/
import Derived.Laws.Entries
import Derived.RowKit
import Derived.WalkKit
import Derived.Test.YtcfdpimpleniaaaDoorRows
import Derived.Lib.Mul64
import Derived.Laws.MathBits
import Derived.Below
import Derived.ProofKit
import Derived.Laws.OwnMore
import Derived.OwnWalk
import Derived.Deep.Draws
import Derived.Lib.Hide
import Derived.Deep.OwnRows
import Derived.Laws.Concat
import Derived.Laws.Strings
import Derived.Carry
import Derived.ChangeSame
import Derived.OpenShut
import Derived.ChangeSlices
import Derived.ChangeMaps5
import Derived.Deep.Slices
import Derived.Deep.Strs
import Derived.Maps.AppendAt
import Derived.Laws.AppendOwnNone
import Derived.Deep.AppendLies
import Derived.Deep.QuietTactic
import Derived.BigQuiet
import Derived.Shelf.Spec.BitsCarry
import Derived.Defers
import Derived.Recover
import Derived.RegionTactic
import Derived.Deep.RegionWith
import Derived.Deep.RegionHeld3
import Derived.StillTactics
import Derived.Deep.DeepCutAuto
import Derived.Deep.CutRange
import Derived.Deep.RegionLaw
import Derived.Laws.Pointers
import Derived.WalkSpells
/- Plain mathematics: the walk's operations on 64-bit words, brought to machine words (BitVec 64) and to masks. No program is named here. -/
namespace Go.Proofs.YtcfdpimpleniaaaDoor
open Go

/-- All ones. -/
def ones : Int := 18446744073709551615
/-- The mask of a condition. -/
def mk (c : Bool) : Int := if c then ones else 0
/-- A word's range. -/
def U (a : Int) : Prop := 0 ≤ a ∧ a ≤ 18446744073709551615
/-- A signed word's range. -/
def S (a : Int) : Prop := -9223372036854775808 ≤ a ∧ a ≤ 9223372036854775807

theorem wrap_u (n : Int) : IntKind.u64.wrap n = n % 18446744073709551616 := by simp [IntKind.wrap, IntKind.bits, IntKind.signed]
theorem wrap_s (n : Int) : IntKind.i64.wrap n = (n + 9223372036854775808) % 18446744073709551616 - 9223372036854775808 := by
  simp [IntKind.wrap, IntKind.bits, IntKind.signed]; split <;> omega
theorem wrap_u64' {x : Int} (h1 : 0 ≤ x) (h2 : x < 18446744073709551616) : IntKind.u64.wrap x = x := by
  simp [IntKind.wrap, IntKind.signed, IntKind.bits]; omega
theorem U_wrap (n : Int) : U (IntKind.u64.wrap n) := by rw [wrap_u]; unfold U; omega
/-- A word out of its number. -/
theorem ofInt_nat (x : BitVec 64) : BitVec.ofInt 64 (x.toNat : Int) = x := by
  rw [BitVec.ofInt_natCast]; simp
theorem wrap_nat (x : BitVec 64) : IntKind.u64.wrap (x.toNat : Int) = (x.toNat : Int) := by
  rw [wrap_u]; have := x.isLt; omega
theorem U_nat (x : BitVec 64) : U (x.toNat : Int) := by unfold U; have := x.isLt; omega
theorem U_word {a : Int} (h : U a) : ∃ x : BitVec 64, a = (x.toNat : Int) := by
  refine ⟨BitVec.ofNat 64 a.toNat, ?_⟩
  rw [BitVec.toNat_ofNat]; unfold U at h; omega
theorem and_w (x y : BitVec 64) : bits .and .u64 (x.toNat : Int) (y.toNat : Int) = ((x &&& y).toNat : Int) := by
  show IntKind.u64.wrap (((BitVec.ofInt 64 (x.toNat : Int)) &&& (BitVec.ofInt 64 (y.toNat : Int))).toNat : Int) = _
  rw [ofInt_nat, ofInt_nat, wrap_nat]
theorem or_w (x y : BitVec 64) : bits .or .u64 (x.toNat : Int) (y.toNat : Int) = ((x ||| y).toNat : Int) := by
  show IntKind.u64.wrap (((BitVec.ofInt 64 (x.toNat : Int)) ||| (BitVec.ofInt 64 (y.toNat : Int))).toNat : Int) = _
  rw [ofInt_nat, ofInt_nat, wrap_nat]
theorem xor_w (x y : BitVec 64) : bits .xor .u64 (x.toNat : Int) (y.toNat : Int) = ((x ^^^ y).toNat : Int) := by
  show IntKind.u64.wrap (((BitVec.ofInt 64 (x.toNat : Int)) ^^^ (BitVec.ofInt 64 (y.toNat : Int))).toNat : Int) = _
  rw [ofInt_nat, ofInt_nat, wrap_nat]
theorem U_and {a b : Int} (ha : U a) (hb : U b) : U (bits .and .u64 a b) := by
  obtain ⟨x, rfl⟩ := U_word ha; obtain ⟨y, rfl⟩ := U_word hb; rw [and_w]; exact U_nat _
theorem U_or {a b : Int} (ha : U a) (hb : U b) : U (bits .or .u64 a b) := by
  obtain ⟨x, rfl⟩ := U_word ha; obtain ⟨y, rfl⟩ := U_word hb; rw [or_w]; exact U_nat _
theorem U_xor {a b : Int} (ha : U a) (hb : U b) : U (bits .xor .u64 a b) := by
  obtain ⟨x, rfl⟩ := U_word ha; obtain ⟨y, rfl⟩ := U_word hb; rw [xor_w]; exact U_nat _
def sel (m a b : Int) : Int := bits .or .u64 (bits .and .u64 a m) (bits .andNot .u64 b m)
theorem xor_zero {a b : Int} (ha : U a) (hb : U b) : decide (bits .xor .u64 a b = 0) = decide (a = b) := by
  obtain ⟨x, rfl⟩ := U_word ha
  obtain ⟨y, rfl⟩ := U_word hb
  rw [xor_w, decide_eq_decide]
  constructor
  · intro h
    have h0 : (x ^^^ y) = 0#64 := BitVec.eq_of_toNat_eq (by simpa using (by omega : (x ^^^ y).toNat = 0))
    have : x = y := BitVec.xor_eq_zero_iff.1 h0
    rw [this]
  · intro h
    have : x = y := BitVec.eq_of_toNat_eq (by omega)
    rw [this, BitVec.xor_self]; rfl
/-! The reference's Select: bit after bit. -/
/-- The lowest k bits. -/
def low (n : Int) (k : Nat) : Int := ((n.toNat % 2 ^ k : Nat) : Int)
end Go.Proofs.YtcfdpimpleniaaaDoor
/- Plain mathematics: lists of digits of 16 bits and the numbers that they write. No program is named here. -/
namespace Go.Proofs.YtcfdpimpleniaaaDoor

/-- The number that digits write, the least significant one first. -/
def ev : List Int → Int
  | [] => 0
  | d :: r => d + 65536 * ev r
/-- Digits. -/
def Dg (ds : List Int) : Prop := ∀ d ∈ ds, 0 ≤ d ∧ d < 65536
/-- Digits without leading zeros. -/
def Nf (ds : List Int) : Prop := Dg ds ∧ ∀ r d, ds = r ++ [d] → d ≠ 0
theorem Dg.nil_ : Dg [] := fun _ h => by cases h
theorem Dg.cons {d : Int} {r : List Int} (h : Dg (d :: r)) : (0 ≤ d ∧ d < 65536) ∧ Dg r := ⟨h d (by simp), fun x hx => h x (by simp [hx])⟩
theorem Dg.mk {d : Int} {r : List Int} (h0 : 0 ≤ d) (h1 : d < 65536) (h : Dg r) : Dg (d :: r) := fun x hx => by
  rcases List.mem_cons.1 hx with rfl | hx
  · exact ⟨h0, h1⟩
  · exact h x hx
theorem Dg.take {ds : List Int} (h : Dg ds) (n : Nat) : Dg (ds.take n) := fun x hx => h x (List.mem_of_mem_take hx)
theorem Dg.at_ {ds : List Int} (h : Dg ds) {j : Nat} (hj : j < ds.length) : 0 ≤ ds[j] ∧ ds[j] < 65536 := h _ (List.getElem_mem hj)
/-- The digit at a place, or 0. -/
def dgt (ds : List Int) (i : Nat) : Int := ds.getD i 0
theorem dgt_lt {ds : List Int} {i : Nat} (h : i < ds.length) : dgt ds i = ds[i] := by unfold dgt; simp [h]
theorem dgt_ge {ds : List Int} {i : Nat} (h : ds.length ≤ i) : dgt ds i = 0 := by unfold dgt; simp [h]
theorem Dg.dgt {ds : List Int} (h : Dg ds) (i : Nat) : 0 ≤ dgt ds i ∧ dgt ds i < 65536 := by
  rcases Nat.lt_or_ge i ds.length with hi | hi
  · rw [dgt_lt hi]; exact h.at_ hi
  · rw [dgt_ge hi]; omega
theorem ev_append (a b : List Int) : ev (a ++ b) = ev a + 65536 ^ a.length * ev b := by
  induction a with
  | nil => simp [ev]
  | cons d r ih => simp only [List.cons_append, ev, ih, List.length_cons]; rw [Int.pow_succ, Int.mul_add, ← Int.mul_assoc, Int.mul_comm 65536 (65536 ^ r.length)]; omega
theorem ev_snoc (a : List Int) (d : Int) : ev (a ++ [d]) = ev a + 65536 ^ a.length * d := by rw [ev_append]; simp [ev]
theorem ev_nonneg {ds : List Int} (h : Dg ds) : 0 ≤ ev ds := by
  induction ds with
  | nil => simp [ev]
  | cons d r ih => have := h.cons; have := ih this.2; simp only [ev]; omega
theorem ev_lt {ds : List Int} (h : Dg ds) : ev ds < 65536 ^ ds.length := by
  induction ds with
  | nil => simp [ev]
  | cons d r ih => have h1 := h.cons; have := ih h1.2; simp only [ev, List.length_cons]; rw [Int.pow_succ]; omega
theorem Nf.pos {ds : List Int} (h : Nf ds) (hne : ds ≠ []) : 65536 ^ (ds.length - 1) ≤ ev ds := by
  have e := List.dropLast_concat_getLast hne
  have hd := h.2 _ _ e.symm
  have hr : 0 ≤ ds.getLast hne := (h.1 _ (List.getLast_mem hne)).1
  have hev : ev ds = ev ds.dropLast + 65536 ^ ds.dropLast.length * ds.getLast hne := by rw [← ev_snoc, e]
  have hn : 0 ≤ ev ds.dropLast := ev_nonneg fun x hx => h.1 x (List.dropLast_subset _ hx)
  rw [hev, List.length_dropLast]
  have hp : (0 : Int) ≤ 65536 ^ (ds.length - 1) := Int.pow_nonneg (by decide)
  have : 65536 ^ (ds.length - 1) * 1 ≤ 65536 ^ (ds.length - 1) * ds.getLast hne := Int.mul_le_mul_of_nonneg_left (by omega) hp
  omega
theorem ev_inj {xs : List Int} : ∀ {ys : List Int}, xs.length = ys.length → Dg xs → Dg ys → ev xs = ev ys → xs = ys := by
  induction xs with
  | nil => intro ys hl _ _ _; exact (List.eq_nil_of_length_eq_zero (by simpa using hl.symm)).symm
  | cons a r ih =>
    intro ys hl ha hb he
    match ys, hl, hb, he with
    | b :: s, hl, hb, he =>
      have h1 := ha.cons
      have h2 := hb.cons
      simp only [ev] at he
      have : a = b := by omega
      subst this
      rw [ih (by simpa using hl) h1.2 h2.2 (by omega)]
theorem Nf.length_le {ds : List Int} (h : Nf ds) {n : Nat} (hn : ev ds < 65536 ^ n) : ds.length ≤ n := by
  rcases Classical.em (ds = []) with he | he
  · subst he; simp
  · have h1 := h.pos he
    rcases Nat.lt_or_ge n ds.length with hlt | hge
    · have : (65536 : Int) ^ n ≤ 65536 ^ (ds.length - 1) := by
        obtain ⟨m, hm⟩ := Nat.exists_eq_add_of_le (show n ≤ ds.length - 1 by omega)
        rw [hm, Int.pow_add]
        have hp : (0 : Int) < 65536 ^ m := Int.pow_pos (by decide)
        have hq : (0 : Int) ≤ 65536 ^ n := Int.pow_nonneg (by decide)
        have := Int.mul_le_mul_of_nonneg_left (show (1 : Int) ≤ 65536 ^ m by omega) hq
        omega
      omega
    · exact hge
theorem Nf.inj {xs ys : List Int} (ha : Nf xs) (hb : Nf ys) (h : ev xs = ev ys) : xs = ys := by
  have h1 := ha.length_le (n := ys.length) (by rw [h]; exact ev_lt hb.1)
  have h2 := hb.length_le (n := xs.length) (by rw [← h]; exact ev_lt ha.1)
  exact ev_inj (by omega) ha.1 hb.1 h
end Go.Proofs.YtcfdpimpleniaaaDoor
/- Plain mathematics: lists of words, the numbers that they write, and back. No program is named here. -/
namespace Go.Proofs.YtcfdpimpleniaaaDoor

/-- Words. -/
def Us (l : List Int) : Prop := ∀ d ∈ l, U d
theorem Us.cons {d : Int} {r : List Int} (h : Us (d :: r)) : U d ∧ Us r := ⟨h d (by simp), fun x hx => h x (by simp [hx])⟩
theorem Us.mk {d : Int} {r : List Int} (h0 : U d) (h : Us r) : Us (d :: r) := fun x hx => by
  rcases List.mem_cons.1 hx with rfl | hx
  · exact h0
  · exact h x hx
theorem Us.take {l : List Int} (h : Us l) (n : Nat) : Us (l.take n) := fun x hx => h x (List.mem_of_mem_take hx)
theorem Us.at_ {l : List Int} (h : Us l) {j : Nat} (hj : j < l.length) : U l[j] := h _ (List.getElem_mem hj)
/-- The number of integers of n limbs. -/
def M (n : Nat) : Int := 18446744073709551616 ^ n
theorem M_zero : M 0 = 1 := rfl
theorem M_succ (n : Nat) : M (n + 1) = M n * 18446744073709551616 := Int.pow_succ _ _
theorem M_pos (n : Nat) : 0 < M n := Int.pow_pos (by decide)
/-- The number that words write, the least significant one first. -/
def uv : List Int → Int
  | [] => 0
  | d :: r => d + 18446744073709551616 * uv r
/-- The value in two's complement. -/
def sv (l : List Int) : Int := if 2 * uv l < M l.length then uv l else uv l - M l.length
/-- The limbs of a number. -/
def limbs : Nat → Int → List Int
  | 0, _ => []
  | n + 1, x => x % 18446744073709551616 :: limbs n (x / 18446744073709551616)
theorem limbs_length (n : Nat) (x : Int) : (limbs n x).length = n := by
  induction n generalizing x with
  | zero => rfl
  | succ n ih => simp [limbs, ih]
theorem limbs_uv (n : Nat) (x : Int) : uv (limbs n x) = x % M n := by
  induction n generalizing x with
  | zero => simp [limbs, uv, M_zero]
  | succ n ih =>
    simp only [limbs, uv, ih]
    rw [M_succ, Int.mul_comm (M n)]
    have h1 := Int.emod_add_mul_ediv x 18446744073709551616
    have hp := M_pos n
    have h2 := Int.emod_nonneg (x / 18446744073709551616) (show M n ≠ 0 by omega)
    have h3 := Int.emod_lt_of_pos (x / 18446744073709551616) hp
    have h4 := Int.emod_add_mul_ediv (x / 18446744073709551616) (M n)
    have e : x = (x % 18446744073709551616 + 18446744073709551616 * (x / 18446744073709551616 % M n)) + 18446744073709551616 * M n * (x / 18446744073709551616 / M n) := by
      rw [Int.mul_assoc, Int.add_assoc, ← Int.mul_add, h4]; omega
    have hm : 18446744073709551616 * (x / 18446744073709551616 % M n) + 18446744073709551616 ≤ 18446744073709551616 * M n := by omega
    conv => rhs; rw [e]
    rw [Int.add_mul_emod_self_left]
    exact (Int.emod_eq_of_lt (by omega) (by omega)).symm
theorem sv_limbs {n : Nat} {x : Int} (h0 : -M n ≤ 2 * x) (h1 : 2 * x < M n) : sv (limbs n x) = x := by
  unfold sv
  rw [limbs_uv, limbs_length]
  have hp := M_pos n
  rcases Int.lt_or_le x 0 with h | h
  · have e : x % M n = x + M n := by rw [← Int.add_emod_right]; exact Int.emod_eq_of_lt (by omega) (by omega)
    rw [e, if_neg (by omega)]; omega
  · have e : x % M n = x := Int.emod_eq_of_lt h (by omega)
    rw [e, if_pos h1]
theorem Us.set_ {os : List Int} (h : Us os) (j : Nat) {x : Int} (h0 : U x) : Us (os.set j x) := fun d hd => by
  rcases List.mem_or_eq_of_mem_set hd with h' | rfl
  · exact h d h'
  · exact h0
theorem Us.dgt {os : List Int} (h : Us os) (j : Nat) : U (dgt os j) := by
  rcases Nat.lt_or_ge j os.length with hi | hi
  · rw [dgt_lt hi]; exact h.at_ hi
  · rw [dgt_ge hi]; unfold U; omega
end Go.Proofs.YtcfdpimpleniaaaDoor
/- Plain mathematics: sums, differences and products of 64-bit words as two words. No program is named here. -/
namespace Go.Proofs.YtcfdpimpleniaaaDoor
open Go

/-- What is above the lower word. -/
def hi (n : Int) : Int := n / 18446744073709551616
end Go.Proofs.YtcfdpimpleniaaaDoor
/- Words for memory: a slice that reads as a list of numbers, kept over what a call lays; rows of the call's own. No program is named here. -/
namespace Go.Proofs.YtcfdpimpleniaaaDoor
open Go.RowKit
set_option maxRecDepth 100000
set_option linter.unusedVariables false
set_option linter.unusedSimpArgs false

theorem lt_of_cell {w : World} {b o : Nat} {v : Value} (h : w.cell? ⟨b, o, none⟩ = some v) : b < w.heap.size := by
  rcases Nat.lt_or_ge b w.heap.size with h' | h'
  · exact h'
  · rw [World.cell?] at h
    simp [Array.getElem?_eq_none h'] at h
/-- The cells behind a slice's address are the numbers of ds; they lie in a block that S admits. -/
def SlR (w : World) (S : Nat → Prop) (k : IntKind) (A : Option Addr) (ds : List Int) : Prop :=
  0 < ds.length → ∃ b off, A = some ⟨b, off, none⟩ ∧ S b ∧ ∀ j d, ds[j]? = some d → w.cell? ⟨b, off + j, none⟩ = some (.int k d)
theorem SlR.nil_ (w : World) (S : Nat → Prop) (k : IntKind) (A : Option Addr) : SlR w S k A [] := fun h => absurd h (by simp)
theorem SlR.at_ {w : World} {S : Nat → Prop} {k : IntKind} {A : Option Addr} {ds : List Int} (h : SlR w S k A ds) {j : Nat} (hj : j < ds.length) :
    ∃ b off, A = some ⟨b, off, none⟩ ∧ S b ∧ w.cell? ⟨b, off + j, none⟩ = some (.int k (ds[j]'hj)) := by
  obtain ⟨b, off, e, hb, hc⟩ := h (by omega)
  exact ⟨b, off, e, hb, hc j _ (List.getElem?_eq_getElem hj)⟩
theorem SlR.keep {w w' : World} {S : Nat → Prop} {k : IntKind} {A : Option Addr} {ds : List Int} (h : SlR w S k A ds) (hk : ∀ b o, S b → b < w.heap.size → w'.cell? ⟨b, o, none⟩ = w.cell? ⟨b, o, none⟩) : SlR w' S k A ds := fun hl => by
  obtain ⟨b, off, e, hS, hc⟩ := h hl
  exact ⟨b, off, e, hS, fun j d hd => (hk b _ hS (lt_of_cell (hc j d hd))).trans (hc j d hd)⟩
/-- Into a later world. -/
theorem SlR.next {w w' : World} {S : Nat → Prop} {k : IntKind} {A : Option Addr} {ds : List Int} (h : SlR w S k A ds) (hb : Below w.heap.size w w') : SlR w' S k A ds :=
  h.keep fun b o _ hlt => hb.cell (p := ⟨b, o, none⟩) hlt
theorem SlR.imp {w : World} {S T : Nat → Prop} {k : IntKind} {A : Option Addr} {ds : List Int} (h : SlR w S k A ds) (hST : ∀ b, S b → T b) : SlR w T k A ds := fun hl => by
  obtain ⟨b, off, e, hS, hc⟩ := h hl
  exact ⟨b, off, e, hST b hS, hc⟩
theorem SlR.set_ {w : World} {S : Nat → Prop} {k : IntKind} {A : Option Addr} {ds : List Int} (h : SlR w S k A ds) (b o : Nat) (v : Value) (hne : ¬ S b) : SlR (w.setCell ⟨b, o, none⟩ v) S k A ds :=
  h.keep fun c p hS _ => World.cell?_of_block (Below.heap_setCell w ⟨b, o, none⟩ v c (fun e => hne (by subst e; exact hS)))
theorem SlR.lt {w : World} {S : Nat → Prop} {k : IntKind} {A : Option Addr} {ds : List Int} (h : SlR w S k A ds) : SlR w (fun b => S b ∧ b < w.heap.size) k A ds := fun hl => by
  obtain ⟨b, off, e, hS, hc⟩ := h hl
  exact ⟨b, off, e, ⟨hS, lt_of_cell (hc 0 _ (List.getElem?_eq_getElem hl))⟩, hc⟩
theorem SlR.take {w : World} {S : Nat → Prop} {k : IntKind} {A : Option Addr} {ds : List Int} (h : SlR w S k A ds) (n : Nat) : SlR w S k A (ds.take n) := fun hl => by
  obtain ⟨b, off, e, hlt, hc⟩ := h (by rw [List.length_take] at hl; omega)
  refine ⟨b, off, e, hlt, fun j d hd => hc j d ?_⟩
  rw [List.getElem?_take] at hd
  split at hd
  · exact hd
  · cases hd
theorem below_drewN' {B : Nat} {a w : World} (h : Below B a w) (n : Nat) : Below B a (w.drewN n) := ⟨h.os, h.tape, h.output, h.size, h.block⟩
/-- What a row of the call's own reads as. -/
theorem own_form {w : World} {base : Nat} {e : TypeId} {k : IntKind} {v : Value} {n : Nat} {ds : List Int} (h : w.ownsRow base e 1 v n (ds.map (Value.int k))) :
    n = ds.length ∧ ∃ A c, v = .slice A ds.length c ∧ ds.length ≤ c ∧ c ≤ maxLen ∧ SlR w (fun b => base ≤ b) k A ds := by
  have hn : n = ds.length := by have := h.1; simpa using this.symm
  subst hn
  refine ⟨rfl, ?_⟩
  rcases h.2 with ⟨rfl, h0⟩ | ⟨g, cap, cur, rfl, hg, hh, hc, hm, hs, ht⟩
  · exact ⟨none, 0, by rw [h0], by omega, by unfold maxLen; omega, fun hl => by omega⟩
  · refine ⟨some ⟨g, 0, none⟩, cap, rfl, hc, hm, fun _ => ⟨g, 0, rfl, hg, fun j d hd => ?_⟩⟩
    have hj : j < ds.length := by
      rcases Nat.lt_or_ge j ds.length with hlt | hge
      · exact hlt
      · rw [List.getElem?_eq_none hge] at hd; cases hd
    rw [Nat.zero_add, h.cellAt j (by omega), List.getElem?_map, hd]; rfl
/-- A row of numbers that the call owns. -/
def OwnK (w : World) (base : Nat) (e : TypeId) (k : IntKind) (v : Value) (os : List Int) : Prop := w.ownsRow base e 1 v os.length (os.map (Value.int k))
theorem OwnK.nil_ (w : World) (base : Nat) (e : TypeId) (k : IntKind) : OwnK w base e k (.slice none 0 0) [] := World.ownsRow_nil _ _ _ _
theorem OwnK.form {w : World} {base : Nat} {e : TypeId} {k : IntKind} {v : Value} {os : List Int} (h : OwnK w base e k v os) :
    ∃ A c, v = .slice A os.length c ∧ os.length ≤ c ∧ c ≤ maxLen ∧ SlR w (fun b => base ≤ b) k A os := (own_form h).2
end Go.Proofs.YtcfdpimpleniaaaDoor
/- More words for memory: cells of a row of the call's own, stores into it, make. No program is named here. -/
namespace Go.Proofs.YtcfdpimpleniaaaDoor
open Go.RowKit
set_option maxRecDepth 100000
set_option linter.unusedVariables false
set_option linter.unusedSimpArgs false

theorem OwnK.set_ {w : World} {base g c n : Nat} {e : TypeId} {k : IntKind} {os : List Int} (h : OwnK w base e k (.slice (some ⟨g, 0, none⟩) n c) os) (hn : os.length = n) (j : Nat) (x : Int) :
    OwnK (w.setCell ⟨g, j, none⟩ (.int k x)) base e k (.slice (some ⟨g, 0, none⟩) n c) (os.set j x) ∧ (os.set j x).length = n := by
  subst hn
  refine ⟨?_, by simp⟩
  unfold OwnK
  rw [List.length_set, List.map_set]
  exact (World.ownsRow.stored h j (.int k x)).1
theorem Dg.set_ {os : List Int} (h : Dg os) (j : Nat) {x : Int} (h0 : 0 ≤ x) (h1 : x < 65536) : Dg (os.set j x) := fun d hd => by
  rcases List.mem_or_eq_of_mem_set hd with h' | rfl
  · exact h d h'
  · exact ⟨h0, h1⟩
end Go.Proofs.YtcfdpimpleniaaaDoor
/- More words for memory: append of a list of numbers onto a row of the call's own. No program is named here. -/
namespace Go.Proofs.YtcfdpimpleniaaaDoor
open Go.RowKit
set_option maxRecDepth 100000
set_option linter.unusedVariables false
set_option linter.unusedSimpArgs false

theorem addr_add0 (b off j : Nat) : (⟨b, off, none⟩ : Addr).add j = ⟨b, off + j, none⟩ := by
  unfold Addr.add; split
  · next h => subst h; rfl
  · rfl
end Go.Proofs.YtcfdpimpleniaaaDoor
/- Boxes that may be written. No program is named here. -/
namespace Go.Proofs.YtcfdpimpleniaaaDoor
open Go.RowKit
set_option maxRecDepth 100000
set_option linter.unusedVariables false
set_option linter.unusedSimpArgs false

/-- A box of n cells that may be written. -/
def HasBox (w : World) (B n : Nat) : Prop := ∀ i, i < n → (∃ v, w.cell? ⟨B, i, none⟩ = some v) ∧ w.frozen? ⟨B, i, none⟩ = false
theorem HasBox.next {w w1 : World} {B n : Nat} (h : HasBox w B n) (hb : Below w.heap.size w w1) : HasBox w1 B n := fun i hi => by
  obtain ⟨⟨v, hv⟩, hf⟩ := h i hi
  have hl := lt_of_cell hv
  exact ⟨⟨v, (hb.cell (p := ⟨B, i, none⟩) hl).trans hv⟩, (hb.frozen (p := ⟨B, i, none⟩) hl).trans hf⟩
theorem HasBox.set_ {w : World} {B n : Nat} (h : HasBox w B n) (p : Addr) (x : Value) : HasBox (w.setCell p x) B n := fun i hi => by
  obtain ⟨⟨v, hv⟩, hf⟩ := h i hi
  refine ⟨?_, (World.frozen?_setCell _ _ _ _).trans hf⟩
  obtain ⟨v', hv'⟩ := cell?_setCell_some (w := w) (p := p) (x := x) (q := ⟨B, i, none⟩) (v := v) hv
  exact ⟨v', hv'⟩
end Go.Proofs.YtcfdpimpleniaaaDoor
/- Texts as lists of bytes. No program is named here. -/
namespace Go.Proofs.YtcfdpimpleniaaaDoor
open Go

/-- A text of bytes. -/
def bs (l : List UInt8) : ByteArray := ⟨l.toArray⟩
end Go.Proofs.YtcfdpimpleniaaaDoor
namespace Go.Proofs.YtcfdpimpleniaaaDoor
open Go.RowKit
set_option maxRecDepth 100000
set_option linter.unusedVariables false
set_option linter.unusedSimpArgs false

theorem wrap_i64' {x : Int} (h1 : -9223372036854775808 ≤ x) (h2 : x < 9223372036854775808) : IntKind.i64.wrap x = x := by rw [wrap_s]; omega
/-- A point. -/
structure Pt where
  x : Int
  y : Int
  deriving DecidableEq
def ptC (p : Pt) : List Value := [.int .i64 p.x, .int .i64 p.y]
theorem ptC_len (p : Pt) : (ptC p).length = 2 := rfl
/-- Points whose coordinates are numbers of 64 bits. -/
def SsP (l : List Pt) : Prop := ∀ p ∈ l, S p.x ∧ S p.y
/-- Twice the area of a triangle. -/
def detP (a b c : Pt) : Int := (b.x - a.x) * (c.y - a.y) - (b.y - a.y) * (c.x - a.x)
def sgnP (a b c : Pt) : Int := (detP a b c).sign
/-- The vertex with an index. -/
def at_ (l : List Pt) (i : Nat) : Pt := l.getD i ⟨0, 0⟩
theorem at_lt {l : List Pt} {i : Nat} (h : i < l.length) : at_ l i = l[i] := by unfold at_; simp [h]
def nx (n i : Nat) : Nat := if i + 1 < n then i + 1 else 0
def side (l : List Pt) (i : Nat) (p : Pt) : Int := sgnP (at_ l i) (at_ l (nx l.length i)) p
def good (l : List Pt) (s : Int) : Prop := ∀ i, i < l.length → ∀ j, j < l.length → j ≠ i → j ≠ nx l.length i → side l i (at_ l j) = s
instance (l : List Pt) (s : Int) : Decidable (good l s) := by unfold good; infer_instance
end Go.Proofs.YtcfdpimpleniaaaDoor
/- The last step of a law's row, whatever the arguments' types: where the call only laid new blocks, every argument reads behind it as it read before, and the result true is read. No program is named here. -/
namespace Go.Proofs.YtcfdpimpleniaaaDoor
open Go.RowKit Go.ChangeShapes Go.WideShapes
set_option maxRecDepth 100000
set_option linter.unusedVariables false
set_option linter.unusedSimpArgs false

theorem readable_all {P : Program} {t : TypeId} {ts : List TypeId} (h : ((t :: ts).all fun t => P.readableRec t && decide (t < P.types.size)) = true) : P.readableRec t = true ∧ t < P.types.size ∧ (ts.all fun t => P.readableRec t && decide (t < P.types.size)) = true := by
  simp only [List.all_cons, Bool.and_eq_true, decide_eq_true_eq] at h
  exact ⟨h.1.1, h.1.2, h.2⟩
/-- All arguments read as before. -/
theorem stays_all {H : Type} {enc : TypeId × Value → H} {P : Program} (hl : laidOutB P = true) {W W' : World} {sp : Nat → Bool} :
    ∀ {ts : List TypeId} {vs : List Value} {ds : List (DataW H)} {ps : List MemPlace}, (ts.all fun t => P.readableRec t && decide (t < P.types.size)) = true →
      DataW.TrodAll enc P W 0 (fun _ => true) true ts vs ds ps → (∀ x ∈ ps, W.sameAt W' x) → (∀ x ∈ ps, sp x.block = true) → DataW.TrodAll enc P W' 0 sp true ts vs ds ps
  | [], [], [], _, _, h, _, _ => h
  | [], _ :: _, _, _, _, h, _, _ => h.elim
  | [], [], _ :: _, _, _, h, _, _ => h.elim
  | _ :: _, [], _, _, _, h, _, _ => h.elim
  | _ :: _, _ :: _, [], _, _, h, _, _ => h.elim
  | t :: ts, v :: vs, d :: ds, ps, hr, h, hs, hp => by
    obtain ⟨p, q, h1, h2, rfl⟩ := h
    obtain ⟨r1, r2, r3⟩ := readable_all hr
    exact ⟨p, q, WideElems.Trod_stays hl r1 r2 h1 (fun x hx => hs x (by simp [hx])) (fun x hx => hp x (by simp [hx])), stays_all hl r3 h2 (fun x hx => hs x (by simp [hx])) (fun x hx => hp x (by simp [hx])), rfl⟩

/-- A law's row. -/
theorem post_law {H : Type} {enc : TypeId × Value → H} {P : Program} {f : Func} {s : ChangeSpec} {W W' : World} {args : Array Value} {ds : List (DataW H)} {before : List MemPlace} {tb : TypeId}
    (hl : laidOutB P = true) (hr : (f.params.toList.all fun t => P.readableRec t && decide (t < P.types.size)) = true) (hb : P.underlying tb = some .bool) (hres : f.resultTypes = #[tb])
    (hW : DataW.Whole enc P f.params.toList s.vars false W args.toList ds [] before) (hA : DataW.TrodAll enc P W 0 (fun _ => true) true f.params.toList args.toList ds before)
    (hfn : s.fn H ds = { results := [.lit (.bool true)], args := ds }) (hv : s.vars = []) (h : Below W.heap.size W W') :
    s.post enc P f false true false false W args (.bool true) W' := by
  have hlt : ∀ p ∈ before, p.block < W.heap.size := fun p hp => by simpa using hW.lt p hp
  have hfn' : s.fn H (ds ++ []) = { results := [.lit (.bool true)], args := ds } := by rw [List.append_nil]; exact hfn
  refine ⟨ds, [], before, [], before, [], hW, ?_, ?_, ?_, World.keptBut_mono (fun p hp => ⟨hp, ?_⟩) (h.frame (· ∈ before)), fun hf => ?_⟩
  · rw [hfn', hres]; exact trodAll_cons_mk (shut_bool hb true) rfl
  · rw [hfn']; exact stays_all hl hr hA (fun p hp => h.same (hlt p hp)) (fun p hp => by simpa using hlt p hp)
  · rw [hfn', hv]; exact rfl
  · exact Or.inr (Or.inl hp)
  · exact absurd hf (by decide)
end Go.Proofs.YtcfdpimpleniaaaDoor
/- Opening a slice of words that came in. No program is named here. -/
namespace Go.Proofs.YtcfdpimpleniaaaDoor
open Go.RowKit Go.ChangeShapes Go.WideShapes
set_option maxRecDepth 100000
set_option linter.unusedVariables false
set_option linter.unusedSimpArgs false

end Go.Proofs.YtcfdpimpleniaaaDoor
/- Opening a text that came in. No program is named here. -/
namespace Go.Proofs.YtcfdpimpleniaaaDoor
open Go.RowKit Go.ChangeShapes Go.WideShapes
set_option maxRecDepth 100000
set_option linter.unusedVariables false
set_option linter.unusedSimpArgs false

end Go.Proofs.YtcfdpimpleniaaaDoor
/- Opening points, pairs of points and pairs of slices that came in. No program is named here. -/
namespace Go.Proofs.YtcfdpimpleniaaaDoor
open Go.RowKit Go.ChangeShapes Go.WideShapes
set_option maxRecDepth 100000
set_option linter.unusedVariables false
set_option linter.unusedSimpArgs false

section
variable {H : Type} {enc : TypeId × Value → H} {P : Program} {W : World} {base : Nat} {held : Bool}
end
end Go.Proofs.YtcfdpimpleniaaaDoor
namespace Go.Proofs.YtcfdpimpleniaaaDoor
open Go.RowKit Go.ChangeShapes Go.WideShapes
set_option maxRecDepth 100000
set_option linter.unusedVariables false
set_option linter.unusedSimpArgs false

/-- Elements of k cells each, in memory. -/
def RowR {α : Type} (w : World) (S : Nat → Prop) (k : Nat) (C : α → List Value) (A : Option Addr) (l : List α) : Prop :=
  0 < l.length → ∃ b o, A = some ⟨b, o, none⟩ ∧ S b ∧ ∀ j x, l[j]? = some x → ∀ q u, (C x)[q]? = some u → w.cell? ⟨b, o + (j * k + q), none⟩ = some u
section
variable {H : Type} {enc : TypeId × Value → H} {P : Program} {W : World} {base : Nat} {held : Bool}
/-- A slice, by its cells. -/
theorem row_cells {α : Type} {t e : TypeId} {k n : Nat} {cs : List Value} {y : DataW H × List MemPlace} (C : α → List Value) (Wf : α → Prop) (ht : P.underlying t = some (.slice e)) (hc : P.cellsOf e = k) (hk : 0 < k)
    (hE : ∀ n cs y, DataW.trod enc P W base (fun _ => true) held n e cs = some y → ∃ x, cs = C x ∧ Wf x) (h : DataW.trod enc P W base (fun _ => true) held n t cs = some y) :
    ∃ (A : Option Addr) (c : Nat) (l : List α), cs = [.slice A l.length c] ∧ RowR W (fun _ => True) k C A l ∧ (∀ x ∈ l, Wf x) ∧ l.length ≤ c ∧ c ≤ maxLen ∧ (A = none → c = 0) := by
  rcases Go.Deep.open_slice ht h with ⟨hcs, _⟩ | ⟨a, len, cap, m, n', D, Pl, hcs, _, hl, hm, hmm, _, hi⟩
  · exact ⟨none, 0, [], hcs, fun h => absurd h (by simp), (fun x h => by cases h), Nat.le_refl _, Nat.zero_le _, fun _ => rfl⟩
  · have hmm : m = cap := by simpa using hmm
    have key : ∀ i, i < len → ∃ x : α, (∀ q u, (C x)[q]? = some u → W.cell? (a.add (i * k + q)) = some u) ∧ Wf x := fun i hil => by
      obtain ⟨cs', h1, h2⟩ := hi i (by omega)
      obtain ⟨x, rfl, hw⟩ := hE _ _ _ h2
      rw [hc] at h1
      obtain ⟨_, hlen, hat⟩ := World.cells?_some h1
      refine ⟨x, fun q u hq => ?_, hw⟩
      have hqk : q < k := by rw [← hlen]; exact (List.getElem?_eq_some_iff.1 hq).1
      have := hat q hqk
      rw [hq] at this
      rw [← Go.Deep.add_add, this]
    by_cases h0 : 0 < len
    · obtain ⟨x0, _⟩ := key 0 h0
      have : Inhabited α := ⟨x0⟩
      obtain ⟨f, hf⟩ := Go.Deep.choose_lt key
      obtain ⟨cs', h1, h2⟩ := hi 0 (by omega)
      rw [hc] at h1
      obtain ⟨_, hlen, hat⟩ := World.cells?_some h1
      obtain ⟨b, off, spot⟩ := a
      have hspot : spot = none := by
        have := hat 0 hk
        rw [List.getElem?_eq_getElem (by omega)] at this
        simpa [Addr.add] using World.cell?_spot this
      subst hspot
      have hln : ((List.range len).map f).length = len := by simp
      refine ⟨some ⟨b, off, none⟩, cap, (List.range len).map f, by rw [hln]; exact hcs, fun _ => ⟨b, off, rfl, trivial, fun j x hx q u hq => ?_⟩, fun x hx => ?_, by rw [hln]; exact hl, hm, fun h => by cases h⟩
      · have hj : j < len := by have := (List.getElem?_eq_some_iff.1 hx).1; rwa [hln] at this
        have hxj : x = f j := by simpa [hj] using hx.symm
        subst hxj
        have := (hf j hj).1 q u hq
        rwa [Go.WideShapes.add_plain] at this
      · obtain ⟨i, hi', rfl⟩ := List.mem_map.1 hx
        exact (hf i (List.mem_range.1 hi')).2
    · obtain rfl : len = 0 := by omega
      exact ⟨some a, cap, [], hcs, fun h => absurd h (by simp), (fun x h => by cases h), Nat.zero_le _, hm, fun h => by cases h⟩
theorem open_row {α : Type} {t e : TypeId} {k : Nat} {r : Reach} {b0 : Nat} {v : Value} {d : DataW H} {p : List MemPlace} (C : α → List Value) (Wf : α → Prop) (ht : P.underlying t = some (.slice e)) (hc : P.cellsOf e = k) (hk : 0 < k)
    (hE : ∀ n cs y, DataW.trod enc P W base (fun _ => true) held n e cs = some y → ∃ x, cs = C x ∧ Wf x) (hv : Value.okWide P W r b0 t v) (h : DataW.Trod enc P W base (fun _ => true) held t v d p) :
    ∃ (A : Option Addr) (c : Nat) (l : List α), v = .slice A l.length c ∧ RowR W (fun _ => True) k C A l ∧ (∀ x ∈ l, Wf x) ∧ l.length ≤ c ∧ c ≤ maxLen ∧ (A = none → c = 0) := by
  obtain ⟨A0, len0, cap0, rfl⟩ := okWide_slice ht hv
  obtain ⟨fuel, hf⟩ := h
  obtain ⟨A, c, l, hcs, rest⟩ := row_cells C Wf ht hc hk hE hf
  simp [Value.cells] at hcs
  obtain ⟨rfl, rfl, rfl⟩ := hcs
  exact ⟨_, _, l, rfl, rest⟩
/-- Structs of integers, by their cells. -/
theorem ints2_cells {e : TypeId} {kd : IntKind} {f0 f1 : Field} {n : Nat} {cs : List Value} {y : DataW H × List MemPlace} (hu : P.underlying e = some (.struct #[f0, f1])) (h0 : P.underlying f0.type = some (.int kd)) (h1 : P.underlying f1.type = some (.int kd)) (o : f0.offset = 0 ∧ f1.offset = 1) (c : P.cellsOf f0.type = 1 ∧ P.cellsOf f1.type = 1) (ct : P.cellsOf e = 2)
    (h : DataW.trod enc P W base (fun _ => true) held n e cs = some y) : ∃ a b : Int, cs = [.int kd a, .int kd b] ∧ (Lit.int kd a).wf = true ∧ (Lit.int kd b).wf = true := by
  obtain ⟨y0, y1, m, _, hl, k0, k1⟩ := trod_struct2 hu h
  rw [ct] at hl
  rw [o.1, c.1] at k0
  rw [o.2, c.2] at k1
  match cs, hl with
  | [v0, v1], _ =>
    obtain ⟨a, ha, _, wa⟩ := DataW.trod_int h0 k0
    obtain ⟨b, hb, _, wb⟩ := DataW.trod_int h1 k1
    simp [Value.cells] at ha hb
    exact ⟨a, b, by rw [ha, hb], wa, wb⟩
/-- A struct by value, out of what its cells are. -/
theorem open_agg {α : Type} {t : TypeId} {fs : Array Field} {r : Reach} {b0 : Nat} {v : Value} {d : DataW H} {p : List MemPlace} (C : α → List Value) (Wf : α → Prop) (hu : P.underlying t = some (.struct fs))
    (hE : ∀ n cs y, DataW.trod enc P W base (fun _ => true) held n t cs = some y → ∃ x, cs = C x ∧ Wf x) (hv : Value.okWide P W r b0 t v) (h : DataW.Trod enc P W base (fun _ => true) held t v d p) : ∃ x, v = .agg (C x).toArray ∧ Wf x := by
  obtain ⟨cs, rfl, _⟩ := okWide_struct hu hv
  obtain ⟨fuel, hf⟩ := h
  obtain ⟨x, hcs, hw⟩ := hE _ _ _ hf
  refine ⟨x, ?_, hw⟩
  have : cs.toList = C x := by simpa [Value.cells] using hcs
  rw [← this, Array.toArray_toList]
/-- Words, as a row. -/
theorem word_cells {e : TypeId} {kd : IntKind} {n : Nat} {cs : List Value} {y : DataW H × List MemPlace} (hu : P.underlying e = some (.int kd)) (h : DataW.trod enc P W base (fun _ => true) held n e cs = some y) : ∃ a : Int, cs = [.int kd a] ∧ (Lit.int kd a).wf = true := by
  obtain ⟨a, ha, _, wa⟩ := DataW.trod_int hu h
  exact ⟨a, by simpa [Value.cells] using ha, wa⟩
end
theorem RowR.sl {w : World} {S : Nat → Prop} {kd : IntKind} {A : Option Addr} {l : List Int} (h : RowR w S 1 (fun a => [Value.int kd a]) A l) : SlR w S kd A l := fun h0 => by
  obtain ⟨b, o, rfl, hb, hc⟩ := h h0
  exact ⟨b, o, rfl, hb, fun j d hd => by simpa using hc j d hd 0 _ rfl⟩
end Go.Proofs.YtcfdpimpleniaaaDoor
namespace Go.Proofs.YtcfdpimpleniaaaDoor
open Go.RowKit
set_option maxRecDepth 100000
set_option linter.unusedVariables false
set_option linter.unusedSimpArgs false

section
variable {α : Type} {C : α → List Value} {k : Nat}
/-- Cells of a list of elements. -/
theorem flatC_len (hk : ∀ x, (C x).length = k) (l : List α) : (l.flatMap C).length = l.length * k := by
  induction l with
  | nil => simp
  | cons x l ih => rw [List.flatMap_cons, List.length_append, ih, hk, List.length_cons, Nat.succ_mul, Nat.add_comm]
theorem flatC_at (hk : ∀ x, (C x).length = k) : ∀ (l : List α) (j : Nat) (x : α), l[j]? = some x → ∀ q, q < k → (l.flatMap C)[j * k + q]? = (C x)[q]?
  | [], j, x, h => by simp at h
  | y :: l, 0, x, h => by
    intro q hq
    simp at h
    subst h
    rw [List.flatMap_cons, Nat.zero_mul, Nat.zero_add, List.getElem?_append_left (by rw [hk]; exact hq)]
  | y :: l, j + 1, x, h => by
    intro q hq
    rw [List.flatMap_cons, List.getElem?_append_right (by rw [hk, Nat.succ_mul]; omega), hk, show (j + 1) * k + q - k = j * k + q by rw [Nat.succ_mul]; omega]
    exact flatC_at hk l j x (by simpa using h) q hq
theorem flatC_get (hk : ∀ x, (C x).length = k) (h0 : 0 < k) (l : List α) (j : Nat) (u : Value) (h : (l.flatMap C)[j]? = some u) : ∃ x, l[j / k]? = some x ∧ (C x)[j % k]? = some u := by
  have hj : j < l.length * k := by rw [← flatC_len hk]; exact (List.getElem?_eq_some_iff.1 h).1
  have hq : j / k < l.length := Nat.div_lt_of_lt_mul (by rw [Nat.mul_comm]; exact hj)
  refine ⟨l[j / k]'hq, List.getElem?_eq_getElem hq, ?_⟩
  rw [← flatC_at hk l (j / k) _ (List.getElem?_eq_getElem hq) (j % k) (Nat.mod_lt _ h0), ← h]
  congr 1
  rw [Nat.mul_comm]; exact Nat.div_add_mod j k
theorem RowR.nil_ (w : World) (S : Nat → Prop) (A : Option Addr) : RowR w S k C A [] := fun h => absurd h (by simp)
theorem RowR.at_ {w : World} {S : Nat → Prop} {A : Option Addr} {l : List α} (h : RowR w S k C A l) {j : Nat} (hj : j < l.length) :
    ∃ b o, A = some ⟨b, o, none⟩ ∧ S b ∧ ∀ q u, (C (l[j]'hj))[q]? = some u → w.cell? ⟨b, o + (j * k + q), none⟩ = some u := by
  obtain ⟨b, o, e, hS, hc⟩ := h (by omega)
  exact ⟨b, o, e, hS, hc j _ (List.getElem?_eq_getElem hj)⟩
theorem RowR.keep {w w' : World} {S : Nat → Prop} {A : Option Addr} {l : List α} (h : RowR w S k C A l) (hk : ∀ b, S b → b < w.heap.size → w'.heap[b]? = w.heap[b]?) : RowR w' S k C A l := fun hl => by
  obtain ⟨b, o, e, hS, hc⟩ := h hl
  refine ⟨b, o, e, hS, fun j x hx q u hu => ?_⟩
  have h1 := hc j x hx q u hu
  exact (World.cell?_of_block (a := ⟨b, _, none⟩) (hk b hS (World.block_lt_of_cell? w ⟨b, _, none⟩ h1))).trans h1
theorem RowR.next {w w' : World} {S : Nat → Prop} {A : Option Addr} {l : List α} (h : RowR w S k C A l) (hb : Below w.heap.size w w') : RowR w' S k C A l := h.keep fun b _ hlt => hb.block b hlt
theorem RowR.imp {w : World} {S T : Nat → Prop} {A : Option Addr} {l : List α} (h : RowR w S k C A l) (hST : ∀ b, S b → T b) : RowR w T k C A l := fun hl => by
  obtain ⟨b, o, e, hS, hc⟩ := h hl
  exact ⟨b, o, e, hST b hS, hc⟩
/-- Below the world's own size, too. -/
theorem RowR.now {w : World} {S : Nat → Prop} {A : Option Addr} {l : List α} (h : RowR w S k C A l) (hk : ∀ x, 0 < (C x).length) : RowR w (fun b => S b ∧ b < w.heap.size) k C A l := fun hl => by
  obtain ⟨b, o, e, hS, hc⟩ := h hl
  have h1 := hc 0 _ (List.getElem?_eq_getElem hl) 0 _ (List.getElem?_eq_getElem (hk _))
  exact ⟨b, o, e, ⟨hS, World.block_lt_of_cell? w ⟨b, _, none⟩ h1⟩, hc⟩
theorem RowR.take {w : World} {S : Nat → Prop} {A : Option Addr} {l : List α} (h : RowR w S k C A l) (n : Nat) : RowR w S k C A (l.take n) := fun hl => by
  obtain ⟨b, o, e, hS, hc⟩ := h (by rw [List.length_take] at hl; omega)
  refine ⟨b, o, e, hS, fun j x hx => hc j x ?_⟩
  rw [List.getElem?_take] at hx
  split at hx
  · exact hx
  · cases hx
/-- The cells behind an address. -/
theorem RowR.cells_ {w : World} {S : Nat → Prop} {ad : Addr} {l : List α} (h : RowR w S k C (some ad) l) (hk : ∀ x, (C x).length = k) (h0 : 0 < k) (j : Nat) (u : Value) (hj : (l.flatMap C)[j]? = some u) : w.cell? (ad.add j) = some u := by
  obtain ⟨x, h1, h2⟩ := flatC_get hk h0 l j u hj
  have hl : j / k < l.length := (List.getElem?_eq_some_iff.1 h1).1
  obtain ⟨b, o, e0, _, hc⟩ := h (Nat.lt_of_le_of_lt (Nat.zero_le _) hl)
  injection e0 with e0
  subst e0
  rw [Go.WideShapes.add_plain]
  have := hc _ x h1 _ u h2
  rwa [show j / k * k + j % k = j by rw [Nat.mul_comm]; exact Nat.div_add_mod j k] at this
theorem RowR.nilOf {w : World} {S : Nat → Prop} {l : List α} (h : RowR w S k C none l) : l = [] := by
  rcases l with _ | ⟨e, l⟩
  · rfl
  · obtain ⟨b, o, e, _⟩ := h (by simp); cases e
/-- A row of one's own is a list of elements. -/
theorem own_rowR {w : World} {base : Nat} {e : TypeId} {v : Value} {l : List α} (hk : ∀ x, (C x).length = k) (h : w.ownsRow base e k v l.length (l.flatMap C)) :
    ∃ A c, v = .slice A l.length c ∧ l.length ≤ c ∧ c ≤ maxLen ∧ RowR w (fun g => v.ownBlock = some g) k C A l ∧ (A = none → c = 0) := by
  obtain ⟨_, h⟩ := h
  rcases h with ⟨rfl, h0⟩ | ⟨g, cap, cur, rfl, hb, hg, hn, hc, hs, ht⟩
  · rw [h0]
    exact ⟨none, 0, rfl, Nat.le_refl _, by decide, fun hl => by omega, fun _ => rfl⟩
  · refine ⟨some ⟨g, 0, none⟩, cap, rfl, hn, hc, fun hl => ⟨g, 0, rfl, rfl, fun j x hx q u hu => ?_⟩, fun h => by cases h⟩
    have hq : q < k := by rw [← hk x]; exact (List.getElem?_eq_some_iff.1 hu).1
    have h1 := (flatC_at hk l j x hx q hq).trans hu
    rw [← ht, List.getElem?_take] at h1
    rw [Nat.zero_add]
    split at h1
    · simp only [World.cell?, hg]
      simpa using h1
    · cases h1
/-- A new block that holds elements. -/
theorem row_lit {w : World} {t : TypeId} (hk : ∀ x, (C x).length = k) (l : List α) : RowR (w.alloc (.cells (l.flatMap C).toArray t)) (fun g => w.heap.size ≤ g) k C (some ⟨w.heap.size, 0, none⟩) l := fun _ => by
  refine ⟨w.heap.size, 0, rfl, Nat.le_refl _, fun j x hx q u hu => ?_⟩
  have hq : q < k := by rw [← hk x]; exact (List.getElem?_eq_some_iff.1 hu).1
  have h1 := (flatC_at hk l j x hx q hq).trans hu
  rw [Nat.zero_add]
  simp [go_sem, h1]
end
/-- What appends ask of an element's type. -/
structure ElemT (P : Program) (t e : TypeId) (k : Nat) {α : Type} (C : α → List Value) : Prop where
  sl : P.underlying t = some (.slice e)
  info : ∃ i z, P.info? e = some i ∧ i.zero = some z ∧ i.size = k ∧ i.bytes ≤ 128 ∧ z.cells.size = k
  pos : 0 < k
  len : ∀ x, (C x).length = k
  one : ∀ x, ∀ u ∈ C x, u.oneCell' = true
theorem ElemT.flat1 {P : Program} {t e : TypeId} {k : Nat} {α : Type} {C : α → List Value} (h : ElemT P t e k C) (l : List α) : ∀ u ∈ l.flatMap C, u.oneCell' = true := fun u hu => by
  obtain ⟨x, _, hx⟩ := List.mem_flatMap.1 hu
  exact h.one x u hx
/-- append of elements onto a row of one's own: whatever comes, nil too. -/
theorem run_app_row {P : Program} {t e : TypeId} {k : Nat} {α : Type} {C : α → List Value} (E : ElemT P t e k C) (ty : TypeId) {w : World} (base : Nat) (v : Value) (n : Nat) (xs : List Value) (hown : w.ownsRow base e k v n xs)
    (A : Option Addr) (c m : Nat) (l : List α) (T : Nat → Prop) (hm : m = l.length) (hl : RowR w T k C A l) (hc : A = none → c = 0) (h1 : n + m ≤ 1000000) (hbase : base ≤ w.heap.size) :
    ∃ v' w', (Builtin.append_ #[t, t] ty #[v, .slice A m c]).run P w = .ok v' w' ∧ w'.ownsRow base e k v' (n + m) (xs ++ l.flatMap C) ∧ w.grownBy w' v.ownBlock ∧ (v'.ownBlock = v.ownBlock ∨ v'.ownBlock = some w.heap.size) := by
  obtain ⟨i0, z, hi, hz0, hz1, hz2, hz3⟩ := E.info
  subst hm
  cases A with
  | some ad =>
    obtain ⟨v', w', hr, h2, h3, _, h5⟩ := run_append_own_at (P := P) w base t ty e i0 z k i0.bytes E.sl hi hz0 hz1 rfl hz3 E.pos v n xs hown ad l.length c (l.flatMap C) (flatC_len E.len l) (fun j u hj => hl.cells_ E.len E.pos j u hj) (E.flat1 l) (by unfold maxLen; omega) (Nat.le_trans (Nat.mul_le_mul h1 hz2) (by decide)) hbase
    exact ⟨v', w', hr, h2, h3, h5⟩
  | none =>
    obtain rfl := hl.nilOf
    obtain rfl := hc rfl
    exact ⟨v, w, run_append_owned_none (P := P) (w := w) base t ty e i0 k E.sl hi v n xs hown, by simpa using hown, World.grownBy.refl w _, .inl rfl⟩
/-- At one operation of a region. -/
theorem op_app_row {P : Program} {t e : TypeId} {k : Nat} {α : Type} {C : α → List Value} (E : ElemT P t e k C) {o : Oper} {a : Act} {K : Act → World → Prop} {Q : Exit → Act → World → Prop} {w : World} (s x : Operand)
    (ho : o.op = .call { callee := .builtin .append, args := #[s, x], argTypes := #[t, t] }) (base : Nat) (v : Value) (n : Nat) (xs : List Value) (hs : a.eval s = v) (hown : w.ownsRow base e k v n xs)
    (A : Option Addr) (c m : Nat) (l : List α) (T : Nat → Prop) (hx : a.eval x = .slice A m c) (hm : m = l.length) (hl : RowR w T k C A l) (hc : A = none → c = 0) (h1 : n + m ≤ 1000000) (hbase : base ≤ w.heap.size)
    (h : ∀ v' w', w'.ownsRow base e k v' (n + m) (xs ++ l.flatMap C) → w.grownBy w' v.ownBlock → (v'.ownBlock = v.ownBlock ∨ v'.ownBlock = some w.heap.size) → K (a.put o.dst v') w') : o.wp P a w K Q := by
  obtain ⟨v', w', hr, h2, h3, h5⟩ := run_app_row E o.type base v n xs hown A c m l T hm hl hc h1 hbase
  unfold Oper.wp execOp
  simp only [ho, resolve, invoke, builtin, Sem.run_bind, Sem.run_pure, Result.andThen_ok, List.map_toArray, List.map_cons, List.map_nil, hs, hx, hr]
  exact h v' w' h2 h3 h5
/-- At the walk's operation. -/
theorem wp_app_row {P : Program} {t e : TypeId} {k : Nat} {α : Type} {C : α → List Value} (E : ElemT P t e k C) {ops : Array Oper} {rest : List Oper} {o : Oper} {a : Act} {Q : Exit → Act → World → Prop} {w : World} (hgd : o.guard = none) (s x : Operand)
    (ho : o.op = .call { callee := .builtin .append, args := #[s, x], argTypes := #[t, t] }) (base : Nat) (v : Value) (n : Nat) (xs : List Value) (hs : a.eval s = v) (hown : w.ownsRow base e k v n xs)
    (A : Option Addr) (c m : Nat) (l : List α) (T : Nat → Prop) (hx : a.eval x = .slice A m c) (hm : m = l.length) (hl : RowR w T k C A l) (hc : A = none → c = 0) (h1 : n + m ≤ 1000000) (hbase : base ≤ w.heap.size)
    (h : ∀ v' w', w'.ownsRow base e k v' (n + m) (xs ++ l.flatMap C) → w.grownBy w' v.ownBlock → (v'.ownBlock = v.ownBlock ∨ v'.ownBlock = some w.heap.size) → wpList P ops Q rest (a.put o.dst v') w') : wpList P ops Q (o :: rest) a w :=
  wpList_plain hgd fun _ hK => op_app_row E s x ho base v n xs hs hown A c m l T hx hm hl hc h1 hbase fun v' w' h2 h3 h4 => hK _ _ (h v' w' h2 h3 h4)
theorem row_keep {w w' : World} {base : Nat} {e : TypeId} {s : Nat} {v : Value} {n : Nat} {xs : List Value} (h : w.ownsRow base e s v n xs) (hk : ∀ g, v.ownBlock = some g → w'.heap[g]? = w.heap[g]?) : w'.ownsRow base e s v n xs := by
  obtain ⟨hl, h⟩ := h
  refine ⟨hl, ?_⟩
  rcases h with h | ⟨g, cap, cur, rfl, hb, hg, rest⟩
  · exact .inl h
  · exact .inr ⟨g, cap, cur, rfl, hb, (hk g rfl).trans hg, rest⟩
theorem row_form {w : World} {base : Nat} {e : TypeId} {v : Value} {n s : Nat} {xs : List Value} (h : w.ownsRow base e s v n xs) : ∃ A c, v = .slice A n c := by
  rcases h.2 with ⟨e1, h1⟩ | ⟨g, cap, cur, rfl, _⟩
  · subst e1 h1; exact ⟨_, _, rfl⟩
  · exact ⟨_, _, rfl⟩
end Go.Proofs.YtcfdpimpleniaaaDoor
/- Contracts of the functions of package mask, and of the references' Mask and Sign: what each returns, for every argument; the world is left but for draws. -/
namespace Go.Proofs.YtcfdpimpleniaaaDoor
open Go.RowKit
set_option maxRecDepth 100000
set_option linter.unusedVariables false
set_option linter.unusedSimpArgs false

/-- What the table of weights holds. -/
def WtsM (_ : World) : Prop := True
/-- The program's other constant tables, with what they hold. -/
def seatTabs : List (Nat × List Value) := [(1, [.int .i64 0, .int .i64 0, .int .i64 3, .int .i64 2, .int .i64 4, .int .i64 2, .int .i64 1, .int .i64 2, .int .i64 1, .int .i64 2, .int .i64 0, .int .i64 4]), (0, [.int .i64 0, .int .i64 0, .int .i64 3, .int .i64 2, .int .i64 4, .int .i64 2, .int .i64 1, .int .i64 3, .int .i64 1, .int .i64 2, .int .i64 0, .int .i64 1])]
def TabsAt (w : World) : Prop := ∀ p ∈ seatTabs, ∀ (i : Nat) (v : Value), p.2[i]? = some v → w.cell? ⟨p.1, i, none⟩ = some v
/-- The constant tables lie as the text says. -/
def Wts (w : World) : Prop := WtsM w ∧ TabsAt w
theorem Wts.drewN {w : World} (h : Wts w) (n : Nat) : Wts (w.drewN n) := h
theorem Wts.drew {w : World} (h : Wts w) : Wts w.drew := h
theorem sgn_u64 : IntKind.u64.signed = false := rfl
attribute [local go_sem] sgn_u64
end Go.Proofs.YtcfdpimpleniaaaDoor
/- Contracts of the functions of package word: what each returns, for every argument. -/
namespace Go.Proofs.YtcfdpimpleniaaaDoor
open Go.RowKit
set_option maxRecDepth 100000
set_option linter.unusedVariables false
set_option linter.unusedSimpArgs false

end Go.Proofs.YtcfdpimpleniaaaDoor
/- Contracts of MulSigned of package word, and of the function that it defers. -/
namespace Go.Proofs.YtcfdpimpleniaaaDoor
open Go.RowKit
set_option maxRecDepth 100000
set_option linter.unusedVariables false
set_option linter.unusedSimpArgs false

theorem cell_lt {w : World} {g i : Nat} {v : Value} (h1 : w.cell? ⟨g, i, none⟩ = some v) : g < w.heap.size := by
  rcases Nat.lt_or_ge g w.heap.size with h' | h'
  · exact h'
  · rw [World.cell?] at h1
    simp [Array.getElem?_eq_none h'] at h1
theorem Wts.sizes {w : World} (h : Wts w) : ∀ p ∈ seatTabs, ∀ (i : Nat) (v : Value), p.2[i]? = some v → p.1 < w.heap.size := fun p hp i v hv => cell_lt (h.2 p hp i v hv)
theorem Wts.below {w w' : World} (h : Wts w) (hb : Below w.heap.size w w') : Wts w' :=
  ⟨trivial,
    fun p hp i v hv => (hb.cell (p := ⟨p.1, i, none⟩) (h.sizes p hp i v hv)).trans (h.2 p hp i v hv)⟩
end Go.Proofs.YtcfdpimpleniaaaDoor
/- Contracts of the functions of the reference of layer 2: what each returns, for every argument; the world is as it was. -/
namespace Go.Proofs.YtcfdpimpleniaaaDoor
open Go.RowKit
set_option maxRecDepth 100000
set_option linter.unusedVariables false
set_option linter.unusedSimpArgs false

attribute [local go_sem] sgn_u64
end Go.Proofs.YtcfdpimpleniaaaDoor
namespace Go.Proofs.YtcfdpimpleniaaaDoor
open Go.RowKit Go.Maps
set_option maxRecDepth 100000
set_option linter.unusedVariables false
set_option linter.unusedSimpArgs false

/-- A region: whether it denies, its vertices' number as said, and its points, with the place where they lie. -/
structure Rg where
  d : Bool
  v : Int
  A : Option Addr
  c : Nat
  l : List Pt
def rgC (r : Rg) : List Value := [.bool r.d, .int .i64 r.v, .slice r.A r.l.length r.c]
theorem rgC_len (r : Rg) : (rgC r).length = 3 := rfl
/-- The points of a region, in memory. -/
structure RegOk (w : World) (T : Nat → Prop) (r : Rg) : Prop where
  row : RowR w T 2 ptC r.A r.l
  ss : SsP r.l
  nil : r.A = none → r.c = 0
  wf : S r.v
def RegsOk (w : World) (T : Nat → Prop) (rs : List Rg) : Prop := ∀ r ∈ rs, RegOk w T r
theorem RegOk.next {w w' : World} {T : Nat → Prop} {r : Rg} (h : RegOk w T r) (hb : Below w.heap.size w w') : RegOk w' T r := ⟨h.row.next hb, h.ss, h.nil, h.wf⟩
theorem RegOk.low {w : World} {r : Rg} (h : RegOk w (fun _ => True) r) : RegOk w (fun b => b < w.heap.size) r := ⟨(h.row.now (fun _ => by simp [ptC])).imp fun _ h => h.2, h.ss, h.nil, h.wf⟩
theorem RegsOk.next {w w' : World} {T : Nat → Prop} {rs : List Rg} (h : RegsOk w T rs) (hb : Below w.heap.size w w') : RegsOk w' T rs := fun r hr => (h r hr).next hb
theorem RegsOk.low {w : World} {rs : List Rg} (h : RegsOk w (fun _ => True) rs) : RegsOk w (fun b => b < w.heap.size) rs := fun r hr => (h r hr).low
theorem RegOk.imp {w : World} {T U : Nat → Prop} {r : Rg} (h : RegOk w T r) (hTU : ∀ b, T b → U b) : RegOk w U r := ⟨h.row.imp hTU, h.ss, h.nil, h.wf⟩
theorem RegsOk.imp {w : World} {T U : Nat → Prop} {rs : List Rg} (h : RegsOk w T rs) (hTU : ∀ b, T b → U b) : RegsOk w U rs := fun r hr => (h r hr).imp hTU
/-- What Check says. -/
def sizeF (v : Int) : Int := if v = 0 then 3 else if 3 ≤ v ∧ v ≤ 64 then v else 0
theorem sizeF_bd (v : Int) : sizeF v = 0 ∨ 3 ≤ sizeF v ∧ sizeF v ≤ 64 := by unfold sizeF; split <;> (try split) <;> omega
theorem RowR.rg2 {w : World} {T : Nat → Prop} {A : Option Addr} {rs : List Rg} (h : RowR w T 3 rgC A rs) {k : Nat} (hk : k < rs.length) :
    ∃ b o, A = some ⟨b, o, none⟩ ∧ T b ∧ w.cell? ⟨b, o + k * 3, none⟩ = some (.bool (rs[k]'hk).d) ∧ w.cell? ⟨b, o + k * 3 + 1, none⟩ = some (.int .i64 (rs[k]'hk).v) ∧ w.cell? ⟨b, o + k * 3 + 2, none⟩ = some (.slice (rs[k]'hk).A (rs[k]'hk).l.length (rs[k]'hk).c) := by
  obtain ⟨b, o, e, hS, hc⟩ := h.at_ hk
  exact ⟨b, o, e, hS, hc 0 _ rfl, hc 1 _ rfl, hc 2 _ rfl⟩
theorem ref16Size_any (v r : Int) (w : World) (hr : sizeF v = r) :
    Calls Tryd.prog 33 #[.int .i64 v] w fun e w' => e = .returned (.int .i64 r) ∧ w' = w := by
  by_cases h0 : v = 0
  · have HR := Lib.hid (show r = 3 by rw [← hr]; unfold sizeF; rw [if_pos h0])
    clear hr
    subst h0
    go_enter Tryd.func33, Tryd.ntmps33
    go_wp2
    go_ret
    exact ⟨by rw [HR.out]; rfl, rfl⟩
  · have hd : (v == 0) = false := by rw [beq_eq_false_iff_ne]; exact h0
    by_cases h3 : 3 ≤ v
    · by_cases h64 : v ≤ 64
      · have HR := Lib.hid (show r = v by rw [← hr]; unfold sizeF; rw [if_neg h0, if_pos ⟨h3, h64⟩])
        clear hr h0
        go_enter Tryd.func33, Tryd.ntmps33
        go_wp2
        go_ret
        exact ⟨by rw [HR.out]; rfl, rfl⟩
      · have HR := Lib.hid (show r = 0 by rw [← hr]; unfold sizeF; rw [if_neg h0, if_neg (by omega)])
        clear hr h0
        go_enter Tryd.func33, Tryd.ntmps33
        go_wp2
        go_ret
        exact ⟨by rw [HR.out]; rfl, rfl⟩
    · have HR := Lib.hid (show r = 0 by rw [← hr]; unfold sizeF; rw [if_neg h0, if_neg (by omega)])
      clear hr h0
      go_enter Tryd.func33, Tryd.ntmps33
      go_wp2
      go_ret
      exact ⟨by rw [HR.out]; rfl, rfl⟩
theorem infoRg : (Tryd.prog.info? 63).map (fun i => (i.zero, i.size, i.bytes)) = some (some (.agg #[.bool false, .int .i64 0, .slice none 0 0]), 3, 40) := by kernel_rfl
theorem elemRg : ElemT Tryd.prog 22 63 3 rgC := by
  obtain ⟨i0, hi, hz0, hz1, hz2⟩ := info_parts infoRg
  exact ⟨Tryd.underlying22, ⟨i0, _, hi, hz0, hz1, by rw [hz2]; decide, rfl⟩, by decide, fun _ => rfl, fun x u hu => by simp [rgC] at hu; rcases hu with rfl | rfl | rfl <;> rfl⟩
end Go.Proofs.YtcfdpimpleniaaaDoor
namespace Go.Proofs.YtcfdpimpleniaaaDoor

/-- A header: of each region whether it denies, and its vertices' number. -/
structure Hq where
  op : Int
  vs : Int
  ks : List (Bool × Int)
  pts : Int
  deriving DecidableEq
def rgK (r : Rg) : Bool × Int := (r.d, r.v)
/-- Whether a region has points. -/
def rgP (rs : List Rg) : Bool := rs.any fun r => decide (0 < r.l.length)
/-- Numbers of a byte. -/
def UB (l : List Int) : Prop := ∀ x ∈ l, 0 ≤ x ∧ x < 256
theorem UB.dgt {l : List Int} (h : UB l) (k : Nat) : 0 ≤ dgt l k ∧ dgt l k < 256 := by
  by_cases hk : k < l.length
  · rw [dgt_lt hk]; exact h _ (List.getElem_mem hk)
  · unfold Go.Proofs.YtcfdpimpleniaaaDoor.dgt
    rw [List.getD_eq_getElem?_getD, List.getElem?_eq_none (by omega)]; simp
theorem UB.nil : UB [] := by intro x h; cases h
theorem UB.app {a b : List Int} (ha : UB a) (hb : UB b) : UB (a ++ b) := fun x h => by
  rcases List.mem_append.1 h with h | h
  · exact ha x h
  · exact hb x h
theorem UB.take {l : List Int} (h : UB l) (n : Nat) : UB (l.take n) := fun x hx => h x (List.mem_of_mem_take hx)
def rgOf (x : Int) : Bool × Int := (decide (128 ≤ x), x % 128)
def rgB (k : Bool × Int) : Int := if k.1 then k.2 + 128 else k.2
theorem wrap_u8' {x : Int} (h1 : 0 ≤ x) (h2 : x < 256) : IntKind.u8.wrap x = x := by simp [IntKind.wrap, IntKind.signed, IntKind.bits]; omega
/-- What Parse says. -/
structure PrS where
  h : Hq
  n : Nat
  e : Int
def badP (e : Int) : PrS := ⟨⟨0, 0, [], 0⟩, 0, e⟩
def anyBad (ks : List (Bool × Int)) : Bool := ks.any fun k => decide (sizeF k.2 = 0)
def ksOf (b : List Int) (k : Nat) : List (Bool × Int) := ((b.drop 2).take k).map rgOf
def ptsOf (b : List Int) (k : Nat) : Int := dgt b (2 + k) + 256 * dgt b (3 + k)
def parseP (b : List Int) (k : Nat) : PrS :=
  if b.length < 4 + k then badP 4 else if ptsOf b k < 1 ∨ 4096 < ptsOf b k then badP 6 else ⟨⟨5, 0, ksOf b k, ptsOf b k⟩, 4 + k, 0⟩
def parseR (b : List Int) (op : Int) (k : Nat) : PrS :=
  if b.length < 2 + k then badP 4 else if anyBad (ksOf b k) = true then badP 7 else if op = 4 then ⟨⟨4, 0, ksOf b k, 0⟩, 2 + k, 0⟩ else parseP b k
def parseK (b : List Int) (op k : Int) : PrS :=
  if op = 3 then (if k < 3 ∨ 64 < k then badP 6 else ⟨⟨3, k, [], 0⟩, 2, 0⟩)
  else if k < 1 ∨ 64 < k then badP 6 else parseR b op k.toNat
def parseH (b : List Int) : PrS :=
  if b.length = 0 then badP 4 else if dgt b 0 < 1 ∨ 5 < dgt b 0 then badP 5
  else if dgt b 0 < 3 then ⟨⟨dgt b 0, 0, [], 0⟩, 1, 0⟩ else if b.length < 2 then badP 4 else parseK b (dgt b 0) (dgt b 1)
/-- What Format says: the error, the bytes. -/
def unusedH (h : Hq) : Bool := (!decide (h.op = 3) && !decide (h.vs = 0)) || (decide (h.op < 4) && decide (0 < h.ks.length)) || (!decide (h.op = 5) && !decide (h.pts = 0))
def formErr (h : Hq) (p : Bool) : Int :=
  if h.op < 1 ∨ 5 < h.op then 5
  else if h.op = 3 ∧ (h.vs < 3 ∨ 64 < h.vs) then 6
  else if 4 ≤ h.op ∧ ((h.ks.length : Int) < 1 ∨ 64 < (h.ks.length : Int)) then 6
  else if 4 ≤ h.op ∧ anyBad h.ks = true then 7
  else if h.op = 5 ∧ (h.pts < 1 ∨ 4096 < h.pts) then 6
  else if unusedH h = true then 2
  else if p = true then 2 else 0
def formB (h : Hq) : List Int :=
  [h.op] ++ (if h.op = 3 then [h.vs] else []) ++ (if 4 ≤ h.op then [(h.ks.length : Int)] else []) ++ h.ks.map rgB ++ (if h.op = 5 then [h.pts % 256, h.pts / 256] else [])
/-- The lengths. -/
def ptsK : List (Bool × Int) → Int
  | [] => 0
  | k :: ks => sizeF k.2 + ptsK ks
def payL (h : Hq) : Int :=
  if h.op = 1 then 48 else if h.op = 2 then 64 else if h.op = 3 then 16 * (h.vs + 1) else if h.op = 4 then 16 * (ptsK h.ks + 1) else 16 * ptsK h.ks + 24 * h.pts
def rspL (h : Hq) : Int := if h.op = 5 then 4 + 9 * h.pts else 2
def classH (b : List Int) : Int :=
  if (parseH b).e = 0 then (if (b.length : Int) = (parseH b).n + payL (parseH b).h then 0 else 8) else (parseH b).e

/-! ### What an accepted header is like -/
structure Okh (h : Hq) : Prop where
  op : 1 ≤ h.op ∧ h.op ≤ 5
  vs3 : h.op = 3 → 3 ≤ h.vs ∧ h.vs ≤ 64
  len : 4 ≤ h.op → 1 ≤ h.ks.length ∧ h.ks.length ≤ 64
  ok : 4 ≤ h.op → anyBad h.ks = false
  pts5 : h.op = 5 → 1 ≤ h.pts ∧ h.pts ≤ 4096
  vs0 : h.op ≠ 3 → h.vs = 0
  len0 : h.op < 4 → h.ks = []
  pts0 : h.op ≠ 5 → h.pts = 0
theorem unused_iff (h : Hq) : unusedH h = false ↔ (h.op ≠ 3 → h.vs = 0) ∧ (h.op < 4 → h.ks.length = 0) ∧ (h.op ≠ 5 → h.pts = 0) := by
  unfold unusedH
  simp only [Bool.or_eq_false_iff, Bool.and_eq_false_iff, Bool.not_eq_false', decide_eq_true_eq, decide_eq_false_iff_not]
  omega
theorem formErr_ok {h : Hq} {p : Bool} : formErr h p = 0 ↔ Okh h ∧ p = false := by
  unfold formErr
  constructor
  · intro e
    split at e; · omega
    split at e; · omega
    split at e; · omega
    split at e; · omega
    split at e; · omega
    split at e; · omega
    split at e; · omega
    rename_i h1 h2 h3 h4 h5 h6 h7
    have hu := (unused_iff h).1 (by simpa using h6)
    refine ⟨⟨by omega, by omega, by omega, fun h8 => ?_, by omega, hu.1, fun h8 => List.length_eq_zero_iff.1 (hu.2.1 h8), hu.2.2⟩, by simpa using h7⟩
    by_cases hb : anyBad h.ks = true
    · exact absurd ⟨h8, hb⟩ h4
    · simpa using hb
  · rintro ⟨k, rfl⟩
    have hu : unusedH h = false := (unused_iff h).2 ⟨k.vs0, fun h8 => by rw [k.len0 h8]; rfl, k.pts0⟩
    have := k.op
    rw [if_neg (by omega), if_neg (fun h => by have := k.vs3 h.1; omega), if_neg (fun h => by have := k.len h.1; omega), if_neg (fun h => by rw [k.ok h.1] at h; simp at h), if_neg (fun h => by have := k.pts5 h.1; omega), if_neg (by rw [hu]; simp)]
    rfl
theorem badK {ks : List (Bool × Int)} (h : anyBad ks = false) : ∀ k ∈ ks, k.2 = 0 ∨ 3 ≤ k.2 ∧ k.2 ≤ 64 := by
  intro k hk
  have h1 : sizeF k.2 ≠ 0 := fun e => by
    have : anyBad ks = true := List.any_eq_true.2 ⟨k, hk, by simpa using e⟩
    rw [h] at this; cases this
  unfold sizeF at h1
  by_cases h2 : k.2 = 0
  · exact .inl h2
  · rw [if_neg h2] at h1
    by_cases h3 : 3 ≤ k.2 ∧ k.2 ≤ 64
    · exact .inr h3
    · rw [if_neg h3] at h1; exact absurd rfl h1
theorem rg_back {k : Bool × Int} (h : k.2 = 0 ∨ 3 ≤ k.2 ∧ k.2 ≤ 64) : rgOf (rgB k) = k := by
  obtain ⟨d, v⟩ := k
  simp only at h
  unfold rgOf rgB
  cases d
  · simp only [Bool.false_eq_true, if_false]
    rw [show decide (128 ≤ v) = false by simp; omega, show v % 128 = v by omega]
  · simp only [if_true]
    rw [show decide (128 ≤ v + 128) = true by simp; omega, show (v + 128) % 128 = v by omega]
theorem rg_forth {x : Int} (h : 0 ≤ x ∧ x < 256) : rgB (rgOf x) = x := by
  unfold rgB rgOf
  by_cases h1 : 128 ≤ x
  · rw [show decide (128 ≤ x) = true by simpa using h1]; simp; omega
  · rw [show decide (128 ≤ x) = false by simpa using h1]; simp; omega
theorem rgB_byte {k : Bool × Int} (h : k.2 = 0 ∨ 3 ≤ k.2 ∧ k.2 ≤ 64) : 0 ≤ rgB k ∧ rgB k < 256 := by
  unfold rgB; split <;> omega
theorem ksB {ks : List (Bool × Int)} (h : anyBad ks = false) : (ks.map rgB).map rgOf = ks := by
  rw [List.map_map]
  conv => rhs; rw [← List.map_id ks]
  exact List.map_congr_left fun k hk => rg_back (badK h k hk)
theorem ubK {ks : List (Bool × Int)} (h : anyBad ks = false) : UB (ks.map rgB) := fun x hx => by
  obtain ⟨k, hk, rfl⟩ := List.mem_map.1 hx
  exact rgB_byte (badK h k hk)
theorem formB_ub {h : Hq} (k : Okh h) : UB (formB h) := by
  have := k.op
  unfold formB
  refine UB.app (UB.app (UB.app (UB.app ?_ ?_) ?_) ?_) ?_
  · intro x hx; rw [List.mem_singleton] at hx; omega
  · split
    · rename_i h3; have := k.vs3 h3; intro x hx; rw [List.mem_singleton] at hx; omega
    · exact UB.nil
  · split
    · rename_i h3; have := k.len h3; intro x hx; rw [List.mem_singleton] at hx; omega
    · exact UB.nil
  · by_cases h4 : 4 ≤ h.op
    · exact ubK (k.ok h4)
    · rw [k.len0 (by omega)]; exact UB.nil
  · split
    · rename_i h3; have := k.pts5 h3; intro x hx; simp at hx; omega
    · exact UB.nil
/-! ### The three shapes of a header -/
theorem form12 {h : Hq} (k : Okh h) (h1 : h.op < 3) : formB h = [h.op] ∧ h = ⟨h.op, 0, [], 0⟩ := by
  have e1 := k.len0 (by omega)
  have e2 := k.vs0 (by omega)
  have e3 := k.pts0 (by omega)
  constructor
  · unfold formB; rw [e1, if_neg (by omega), if_neg (by omega), if_neg (by omega)]; rfl
  · obtain ⟨a, b, c, d⟩ := h; simp only at e1 e2 e3; rw [e1, e2, e3]
theorem form3 {h : Hq} (k : Okh h) (h1 : h.op = 3) : formB h = [3, h.vs] ∧ h = ⟨3, h.vs, [], 0⟩ := by
  have e1 := k.len0 (by omega)
  have e3 := k.pts0 (by omega)
  constructor
  · unfold formB; rw [e1, if_pos h1, if_neg (by omega), if_neg (by omega), h1]; rfl
  · obtain ⟨a, b, c, d⟩ := h; simp only at e1 e3 h1; rw [e1, e3, h1]
theorem form4 {h : Hq} (k : Okh h) (h1 : h.op = 4) : formB h = 4 :: (h.ks.length : Int) :: h.ks.map rgB ∧ h = ⟨4, 0, h.ks, 0⟩ := by
  have e1 := k.vs0 (by omega)
  have e3 := k.pts0 (by omega)
  constructor
  · unfold formB; rw [if_neg (by omega), if_pos (by omega), if_neg (by omega), h1]; simp
  · obtain ⟨a, b, c, d⟩ := h; simp only at e1 e3 h1; rw [e1, e3, h1]
theorem form5 {h : Hq} (k : Okh h) (h1 : h.op = 5) : formB h = 5 :: (h.ks.length : Int) :: (h.ks.map rgB ++ [h.pts % 256, h.pts / 256]) ∧ h = ⟨5, 0, h.ks, h.pts⟩ := by
  have e1 := k.vs0 (by omega)
  constructor
  · unfold formB; rw [if_neg (by omega), if_pos (by omega), if_pos h1, h1]; simp
  · obtain ⟨a, b, c, d⟩ := h; simp only at e1 h1; rw [e1, h1]
theorem formB_len {h : Hq} (k : Okh h) : 1 ≤ (formB h).length ∧ (formB h).length ≤ 68 := by
  have h0 := k.op
  by_cases h1 : h.op < 3
  · rw [(form12 k h1).1]; simp
  · by_cases h3 : h.op = 3
    · rw [(form3 k h3).1]; simp
    · have := k.len (by omega)
      by_cases h4 : h.op = 4
      · rw [(form4 k h4).1]; simp; omega
      · rw [(form5 k (by omega)).1]; simp; omega
/-! ### Parse inverts Format -/
theorem dgt_app_ge {a b : List Int} {i : Nat} (h : a.length ≤ i) : dgt (a ++ b) i = dgt b (i - a.length) := by
  unfold dgt; rw [List.getD_eq_getElem?_getD, List.getD_eq_getElem?_getD, List.getElem?_append_right h]
theorem ksOf_app {ks : List (Bool × Int)} {x y : Int} (h : anyBad ks = false) (r : List Int) : ksOf (x :: y :: (ks.map rgB ++ r)) ks.length = ks := by
  unfold ksOf
  show ((ks.map rgB ++ r).take ks.length).map rgOf = ks
  rw [List.take_append_of_le_length (by simp), List.take_of_length_le (by simp)]
  exact ksB h
theorem parse_form {h : Hq} (k : Okh h) (r : List Int) : parseH (formB h ++ r) = ⟨h, (formB h).length, 0⟩ := by
  have h0 := k.op
  by_cases h1 : h.op < 3
  · obtain ⟨e1, e2⟩ := form12 k h1
    rw [e1]
    unfold parseH
    rw [show dgt ([h.op] ++ r) 0 = h.op from rfl, if_neg (by simp), if_neg (by omega), if_pos h1]
    rw [← e2]; rfl
  · by_cases h3 : h.op = 3
    · obtain ⟨e1, e2⟩ := form3 k h3
      have := k.vs3 h3
      rw [e1]
      unfold parseH
      rw [show dgt ([3, h.vs] ++ r) 0 = 3 from rfl, show dgt ([3, h.vs] ++ r) 1 = h.vs from rfl, if_neg (by simp), if_neg (by omega), if_neg (by omega), if_neg (by simp)]
      unfold parseK
      rw [if_pos rfl, if_neg (by omega), ← e2]; rfl
    · have hl := k.len (by omega)
      have hb := k.ok (by omega)
      by_cases h4 : h.op = 4
      · obtain ⟨e1, e2⟩ := form4 k h4
        rw [e1]
        have d0 : dgt (4 :: (h.ks.length : Int) :: h.ks.map rgB ++ r) 0 = 4 := rfl
        have d1 : dgt (4 :: (h.ks.length : Int) :: h.ks.map rgB ++ r) 1 = h.ks.length := rfl
        unfold parseH
        rw [d0, d1, if_neg (by simp), if_neg (by omega), if_neg (by omega), if_neg (by simp)]
        unfold parseK
        rw [if_neg (by omega), if_neg (by omega)]
        unfold parseR
        have e3 : ksOf (4 :: (h.ks.length : Int) :: h.ks.map rgB ++ r) (h.ks.length : Int).toNat = h.ks := ksOf_app hb r
        rw [e3, if_neg (by simp; omega), if_neg (by rw [hb]; simp), if_pos rfl, ← e2]
        simp; omega
      · obtain ⟨e1, e2⟩ := form5 k (by omega)
        have hp := k.pts5 (by omega)
        rw [e1]
        obtain ⟨B, hB⟩ : ∃ B, B = 5 :: (h.ks.length : Int) :: (h.ks.map rgB ++ [h.pts % 256, h.pts / 256]) ++ r := ⟨_, rfl⟩
        have d0 : dgt B 0 = 5 := by rw [hB]; rfl
        have d1 : dgt B 1 = h.ks.length := by rw [hB]; rfl
        have hlen : B.length = h.ks.length + 4 + r.length := by rw [hB]; simp; omega
        have hle2 : (5 :: (h.ks.length : Int) :: (h.ks.map rgB ++ [h.pts % 256, h.pts / 256])).length = 4 + h.ks.length := by simp; omega
        have hB2 : B = 5 :: (h.ks.length : Int) :: (h.ks.map rgB ++ ([h.pts % 256, h.pts / 256] ++ r)) := by rw [hB]; simp
        rw [← hB, hle2]
        unfold parseH
        rw [d0, d1, if_neg (by omega), if_neg (by omega), if_neg (by omega), if_neg (by omega)]
        unfold parseK
        rw [if_neg (by omega), if_neg (by omega)]
        unfold parseR
        have e3 : ksOf B (h.ks.length : Int).toNat = h.ks := by rw [hB2]; exact ksOf_app hb _
        rw [e3, if_neg (by omega), if_neg (by rw [hb]; simp), if_neg (by omega)]
        unfold parseP
        have p1 : ptsOf B (h.ks.length : Int).toNat = h.pts := by
          unfold ptsOf
          have q1 : dgt B (2 + (h.ks.length : Int).toNat) = h.pts % 256 := by
            rw [hB2, show 2 + (h.ks.length : Int).toNat = h.ks.length + 2 by omega]
            show dgt (h.ks.map rgB ++ ([h.pts % 256, h.pts / 256] ++ r)) h.ks.length = _
            rw [dgt_app_ge (by simp), List.length_map, Nat.sub_self]; rfl
          have q2 : dgt B (3 + (h.ks.length : Int).toNat) = h.pts / 256 := by
            rw [hB2, show 3 + (h.ks.length : Int).toNat = h.ks.length + 1 + 2 by omega]
            show dgt (h.ks.map rgB ++ ([h.pts % 256, h.pts / 256] ++ r)) (h.ks.length + 1) = _
            rw [dgt_app_ge (by simp), List.length_map, Nat.add_sub_cancel_left]; rfl
          rw [q1, q2]; omega
        rw [e3, p1, if_neg (by omega), if_neg (by omega), ← e2]
        rfl
end Go.Proofs.YtcfdpimpleniaaaDoor
namespace Go.Proofs.YtcfdpimpleniaaaDoor

/-! ### Numbers -/
/-- The lowest bytes of a number, the least significant one first. -/
def digs : Nat → Int → List Int
  | 0, _ => []
  | k + 1, x => x % 256 :: digs k (x / 256)
/-- The number of which these are the bytes. -/
def wv : List Int → Int
  | [] => 0
  | d :: r => d + 256 * wv r
theorem digs_len : ∀ (k : Nat) (x : Int), (digs k x).length = k
  | 0, _ => rfl
  | k + 1, x => by show (digs k (x / 256)).length + 1 = _; rw [digs_len k]
theorem digs_ub : ∀ (k : Nat) (x : Int), UB (digs k x)
  | 0, _ => UB.nil
  | k + 1, x => fun y hy => by
    rcases List.mem_cons.1 hy with rfl | hy
    · omega
    · exact digs_ub k _ y hy
def shr : Nat → Int → Int
  | 0, x => x
  | k + 1, x => shr k (x / 256)
theorem shr_succ : ∀ (k : Nat) (x : Int), shr (k + 1) x = shr k x / 256
  | 0, _ => rfl
  | k + 1, x => by show shr (k + 1) (x / 256) = shr k (x / 256) / 256; exact shr_succ k _
theorem digs_snoc : ∀ (k : Nat) (x : Int), digs (k + 1) x = digs k x ++ [shr k x % 256]
  | 0, _ => rfl
  | k + 1, x => by
    show x % 256 :: digs (k + 1) (x / 256) = x % 256 :: (digs k (x / 256) ++ [shr k (x / 256) % 256])
    rw [digs_snoc k]
theorem shr_U : ∀ (k : Nat) {x : Int}, U x → U (shr k x)
  | 0, _, h => h
  | k + 1, x, h => shr_U k (by unfold U at *; omega)
theorem wv_ub : ∀ {l : List Int}, UB l → 0 ≤ wv l ∧ wv l < 256 ^ l.length
  | [], _ => by simp [wv]
  | d :: r, h => by
    have h1 := wv_ub (l := r) fun x hx => h x (by simp [hx])
    have h2 := h d (by simp)
    rw [List.length_cons, Int.pow_succ]
    show 0 ≤ d + 256 * wv r ∧ d + 256 * wv r < _
    omega
theorem wv_U {l : List Int} (h : UB l) (hl : l.length = 8) : U (wv l) := by
  have := wv_ub h
  rw [hl] at this
  unfold U
  omega
theorem digs_wv : ∀ {l : List Int}, UB l → digs l.length (wv l) = l
  | [], _ => rfl
  | d :: r, h => by
    have h2 := h d (by simp)
    show (d + 256 * wv r) % 256 :: digs r.length ((d + 256 * wv r) / 256) = d :: r
    rw [show (d + 256 * wv r) % 256 = d by omega, show (d + 256 * wv r) / 256 = wv r by omega, digs_wv fun x hx => h x (by simp [hx])]
theorem wv_digs : ∀ (k : Nat) {x : Int}, 0 ≤ x → x < 256 ^ k → wv (digs k x) = x
  | 0, x, h0, h1 => by simp at h1; show (0 : Int) = x; omega
  | k + 1, x, h0, h1 => by
    rw [Int.pow_succ] at h1
    show x % 256 + 256 * wv (digs k (x / 256)) = x
    rw [wv_digs k (by omega) (by omega)]
    omega
theorem wv8 {x : Int} (h : U x) : wv (digs 8 x) = x := wv_digs 8 h.1 (by have := h.2; omega)
/-- Two's complement. -/
def toU (x : Int) : Int := x % 18446744073709551616
def toS (x : Int) : Int := if x < 9223372036854775808 then x else x - 18446744073709551616
theorem toU_U (x : Int) : U (toU x) := by unfold toU U; omega
theorem toS_S {x : Int} (h : U x) : S (toS x) := by unfold toS S; unfold U at h; split <;> omega
theorem toS_toU {x : Int} (h : S x) : toS (toU x) = x := by unfold toS toU; unfold S at h; split <;> omega
theorem toU_toS {x : Int} (h : U x) : toU (toS x) = x := by unfold toS toU; unfold U at h; split <;> omega
/-! ### Points and queries -/
structure Qr where
  p : Pt
  id : Int
  deriving DecidableEq
def ptB (p : Pt) : List Int := digs 8 (toU p.x) ++ digs 8 (toU p.y)
def qrB (q : Qr) : List Int := ptB q.p ++ digs 8 q.id
theorem ptB_len (p : Pt) : (ptB p).length = 16 := by unfold ptB; rw [List.length_append, digs_len, digs_len]
theorem qrB_len (q : Qr) : (qrB q).length = 24 := by unfold qrB; rw [List.length_append, ptB_len, digs_len]
theorem ptB_ub (p : Pt) : UB (ptB p) := (digs_ub _ _).app (digs_ub _ _)
theorem qrB_ub (q : Qr) : UB (qrB q) := (ptB_ub _).app (digs_ub _ _)
/-- What is read at an offset. -/
def wAt (b : List Int) (at_ : Nat) : Int := wv ((b.drop at_).take 8)
def ptAt (b : List Int) (at_ : Nat) : Pt := ⟨toS (wAt b at_), toS (wAt b (at_ + 8))⟩
def qrAt (b : List Int) (at_ : Nat) : Qr := ⟨ptAt b at_, wAt b (at_ + 16)⟩
theorem wAt_U {b : List Int} (h : UB b) {at_ : Nat} (hl : at_ + 8 ≤ b.length) : U (wAt b at_) := wv_U (fun x hx => h x (List.mem_of_mem_drop (List.mem_of_mem_take hx))) (by simp; omega)
theorem wAt_back {b : List Int} (h : UB b) {at_ : Nat} (hl : at_ + 8 ≤ b.length) : digs 8 (wAt b at_) = (b.drop at_).take 8 := by
  have hL : ((b.drop at_).take 8).length = 8 := by simp; omega
  have := digs_wv (l := (b.drop at_).take 8) fun x hx => h x (List.mem_of_mem_drop (List.mem_of_mem_take hx))
  rw [hL] at this
  exact this
theorem ptAt_S {b : List Int} (h : UB b) {at_ : Nat} (hl : at_ + 16 ≤ b.length) : S (ptAt b at_).x ∧ S (ptAt b at_).y := ⟨toS_S (wAt_U h (by omega)), toS_S (wAt_U h (by omega))⟩
theorem take_two {l : List Int} (a n m : Nat) : (l.drop a).take (n + m) = (l.drop a).take n ++ (l.drop (a + n)).take m := by
  rw [List.take_add, List.drop_drop]
theorem ptAt_back {b : List Int} (h : UB b) {at_ : Nat} (hl : at_ + 16 ≤ b.length) : ptB (ptAt b at_) = (b.drop at_).take 16 := by
  unfold ptB ptAt
  simp only
  rw [toU_toS (wAt_U h (by omega)), toU_toS (wAt_U h (by omega)), wAt_back h (by omega), wAt_back h (by omega), ← take_two]
theorem qrAt_back {b : List Int} (h : UB b) {at_ : Nat} (hl : at_ + 24 ≤ b.length) : qrB (qrAt b at_) = (b.drop at_).take 24 := by
  unfold qrB qrAt
  simp only
  rw [ptAt_back h (by omega), wAt_back h (by omega), ← take_two]
theorem wAt_in {x : Int} (h : U x) (a c : List Int) : wAt (a ++ (digs 8 x ++ c)) a.length = x := by
  unfold wAt
  rw [List.drop_left, List.take_append_of_le_length (by rw [digs_len]; exact Nat.le_refl _), List.take_of_length_le (by rw [digs_len]; exact Nat.le_refl _), wv8 h]
theorem ptAt_in {p : Pt} (h : S p.x ∧ S p.y) (a c : List Int) : ptAt (a ++ (ptB p ++ c)) a.length = p := by
  obtain ⟨x, y⟩ := p
  simp only at h
  unfold ptAt ptB
  simp only
  have h1 := wAt_in (toU_U x) a (digs 8 (toU y) ++ c)
  have h2 := wAt_in (toU_U y) (a ++ digs 8 (toU x)) c
  rw [List.length_append, digs_len] at h2
  simp only [List.append_assoc] at h1 h2 ⊢
  rw [h1, h2, toS_toU h.1, toS_toU h.2]
theorem qrAt_in {q : Qr} (h : (S q.p.x ∧ S q.p.y) ∧ U q.id) (a c : List Int) : qrAt (a ++ (qrB q ++ c)) a.length = q := by
  obtain ⟨p, i⟩ := q
  simp only at h
  unfold qrAt qrB
  simp only
  have h1 := ptAt_in h.1 a (digs 8 i ++ c)
  have h2 := wAt_in h.2 (a ++ ptB p) c
  rw [List.length_append, ptB_len] at h2
  simp only [List.append_assoc] at h1 h2 ⊢
  rw [h1, h2]
/-! ### Lists of things of one length -/
def listAt {α : Type} (f : Nat → α) (at_ n step : Nat) : List α := (List.range n).map fun i => f (at_ + i * step)
theorem listAt_len {α : Type} (f : Nat → α) (at_ n step : Nat) : (listAt f at_ n step).length = n := by unfold listAt; simp
theorem listAt_succ {α : Type} (f : Nat → α) (at_ n step : Nat) : listAt f at_ (n + 1) step = listAt f at_ n step ++ [f (at_ + n * step)] := by unfold listAt; rw [List.range_succ]; simp
theorem listAt_cons {α : Type} (f : Nat → α) (at_ n step : Nat) : listAt f at_ (n + 1) step = f at_ :: listAt f (at_ + step) n step := by
  unfold listAt
  rw [List.range_succ_eq_map, List.map_cons, List.map_map, Nat.zero_mul, Nat.add_zero]
  congr 1
  refine List.map_congr_left fun i _ => ?_
  show f (at_ + (i + 1) * step) = f (at_ + step + i * step)
  rw [Nat.succ_mul]
  congr 1
  omega
theorem listAt_back {α : Type} {f : Nat → α} {B : α → List Int} {k : Nat} {b : List Int} (hf : ∀ a, a + k ≤ b.length → B (f a) = (b.drop a).take k) : ∀ (n at_ : Nat), at_ + n * k ≤ b.length → (listAt f at_ n k).flatMap B = (b.drop at_).take (n * k)
  | 0, at_, _ => by unfold listAt; simp
  | n + 1, at_, h => by
    rw [Nat.succ_mul] at h
    rw [listAt_cons, List.flatMap_cons, hf at_ (by omega), listAt_back hf n (at_ + k) (by omega), Nat.succ_mul, Nat.add_comm (n * k) k, take_two]
theorem listAt_in {α : Type} {f : List Int → Nat → α} {B : α → List Int} {k : Nat} (hB : ∀ x, (B x).length = k) : ∀ (l : List α) (a c : List Int), (∀ x ∈ l, ∀ a c, f (a ++ (B x ++ c)) a.length = x) → listAt (f (a ++ (l.flatMap B ++ c))) a.length l.length k = l
  | [], a, c, _ => rfl
  | x :: l, a, c, hf => by
    rw [List.length_cons, listAt_cons, List.flatMap_cons]
    have h1 := hf x (by simp) a (l.flatMap B ++ c)
    have h2 := listAt_in hB l (a ++ B x) c fun y hy => hf y (by simp [hy])
    rw [List.length_append, hB] at h2
    simp only [List.append_assoc] at h1 h2 ⊢
    rw [h1, h2]
def ptsAt (b : List Int) (at_ n : Nat) : List Pt := listAt (ptAt b) at_ n 16
def qrsAt (b : List Int) (at_ n : Nat) : List Qr := listAt (qrAt b) at_ n 24
end Go.Proofs.YtcfdpimpleniaaaDoor
namespace Go.Proofs.YtcfdpimpleniaaaDoor

theorem two_256 (k : Nat) : (2 : Nat) ^ (8 * k) = 256 ^ k := by rw [Nat.pow_mul]
theorem shr_eq : ∀ (k : Nat) (x : Int), shr k x = x / ((2 ^ (8 * k) : Nat) : Int)
  | 0, x => by show x = x / ((1 : Nat) : Int); simp
  | k + 1, x => by
    rw [shr_succ, shr_eq k x, Int.ediv_ediv_of_nonneg (Int.natCast_nonneg _), two_256, two_256, Nat.pow_succ, Int.natCast_mul]
    rfl
theorem shr_pow (k : Nat) (x : Int) : x / 2 ^ (8 * k) = shr k x := by
  rw [shr_eq, Int.natCast_pow]; rfl
theorem wv_snoc (l : List Int) (d : Int) : wv (l ++ [d]) = wv l + d * ((2 ^ (8 * l.length) : Nat) : Int) := by
  induction l with
  | nil => show d + 256 * 0 = 0 + d * 1; omega
  | cons e l ih =>
    show e + 256 * wv (l ++ [d]) = e + 256 * wv l + d * _
    rw [ih, List.length_cons, two_256, two_256, Nat.pow_succ, Int.natCast_mul, ← Int.mul_assoc, Int.mul_add]
    generalize d * ((256 ^ l.length : Nat) : Int) = z
    omega
theorem or_byte {a d : Int} {k : Nat} (hk : k ≤ 7) (h0 : 0 ≤ a) (h1 : a < ((2 ^ (8 * k) : Nat) : Int)) (hd : 0 ≤ d ∧ d ≤ 255) :
    bits .or .u64 a (IntKind.u64.wrap (d * 2 ^ (8 * k))) = a + d * ((2 ^ (8 * k) : Nat) : Int) := by
  obtain ⟨a, rfl⟩ := Int.eq_ofNat_of_zero_le h0
  obtain ⟨d, rfl⟩ := Int.eq_ofNat_of_zero_le hd.1
  have e0 : (d : Int) * 2 ^ (8 * k) = ((d * 2 ^ (8 * k) : Nat) : Int) := by rw [Int.natCast_mul, Int.natCast_pow]; rfl
  have hp : (2 : Nat) ^ (8 * k) * 256 ≤ 2 ^ 64 := by
    have h8 : (256 : Nat) = 2 ^ 8 := rfl
    rw [h8, ← Nat.pow_add]
    exact Nat.pow_le_pow_right (by omega) (by omega)
  have hd2 : d ≤ 255 := by omega
  have hm : d * 2 ^ (8 * k) ≤ 255 * 2 ^ (8 * k) := Nat.mul_le_mul_right _ hd2
  have ha : a < 2 ^ (8 * k) := Int.ofNat_lt.1 h1
  have x1 : d * 2 ^ (8 * k) < 2 ^ 64 := by omega
  have x2 : a < 2 ^ 64 := by omega
  have hw : IntKind.u64.wrap ((d * 2 ^ (8 * k) : Nat) : Int) = ((d * 2 ^ (8 * k) : Nat) : Int) := by rw [wrap_u]; omega
  have e1 : ((d * 2 ^ (8 * k) : Nat) : Int) = ((BitVec.ofNat 64 (d * 2 ^ (8 * k))).toNat : Int) := by rw [BitVec.toNat_ofNat, Nat.mod_eq_of_lt x1]
  have e2 : (a : Int) = ((BitVec.ofNat 64 a).toNat : Int) := by rw [BitVec.toNat_ofNat, Nat.mod_eq_of_lt x2]
  rw [e0, hw, ← Int.natCast_mul]
  have e3 : bits .or .u64 (a : Int) ((d * 2 ^ (8 * k) : Nat) : Int) = ((a + d * 2 ^ (8 * k) : Nat) : Int) := by
    rw [e1, e2, or_w, BitVec.toNat_or, BitVec.toNat_ofNat, BitVec.toNat_ofNat, Nat.mod_eq_of_lt x1, Nat.mod_eq_of_lt x2, Nat.or_comm, Nat.mul_comm d, ← Nat.two_pow_add_eq_or_of_lt ha, Nat.add_comm]
  rw [e3, Int.natCast_add]
theorem wv_lt {l : List Int} (h : UB l) : wv l < ((2 ^ (8 * l.length) : Nat) : Int) := by
  have := (wv_ub h).2
  rw [two_256, Int.natCast_pow]
  exact this
end Go.Proofs.YtcfdpimpleniaaaDoor
