/-
  Contracts of package array.
-/
import Derived.Test.YtknldcogmbbgjaaDoorTapeL
import Derived.Test.YtknldcogmbbgjaaDoorWords
import Derived.Shelf.Abstract
import Derived.Shelf.RegionOpen
import Derived.WalkKit
import Derived.OwnWalkIn
import Derived.TacticsInMore
import Derived.LoopNIn
import Derived.LoopIn
namespace Go.Proofs.YtknldcogmbbgjaaDoor
open Go.RowKit Go.Maps Go.Shelf
set_option maxRecDepth 100000
set_option linter.unusedVariables false
set_option linter.unusedSimpArgs false
attribute [local go_sem] Oper.semAt_some

theorem addT_assoc (v : Value) (l m n : List Ev) : addT v (addT v l m) n = addT v l (m ++ n) := by
  unfold addT
  split <;> simp
theorem addT_len (v : Value) (l : List Ev) (kind : Int) (k : Nat) (h1 : l.length ≤ 100000) (h2 : k ≤ 1000) : (addT v l (evR kind k)).length ≤ 1000000 := by
  unfold addT evR
  split
  · simp
  · simp; omega
theorem wrap_u64 {x : Int} (h1 : 0 ≤ x) (h2 : x < 18446744073709551616) : IntKind.u64.wrap x = x := by
  simp [IntKind.wrap, IntKind.signed, IntKind.bits]; omega
theorem addT_zero {w : World} {T : Nat → Prop} {v : Value} {l : List Ev} (h : TapeO w T v l) {kind : Int} : addT v l (evR kind 0) = l := by
  rcases h with ⟨rfl, rfl⟩ | ⟨tb, rfl, _⟩
  · rfl
  · simp [addT, evR]
/-- What visits' closure reads between two rounds: its boxes, the tape. -/
def VisPre (w : World) (T V : Nat → Prop) (B : Nat) (bl bt bk : Nat) (A : Option Addr) (n c : Nat) (tv : Value) (l : List Ev) (kind : Int) (k : Nat) (W : World) : Prop :=
  In w V B [(bl, .slice A n c, 22), (bt, tv, 36), (bk, .int .i64 kind, 3)] W ∧ TapeO W (Star w T B) tv (addT tv l (evR kind k))
def VisStep (w : World) (T : Nat → Prop) (B : Nat) (tv : Value) (l : List Ev) (kind : Int) (k : Nat) (W W' : World) : Prop :=
  TapeO W' (Star w T B) tv (addT tv l (evR kind (k + 1))) ∧ Moved (Star w T B) W W'
set_option maxHeartbeats 2000000 in
theorem visits_y (w : World) (T V : Nat → Prop) (hTV : ∀ g, T g → V g) (B bl bt bk : Nat) (A : Option Addr) (b o n c : Nat) (hA : 0 < n → A = some ⟨b, o, none⟩) (hn : n ≤ 1000) (tv : Value) (l : List Ev) (hl : l.length ≤ 100000) (kind : Int) (hk : (Lit.int .i64 kind).wf = true) :
    Yields Fence.wide 8 Tryd.prog 38 #[.pointer (some ⟨bl, 0, none⟩), .pointer (some ⟨bt, 0, none⟩), .pointer (some ⟨bk, 0, none⟩)]
      (fun k => #[.int .u64 k, .pointer (some ⟨b, o + k, none⟩)]) n (VisPre w T V B bl bt bk A n c tv l kind) (VisStep w T B tv l kind) Eq := fun r J Jx W hP hY h0 => by
  refine callsIn_of_wp Tryd.func38 rfl trivial ?_ rfl
  simp only [Tryd.ntmps38, List.size_toArray, List.length_cons, List.length_nil, Nat.reduceAdd, Nat.reduceSub, Array.replicate_succ, Array.replicate_zero, List.push_toArray, List.append_toArray, List.nil_append, List.cons_append]
  have c0 := (hP 0 W h0).1.b0.1
  gi_wp2
  gi_loopw [8] (fun i wr => ∃ k : Nat, i = .int .i64 k ∧ k ≤ n ∧ J k wr) (fun i _ => n - (intOf i).toNat)
  case atStart => exact ⟨0, rfl, Nat.zero_le _, h0⟩
  case round =>
    clear c0 h0
    obtain ⟨k, rfl, hkn, hJ⟩ := hrel
    by_cases hgo : k < n
    · obtain rfl := hA (by omega)
      obtain ⟨hin, ht⟩ := hP k wr hJ
      have c1 := hin.b1.1
      have c2 := hin.b2.1
      have hz : IntKind.u64.wrap (k : Int) = k := wrap_u64 (by omega) (by omega)
      have hlen : (addT tv l (evR kind k)).length ≤ 1000000 := addT_len tv l kind k (by omega) (by omega)
      have hgk : (k : Int) < n := by omega
      gi_wp2_with (fail)
      refine ⟨trivial, (callsIn_wide.2 (noteO_any tv (addT tv l (evR kind k)) (Star w T B) kind k 0 wr ht hlen hk (fun g hg => .inr (Nat.le_trans hin.size hg)))).mono ?_⟩
      rintro e w1 ⟨rfl, ht1, hm1⟩
      rw [addT_assoc, ← evR_succ] at ht1
      have c3 := (hin.step hTV hm1).b0.1
      obtain ⟨fn, tmps, assign, body, hy, hR⟩ := hY k wr w1 hgo hJ ⟨ht1, hm1⟩
      clear ht1 hm1 hlen hin ht c1 c2
      gi_wp2_with (fail)
      refine hR.mono ?_
      rintro e W3 (⟨rfl, hJ3⟩ | ⟨rfl, hx⟩)
      · gi_wp2
        go_roundw
        case rel => exact ⟨k + 1, by go_num, hgo, hJ3⟩
        case measure => simp [intOf]; omega
      · gi_wp2
        refine bodyPost_ret (results_none rfl _ _ _) rfl ?_
        exact ⟨⟨_, rfl⟩, .inr ⟨_, hx, rfl⟩⟩
    · gi_wp2
      go_end0
      exact ⟨⟨_, rfl⟩, .inl ⟨_, by rwa [show n = k by omega], rfl⟩⟩
theorem visits_any (p : Option Addr) (kind : Int) (A : Option Addr) (n c : Nat) (w : World) :
    Calls Tryd.prog 29 #[.pointer p, .int .i64 kind, .slice A n c] w fun e w' => e = .returned (.func (.func 38) #[] #[.pointer (some ⟨w.heap.size + 1 + 1, 0, none⟩), .pointer (some ⟨w.heap.size, 0, none⟩), .pointer (some ⟨w.heap.size + 1, 0, none⟩)]) ∧
      w' = ((w.alloc (.cells #[.pointer p] 36)).alloc (.cells #[.int .i64 kind] 3)).alloc (.cells #[.slice A n c] 22) := by
  go_enter Tryd.func29, Tryd.ntmps29
  go_wp2
  go_ret
  exact ⟨rfl, rfl⟩
def accR (xs : List Int) (i : Int) : Nat → Int
  | 0 => 0
  | k + 1 => bits .or .u64 (accR xs i k) (bits .and .u64 (xs.getD k 0) (mk (decide (i = k))))
end Go.Proofs.YtknldcogmbbgjaaDoor
