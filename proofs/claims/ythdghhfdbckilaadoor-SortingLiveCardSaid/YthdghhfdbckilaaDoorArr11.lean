/-
  Copies and comparisons of lists of words, and the reference of layer 11.
-/
import Derived.Test.YthdghhfdbckilaaDoorEv
import Derived.Test.YthdghhfdbckilaaDoorTapeL
import Derived.Test.YthdghhfdbckilaaDoorSlW
import Derived.Test.YthdghhfdbckilaaDoorEvA
namespace Go.Proofs.YthdghhfdbckilaaDoor
open Go.RowKit Go.Maps
set_option maxRecDepth 100000
set_option linter.unusedVariables false
set_option linter.unusedSimpArgs false

/-! ### The reference of layer 11 -/
def rdL (xs : List Int) (i : Int) : Int := if i < xs.length then dgt xs i.toNat else 0
def wrL (xs : List Int) (i x : Int) : List Int := if i < xs.length then xs.set i.toNat x else xs
def cntO (xs : List Int) : Nat := xs.countP fun x => x % 2 == 1
def fstO (xs : List Int) : Nat := xs.findIdx fun x => x % 2 == 1
theorem cntO_le (xs : List Int) : cntO xs ≤ xs.length := List.countP_le_length
theorem cntO_snoc (xs : List Int) (k : Nat) (h : k < xs.length) : (cntO (xs.take (k + 1)) : Int) = cntO (xs.take k) + (xs[k] % 2) := by
  unfold cntO
  rw [List.take_succ_eq_append_getElem h, List.countP_append, List.countP_singleton]
  have h2 : xs[k] % 2 = 0 ∨ xs[k] % 2 = 1 := by omega
  rcases h2 with e | e <;> rw [e] <;> simp
theorem wrap_u64_small {x : Int} (h1 : 0 ≤ x) (h2 : x ≤ 1000000) : IntKind.u64.wrap x = x := by
  simp [IntKind.wrap, IntKind.signed, IntKind.bits]; omega
theorem SlR.dgt_ {w : World} {S : Nat → Prop} {A : Option Addr} {xs : List Int} (h : SlR w S .u64 A xs) {k : Nat} (hk : k < xs.length) : ∃ b o, A = some ⟨b, o, none⟩ ∧ S b ∧ w.cell? ⟨b, o + k, none⟩ = some (.int .u64 (dgt xs k)) := by
  obtain ⟨b, o, e, hb, hc⟩ := h (by omega)
  exact ⟨b, o, e, hb, by rw [dgt_lt hk]; exact hc k _ (List.getElem?_eq_getElem hk)⟩
theorem fstO_at {xs : List Int} {k : Nat} (h : ∀ j, j < k → dgt xs j % 2 = 0) (hk : k < xs.length) (hx : dgt xs k % 2 = 1) : fstO xs = k := by
  unfold fstO
  rw [List.findIdx_eq hk]
  refine ⟨by rw [← dgt_lt hk, hx]; rfl, fun j hj => ?_⟩
  have := h j hj
  rw [dgt_lt (by omega)] at this
  rw [this]; rfl
theorem fstO_none {xs : List Int} (h : ∀ j, j < xs.length → dgt xs j % 2 = 0) : fstO xs = xs.length := by
  unfold fstO
  rw [List.findIdx_eq_length]
  intro x hx
  obtain ⟨j, hj, rfl⟩ := List.mem_iff_getElem.1 hx
  have := h j hj
  rw [dgt_lt hj] at this
  rw [this]; rfl
theorem wrL_len (xs : List Int) (i x : Int) : (wrL xs i x).length = xs.length := by unfold wrL; split <;> simp
/-- A list of events of the call's own; nil has no room. -/
def GivesEvN (w : World) (l : List Ev) (e : Ending) (w' : World) : Prop := ∃ A c, e = .returned (.slice A l.length c) ∧ (A = none → c = 0) ∧ EvsR w' (fun b => w.heap.size ≤ b) A l ∧ Below w.heap.size w w'
theorem own_nil {w : World} {base : Nat} {A : Option Addr} {n c : Nat} {e : TypeId} {s : Nat} {xs : List Value} {m : Nat} (h : w.ownsRow base e s (.slice A n c) m xs) : A = none → c = 0 := fun hA => by
  subst hA
  rcases h.2 with ⟨e, _⟩ | ⟨g, cap, cur, e, _⟩
  · injection e
  · injection e with e _ _; cases e
set_option maxHeartbeats 1000000 in
theorem ref11Events_any (kind : Int) (n : Nat) (hn : n ≤ 1000) (w : World) :
    Calls Tryd.prog 26 #[.int .i64 kind, .int .i64 n] w (GivesEvN w (evR kind n)) := by
  go_enter Tryd.func26, Tryd.ntmps26
  go_wp2
  go_loopw [5, 6] (fun v i wr => ∃ k : Nat, i = .int .i64 k ∧ k ≤ n ∧ wr.ownsRow w.heap.size 45 3 v (evR kind k).length ((evR kind k).flatMap evC) ∧ Below w.heap.size w wr) (fun _ i _ => n - (intOf i).toNat)
  case atStart => exact ⟨0, rfl, Nat.zero_le _, World.ownsRow_nil _ _ _ _, Below.refl _ _⟩
  case round =>
    obtain ⟨k, rfl, hk, hrow, hb⟩ := hrel
    by_cases hgo : k < n
    · have hbs := hb.size
      have HS := Lib.hid (evR_succ kind k)
      have hln : (evR kind k).length = k := by unfold evR; simp
      have hev : EvsR (wr.alloc (.cells #[.int .i64 kind, .int .i64 k, .int .i64 0] 45)) (fun _ => True) (some ⟨wr.heap.size, 0, none⟩) [⟨kind, k, 0⟩] := fun _ => by
        refine ⟨wr.heap.size, 0, rfl, trivial, fun j x hx => ?_⟩
        match j, hx with
        | 0, hx => simp at hx; subst hx; simp [go_sem]
      obtain ⟨L0, hL0⟩ : ∃ L0, L0 = evR kind k := ⟨_, rfl⟩
      rw [← hL0] at HS hrow hln
      clear hL0
      have hgk : (k : Int) < n := by omega
      go_wp2_with (first
        | (at_builtin; refine wp_app_ev rfl _ _ rfl w.heap.size _ L0.length (L0.flatMap evC) rfl (World.ownsRow.alloc hrow _) (some ⟨wr.heap.size, 0, none⟩) 1 [⟨kind, k, 0⟩] (fun _ => True) rfl hev (by simp) (by simp; omega) (by simp; omega) ?_
           intro v' w2 hown2 hgrow2))
      go_roundw
      case rel =>
        refine ⟨k + 1, by go_num, hgo, ?_, (hb.alloc hbs _).grown hgrow2 (by simp; omega) (fun g hg => (World.ownsRow.lt hrow g hg).1)⟩
        rw [HS.out, List.length_append, List.flatMap_append]; exact hown2
      case measure => simp [intOf]; omega
    · have HE := Lib.hid (show k = n by omega)
      have hgk : ¬ (k : Int) < n := by omega
      rw [HE.out] at hrow
      go_wp2
      go_ret
      obtain ⟨A', c', rfl, hlc, _, hev⟩ := own_evs hrow
      exact ⟨A', c', rfl, own_nil hrow, hev.imp (fun g hg => (World.ownsRow.lt hrow g hg).1), hb⟩
end Go.Proofs.YthdghhfdbckilaaDoor
