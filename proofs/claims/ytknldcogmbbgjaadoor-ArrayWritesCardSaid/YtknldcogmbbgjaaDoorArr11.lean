/-
  Copies and comparisons of lists of words, and the reference of layer 11.
-/
import Derived.Test.YtknldcogmbbgjaaDoorEv
import Derived.Test.YtknldcogmbbgjaaDoorTapeL
import Derived.Test.YtknldcogmbbgjaaDoorSlW
import Derived.Test.YtknldcogmbbgjaaDoorEvA
namespace Go.Proofs.YtknldcogmbbgjaaDoor
open Go.RowKit Go.Maps
set_option maxRecDepth 100000
set_option linter.unusedVariables false
set_option linter.unusedSimpArgs false

/-! ### The reference of layer 11 -/
def rdL (xs : List Int) (i : Int) : Int := if i < xs.length then dgt xs i.toNat else 0
def wrL (xs : List Int) (i x : Int) : List Int := if i < xs.length then xs.set i.toNat x else xs
def cntO (xs : List Int) : Nat := xs.countP fun x => x % 2 == 1
def fstO (xs : List Int) : Nat := xs.findIdx fun x => x % 2 == 1
theorem cntO_le (xs : List Int) : cntO xs ≤ xs.length := List.countP_le_length
theorem cntO_snoc (xs : List Int) (k : Nat) (h : k < xs.length) : (cntO (xs.take (k + 1)) : Int) = cntO (xs.take k) + (xs[k] % 2) := by
  unfold cntO
  rw [List.take_succ_eq_append_getElem h, List.countP_append, List.countP_singleton]
  have h2 : xs[k] % 2 = 0 ∨ xs[k] % 2 = 1 := by omega
  rcases h2 with e | e <;> rw [e] <;> simp
theorem wrap_u64_small {x : Int} (h1 : 0 ≤ x) (h2 : x ≤ 1000000) : IntKind.u64.wrap x = x := by
  simp [IntKind.wrap, IntKind.signed, IntKind.bits]; omega
theorem SlR.dgt_ {w : World} {S : Nat → Prop} {A : Option Addr} {xs : List Int} (h : SlR w S .u64 A xs) {k : Nat} (hk : k < xs.length) : ∃ b o, A = some ⟨b, o, none⟩ ∧ S b ∧ w.cell? ⟨b, o + k, none⟩ = some (.int .u64 (dgt xs k)) := by
  obtain ⟨b, o, e, hb, hc⟩ := h (by omega)
  exact ⟨b, o, e, hb, by rw [dgt_lt hk]; exact hc k _ (List.getElem?_eq_getElem hk)⟩
theorem ref11Read_any (A : Option Addr) (c : Nat) (xs : List Int) (i r : Int) (S : Nat → Prop) (w : World) (ha : SlR w S .u64 A xs) (hl : xs.length ≤ 1000000) (hi : U i) (hr : rdL xs i = r) :
    Calls Tryd.prog 12 #[.slice A xs.length c, .int .u64 i] w fun e w' => e = .returned (.int .u64 r) ∧ w' = w := by
  unfold rdL at hr
  have hz := wrap_u64_small (x := (xs.length : Int)) (by omega) (by omega)
  have hi0 : 0 ≤ i := hi.1
  by_cases hlt : i < xs.length
  · rw [if_pos hlt] at hr
    obtain ⟨b, o, rfl, _, hc⟩ := ha.dgt_ (k := i.toNat) (by omega)
    rw [hr] at hc
    clear ha hr
    go_enter Tryd.func12, Tryd.ntmps12
    go_wp2
    go_ret
    exact ⟨rfl, rfl⟩
  · rw [if_neg hlt] at hr
    subst hr
    clear ha
    go_enter Tryd.func12, Tryd.ntmps12
    go_wp2
    go_ret
    exact ⟨rfl, rfl⟩
set_option maxHeartbeats 1000000 in
theorem ref11Count_any (A : Option Addr) (c : Nat) (xs : List Int) (r : Int) (S : Nat → Prop) (w : World) (ha : SlR w S .u64 A xs) (hl : xs.length ≤ 1000000) (hU : ∀ x ∈ xs, U x) (hr : (cntO xs : Int) = r) :
    Calls Tryd.prog 18 #[.slice A xs.length c] w fun e w' => e = .returned (.int .u64 r) ∧ w' = w := by
  have HR := Lib.hid hr
  clear hr
  go_enter Tryd.func18, Tryd.ntmps18
  go_wp2
  go_loop [3, 4] (fun m i => ∃ k : Nat, i = .int .i64 k ∧ k ≤ xs.length ∧ m = .int .u64 (cntO (xs.take k) : Nat)) (fun _ i => xs.length - (intOf i).toNat)
  case atStart => exact ⟨0, rfl, Nat.zero_le _, rfl⟩
  case round =>
    obtain ⟨k, rfl, hk, rfl⟩ := hrel
    by_cases hgo : k < xs.length
    · obtain ⟨b, o, rfl, _, hc⟩ := ha.at_ hgo
      have HS := Lib.hid (cntO_snoc xs k hgo)
      have hb0 : (cntO (xs.take k) : Int) ≤ 1000000 := by have := cntO_le (xs.take k); rw [List.length_take] at this; omega
      have hux := hU _ (List.getElem_mem hgo)
      clear ha
      obtain ⟨x, hx⟩ : ∃ x, x = xs[k]'hgo := ⟨_, rfl⟩
      obtain ⟨n0, hn0⟩ : ∃ n0 : Int, n0 = (cntO (xs.take k) : Int) := ⟨_, rfl⟩
      rw [← hx, ← hn0] at HS
      rw [← hx] at hc hux
      rw [← hn0] at hb0 ⊢
      have hn1 : 0 ≤ n0 := by omega
      have hx0 : 0 ≤ x := hux.1
      have hz : IntKind.u64.wrap (n0 + x % 2) = n0 + x % 2 := wrap_u64' (by omega) (by omega)
      clear hx hn0 hux
      go_wp2
      go_round
      case rel => exact ⟨k + 1, by go_num, hgo, by rw [HS.out]⟩
      case measure => simp [intOf]; omega
    · have HE := Lib.hid (show xs.take k = xs from List.take_of_length_le (by omega))
      clear ha
      go_wp2
      go_ret
      exact ⟨by rw [HE.out, HR.out]; rfl, rfl⟩
theorem fstO_at {xs : List Int} {k : Nat} (h : ∀ j, j < k → dgt xs j % 2 = 0) (hk : k < xs.length) (hx : dgt xs k % 2 = 1) : fstO xs = k := by
  unfold fstO
  rw [List.findIdx_eq hk]
  refine ⟨by rw [← dgt_lt hk, hx]; rfl, fun j hj => ?_⟩
  have := h j hj
  rw [dgt_lt (by omega)] at this
  rw [this]; rfl
theorem fstO_none {xs : List Int} (h : ∀ j, j < xs.length → dgt xs j % 2 = 0) : fstO xs = xs.length := by
  unfold fstO
  rw [List.findIdx_eq_length]
  intro x hx
  obtain ⟨j, hj, rfl⟩ := List.mem_iff_getElem.1 hx
  have := h j hj
  rw [dgt_lt hj] at this
  rw [this]; rfl
set_option maxHeartbeats 1000000 in
theorem ref11First_any (A : Option Addr) (c : Nat) (xs : List Int) (r : Int) (S : Nat → Prop) (w : World) (ha : SlR w S .u64 A xs) (hl : xs.length ≤ 1000000) (hU : ∀ x ∈ xs, U x) (hr : (fstO xs : Int) = r) :
    Calls Tryd.prog 19 #[.slice A xs.length c] w fun e w' => e = .returned (.int .u64 r) ∧ w' = w := by
  have HR := Lib.hid hr
  clear hr
  have hzl := wrap_u64' (x := (xs.length : Int)) (by omega) (by omega)
  go_enter Tryd.func19, Tryd.ntmps19
  go_wp2
  go_loop [3] (fun i => ∃ k : Nat, i = .int .i64 k ∧ k ≤ xs.length ∧ ∀ j, j < k → dgt xs j % 2 = 0) (fun i => xs.length - (intOf i).toNat)
  case atStart => exact ⟨0, rfl, Nat.zero_le _, fun j h => by omega⟩
  case round =>
    obtain ⟨k, rfl, hk, hz⟩ := hrel
    have HZ := Lib.hid hz
    clear hz
    by_cases hgo : k < xs.length
    · obtain ⟨b, o, rfl, _, hc⟩ := ha.dgt_ hgo
      have hux := hU _ (List.getElem_mem hgo)
      rw [← dgt_lt hgo] at hux
      have hx0 : 0 ≤ dgt xs k := hux.1
      clear ha hux
      have hzk := wrap_u64' (x := (k : Int)) (by omega) (by omega)
      obtain ⟨x, hx⟩ : ∃ x, x = dgt xs k := ⟨_, rfl⟩
      rw [← hx] at hc hx0
      have HX := Lib.hid hx
      clear hx
      by_cases ho : x % 2 = 1
      · have hd : (x % 2 == 1) = true := by rw [ho]; rfl
        have HF := Lib.hid (fstO_at HZ.out hgo (by rw [← HX.out]; exact ho))
        clear ho
        go_wp2
        go_ret
        exact ⟨by rw [← HR.out, HF.out]; rfl, rfl⟩
      · have hd : (x % 2 == 1) = false := by rw [beq_eq_false_iff_ne]; exact ho
        have HO := Lib.hid ho
        clear ho
        go_wp2
        go_round
        case rel =>
          refine ⟨k + 1, by go_num, hgo, fun j hj => ?_⟩
          by_cases e : j = k
          · subst e; rw [← HX.out]; have := HO.out; omega
          · exact HZ.out j (by omega)
        case measure => simp [intOf]; omega
    · have HF := Lib.hid (fstO_none (xs := xs) fun j hj => HZ.out j (by omega))
      clear ha
      go_wp2
      go_ret
      exact ⟨by rw [← HR.out, HF.out]; rfl, rfl⟩
theorem wrL_len (xs : List Int) (i x : Int) : (wrL xs i x).length = xs.length := by unfold wrL; split <;> simp
set_option maxHeartbeats 1000000 in
theorem ref11Write_any (A : Option Addr) (c : Nat) (xs : List Int) (i x : Int) (S : Nat → Prop) (w : World) (ha : SlR w S .u64 A xs) (hA : A = none → c = 0) (hl : xs.length ≤ 1000000) (hi : U i) :
    Calls Tryd.prog 15 #[.slice A xs.length c, .int .u64 i, .int .u64 x] w fun e w' => ∃ v, e = .returned v ∧ OwnK w' w.heap.size 23 .u64 v (wrL xs i x) ∧ Below w.heap.size w w' := by
  have hz := wrap_u64' (x := (xs.length : Int)) (by omega) (by omega)
  have hi0 : 0 ≤ i := hi.1
  have hrow : OwnK (w.alloc (.cells #[] 23)) w.heap.size 23 .u64 (.slice (some ⟨w.heap.size, 0, none⟩) 0 0) [] := World.ownsRow_made w #[] 0 (Nat.le_refl _) (by decide) rfl
  have hb0 : Below w.heap.size w (w.alloc (.cells #[] 23)) := (Below.refl _ _).alloc (Nat.le_refl _) _
  have ha2 := ha.next hb0
  go_enter Tryd.func15, Tryd.ntmps15
  by_cases hlt : i < xs.length
  · have HW := Lib.hid (show wrL xs i x = xs.set i.toNat x by unfold wrL; rw [if_pos hlt])
    go_wp2_with (first
      | (at_builtin; refine wp_app_w rfl _ _ rfl w.heap.size _ [] rfl hrow A c xs S rfl ha2 hA (by simp; omega) (by simp) ?_
         intro v' w1 hown1 hb1
         rw [List.nil_append] at hown1
         obtain ⟨A', c', rfl, hc', hg'⟩ := hown1.slice_ rfl
         obtain ⟨g, rfl, hgb⟩ := hg' (by omega)
         have hcell := hown1.cell_ rfl (j := i.toNat) (by omega)
         have hfr := hown1.frozen_ rfl i.toNat))
    go_ret
    exact ⟨_, rfl, by rw [HW.out]; have := (hown1.set_ rfl i.toNat x).1; simpa using this, (hb0.trans hb1).setCell (p := ⟨g, i.toNat, none⟩) hgb _⟩
  · have HW := Lib.hid (show wrL xs i x = xs by unfold wrL; rw [if_neg hlt])
    go_wp2_with (first
      | (at_builtin; refine wp_app_w rfl _ _ rfl w.heap.size _ [] rfl hrow A c xs S rfl ha2 hA (by simp; omega) (by simp) ?_
         intro v' w1 hown1 hb1
         rw [List.nil_append] at hown1))
    go_ret
    exact ⟨_, rfl, by rw [HW.out]; exact hown1, hb0.trans hb1⟩
/-- A list of events of the call's own; nil has no room. -/
def GivesEvN (w : World) (l : List Ev) (e : Ending) (w' : World) : Prop := ∃ A c, e = .returned (.slice A l.length c) ∧ (A = none → c = 0) ∧ EvsR w' (fun b => w.heap.size ≤ b) A l ∧ Below w.heap.size w w'
theorem own_nil {w : World} {base : Nat} {A : Option Addr} {n c : Nat} {e : TypeId} {s : Nat} {xs : List Value} {m : Nat} (h : w.ownsRow base e s (.slice A n c) m xs) : A = none → c = 0 := fun hA => by
  subst hA
  rcases h.2 with ⟨e, _⟩ | ⟨g, cap, cur, e, _⟩
  · injection e
  · injection e with e _ _; cases e
set_option maxHeartbeats 1000000 in
theorem ref11Events_any (kind : Int) (n : Nat) (hn : n ≤ 1000) (w : World) :
    Calls Tryd.prog 23 #[.int .i64 kind, .int .i64 n] w (GivesEvN w (evR kind n)) := by
  go_enter Tryd.func23, Tryd.ntmps23
  go_wp2
  go_loopw [5, 6] (fun v i wr => ∃ k : Nat, i = .int .i64 k ∧ k ≤ n ∧ wr.ownsRow w.heap.size 44 3 v (evR kind k).length ((evR kind k).flatMap evC) ∧ Below w.heap.size w wr) (fun _ i _ => n - (intOf i).toNat)
  case atStart => exact ⟨0, rfl, Nat.zero_le _, World.ownsRow_nil _ _ _ _, Below.refl _ _⟩
  case round =>
    obtain ⟨k, rfl, hk, hrow, hb⟩ := hrel
    by_cases hgo : k < n
    · have hbs := hb.size
      have HS := Lib.hid (evR_succ kind k)
      have hln : (evR kind k).length = k := by unfold evR; simp
      have hev : EvsR (wr.alloc (.cells #[.int .i64 kind, .int .i64 k, .int .i64 0] 44)) (fun _ => True) (some ⟨wr.heap.size, 0, none⟩) [⟨kind, k, 0⟩] := fun _ => by
        refine ⟨wr.heap.size, 0, rfl, trivial, fun j x hx => ?_⟩
        match j, hx with
        | 0, hx => simp at hx; subst hx; simp [go_sem]
      obtain ⟨L0, hL0⟩ : ∃ L0, L0 = evR kind k := ⟨_, rfl⟩
      rw [← hL0] at HS hrow hln
      clear hL0
      have hgk : (k : Int) < n := by omega
      go_wp2_with (first
        | (at_builtin; refine wp_app_ev rfl _ _ rfl w.heap.size _ L0.length (L0.flatMap evC) rfl (World.ownsRow.alloc hrow _) (some ⟨wr.heap.size, 0, none⟩) 1 [⟨kind, k, 0⟩] (fun _ => True) rfl hev (by simp) (by simp; omega) (by simp; omega) ?_
           intro v' w2 hown2 hgrow2))
      go_roundw
      case rel =>
        refine ⟨k + 1, by go_num, hgo, ?_, (hb.alloc hbs _).grown hgrow2 (by simp; omega) (fun g hg => (World.ownsRow.lt hrow g hg).1)⟩
        rw [HS.out, List.length_append, List.flatMap_append]; exact hown2
      case measure => simp [intOf]; omega
    · have HE := Lib.hid (show k = n by omega)
      have hgk : ¬ (k : Int) < n := by omega
      rw [HE.out] at hrow
      go_wp2
      go_ret
      obtain ⟨A', c', rfl, hlc, _, hev⟩ := own_evs hrow
      exact ⟨A', c', rfl, own_nil hrow, hev.imp (fun g hg => (World.ownsRow.lt hrow g hg).1), hb⟩
end Go.Proofs.YtknldcogmbbgjaaDoor
