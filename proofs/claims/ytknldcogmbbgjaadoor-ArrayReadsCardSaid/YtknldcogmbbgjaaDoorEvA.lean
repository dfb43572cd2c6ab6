/-
  Appends of events; slices.Grow and slices.Concat of events.
-/
import Derived.Test.YtknldcogmbbgjaaDoorTapeC
import Derived.Laws.AppendOwnNone
import Derived.Lib.AppendZeros
namespace Go.Proofs.YtknldcogmbbgjaaDoor
open Go.RowKit Go.Maps
set_option maxRecDepth 100000
set_option linter.unusedVariables false
set_option linter.unusedSimpArgs false

theorem nil_evs {w : World} {T : Nat → Prop} {l : List Ev} (h : EvsR w T none l) : l = [] := by
  rcases l with _ | ⟨e, l⟩
  · rfl
  · obtain ⟨b, o, e, _⟩ := h (by simp); cases e
/-- A row of one's own, empty. -/
theorem row_new (w : World) : (w.alloc (.cells #[] 44)).ownsRow w.heap.size 44 3 (.slice (some ⟨w.heap.size, 0, none⟩) 0 0) 0 [] := World.ownsRow_made w #[] 0 (Nat.le_refl _) (by decide) rfl
/-- append of events onto a row of one's own, at the walk's operation: whatever comes, nil too. -/
theorem wp_app_ev {ops : Array Oper} {rest : List Oper} {o : Oper} {a : Act} {Q : Exit → Act → World → Prop} {w : World} (hgd : o.guard = none) (s x : Operand)
    (ho : o.op = .call { callee := .builtin .append, args := #[s, x], argTypes := #[38, 38] }) (base : Nat) (v : Value) (n : Nat) (xs : List Value) (hs : a.eval s = v) (hown : w.ownsRow base 44 3 v n xs)
    (A : Option Addr) (c : Nat) (l : List Ev) (T : Nat → Prop) (hx : a.eval x = .slice A l.length c) (hl : EvsR w T A l) (hc : A = none → c = 0) (h1 : n + l.length ≤ 1000000) (hbase : base ≤ w.heap.size)
    (h : ∀ v' w', w'.ownsRow base 44 3 v' (n + l.length) (xs ++ l.flatMap evC) → w.grownBy w' v.ownBlock → wpList Tryd.prog ops Q rest (a.put o.dst v') w') : wpList Tryd.prog ops Q (o :: rest) a w := by
  obtain ⟨i0, hi, hz0, hz1, hz2⟩ := info_parts infoEv
  cases A with
  | some ad => exact wpList_append_own _ hgd s x 38 ho base 44 i0 (.agg #[.int .i64 0, .int .i64 0, .int .i64 0]) 3 24 Tryd.underlying38 hi hz0 hz1 hz2 rfl (by decide) v n xs hs hown ad l.length c (l.flatMap evC) hx (flat_len l) (fun j u hj => hl.cells_ j u hj) (flat_cell l) (by unfold maxLen; omega) (by omega) hbase (fun v' w' h1 h2 _ => h v' w' h1 h2)
  | none =>
    obtain rfl := nil_evs hl
    obtain rfl := hc rfl
    exact wpList_append_own_none hgd s x 38 ho base 44 i0 3 Tryd.underlying38 hi v n xs hs hown hx (h v w (by simpa using hown) (World.grownBy.refl w _))
theorem growEv_any (n : Nat) (hn : n ≤ 1000000) (w : World) :
    Calls Tryd.prog 36 #[.slice none 0 0, .int .i64 n] w fun e w' => ∃ v, e = .returned v ∧ w'.ownsRow w.heap.size 44 3 v 0 [] ∧ Below w.heap.size w w' := by
  obtain ⟨i0, hi, hz0, hz1, hz2⟩ := info_parts infoEv
  by_cases h0 : 0 < n
  · have hr := Lib.run_append_nil_zeros (P := Tryd.prog) w 38 3 38 44 i0 (.agg #[.int .i64 0, .int .i64 0, .int .i64 0]) .i64 .i64 Tryd.underlying38 Tryd.underlying3 hi hz0 n h0 (by omega) (by omega) (by rw [hz2]; omega)
    go_enter Tryd.func36, Tryd.ntmps36
    go_wp2_with (at_builtin; refine Lib.wpList_append_run _ rfl _ _ _ _ rfl _ _ rfl rfl _ _ hr ?_)
    go_ret
    have h1 := grownCap_ge w n 0 44
    have h2 := grownCap_le_maxLen w n 0 44 (by unfold maxLen; omega)
    refine ⟨_, rfl, (World.ownsRow_made w _ _ (Nat.le_refl _) h2 ?_).drew, ((Below.refl _ _).alloc (Nat.le_refl _) _).drew⟩
    rw [Array.size_append, size_zeroCells, size_zeroCells]
    simp
    omega
  · obtain rfl : n = 0 := by omega
    go_enter Tryd.func36, Tryd.ntmps36
    go_wp2
    go_ret
    exact ⟨_, rfl, World.ownsRow_nil _ _ _ _, Below.refl _ _⟩
/-- A slice of slices of events, in memory. -/
structure EvLs (w : World) (b o : Nat) (Ls : List (Option Addr × Nat × List Ev)) : Prop where
  cell : ∀ j p, Ls[j]? = some p → w.cell? ⟨b, o + j, none⟩ = some (.slice p.1 p.2.2.length p.2.1)
  evs : ∀ p ∈ Ls, EvsR w (fun _ => True) p.1 p.2.2 ∧ (p.1 = none → p.2.1 = 0)
theorem EvLs.next {w w' : World} {b o : Nat} {Ls : List (Option Addr × Nat × List Ev)} (h : EvLs w b o Ls) (hb : Below w.heap.size w w') : EvLs w' b o Ls :=
  ⟨fun j p hp => (hb.cell (p := ⟨b, o + j, none⟩) (lt_of_cell (h.cell j p hp))).trans (h.cell j p hp), fun p hp => ⟨(h.evs p hp).1.next hb, (h.evs p hp).2⟩⟩
def totE (Ls : List (Option Addr × Nat × List Ev)) : List Ev := Ls.flatMap fun p => p.2.2
theorem totE_snoc (Ls : List (Option Addr × Nat × List Ev)) (k : Nat) (h : k < Ls.length) : totE (Ls.take (k + 1)) = totE (Ls.take k) ++ Ls[k].2.2 := by
  unfold totE; rw [List.take_succ_eq_append_getElem h, List.flatMap_append]; simp
theorem totE_le (Ls : List (Option Addr × Nat × List Ev)) (k : Nat) : (totE (Ls.take k)).length ≤ (totE Ls).length := by
  have : totE Ls = totE (Ls.take k) ++ totE (Ls.drop k) := by unfold totE; rw [← List.flatMap_append, List.take_append_drop]
  rw [this, List.length_append]; omega
set_option maxHeartbeats 2000000 in
theorem concatEv_any (b o c : Nat) (Ls : List (Option Addr × Nat × List Ev)) (w : World) (h : EvLs w b o Ls) (h0 : 0 < Ls.length) (hl : Ls.length ≤ 1000) (ht : (totE Ls).length ≤ 1000000) :
    Calls Tryd.prog 26 #[.slice (some ⟨b, o, none⟩) Ls.length c] w (GivesEv w (totE Ls)) := by
  go_enter Tryd.func26, Tryd.ntmps26
  go_wp2
  go_loop [3, 11] (fun m i => ∃ k : Nat, i = .int .i64 k ∧ k ≤ Ls.length ∧ m = .int .i64 ((totE (Ls.take k)).length : Nat)) (fun _ i => Ls.length - (intOf i).toNat)
  case atStart => exact ⟨0, rfl, Nat.zero_le _, rfl⟩
  case round =>
    obtain ⟨k, rfl, hk, rfl⟩ := hrel
    by_cases hgo : k < Ls.length
    · have hc := h.cell k _ (List.getElem?_eq_getElem hgo)
      have HS := Lib.hid (totE_snoc Ls k hgo)
      have hle := totE_le Ls (k + 1)
      rw [HS.out, List.length_append] at hle
      generalize Ls[k]'hgo = p at hc HS hle
      obtain ⟨A, cp, l⟩ := p
      simp only at hc HS hle
      obtain ⟨n0, hn0⟩ : ∃ n0 : Nat, n0 = (totE (Ls.take k)).length := ⟨_, rfl⟩
      obtain ⟨n1, hn1⟩ : ∃ n1 : Nat, n1 = l.length := ⟨_, rfl⟩
      have HN := Lib.hid (show (totE (Ls.take (k + 1))).length = n0 + n1 by rw [HS.out, List.length_append, hn0, hn1])
      rw [← hn0, ← hn1] at hle
      rw [← hn1] at hc
      rw [← hn0]
      clear hn0 hn1 HS
      go_wp2
      go_round
      case rel => exact ⟨k + 1, by go_num, hgo, by rw [HN.out]; push_cast; rfl⟩
      case measure => simp [intOf]; omega
    · have HE := Lib.hid (show totE (Ls.take k) = totE Ls by rw [List.take_of_length_le (by omega)])
      rw [HE.out]
      go_wp2_with (fail)
      refine (growEv_any _ ht w).mono ?_
      rintro e w1 ⟨v, rfl, hrow, hb1⟩
      go_wp2
      go_loopw [6, 27] (fun v i wr => ∃ k : Nat, i = .int .i64 k ∧ k ≤ Ls.length ∧ wr.ownsRow w.heap.size 44 3 v (totE (Ls.take k)).length ((totE (Ls.take k)).flatMap evC) ∧ Below w.heap.size w wr) (fun _ i _ => Ls.length - (intOf i).toNat)
      case atStart => exact ⟨0, rfl, Nat.zero_le _, hrow, hb1⟩
      case round =>
        clear hrow hb1
        obtain ⟨k, rfl, hk, hrow, hb⟩ := hrel
        by_cases hgo : k < Ls.length
        · have h2 := h.next hb
          have hc := h2.cell k _ (List.getElem?_eq_getElem hgo)
          obtain ⟨hev, hnil⟩ := h2.evs _ (List.getElem_mem hgo)
          have HS := Lib.hid (totE_snoc Ls k hgo)
          have hle := totE_le Ls (k + 1)
          rw [HS.out, List.length_append] at hle
          generalize Ls[k]'hgo = p at hc HS hle hev hnil
          obtain ⟨A, cp, l⟩ := p
          simp only at hc HS hle hev hnil
          have hbs := hb.size
          obtain ⟨L0, hL0⟩ : ∃ L0, L0 = totE (Ls.take k) := ⟨_, rfl⟩
          rw [← hL0] at HS hrow hle
          clear hL0
          go_wp2_with (first
            | (at_builtin; refine wp_app_ev rfl _ _ rfl w.heap.size _ L0.length (L0.flatMap evC) rfl hrow A cp l (fun _ => True) rfl hev hnil (by omega) hbs ?_
               intro v' w2 hown2 hgrow2))
          go_roundw
          case rel =>
            refine ⟨k + 1, by go_num, hgo, ?_, hb.grown hgrow2 hbs (fun g hg => (World.ownsRow.lt hrow g hg).1)⟩
            rw [HS.out, List.length_append, List.flatMap_append]; exact hown2
          case measure => simp [intOf]; omega
        · have HE2 := Lib.hid (show totE (Ls.take k) = totE Ls by rw [List.take_of_length_le (by omega)])
          rw [HE2.out] at hrow
          go_wp2
          go_ret
          obtain ⟨A', c', rfl, hlc, _, hev⟩ := own_evs hrow
          exact ⟨A', c', rfl, hlc, hev.imp (fun g hg => (World.ownsRow.lt hrow g hg).1), hb⟩
end Go.Proofs.YtknldcogmbbgjaaDoor
