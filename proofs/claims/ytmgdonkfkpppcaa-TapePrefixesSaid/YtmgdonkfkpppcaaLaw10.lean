/-
  Layer 10: laws.
-/
import Derived.Test.YtmgdonkfkpppcaaTapeC
namespace Go.Proofs.Ytmgdonkfkpppcaa
open Go.RowKit Go.Maps
set_option maxRecDepth 100000
set_option linter.unusedVariables false
set_option linter.unusedSimpArgs false

def WfE (l : List Ev) : Prop := ∀ e ∈ l, (Lit.int .i64 e.k).wf = true
theorem WfE.at_ {l : List Ev} (h : WfE l) {j : Nat} (hj : j < l.length) : (Lit.int .i64 (l[j]'hj).k).wf = true := h _ (List.getElem_mem hj)
/-- record. -/
def RecRel (w : World) (l : List Ev) (tb : Nat) (i : Value) (wr : World) : Prop := ∃ k : Nat, i = .int .i64 k ∧ k ≤ l.length ∧ TapeW wr (fun g => w.heap.size ≤ g) tb (l.take k) ∧ Below w.heap.size w wr
set_option maxHeartbeats 1000000 in
theorem record_any (A : Option Addr) (c : Nat) (l : List Ev) (T : Nat → Prop) (w : World) (ha : EvsR w T A l) (hl : l.length ≤ 1000000) (hw : WfE l) :
    Calls Try.prog 10 #[.slice A l.length c] w fun e w' => ∃ tb, e = .returned (.pointer (some ⟨tb, 0, none⟩)) ∧ TapeW w' (fun g => w.heap.size ≤ g) tb l ∧ Below w.heap.size w w' := by
  go_enter Try.func10, Try.ntmps10
  go_wp2_with (fail)
  refine (tapeNew_any w).mono ?_
  rintro e w1 ⟨tb, rfl, ht, hb⟩
  go_wp2
  go_loopw [9] (fun i wr => RecRel w l tb i wr) (fun i _ => l.length - (intOf i).toNat)
  case atStart => exact ⟨0, rfl, Nat.zero_le _, ht, hb⟩
  case round =>
    clear ht hb
    obtain ⟨k, rfl, hk, ht, hb⟩ := hrel
    by_cases hgo : k < l.length
    · obtain ⟨b, o, rfl, _, h1, h2, h3⟩ := (ha.next hb).at_ hgo
      have hwk := hw.at_ hgo
      have HS := Lib.hid (show l.take (k + 1) = l.take k ++ [⟨(l[k]'hgo).k, (l[k]'hgo).a, (l[k]'hgo).b⟩] from List.take_succ_eq_append_getElem hgo)
      have hsz := hb.size
      generalize l[k]'hgo = e at *
      clear ha
      go_wp2_with (fail)
      refine (tapeNote_any tb (l.take k) _ e.k e.a e.b _ (ht.next ((Below.refl _ _).alloc (Nat.le_refl _) _)) (by rw [List.length_take]; omega) hwk).mono ?_
      rintro e' w2 ⟨rfl, ht2, hm⟩
      have HT := Lib.hid (show TapeW w2 (fun g => w.heap.size ≤ g) tb (l.take (k + 1)) by rw [HS.out]; exact ht2.imp fun g hg => hg.elim id fun hg => Nat.le_trans (Nat.le_trans hsz (by simp)) hg)
      have HB := Lib.hid (hm.below (hb.alloc hsz _) (fun g hg => hg) (by simp; omega))
      clear ht2 hm h1 h2 h3
      go_wp2
      go_roundw
      case rel => exact ⟨k + 1, by go_num, hgo, HT.out, HB.out⟩
      case measure => simp [intOf]; omega
    · have HE := Lib.hid (show l.take k = l from List.take_of_length_le (by omega))
      clear ha
      go_wp2
      go_ret
      exact ⟨tb, rfl, by rw [← HE.out]; exact ht, hb⟩
theorem ref10Same_r (A B : Option Addr) (c d : Nat) (l m : List Ev) (T U : Nat → Prop) (w : World) (r : Bool) (ha : EvsR w T A l) (hb : EvsR w U B m) (hl : l.length ≤ 1000000) (hm : m.length ≤ 1000000) (hr : decide (l = m) = r) :
    Calls Try.prog 11 #[.slice A l.length c, .slice B m.length d] w fun e w' => e = .returned (.bool r) ∧ ∃ n, w' = w.drewN n := by rw [← hr]; exact ref10Same_any A B c d l m T U w ha hb hl hm
theorem tapeLen_r {v : Value} {l : List Ev} {T : Nat → Prop} {w : World} {r : Int} (h : TapeO w T v l) (hl : l.length ≤ 1000000) (hr : (l.length : Int) = r) : Calls Try.prog 13 #[v] w fun e w' => e = .returned (.int .i64 r) ∧ Below w.heap.size w w' := hr ▸ tapeLen_any v l T w h hl
theorem tapeCount_r {v : Value} {l : List Ev} {x : Int} {T : Nat → Prop} {w : World} {r : Int} (h : TapeO w T v l) (hl : l.length ≤ 1000000) (hx : (Lit.int .i64 x).wf = true) (hr : (cntK l x : Int) = r) : Calls Try.prog 14 #[v, .int .i64 x] w fun e w' => e = .returned (.int .i64 r) ∧ Below w.heap.size w w' := hr ▸ tapeCount_any v l x T w h hl hx
theorem tapeFirst_r {u v : Value} {l m : List Ev} {T U : Nat → Prop} {w : World} {r : Int} (h : TapeO w T u l) (k : TapeO w U v m) (hl : l.length ≤ 1000000) (hm : m.length ≤ 1000000) (hr : firstD l m = r) : Calls Try.prog 17 #[u, v] w fun e w' => e = .returned (.int .i64 r) ∧ Below w.heap.size w w' := hr ▸ tapeFirst_any u v l m T U w h k hl hm
theorem ref10First_r {A B : Option Addr} {c d : Nat} {l m : List Ev} {T U : Nat → Prop} {w : World} {r : Int} (ha : EvsR w T A l) (hb : EvsR w U B m) (hl : l.length ≤ 1000000) (hm : m.length ≤ 1000000) (hr : firstD l m = r) :
    Calls Try.prog 18 #[.slice A l.length c, .slice B m.length d] w fun e w' => e = .returned (.int .i64 r) ∧ ∃ n, w' = w.drewN n := hr ▸ ref10First_any A B c d l m T U w ha hb hl hm
theorem tapeNil {w : World} {T : Nat → Prop} : TapeO w T (.pointer none) [] := .inl ⟨rfl, rfl⟩
theorem lit2_evs (w : World) (e f : Ev) (t : TypeId) : EvsR (w.alloc (.cells #[.int .i64 e.k, .int .i64 e.a, .int .i64 e.b, .int .i64 f.k, .int .i64 f.a, .int .i64 f.b] t)) (fun g => w.heap.size ≤ g) (some ⟨w.heap.size, 0, none⟩) [e, f] := fun _ => by
  refine ⟨w.heap.size, 0, rfl, Nat.le_refl _, fun j x hx => ?_⟩
  match j, hx with
  | 0, hx => simp at hx; subst hx; simp [go_sem]
  | 1, hx => simp at hx; subst hx; simp [go_sem]
set_option maxHeartbeats 1000000 in
theorem alive10_any (w : World) : Calls Try.prog 9 #[] w fun e w' => e = .returned (.bool true) ∧ Below w.heap.size w w' := by
  go_enter Try.func9, Try.ntmps9
  go_wp2_with (fail)
  refine (tapeNew_any w).mono ?_
  rintro e w1 ⟨tb, rfl, ht, hb⟩
  go_wp2_with (fail)
  refine (tapeNote_any tb [] _ 3 0 1 w1 ht (by simp) (by decide)).mono ?_
  rintro e w2 ⟨rfl, ht2, hm2⟩
  have h2 := hm2.below hb (fun g hg => hg) hb.size
  have ht2 : TapeW w2 (fun g => w.heap.size ≤ g) tb [⟨3, 0, 1⟩] := ht2.imp fun g hg => hg.elim id fun hg => Nat.le_trans hb.size hg
  clear hm2 ht hb
  go_wp2_with (fail)
  refine (tapeNote_any tb _ _ 1 5 0 w2 ht2 (by simp) (by decide)).mono ?_
  rintro e w3 ⟨rfl, ht3, hm3⟩
  have h3 := hm3.below h2 (fun g hg => hg) h2.size
  have ht3 : TapeW w3 (fun g => w.heap.size ≤ g) tb [⟨3, 0, 1⟩, ⟨1, 5, 0⟩] := ht3.imp fun g hg => hg.elim id fun hg => Nat.le_trans h2.size hg
  clear hm3 ht2 h2
  go_wp2_with (fail)
  refine (tapeLen_r (r := 2) ht3.o (by simp) rfl).mono ?_
  rintro e w4 ⟨rfl, hb4⟩
  have h4 := h3.trans (hb4.mono h3.size)
  have ht4 := ht3.next hb4
  go_wp2_with (fail)
  refine (tapeCount_r (r := 1) ht4.o (by simp) (by decide) (by decide)).mono ?_
  rintro e w5 ⟨rfl, hb5⟩
  have h5 := h4.trans (hb5.mono h4.size)
  have ht5 := ht4.next hb5
  go_wp2_with (fail)
  refine (tapeNew_any w5).mono ?_
  rintro e w6 ⟨tc, rfl, hu, hb6⟩
  have h6 := h5.trans (hb6.mono h5.size)
  have ht6 := ht5.next hb6
  go_wp2_with (fail)
  refine (tapeFirst_r (r := 0) ht6.o hu.o (by simp) (by simp) (by decide)).mono ?_
  rintro e w7 ⟨rfl, hb7⟩
  have h7 := h6.trans (hb7.mono h6.size)
  have ht7 := ht6.next hb7
  go_wp2_with (fail)
  refine (tapeEqual_any _ _ _ _ true _ _ w7 ht7.o ht7.o (by simp) (by simp) (by decide)).mono ?_
  rintro e w8 ⟨rfl, hb8⟩
  have h8 := h7.trans (hb8.mono h7.size)
  have ht8 := ht7.next hb8
  go_wp2_with (fail)
  refine (tapeEqual_any _ _ _ [] false _ (fun _ => True) w8 ht8.o tapeNil (by simp) (by simp) (by decide)).mono ?_
  rintro e w9 ⟨rfl, hb9⟩
  have h9 := h8.trans (hb9.mono h8.size)
  have ht9 := ht8.next hb9
  go_wp2_with (fail)
  refine (tapeEvents_any _ _ _ w9 ht9.o (by simp)).mono ?_
  rintro e wa ⟨A', c', rfl, _, hev, hba⟩
  have ha := h9.trans (hba.mono h9.size)
  clear ht3 ht4 ht5 ht6 ht7 ht8 ht9 hu
  go_wp2_with (fail)
  refine (ref10Same_r A' _ c' _ [⟨3, 0, 1⟩, ⟨1, 5, 0⟩] [⟨3, 0, 1⟩, ⟨1, 5, 0⟩] _ _ _ true (hev.next ((Below.refl _ _).alloc (Nat.le_refl _) _)) (lit2_evs wa ⟨3, 0, 1⟩ ⟨1, 5, 0⟩ _) (by simp) (by simp) (by decide)).mono ?_
  rintro e wb ⟨rfl, nb, rfl⟩
  go_wp2
  go_ret
  exact ⟨rfl, below_drewN' (ha.alloc ha.size _) nb⟩
set_option maxHeartbeats 1000000 in
theorem law_tapeRecords (A : Option Addr) (c : Nat) (l : List Ev) (x : Int) (w : World) (ha : EvsR w (fun _ => True) A l) (hw : WfE l) (hx : (Lit.int .i64 x).wf = true) (hml : l.length ≤ maxLen) :
    Calls Try.prog 3 #[.slice A l.length c, .int .i64 x] w fun e w' => e = .returned (.bool true) ∧ Below w.heap.size w w' := by
  unfold maxLen at hml
  by_cases hgt : 1000 < l.length
  · go_enter Try.func3, Try.ntmps3
    go_wp2_with (fail)
    refine (alive10_any w).mono ?_
    rintro e w1 ⟨rfl, hb⟩
    go_wp2
    go_ret
    exact ⟨rfl, hb⟩
  · go_enter Try.func3, Try.ntmps3
    go_wp2_with (fail)
    refine (record_any A c l _ w ha (by omega) hw).mono ?_
    rintro e w1 ⟨tb, rfl, ht, hb1⟩
    go_wp2_with (fail)
    refine (alive10_any w1).mono ?_
    rintro e w2 ⟨rfl, hb2⟩
    have h2 := hb1.trans (hb2.mono hb1.size)
    have ht2 := ht.next hb2
    go_wp2_with (fail)
    refine (tapeEvents_any _ l _ w2 ht2.o (by omega)).mono ?_
    rintro e w3 ⟨A', c', rfl, _, hev, hb3⟩
    have h3 := h2.trans (hb3.mono h2.size)
    have ht3 := ht2.next hb3
    go_wp2_with (fail)
    refine (ref10Same_r A' A c' c l l _ _ w3 true hev (ha.next h3) (by omega) (by omega) (by simp)).mono ?_
    rintro e w4 ⟨rfl, n4, rfl⟩
    go_wp2_with (fail)
    refine (tapeLen_any _ l _ _ (show TapeO (w3.drewN n4) _ _ l from ht3.o) (by omega)).mono ?_
    rintro e w5 ⟨rfl, hb5⟩
    have h5 := (below_drewN' h3 n4).trans (hb5.mono h3.size)
    have ht5 := TapeW.next (w := w3.drewN n4) ht3 hb5
    go_wp2_with (fail)
    refine (tapeCount_any _ l x _ w5 ht5.o (by omega) hx).mono ?_
    rintro e w6 ⟨rfl, hb6⟩
    have h6 := h5.trans (hb6.mono h5.size)
    go_wp2_with (fail)
    refine (ref10Count_any A c l x _ w6 (ha.next h6) (by omega)).mono ?_
    rintro e w7 ⟨rfl, hw7⟩
    obtain rfl := hw7.symm
    go_wp2
    go_ret
    exact ⟨rfl, h6⟩
set_option maxHeartbeats 1000000 in
theorem law_tapeCompares (A B : Option Addr) (c d : Nat) (l m : List Ev) (w : World) (ha : EvsR w (fun _ => True) A l) (hb : EvsR w (fun _ => True) B m) (hw : WfE l) (hw2 : WfE m) (hml : l.length ≤ maxLen) (hmm : m.length ≤ maxLen) :
    Calls Try.prog 4 #[.slice A l.length c, .slice B m.length d] w fun e w' => e = .returned (.bool true) ∧ Below w.heap.size w w' := by
  unfold maxLen at hml hmm
  by_cases hgt : l.length ≤ 1000 ∧ m.length ≤ 1000
  · obtain ⟨hg1, hg2⟩ := hgt
    go_enter Try.func4, Try.ntmps4
    go_wp2_with (fail)
    refine (record_any A c l _ w ha (by omega) hw).mono ?_
    rintro e w1 ⟨tb, rfl, ht, hb1⟩
    go_wp2_with (fail)
    refine (record_any B d m _ w1 (hb.next hb1) (by omega) hw2).mono ?_
    rintro e w2 ⟨tc, rfl, hu, hb2⟩
    have h2 := hb1.trans (hb2.mono hb1.size)
    have ht := ht.next hb2
    go_wp2_with (fail)
    refine (alive10_any w2).mono ?_
    rintro e w3 ⟨rfl, hb3⟩
    have h3 := h2.trans (hb3.mono h2.size)
    have ht := ht.next hb3
    have hu := hu.next hb3
    obtain ⟨r, hr⟩ : ∃ r, decide (l = m) = r := ⟨_, rfl⟩
    obtain ⟨p, hp⟩ : ∃ p, firstD l m = p := ⟨_, rfl⟩
    obtain ⟨q, hq⟩ : ∃ q, firstD m l = q := ⟨_, rfl⟩
    have HR := Lib.hid hr
    have HP := Lib.hid hp
    have HQ := Lib.hid hq
    have d1 : (r == r) = true := beq_self_eq_true _
    have d2 : (p == p) = true := beq_self_eq_true _
    have d3 : (q == q) = true := beq_self_eq_true _
    clear hr hp hq
    go_wp2_with (fail)
    refine (tapeEqual_any _ _ l m r _ _ w3 ht.o hu.o (by omega) (by omega) HR.out).mono ?_
    rintro e w4 ⟨rfl, hb4⟩
    have h4 := h3.trans (hb4.mono h3.size)
    have ht := ht.next hb4
    have hu := hu.next hb4
    go_wp2_with (fail)
    refine (ref10Same_r A B c d l m _ _ w4 r (ha.next h4) (hb.next h4) (by omega) (by omega) HR.out).mono ?_
    rintro e w5 ⟨rfl, n5, rfl⟩
    go_wp2_with (fail)
    refine (tapeFirst_r (w := w4.drewN n5) (r := p) (show TapeO (w4.drewN n5) _ _ l from ht.o) (show TapeO (w4.drewN n5) _ _ m from hu.o) (by omega) (by omega) HP.out).mono ?_
    rintro e w6 ⟨rfl, hb6⟩
    have h6 := (below_drewN' h4 n5).trans (hb6.mono h4.size)
    have ht := TapeW.next (w := w4.drewN n5) ht hb6
    have hu := TapeW.next (w := w4.drewN n5) hu hb6
    go_wp2_with (fail)
    refine (ref10First_r (r := p) (ha.next h6) (hb.next h6) (by omega) (by omega) HP.out).mono ?_
    rintro e w7 ⟨rfl, n7, rfl⟩
    go_wp2_with (fail)
    refine (tapeFirst_r (w := w6.drewN n7) (r := q) (show TapeO (w6.drewN n7) _ _ m from hu.o) (show TapeO (w6.drewN n7) _ _ l from ht.o) (by omega) (by omega) HQ.out).mono ?_
    rintro e w8 ⟨rfl, hb8⟩
    have h8 := (below_drewN' h6 n7).trans (hb8.mono h6.size)
    go_wp2_with (fail)
    refine (ref10First_r (r := q) (hb.next h8) (ha.next h8) (by omega) (by omega) HQ.out).mono ?_
    rintro e w9 ⟨rfl, n9, rfl⟩
    go_wp2
    go_ret
    exact ⟨rfl, below_drewN' h8 n9⟩
  · by_cases hg : 1000 < l.length
    · go_enter Try.func4, Try.ntmps4
      go_wp2_with (fail)
      refine (alive10_any w).mono ?_
      rintro e w1 ⟨rfl, hb⟩
      go_wp2
      go_ret
      exact ⟨rfl, hb⟩
    · have hg2 : 1000 < m.length := by omega
      go_enter Try.func4, Try.ntmps4
      go_wp2_with (fail)
      refine (alive10_any w).mono ?_
      rintro e w1 ⟨rfl, hb⟩
      go_wp2
      go_ret
      exact ⟨rfl, hb⟩
end Go.Proofs.Ytmgdonkfkpppcaa
