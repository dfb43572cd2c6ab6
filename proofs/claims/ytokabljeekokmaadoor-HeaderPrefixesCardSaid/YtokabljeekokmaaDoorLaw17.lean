/-
  Layer 17: laws.
-/
import Derived.Test.YtokabljeekokmaaDoorHdrC
namespace Go.Proofs.YtokabljeekokmaaDoor
open Go.RowKit Go.Maps
set_option maxRecDepth 100000
set_option linter.unusedVariables false
set_option linter.unusedSimpArgs false

/-- A slice of bytes that came in. -/
structure ArgB (w : World) (A : Option Addr) (c : Nat) (bs : List Int) : Prop where
  row : SlR w (fun _ => True) .u8 A bs
  ub : UB bs
  cap : bs.length ≤ c
  nil : A = none → c = 0
  room : c ≤ 9223372036854775807
theorem ArgB.next {w w' : World} {A : Option Addr} {c : Nat} {bs : List Int} (h : ArgB w A c bs) (hb : Below w.heap.size w w') : ArgB w' A c bs := ⟨h.row.next hb, h.ub, h.cap, h.nil, h.room⟩
/-- A header that came in. -/
structure ArgH (w : World) (op vx pts : Int) (A : Option Addr) (c : Nat) (rs : List Rg) : Prop where
  row : RowR w (fun _ => True) 3 rgC A rs
  wf : ∀ r ∈ rs, S r.v
  num : S op ∧ S vx ∧ S pts
  len : rs.length ≤ 9223372036854775807
theorem ArgH.next {w w' : World} {op vx pts : Int} {A : Option Addr} {c : Nat} {rs : List Rg} (h : ArgH w op vx pts A c rs) (hb : Below w.heap.size w w') : ArgH w' op vx pts A c rs := ⟨h.row.next hb, h.wf, h.num, h.len⟩
theorem low_row {w : World} {T : Nat → Prop} {A : Option Addr} {rs : List Rg} (h : RowR w T 3 rgC A rs) : RowR w (fun g => g < w.heap.size) 3 rgC A rs := (h.now (fun _ => by simp [rgC])).imp fun _ h => h.2
theorem conv_b {w : World} {T : Nat → Prop} {A : Option Addr} {bs : List Int} {n c : Nat} (h : SlR w T .u8 A bs) (hn : n = bs.length) :
    ∃ s : ByteArray, (convert 22 9 (.slice A n c)).run Tryd.prog w = .ok (.string s) w ∧ s = strOfNums bs := by
  subst hn
  cases A with
  | none =>
    obtain rfl := h.nilOf
    exact ⟨_, run_convert_bytes_nil w 22 5 Tryd.underlying22 Tryd.underlying5 _ c 9 Tryd.underlying9, rfl⟩
  | some ad =>
    by_cases h0 : 0 < bs.length
    · obtain ⟨b, o, e, _, hc⟩ := h h0
      injection e with e
      subst e
      exact ⟨_, run_convert_bytes_arg w 22 5 Tryd.underlying22 Tryd.underlying5 b o bs.length c bs rfl (fun i hi => by rw [hc i _ (List.getElem?_eq_getElem hi)]; simp [List.getD_eq_getElem?_getD, hi]) 9 Tryd.underlying9, rfl⟩
    · obtain rfl : bs = [] := List.length_eq_zero_iff.1 (by omega)
      refine ⟨_, ?_, rfl⟩
      show (convert 22 9 (.slice (some ad) 0 c)).run Tryd.prog w = _
      rw [run_convert_bytes_string w 22 9 5 _ 0 c Tryd.underlying22 Tryd.underlying5 Tryd.underlying9, run_bytesToString w _ 0 c [] (run_loadCells_list (P := Tryd.prog) w ad [] (fun j v h => by simp at h))]
      rfl
theorem equalB_yes (A B : Option Addr) (n m c d : Nat) (bs : List Int) (T U : Nat → Prop) (w : World) (ha : SlR w T .u8 A bs) (hb : SlR w U .u8 B bs) (hn : n = bs.length) (hm : m = bs.length) :
    Calls Tryd.prog 17 #[.slice A n c, .slice B m d] w fun e w' => e = .returned (.bool true) ∧ w' = w := by
  obtain ⟨s1, q1, e1⟩ := conv_b (c := c) ha hn
  obtain ⟨s2, q2, e2⟩ := conv_b (c := d) hb hm
  have he := Lib.hid (show (s1.toList == s2.toList) = true by rw [e1, e2]; exact beq_self_eq_true _)
  clear e1 e2 ha hb hn hm
  go_enter Tryd.func17, Tryd.ntmps17
  go_wp2
  go_ret
  exact ⟨by rw [he.out]; rfl, rfl⟩
/-- The chapter's examples. -/
theorem slit {w : World} (ns : List Int) : SlR (w.alloc (.cells (ns.map (Value.int .u8)).toArray 5)) (fun _ => True) .u8 (some ⟨w.heap.size, 0, none⟩) ns := by
  intro hl
  refine ⟨w.heap.size, 0, rfl, trivial, fun j d hd => ?_⟩
  have h2 := heap_alloc_new w (.cells (ns.map (Value.int .u8)).toArray 5)
  have h3 : (ns.map (Value.int .u8))[j]? = some (.int .u8 d) := by rw [List.getElem?_map, hd]; rfl
  rw [Nat.zero_add]
  unfold World.cell?
  rw [h2]
  simpa using h3
theorem ub_of {l : List Int} (h : l.all (fun x => decide (0 ≤ x) && decide (x < 256)) = true) : UB l := fun x hx => by
  have := List.all_eq_true.1 h x hx
  simpa using this
theorem rgK_nil {rs : List Rg} (h : rs.map rgK = []) : rs = [] := by simpa using h
set_option maxHeartbeats 400000 in
theorem alive17_any (w : World) (hw : Wts w) : Calls Tryd.prog 12 #[] w fun e w' => e = .returned (.bool true) ∧ Below w.heap.size w w' := by
  have P1 := Lib.hid (show parseH [3, 4] = ⟨⟨3, 4, [], 0⟩, 2, 0⟩ by rfl)
  have P2 := Lib.hid (show parseH [5, 1, 128, 2, 0, 99] = ⟨⟨5, 0, [(true, 0)], 2⟩, 5, 0⟩ by rfl)
  obtain ⟨W0, hW0⟩ : ∃ W, W = w.alloc (.cells #[.int .u8 3, .int .u8 4] 5) := ⟨_, rfl⟩
  have q0 : Below w.heap.size w W0 := by rw [hW0]; exact (Below.refl _ _).alloc (Nat.le_refl _) _
  have s0 : SlR W0 (fun _ => True) .u8 (some ⟨w.heap.size, 0, none⟩) [3, 4] := by rw [hW0]; exact slit [3, 4]
  have HW0 := Lib.hid hW0
  clear hW0
  go_enter Tryd.func12, Tryd.ntmps12
  go_wp2_with (fail)
  rw [← HW0.out]
  refine (hdrParse_c _ 2 2 [3, 4] _ _ W0 (hw.below q0) s0 rfl (ub_of (by decide)) (by decide) (by decide) P1.out).mono ?_
  intro e w1 hg
  obtain ⟨A1, n1, c1, rs1, rfl, hn1, hrow1, hks1, hpt1, hb1⟩ := hg.open_
  obtain rfl := rgK_nil hks1
  obtain rfl : n1 = 0 := hn1
  have q1 := q0.trans (hb1.mono q0.size)
  clear hks1 hpt1 hb1 hg
  go_upto_region 2 with (fail)
  obtain ⟨b1, hb1⟩ : ∃ b, b = w1.heap.size := ⟨_, rfl⟩
  obtain ⟨W1, hW1⟩ : ∃ W, W = w1.alloc (.cells #[.int .i64 3, .int .i64 4, .slice A1 0 c1, .int .i64 0] 25) := ⟨_, rfl⟩
  obtain ⟨h1, hs1, g0, g1, g2, g3⟩ := box4 hW1
  rw [← hb1] at g0 g1 g2 g3
  rw [← hW1, ← hb1]
  have q2 := q1.trans (h1.mono q1.size)
  clear hW1 hb1 h1 q1
  obtain ⟨W2, hW2⟩ : ∃ W, W = W1.alloc (.cells #[.int .u8 5, .int .u8 1, .int .u8 128, .int .u8 2, .int .u8 0, .int .u8 99] 5) := ⟨_, rfl⟩
  have h2 : Below W1.heap.size W1 W2 := by rw [hW2]; exact (Below.refl _ _).alloc (Nat.le_refl _) _
  have s2 : SlR W2 (fun _ => True) .u8 (some ⟨W1.heap.size, 0, none⟩) [5, 1, 128, 2, 0, 99] := by rw [hW2]; exact slit [5, 1, 128, 2, 0, 99]
  have HW2 := Lib.hid hW2
  clear hW2 hs1
  go_wp2_with (fail)
  rw [← HW2.out]
  have q3 := q2.trans (h2.mono q2.size)
  have u2 : UB [5, 1, 128, 2, 0, 99] := ub_of (by decide +kernel)
  have hc := hdrParse_c _ 6 6 [5, 1, 128, 2, 0, 99] _ _ W2 (hw.below q3) s2 (by simp) u2 (by decide) (by decide) P2.out
  refine hc.mono ?_
  intro e w3 hg
  obtain ⟨A3, n3, c3, rs3, rfl, hn3, hrow3, hks3, hpt3, hb3⟩ := hg.open_
  have HN3 := Lib.hid hn3
  have HK3 := Lib.hid hks3
  have HT3 := Lib.hid hpt3
  clear hg hn3 hks3 hpt3 q2
  go_upto_region 3 with (fail)
  obtain ⟨b4, hb4⟩ : ∃ b, b = w3.heap.size := ⟨_, rfl⟩
  obtain ⟨W4, hW4⟩ : ∃ W, W = w3.alloc (.cells #[.int .i64 5, .int .i64 0, .slice A3 n3 c3, .int .i64 2] 25) := ⟨_, rfl⟩
  obtain ⟨h4, hs4, e0, e1, e2, e3⟩ := box4 hW4
  rw [← hb4] at e0 e1 e2 e3
  rw [← hW4, ← hb4]
  clear hs4
  have q4 := h2.trans (hb3.mono h2.size)
  have q5 := q4.trans (h4.mono q4.size)
  have q6 := q3.trans ((hb3.trans (h4.mono hb3.size)).mono q3.size)
  have k0 := (q5.cell (p := ⟨b1, 0, none⟩) (lt_of_cell g0)).trans g0
  have k1 := (q5.cell (p := ⟨b1, 1, none⟩) (lt_of_cell g1)).trans g1
  have k2 := (q5.cell (p := ⟨b1, 2, none⟩) (lt_of_cell g2)).trans g2
  have k3 := (q5.cell (p := ⟨b1, 3, none⟩) (lt_of_cell g3)).trans g3
  have hr4 := low_row (hrow3.next h4)
  have hn3b : n3 ≤ 1000000 := by
    have : (rs3.map rgK).length = 1 := by rw [HK3.out]; rfl
    rw [List.length_map, ← HN3.out] at this; omega
  have hv3 : ∀ r ∈ rs3, S r.v := fun r hr => by
    have : rgK r ∈ [(true, (0 : Int))] := HK3.out ▸ List.mem_map.2 ⟨r, hr, rfl⟩
    simp [rgK] at this
    unfold S; omega
  have HF := Lib.hid (show formErr ⟨5, 0, rs3.map rgK, 2⟩ (rgP rs3) = 0 by rw [HK3.out, HT3.out]; rfl)
  have HPa := Lib.hid (show (if formErr ⟨5, 0, rs3.map rgK, 2⟩ (rgP rs3) = 0 then payL ⟨5, 0, rs3.map rgK, 2⟩ else 0) = 96 by rw [if_pos HF.out, HK3.out]; rfl)
  have HRs := Lib.hid (show (if formErr ⟨5, 0, rs3.map rgK, 2⟩ (rgP rs3) = 0 then rspL ⟨5, 0, rs3.map rgK, 2⟩ else 0) = 22 by rw [if_pos HF.out, HK3.out]; rfl)
  clear hW4 hb4 h4 q4 hb3 g0 g1 g2 g3 hrow3 hrow1 s0 s2
  go_wp2_with (fail)
  refine (hdrPayload_c 3 4 0 A1 0 c1 [] 80 _ (hw.below q6) (RowR.nil_ _ _ _) rfl (by decide) (by unfold S; decide) (fun _ h => by cases h) (by rfl)).mono ?_
  rintro e w5 ⟨rfl, hI⟩
  clear k0 k1 k2 k3
  have j0 := (hI.cell (p := ⟨b4, 0, none⟩) (lt_of_cell e0)).trans e0
  have j1 := (hI.cell (p := ⟨b4, 1, none⟩) (lt_of_cell e1)).trans e1
  have j2 := (hI.cell (p := ⟨b4, 2, none⟩) (lt_of_cell e2)).trans e2
  have j3 := (hI.cell (p := ⟨b4, 3, none⟩) (lt_of_cell e3)).trans e3
  go_wp2_with (fail)
  refine (hdrPayload_c 5 0 2 A3 n3 c3 rs3 96 _ (hw.below (q6.trans (hI.mono q6.size))) (low_row (hr4.next hI)) HN3.out hn3b (by unfold S; decide) hv3 HPa.out).mono ?_
  rintro e w6 ⟨rfl, hb6⟩
  replace hI := hI.trans (hb6.mono hI.size)
  clear j0 j1 j2 j3
  have j0 := (hI.cell (p := ⟨b4, 0, none⟩) (lt_of_cell e0)).trans e0
  have j1 := (hI.cell (p := ⟨b4, 1, none⟩) (lt_of_cell e1)).trans e1
  have j2 := (hI.cell (p := ⟨b4, 2, none⟩) (lt_of_cell e2)).trans e2
  have j3 := (hI.cell (p := ⟨b4, 3, none⟩) (lt_of_cell e3)).trans e3
  go_wp2_with (fail)
  refine (hdrResponse_c 5 0 2 A3 n3 c3 rs3 22 _ (hw.below (q6.trans (hI.mono q6.size))) (low_row (hr4.next hI)) HN3.out hn3b (by unfold S; decide) hv3 HRs.out).mono ?_
  rintro e w7 ⟨rfl, hb7⟩
  replace hI := hI.trans (hb7.mono hI.size)
  have q7 := q6.trans (hI.mono q6.size)
  clear j0 j1 j2 j3 e0 e1 e2 e3
  go_wp2_with (fail)
  refine (hdrClassify_c none 0 0 [] (fun _ => True) 4 _ (hw.below q7) (SlR.nil_ _ _ _ _) rfl UB.nil (by decide) (by decide) (by rfl)).mono ?_
  rintro e w8 ⟨rfl, hb8⟩
  have q8 := q7.trans (hb8.mono q7.size)
  obtain ⟨W9, hW9⟩ : ∃ W, W = w8.alloc (.cells #[.int .u8 9] 5) := ⟨_, rfl⟩
  have h9 : Below w8.heap.size w8 W9 := by rw [hW9]; exact (Below.refl _ _).alloc (Nat.le_refl _) _
  have s9 : SlR W9 (fun _ => True) .u8 (some ⟨w8.heap.size, 0, none⟩) [9] := by rw [hW9]; exact slit [9]
  have HW9 := Lib.hid hW9
  clear hW9
  go_wp2_with (fail)
  rw [← HW9.out]
  have q9 := q8.trans (h9.mono q8.size)
  refine (hdrClassify_c _ 1 1 [9] _ 5 W9 (hw.below q9) s9 rfl (ub_of (by decide)) (by decide) (by decide) (by rfl)).mono ?_
  rintro e w10 ⟨rfl, hb10⟩
  go_wp2
  go_ret
  exact ⟨rfl, q9.trans (hb10.mono q9.size)⟩
end Go.Proofs.YtokabljeekokmaaDoor
