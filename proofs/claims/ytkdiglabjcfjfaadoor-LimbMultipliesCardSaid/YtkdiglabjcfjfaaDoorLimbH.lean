/-
  Contracts of package limb, fifth part: Select, Fits.
-/
import Derived.Test.YtkdiglabjcfjfaaDoorLimbG
namespace Go.Proofs.YtkdiglabjcfjfaaDoor
open Go.RowKit

def SelRel (W : World) (ls : List Int) (n : Nat) (b0 : Nat) (i : Value) (wr : World) : Prop :=
  ∃ (k : Nat) (os : List Int), i = .int .i64 k ∧ k ≤ n ∧ OwnK wr b0 43 .u64 (.slice (some ⟨b0, 0, none⟩) n n) os ∧ os.length = n ∧ (∀ t, t < k → dgt os t = dgt ls t) ∧ Below W.heap.size W wr
set_option maxHeartbeats 2000000 in
theorem limbSelect_yes (m : Int) (A B : Option Addr) (c d : Nat) (la lb : List Int) (w : World) (hw : Wts w) (hm : U m) (ha : Arg w A c la) (hb : Arg w B d lb) (l1 : 1 ≤ la.length) (l8 : la.length ≤ 8) (hl : la.length = lb.length) :
    Calls Tryd.prog 30 #[.int .u64 m, .slice A la.length c, .slice B lb.length d] w (GivesF w (if m % 2 = 1 then la else lb)) := by
  have hmk := run_make_row' (P := Tryd.prog) 22 43 (.int .u64 0) 8 Tryd.underlying22 infoU rfl .i64 .i64 la.length (by omega) (by omega)
  have HLL := Lib.hid hl
  obtain ⟨ls, hls⟩ : ∃ ls, ls = if m % 2 = 1 then la else lb := ⟨_, rfl⟩
  have HLS := Lib.hid (show ls.length = la.length by
    rw [hls]; split
    · rfl
    · exact hl.symm)
  have HSel := Lib.hid (show ∀ k, sel (mk (decide (m % 2 = 1))) (dgt la k) (dgt lb k) = dgt ls k by
    intro k
    rw [sel_mk (ha.us.dgt k) (hb.us.dgt k), hls]
    by_cases h : m % 2 = 1
    · rw [decide_eq_true h, if_pos rfl, if_pos h]
    · rw [decide_eq_false h, if_neg h]; rfl)
  rw [← hls]
  clear hl hls
  go_enter Tryd.func30, Tryd.ntmps30
  go_wp2_with (fail)
  refine (oneWidth_yes _ _ _ _ _ _ _ l1 l8 HLL.out).mono ?_
  rintro e w' ⟨rfl, hw1⟩
  obtain rfl := hw1.symm
  go_wp2_with (fail)
  refine (of_any _ hm _ (by exact hw)).mono ?_
  rintro e w' ⟨rfl, n0, rfl⟩
  go_wp2
  have hO0 := own_made (w.drewN n0) la.length (by omega)
  have hB0 : Below w.heap.size w ((w.drewN n0).alloc (.cells (madeCells #[.int .u64 0] la.length) 43)) := (below_drewN' (Below.refl _ _) n0).alloc (Nat.le_refl _) _
  go_loopw [20] (fun i wr => SelRel w ls la.length w.heap.size i wr) (fun i _ => la.length - (intOf i).toNat)
  case atStart => exact ⟨0, List.replicate la.length 0, rfl, Nat.zero_le _, hO0, List.length_replicate .., fun t ht => by omega, hB0⟩
  case round =>
    clear hO0 hB0 hmk
    obtain ⟨k, os, rfl, hk, hown, hlo, hd, hbl⟩ := hrel
    have HO := Lib.hid hown
    have HL := Lib.hid hlo
    have HD := Lib.hid hd
    clear hown hlo hd
    by_cases hgo : k < la.length
    · have hgo2 : k < lb.length := by rw [← HLL.out]; exact hgo
      obtain ⟨b, off, rfl, _, hca⟩ := (ha.sl.next hbl).at_ hgo
      obtain ⟨b2, off2, rfl, _, hcb⟩ := (hb.sl.next hbl).at_ hgo2
      rw [← dgt_lt hgo] at hca
      rw [← dgt_lt hgo2] at hcb
      have hco := HO.out.cell_ HL.out hgo
      have hfo := HO.out.frozen_ HL.out k
      clear ha hb
      go_wp2_with (fail)
      go_region_law (first | (go_simp; go_at_call 55; refine (select_any _ _ _ _).mono ?_; rintro e w' ⟨rfl, hw'⟩; obtain rfl := hw'.symm))
      all_goals go_wp2_with (fail)
      all_goals
        go_roundw
        case rel =>
          have hp : k < os.length := by rw [HL.out]; exact hgo
          refine ⟨k + 1, os.set k (sel (mk (decide (m % 2 = 1))) (dgt la k) (dgt lb k)), by go_num, hgo, (OwnK.set_ (os := os) (by exact HO.out) HL.out k _).1, by rw [List.length_set]; exact HL.out, fun t ht => ?_, (below_drewN' hbl 1).setCell (p := ⟨w.heap.size, k, none⟩) (Nat.le_refl _) _⟩
          rw [dgt_set _ hp]
          by_cases htk : t = k
          · rw [if_pos htk, htk]; exact HSel.out k
          · rw [if_neg htk]; exact HD.out t (by omega)
        case measure => simp [intOf]; omega
    · have HE := Lib.hid (show os = ls from ext_dgt (by rw [HL.out, HLS.out]) fun t ht => HD.out t (by rw [HL.out] at ht; omega))
      clear ha hb
      go_wp2
      go_ret
      rw [← HE.out]
      exact own_gives HO.out HL.out hbl
theorem limbSelect_no (m : Int) (A B : Option Addr) (c d : Nat) (la lb : List Int) (w : World) (_hw : Wts w) (_hm : U m) (_ha : Arg w A c la) (_hb : Arg w B d lb) (_hla : la.length ≤ 1000000) (_hlb : lb.length ≤ 1000000) (h : la.length < 1 ∨ 8 < la.length ∨ la.length ≠ lb.length) :
    Calls Tryd.prog 30 #[.int .u64 m, .slice A la.length c, .slice B lb.length d] w (GivesNone w) := by
  have HH := Lib.hid h
  clear h
  go_enter Tryd.func30, Tryd.ntmps30
  go_wp2_with (fail)
  refine (oneWidth_no _ _ _ _ _ _ _ HH.out).mono ?_
  rintro e w' ⟨rfl, hw1⟩
  obtain rfl := hw1.symm
  go_wp2
  go_ret
  exact ⟨none, 0, rfl, Below.refl _ _⟩
def FitRel (W : World) (la : List Int) (q : Nat) (f : Int) (o i : Value) (wr : World) : Prop :=
  ∃ (k : Nat) (u : Int), wr = W ∧ i = .int .i64 k ∧ o = .int .u64 u ∧ q + k ≤ la.length ∧ U u ∧ (u = 0 ↔ ∀ t, q ≤ t → t < q + k → dgt la t = f)
theorem fit_step {la : List Int} {q k : Nat} {u f : Int} (hu : Us la) (h0 : U u) (hf : U f) (h : u = 0 ↔ ∀ t, q ≤ t → t < q + k → dgt la t = f) :
    U (bits .or .u64 u (bits .xor .u64 (dgt la (q + k)) f)) ∧ (bits .or .u64 u (bits .xor .u64 (dgt la (q + k)) f) = 0 ↔ ∀ t, q ≤ t → t < q + (k + 1) → dgt la t = f) := by
  have hx := U_xor (hu.dgt (q + k)) hf
  refine ⟨U_or h0 hx, ?_⟩
  rw [or_zero h0 hx, h]
  have e := decide_eq_decide.1 (xor_zero (hu.dgt (q + k)) hf)
  rw [e]
  constructor
  · rintro ⟨a, b⟩ t h1 h2
    rcases Nat.lt_or_ge t (q + k) with h3 | h3
    · exact a t h1 h3
    · rw [show t = q + k by omega]; exact b
  · intro a
    exact ⟨fun t h1 h2 => a t h1 (by omega), a (q + k) (by omega) (by omega)⟩
theorem limbFits_no (A : Option Addr) (c : Nat) (la : List Int) (n : Int) (w : World) (_hw : Wts w) (_ha : Arg w A c la) (hl : la.length ≤ 1000000) (_hn : S n) (h : la.length < 1 ∨ 8 < la.length ∨ n < 1 ∨ 8 < n) :
    Calls Tryd.prog 31 #[.slice A la.length c, .int .i64 n] w fun e w' => e = .returned (.int .u64 0) ∧ Below w.heap.size w w' := by
  by_cases hi : 1 ≤ la.length ∧ la.length ≤ 8
  · have h1 := hi.1
    have h8 := hi.2
    have HN := Lib.hid (show n < 1 ∨ 8 < n by omega)
    clear h hi
    go_enter Tryd.func31, Tryd.ntmps31
    go_wp2_with (fail)
    refine (isInteger_yes _ _ _ _ h1 h8).mono ?_
    rintro e w' ⟨rfl, hw1⟩
    obtain rfl := hw1.symm
    go_wp2_with (fail)
    refine (isWidth_no _ _ HN.out).mono ?_
    rintro e w' ⟨rfl, hw1⟩
    obtain rfl := hw1.symm
    go_wp2
    go_ret
    exact ⟨rfl, Below.refl _ _⟩
  · have HN := Lib.hid (show la.length < 1 ∨ 8 < la.length by omega)
    clear h hi
    go_enter Tryd.func31, Tryd.ntmps31
    go_wp2_with (fail)
    refine (isInteger_no _ _ _ _ HN.out).mono ?_
    rintro e w' ⟨rfl, hw1⟩
    obtain rfl := hw1.symm
    go_wp2
    go_ret
    exact ⟨rfl, Below.refl _ _⟩
theorem above_c (A : Option Addr) (c n : Nat) (la : List Int) (S : Nat → Prop) (w : World) (hw : Wts w) (ha : SlR w S .u64 A la) (hu : Us la) (l1 : 1 ≤ la.length) (l8 : la.length ≤ 1000) (hn : n = la.length) :
    Calls Tryd.prog 37 #[.slice A n c] w fun e w' => e = .returned (.int .u64 (mk (neg la))) ∧ ∃ n, w' = w.drewN n := by
  subst hn; exact above_any A c la S w hw ha hu l1 l8
set_option maxHeartbeats 2000000 in
theorem limbFits_yes (A : Option Addr) (c : Nat) (la : List Int) (n : Nat) (w : World) (hw : Wts w) (ha : Arg w A c la) (l1 : 1 ≤ la.length) (l8 : la.length ≤ 8) (h1 : 1 ≤ n) (h8 : n ≤ 8) :
    Calls Tryd.prog 31 #[.slice A la.length c, .int .i64 n] w fun e w' => e = .returned (.int .u64 (mk (fitsB (sv la) n))) ∧ Below w.heap.size w w' := by
  have hcap := ha.cap
  rcases Nat.lt_or_ge n la.length with hn | hn
  · have hmin : min (n : Int) (la.length : Int) = (n : Int) := Int.min_eq_left (by omega)
    have hgt : (n : Int) < (la.length : Int) := by omega
    have hge : (n : Int) ≤ (la.length : Int) := by omega
    go_enter Tryd.func31, Tryd.ntmps31
    go_wp2_with (fail)
    refine (isInteger_yes _ _ _ _ l1 l8).mono ?_
    rintro e w' ⟨rfl, hw1⟩
    obtain rfl := hw1.symm
    go_wp2_with (fail)
    refine (isWidth_yes _ _ (by omega) (by omega)).mono ?_
    rintro e w' ⟨rfl, hw1⟩
    obtain rfl := hw1.symm
    go_wp2_with (fail)
    refine (above_c A c n (la.take n) _ _ hw (ha.sl.take n) (ha.us.take n) (by rw [List.length_take]; omega) (by rw [List.length_take]; omega) (by rw [List.length_take]; omega)).mono ?_
    rintro e w' ⟨rfl, n1, rfl⟩
    obtain ⟨f, hf⟩ : ∃ f, f = mk (neg (la.take n)) := ⟨_, rfl⟩
    have hUf : U f := by rw [hf]; exact U_mk _
    have HF := Lib.hid (fits_part ha.us (show n ≤ la.length by omega))
    rw [← hf]
    rw [← hf] at HF
    clear hf
    obtain ⟨b, off, rfl, _, hcells⟩ := ha.sl (by omega)
    have hne : ¬ (c = n) := by omega
    go_wp2
    go_loopw [7, 30] (fun o i wr => FitRel (w.drewN n1) la n f o i wr) (fun _ i _ => la.length - n - (intOf i).toNat)
    case atStart => exact ⟨0, 0, rfl, rfl, rfl, by omega, U_zero, by simp; intro t h1 h2; omega⟩
    case round =>
      obtain ⟨k, u, rfl, rfl, rfl, hk, hU, hiff⟩ := hrel
      by_cases hgo : n + k < la.length
      · have hcell := hcells (n + k) (la[n + k]'hgo) (List.getElem?_eq_getElem hgo)
        rw [← dgt_lt hgo, ← Nat.add_assoc] at hcell
        have HS := Lib.hid (fit_step ha.us hU hUf hiff)
        have hgo' : k < la.length - n := by omega
        clear hiff hcells
        go_wp2
        go_roundw
        case rel => exact ⟨k + 1, _, rfl, by go_num, rfl, by omega, HS.out.1, HS.out.2⟩
        case measure => simp [intOf]; omega
      · have HE := Lib.hid (show u = 0 ↔ sv (limbs n (sv la)) = sv la by
          rw [hiff, HF.out]
          constructor
          · intro h t h1 h2; exact h t h1 (by omega)
          · intro h t h1 h2; exact h t h1 (by omega))
        have hgo' : ¬ k < la.length - n := by omega
        clear hiff hcells
        go_wp2_with (fail)
        refine (zero_any _ hU _ (by exact hw)).mono ?_
        rintro e w' ⟨rfl, n2, rfl⟩
        go_wp2
        go_ret
        refine ⟨ret_int ?_, below_drewN' (Below.refl _ _) _⟩
        unfold fitsB
        congr 1
        rw [decide_eq_decide]; exact HE.out
  · have hmin : min (n : Int) (la.length : Int) = (la.length : Int) := Int.min_eq_right (by omega)
    go_enter Tryd.func31, Tryd.ntmps31
    go_wp2_with (fail)
    refine (isInteger_yes _ _ _ _ l1 l8).mono ?_
    rintro e w' ⟨rfl, hw1⟩
    obtain rfl := hw1.symm
    go_wp2_with (fail)
    refine (isWidth_yes _ _ (by omega) (by omega)).mono ?_
    rintro e w' ⟨rfl, hw1⟩
    obtain rfl := hw1.symm
    go_wp2_with (fail)
    refine (above_any A c la _ _ hw ha.sl ha.us l1 (by omega)).mono ?_
    rintro e w' ⟨rfl, n1, rfl⟩
    have HE := Lib.hid (fits_all ha.us hn)
    obtain ⟨b, off, rfl, _, hcells⟩ := ha.sl (by omega)
    clear hcells
    by_cases hc : c = la.length
    · subst hc
      go_wp2
      go_loopw [7, 30] (fun o i wr => wr = w.drewN n1 ∧ o = .int .u64 0 ∧ i = .int .i64 0) (fun _ _ _ => 0)
      case atStart => exact ⟨rfl, rfl, rfl⟩
      case round =>
        obtain ⟨rfl, rfl, rfl⟩ := hrel
        go_wp2_with (fail)
        refine (zero_any _ U_zero _ (by exact hw)).mono ?_
        rintro e w' ⟨rfl, n2, rfl⟩
        go_wp2
        go_ret
        refine ⟨ret_int ?_, below_drewN' (Below.refl _ _) _⟩
        unfold fitsB
        rw [HE.out]
    · go_wp2
      go_loopw [7, 30] (fun o i wr => wr = w.drewN n1 ∧ o = .int .u64 0 ∧ i = .int .i64 0) (fun _ _ _ => 0)
      case atStart => exact ⟨rfl, rfl, rfl⟩
      case round =>
        obtain ⟨rfl, rfl, rfl⟩ := hrel
        go_wp2_with (fail)
        refine (zero_any _ U_zero _ (by exact hw)).mono ?_
        rintro e w' ⟨rfl, n2, rfl⟩
        go_wp2
        go_ret
        refine ⟨ret_int ?_, below_drewN' (Below.refl _ _) _⟩
        unfold fitsB
        rw [HE.out]
end Go.Proofs.YtkdiglabjcfjfaaDoor
