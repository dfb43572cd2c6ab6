/-
  Contracts of package limb: Add to From.
-/
import Derived.Test.YtehnpmkolabiaaaDoorLimbE
import Derived.Lib.MinMax
/- Contracts of package limb, third part: Add, Sub, Neg, Sign, Compare. -/
namespace Go.Proofs.YtehnpmkolabiaaaDoor
open Go.RowKit
set_option maxRecDepth 100000
set_option linter.unusedVariables false
set_option linter.unusedSimpArgs false

theorem Arg.top {w : World} {A : Option Addr} {c : Nat} {ls : List Int} (h : Arg w A c ls) : SlR w (fun _ => True) .u64 A ls := h.sl
theorem limbAdd_yes (A B : Option Addr) (c d : Nat) (la lb : List Int) (w : World) (_hw : Wts w) (ha : Arg w A c la) (hb : Arg w B d lb) (l1 : 1 ≤ la.length) (l8 : la.length ≤ 8) (hl : la.length = lb.length) :
    Calls Tryd.prog 54 #[.slice A la.length c, .slice B lb.length d] w (GivesU w (limbs la.length (sv la + sv lb))) := by
  have HLL := Lib.hid hl
  clear hl
  go_enter Tryd.func54, Tryd.ntmps54
  go_wp2_with (fail)
  refine (oneWidth_yes _ _ _ _ _ _ _ l1 l8 HLL.out).mono ?_
  rintro e w' ⟨rfl, hw1⟩
  obtain rfl := hw1.symm
  go_wp2_with (fail)
  refine (applyAdd A B c d la lb _ ha.sl hb.sl ha.us hb.us l1 (by omega) HLL.out).mono ?_
  rintro e w2 ⟨g, cap, os, cr, rfl, hlo, hcap, hg, hsl, hfz, hu, h0, h1, huv, hbl⟩
  have HR := Lib.hid (uadd_end hlo ha.us hb.us hu HLL.out huv)
  have HLO := Lib.hid hlo
  clear hlo huv
  go_wp2
  go_ret
  rw [← HR.out]
  exact ⟨_, cap, rfl, hcap, hsl, hbl⟩
theorem limbAdd_no (A B : Option Addr) (c d : Nat) (la lb : List Int) (w : World) (_hw : Wts w) (_ha : Arg w A c la) (_hb : Arg w B d lb) (_hla : la.length ≤ 1000000) (_hlb : lb.length ≤ 1000000) (h : la.length < 1 ∨ 8 < la.length ∨ la.length ≠ lb.length) :
    Calls Tryd.prog 54 #[.slice A la.length c, .slice B lb.length d] w (GivesNone w) := by
  have HH := Lib.hid h
  clear h
  go_enter Tryd.func54, Tryd.ntmps54
  go_wp2_with (fail)
  refine (oneWidth_no _ _ _ _ _ _ _ HH.out).mono ?_
  rintro e w' ⟨rfl, hw1⟩
  obtain rfl := hw1.symm
  go_wp2
  go_ret
  exact ⟨none, 0, rfl, Below.refl _ _⟩
theorem limbSub_yes (A B : Option Addr) (c d : Nat) (la lb : List Int) (w : World) (_hw : Wts w) (ha : Arg w A c la) (hb : Arg w B d lb) (l1 : 1 ≤ la.length) (l8 : la.length ≤ 8) (hl : la.length = lb.length) :
    Calls Tryd.prog 74 #[.slice A la.length c, .slice B lb.length d] w (GivesU w (limbs la.length (sv la - sv lb))) := by
  have HLL := Lib.hid hl
  clear hl
  go_enter Tryd.func74, Tryd.ntmps74
  go_wp2_with (fail)
  refine (oneWidth_yes _ _ _ _ _ _ _ l1 l8 HLL.out).mono ?_
  rintro e w' ⟨rfl, hw1⟩
  obtain rfl := hw1.symm
  go_wp2_with (fail)
  refine (applySub A B c d la lb _ ha.sl hb.sl ha.us hb.us l1 (by omega) HLL.out).mono ?_
  rintro e w2 ⟨g, cap, os, cr, rfl, hlo, hcap, hg, hsl, hfz, hu, h0, h1, huv, hbl⟩
  have HR := Lib.hid (usub_end hlo ha.us hb.us hu HLL.out huv)
  have HLO := Lib.hid hlo
  clear hlo huv
  go_wp2
  go_ret
  rw [← HR.out]
  exact ⟨_, cap, rfl, hcap, hsl, hbl⟩
theorem limbSub_no (A B : Option Addr) (c d : Nat) (la lb : List Int) (w : World) (_hw : Wts w) (_ha : Arg w A c la) (_hb : Arg w B d lb) (_hla : la.length ≤ 1000000) (_hlb : lb.length ≤ 1000000) (h : la.length < 1 ∨ 8 < la.length ∨ la.length ≠ lb.length) :
    Calls Tryd.prog 74 #[.slice A la.length c, .slice B lb.length d] w (GivesNone w) := by
  have HH := Lib.hid h
  clear h
  go_enter Tryd.func74, Tryd.ntmps74
  go_wp2_with (fail)
  refine (oneWidth_no _ _ _ _ _ _ _ HH.out).mono ?_
  rintro e w' ⟨rfl, hw1⟩
  obtain rfl := hw1.symm
  go_wp2
  go_ret
  exact ⟨none, 0, rfl, Below.refl _ _⟩
theorem GivesU.later {w w1 : World} {ls : List Int} (hb : Below w.heap.size w w1) {e : Ending} {w' : World} (h : GivesU w1 ls e w') : GivesU w ls e w' := by
  obtain ⟨A, c, rfl, hc, hs, hb2⟩ := h
  exact ⟨A, c, rfl, hc, hs.imp (fun b h => by have := hb.size; omega), hb.trans (hb2.mono hb.size)⟩
theorem limbSub_z (B : Option Addr) (d n : Nat) (lb : List Int) (g : Nat) (w : World) (hw : Wts w) (hb : Arg w B d lb) (ha : SlR w (fun _ => True) .u64 (some ⟨g, 0, none⟩) (List.replicate n 0)) (l1 : 1 ≤ n) (l8 : n ≤ 8) (hl : n = lb.length) :
    Calls Tryd.prog 74 #[.slice (some ⟨g, 0, none⟩) n n, .slice B lb.length d] w (GivesU w (limbs n (-sv lb))) := by
  have hz : sv (List.replicate n 0) = 0 := by unfold sv; rw [zeros_uv]; have := M_pos (List.replicate n (0 : Int)).length; rw [if_pos (by omega)]
  have h := limbSub_yes (some ⟨g, 0, none⟩) B n d (List.replicate n 0) lb w hw ⟨ha, zeros_us n, by simp⟩ hb (by simpa using l1) (by simpa using l8) (by simpa using hl)
  rw [List.length_replicate, hz, Int.zero_sub] at h
  exact h
theorem limbSign_yes (A : Option Addr) (c : Nat) (la : List Int) (w : World) (hw : Wts w) (ha : Arg w A c la) (l1 : 1 ≤ la.length) (l8 : la.length ≤ 8) :
    Calls Tryd.prog 36 #[.slice A la.length c] w fun e w' => e = .returned (.int .i64 (sv la).sign) ∧ Below w.heap.size w w' := by
  go_enter Tryd.func36, Tryd.ntmps36
  go_wp2_with (fail)
  refine (isInteger_yes _ _ _ _ l1 l8).mono ?_
  rintro e w' ⟨rfl, hw1⟩
  obtain rfl := hw1.symm
  go_wp2_with (fail)
  refine (above_any A c la _ _ hw ha.sl ha.us l1 (by omega)).mono ?_
  rintro e w' ⟨rfl, n1, rfl⟩
  go_wp2_with (fail)
  refine (union_any A c la (fun _ => True) _ (by exact ha.sl) ha.us (by omega)).mono ?_
  rintro e w' ⟨⟨u, rfl, hU, hz⟩, hw1⟩
  obtain rfl := hw1.symm
  have HZ := Lib.hid hz
  clear hz
  go_wp2_with (fail)
  refine (zero_any _ hU _ (by exact hw)).mono ?_
  rintro e w' ⟨rfl, n2, rfl⟩
  go_wp2_with (fail)
  refine (sign_any _ _ (U_mk _) (U_mk _) _ (by exact hw)).mono ?_
  rintro e w' ⟨rfl, n3, rfl⟩
  go_wp2
  go_ret
  refine ⟨ret_int ?_, below_drewN' (Below.refl _ _) _⟩
  rw [← sign_val ha.us]
  congr 2
  rw [decide_eq_decide]; exact HZ.out
theorem limbSign_no (A : Option Addr) (c : Nat) (la : List Int) (w : World) (_hw : Wts w) (_ha : Arg w A c la) (_hla : la.length ≤ 1000000) (h : la.length < 1 ∨ 8 < la.length) :
    Calls Tryd.prog 36 #[.slice A la.length c] w fun e w' => e = .returned (.int .i64 0) ∧ Below w.heap.size w w' := by
  have HH := Lib.hid h
  clear h
  go_enter Tryd.func36, Tryd.ntmps36
  go_wp2_with (fail)
  refine (isInteger_no _ _ _ _ HH.out).mono ?_
  rintro e w' ⟨rfl, hw1⟩
  obtain rfl := hw1.symm
  go_wp2
  go_ret
  exact ⟨rfl, Below.refl _ _⟩
end Go.Proofs.YtehnpmkolabiaaaDoor
/- Contracts of package limb, fourth part: Extend, From, Select, Fits. -/
namespace Go.Proofs.YtehnpmkolabiaaaDoor
open Go.RowKit
set_option maxRecDepth 100000
set_option linter.unusedVariables false
set_option linter.unusedSimpArgs false

theorem own_of_heap {w : World} {base g n : Nat} {e : TypeId} {k : IntKind} {os : List Int} (hg : base ≤ g) (hh : w.heap[g]? = some (.cells (os.map (Value.int k)).toArray e (0, 0))) (hn : os.length = n) (hm : n ≤ 1000) :
    OwnK w base e k (.slice (some ⟨g, 0, none⟩) n n) os := by
  subst hn
  exact ⟨by simp, .inr ⟨g, os.length, _, rfl, hg, hh, Nat.le_refl _, by unfold maxLen; omega, by simp, by simp [List.take_of_length_le]⟩⟩
theorem own_gives {w w' : World} {n : Nat} {os : List Int} (h : OwnK w' w.heap.size 26 .u64 (.slice (some ⟨w.heap.size, 0, none⟩) n n) os) (hl : os.length = n) (hb : Below w.heap.size w w') :
    GivesF w os (.returned (.slice (some ⟨w.heap.size, 0, none⟩) n n)) w' := by
  subst hl
  obtain ⟨A1, c1, hv, hcap, _, hsl⟩ := h.form
  injection hv with ev1 ev2 ev3
  subst ev1
  subst ev3
  exact ⟨_, _, rfl, Nat.le_refl _, hsl, fun b off e j _ => by injection e with e; injection e with e1 e2; subst e1; subst e2; rw [Nat.zero_add]; exact h.frozen_ rfl j, hb⟩
theorem GivesF.u {w : World} {ls : List Int} {e : Ending} {w' : World} (h : GivesF w ls e w') : GivesU w ls e w' := by
  obtain ⟨A, c, rfl, hc, hs, _, hb⟩ := h
  exact ⟨A, c, rfl, hc, hs, hb⟩
theorem addr_add (b off j : Nat) : (⟨b, off, none⟩ : Addr).add j = ⟨b, off + j, none⟩ := by
  unfold Addr.add; split
  · next h => subst h; rfl
  · rfl
def ExtRel (W : World) (la : List Int) (n : Nat) (i : Value) (wr : World) : Prop :=
  ∃ (k : Nat) (os : List Int), i = .int .i64 k ∧ k ≤ n ∧ min la.length n ≤ k ∧ OwnK wr W.heap.size 26 .u64 (.slice (some ⟨W.heap.size, 0, none⟩) n n) os ∧ os.length = n ∧ (∀ t, t < k → dgt os t = dgt (ext la n) t) ∧ Below W.heap.size W wr
theorem splice_start (la : List Int) (n : Nat) : splice (List.replicate n (Value.int .u64 0)) 0 ((la.take n).map (Value.int .u64)) = (la.take n ++ List.replicate (n - la.length) 0).map (Value.int .u64) := by
  unfold splice
  simp only [List.take_zero, List.nil_append, Nat.zero_add, List.length_map, List.length_take, List.map_append, List.map_replicate, List.drop_replicate]
  congr 2
  omega
set_option maxHeartbeats 2000000 in
theorem limbExtend_yes (A : Option Addr) (c : Nat) (la : List Int) (n : Nat) (w : World) (hw : Wts w) (ha : Arg w A c la) (l1 : 1 ≤ la.length) (l8 : la.length ≤ 8) (h1 : 1 ≤ n) (h8 : n ≤ 8) :
    Calls Tryd.prog 56 #[.slice A la.length c, .int .i64 n] w (GivesU w (limbs n (sv la))) := by
  have hmk := run_make_row' (P := Tryd.prog) 70 26 (.int .u64 0) 8 Tryd.underlying70 infoU rfl .i64 .i64 n (by omega) (by omega)
  have hsz : (Tryd.prog.info? 26).map (·.size) = some 1 := by kernel_rfl
  have hb0 : Below w.heap.size w (w.alloc (.cells (madeCells #[.int .u64 0] n) 26)) := (Below.refl _ _).alloc (Nat.le_refl _) _
  have HG := Lib.hid (show (w.alloc (.cells (madeCells #[.int .u64 0] n) 26)).heap[w.heap.size]? = some (.cells (List.replicate n (Value.int .u64 0)).toArray 26 (0, 0)) by
    rw [heap_alloc_new, ← toList_madeCells_one])
  obtain ⟨cs, hcs⟩ : ∃ cs, cs = (la.take n).map (Value.int .u64) := ⟨_, rfl⟩
  have HCL := Lib.hid (show cs.length = Nat.min la.length n by rw [hcs, List.length_map, List.length_take, Nat.min_comm])
  have HCL2 := Lib.hid (show cs.length ≤ n by rw [hcs, List.length_map, List.length_take]; omega)
  have HPos := Lib.hid (show 0 < cs.length → ∃ ad, A = some ad ∧ ∀ j v, cs[j]? = some v → (w.alloc (.cells (madeCells #[.int .u64 0] n) 26)).cell? (ad.add j) = some v by
    intro _
    obtain ⟨b, off, e, _, hc⟩ := (ha.sl.next hb0) (by omega)
    refine ⟨⟨b, off, none⟩, e, fun j v hj => ?_⟩
    rw [hcs, List.getElem?_map, List.getElem?_take] at hj
    split at hj
    · cases hd : la[j]? with
      | none => rw [hd] at hj; cases hj
      | some d => rw [hd] at hj; injection hj with hj; subst hj; rw [addr_add]; exact hc j d hd
    · cases hj)
  have HOne := Lib.hid (show ∀ v ∈ cs, v.oneCell' = true by
    intro v hv; rw [hcs] at hv; obtain ⟨d, _, rfl⟩ := List.mem_map.1 hv; rfl)
  have HSp := Lib.hid (show splice (List.replicate n (Value.int .u64 0)) 0 cs = (la.take n ++ List.replicate (n - la.length) 0).map (Value.int .u64) by rw [hcs]; exact splice_start la n)
  have HFit := Lib.hid (show 0 + cs.length ≤ (List.replicate n (Value.int .u64 0)).length by rw [List.length_replicate]; have := HCL2.out; omega)
  clear hcs
  go_enter Tryd.func56, Tryd.ntmps56
  go_wp2_with (fail)
  refine (isInteger_yes _ _ _ _ l1 l8).mono ?_
  rintro e w' ⟨rfl, hw1⟩
  obtain rfl := hw1.symm
  go_wp2_with (fail)
  refine (isWidth_yes _ _ (by omega) (by omega)).mono ?_
  rintro e w' ⟨rfl, hw1⟩
  obtain rfl := hw1.symm
  go_wp2_with (with_reducible show wpList _ _ _ (⟨some 19, _, _, _, _, _⟩ :: _) _ _; (refine wpList_copy_splice rfl (.tmp 17) (.tmp 18) 70 70 rfl 26 Tryd.underlying70 hsz (some ⟨w.heap.size, 0, none⟩) A n n la.length c rfl rfl w.heap.size 0 (List.replicate n (Value.int .u64 0)) 26 HG.out cs HCL.out (fun h => ⟨rfl, HPos.out h⟩) HFit.out HOne.out w.heap.size w hb0 (Nat.le_refl _) ?_; intro w2 HG2 hb2))
  have HGG := Lib.hid (show w2.heap[w.heap.size]? = some (.cells ((la.take n ++ List.replicate (n - la.length) 0).map (Value.int .u64)).toArray 26 (0, 0)) by have h := HG2.out; rw [HSp.out] at h; exact h)
  clear HG2 HG HPos HOne HSp HFit hmk hsz
  go_loopw [6] (fun i wr => ExtRel w la n i wr) (fun i _ => n - (intOf i).toNat)
  case atStart =>
    refine ⟨cs.length, la.take n ++ List.replicate (n - la.length) 0, rfl, HCL2.out, (by rw [HCL.out]; exact Nat.le_refl _), own_of_heap (Nat.le_refl _) HGG.out (by simp; omega) (by omega), by simp; omega, ?_, hb2⟩
    intro t ht
    have h := HCL.out
    have ht2 : t < n ∧ t < la.length := by rw [h] at ht; exact ⟨Nat.lt_of_lt_of_le ht (Nat.min_le_right _ _), Nat.lt_of_lt_of_le ht (Nat.min_le_left _ _)⟩
    rw [ext_dgt_at _ ht2.1, if_pos ht2.2, dgt_append, if_pos (by rw [List.length_take]; omega), dgt_take, if_pos ht2.1]
  case round =>
    obtain ⟨k, os, rfl, hk, hmin, hown, hlo, hd, hbl⟩ := hrel
    have HO := Lib.hid hown
    have HL := Lib.hid hlo
    have HD := Lib.hid hd
    clear hown hlo hd
    by_cases hgo : k < n
    · have hco := HO.out.cell_ HL.out hgo
      have hfo := HO.out.frozen_ HL.out k
      have hw1 := hw.below hbl
      have ha1 := ha.sl.next hbl
      go_wp2_with (fail)
      refine (above_any A c la (fun _ => True) _ (by exact hw1) (by exact ha1) ha.us l1 (by omega)).mono ?_
      rintro e w' ⟨rfl, n1, rfl⟩
      go_wp2
      go_roundw
      case rel =>
        have hp : k < os.length := by rw [HL.out]; exact hgo
        refine ⟨k + 1, os.set k (mk (neg la)), by go_num, hgo, by omega, (OwnK.set_ (os := os) (by exact HO.out) HL.out k _).1, by rw [List.length_set]; exact HL.out, fun t ht => ?_, (below_drewN' hbl n1).setCell (p := ⟨w.heap.size, k, none⟩) (Nat.le_refl _) _⟩
        rw [dgt_set _ hp]
        by_cases htk : t = k
        · rw [if_pos htk, ext_dgt_at _ (by omega), if_neg (by omega)]
        · rw [if_neg htk]; exact HD.out t (by omega)
      case measure => simp [intOf]; omega
    · have HE := Lib.hid (show os = limbs n (sv la) by
        rw [← ext_limbs ha.us]
        exact ext_dgt (by rw [ext_length, HL.out]) fun t ht => HD.out t (by rw [HL.out] at ht; omega))
      go_wp2
      go_ret
      rw [← HE.out]
      exact (own_gives HO.out HL.out hbl).u
theorem limbExtend_no (A : Option Addr) (c : Nat) (la : List Int) (n : Int) (w : World) (_hw : Wts w) (_ha : Arg w A c la) (hl : la.length ≤ 1000000) (_hn : S n) (h : la.length < 1 ∨ 8 < la.length ∨ n < 1 ∨ 8 < n) :
    Calls Tryd.prog 56 #[.slice A la.length c, .int .i64 n] w (GivesNone w) := by
  by_cases hi : 1 ≤ la.length ∧ la.length ≤ 8
  · have h1 := hi.1
    have h8 := hi.2
    have HN := Lib.hid (show n < 1 ∨ 8 < n by omega)
    clear h hi
    go_enter Tryd.func56, Tryd.ntmps56
    go_wp2_with (fail)
    refine (isInteger_yes _ _ _ _ h1 h8).mono ?_
    rintro e w' ⟨rfl, hw1⟩
    obtain rfl := hw1.symm
    go_wp2_with (fail)
    refine (isWidth_no _ _ HN.out).mono ?_
    rintro e w' ⟨rfl, hw1⟩
    obtain rfl := hw1.symm
    go_wp2
    go_ret
    exact ⟨none, 0, rfl, Below.refl _ _⟩
  · have HN := Lib.hid (show la.length < 1 ∨ 8 < la.length by omega)
    clear h hi
    go_enter Tryd.func56, Tryd.ntmps56
    go_wp2_with (fail)
    refine (isInteger_no _ _ _ _ HN.out).mono ?_
    rintro e w' ⟨rfl, hw1⟩
    obtain rfl := hw1.symm
    go_wp2
    go_ret
    exact ⟨none, 0, rfl, Below.refl _ _⟩
/-- A signed word as an integer of one limb. -/
theorem one_us (x : Int) : Us [IntKind.u64.wrap x] := fun d hd => by simp at hd; subst hd; exact U_wrap x
theorem one_sv {x : Int} (h : S x) : sv [IntKind.u64.wrap x] = x := by
  unfold sv
  have e : M [IntKind.u64.wrap x].length = 18446744073709551616 := rfl
  have e2 : uv [IntKind.u64.wrap x] = x % 18446744073709551616 := by simp [uv, wrap_u]
  rw [e, e2]
  unfold S at h
  split <;> omega
theorem one_arg (w : World) (x : Int) : Arg (w.alloc (.cells #[.int .u64 (IntKind.u64.wrap x)] 26)) (some ⟨w.heap.size, 0, none⟩) 1 [IntKind.u64.wrap x] :=
  ⟨fun _ => ⟨w.heap.size, 0, rfl, trivial, fun j d hd => by
    match j, hd with
    | 0, hd => simp at hd; subst hd; simp [go_sem]⟩, one_us x, by simp⟩
theorem limbFrom_yes (x : Int) (n : Nat) (w : World) (hw : Wts w) (hx : S x) (h1 : 1 ≤ n) (h8 : n ≤ 8) : Calls Tryd.prog 53 #[.int .i64 x, .int .i64 n] w (GivesU w (limbs n x)) := by
  have hb : Below w.heap.size w (w.alloc (.cells #[.int .u64 (IntKind.u64.wrap x)] 26)) := (Below.refl _ _).alloc (Nat.le_refl _) _
  have hE := limbExtend_yes (some ⟨w.heap.size, 0, none⟩) 1 [IntKind.u64.wrap x] n _ (hw.below hb) (one_arg w x) (by simp) (by simp) h1 h8
  rw [one_sv hx] at hE
  have HE := Lib.hid hE
  clear hE
  go_enter Tryd.func53, Tryd.ntmps53
  go_wp2_with (fail)
  refine HE.out.mono ?_
  intro e w2 h2
  obtain ⟨A2, c2, rfl, hc2, hs2, hb2⟩ := GivesU.later hb h2
  go_wp2
  go_ret
  exact ⟨A2, c2, rfl, hc2, hs2, hb2⟩
theorem limbFrom_no (x n : Int) (w : World) (hw : Wts w) (_hx : S x) (hn : S n) (h : n < 1 ∨ 8 < n) : Calls Tryd.prog 53 #[.int .i64 x, .int .i64 n] w (GivesNone w) := by
  have hb : Below w.heap.size w (w.alloc (.cells #[.int .u64 (IntKind.u64.wrap x)] 26)) := (Below.refl _ _).alloc (Nat.le_refl _) _
  have HE := Lib.hid (limbExtend_no (some ⟨w.heap.size, 0, none⟩) 1 [IntKind.u64.wrap x] n _ (hw.below hb) (one_arg w x) (by simp) hn (by omega))
  clear h
  go_enter Tryd.func53, Tryd.ntmps53
  go_wp2_with (fail)
  refine HE.out.mono ?_
  rintro e w2 ⟨A2, c2, rfl, hb2⟩
  go_wp2
  go_ret
  exact ⟨A2, c2, rfl, hb.trans (hb2.mono (by simp))⟩
end Go.Proofs.YtehnpmkolabiaaaDoor
