/-
  Contracts of package decimal, fifth part: Format.
-/
import Derived.Test.YtpdmpmlieligoaaDoorDecE
import Derived.Test.YtpdmpmlieligoaaDoorLimbC
import Derived.ScopeJumps
import Derived.WalkMore
namespace Go.Proofs.YtpdmpmlieligoaaDoor
open Go.RowKit

theorem OwnK.next {w w' : World} {base : Nat} {e : TypeId} {k : IntKind} {v : Value} {os : List Int} (h : OwnK w base e k v os) (hb : Below w.heap.size w w') : OwnK w' base e k v os := by
  refine ⟨h.1, ?_⟩
  rcases h.2 with h' | ⟨g, cap, cur, hv, hg, hh, rest⟩
  · exact .inl h'
  · refine .inr ⟨g, cap, cur, hv, hg, ?_, rest⟩
    rw [hb.block g (by
      rcases Nat.lt_or_ge g w.heap.size with h' | h'
      · exact h'
      · rw [Array.getElem?_eq_none h'] at hh; cases hh)]
    exact hh
/-- append of one byte onto a row of the call's own. -/
theorem wp_app8 {P : Program} {w : World} {ops : Array Oper} {rest : List Oper} {o : Oper} {a : Act} {Q : Exit → Act → World → Prop} (hgd : o.guard = none) (s x : Operand) (t : TypeId)
    (ho : o.op = .call { callee := .builtin .append, args := #[s, x], argTypes := #[t, t] })
    (base : Nat) (e : TypeId) (k : IntKind) (i : TypeInfo) (z : Value) (ht : P.underlying t = some (.slice e)) (hi : P.info? e = some i) (hz : i.zero = some z) (hsize : i.size = 1) (hby : i.bytes = 1) (hzs : z.cells.size = 1)
    (v : Value) (os : List Int) (n : Int) (hs : a.eval s = v) (hown : OwnK w base e k v os) (hx : a.eval x = .slice (some ⟨w.heap.size, 0, none⟩) 1 1)
    (hlen : os.length ≤ 1000000000) (hbase : base ≤ w.heap.size)
    (h : ∀ v' w', OwnK w' base e k v' (os ++ [n]) → Below base w w' → (∀ b, b < w.heap.size → v.ownBlock ≠ some b → w'.heap[b]? = w.heap[b]?) → wpList P ops Q rest (a.put o.dst v') w') : wpList P ops Q (o :: rest) a (w.alloc (.cells #[.int k n] e)) := by
  refine wpList_append_own _ hgd s x t ho base e i z 1 1 ht hi hz hsize hby hzs (by decide) v os.length (os.map (Value.int k)) hs (World.ownsRow.alloc hown _) ⟨w.heap.size, 0, none⟩ 1 1 [.int k n] hx rfl (one_cell _ _ _) (one_oneCell _ _)
    (by unfold maxLen; omega) (by omega) (by simp; omega) fun v' w' h1 h2 _ => h v' w' ?_ ?_ ?_
  · unfold OwnK
    rw [List.length_append, List.map_append]
    exact h1
  · have hb : Below base w (w.alloc (.cells #[.int k n] e)) := (Below.refl _ _).alloc hbase _
    exact hb.grown h2 (by simp; omega) (fun g hg => (World.ownsRow.lt hown g hg).1)
  · intro b hb hne
    exact (h2.block b (by simp; omega) (fun e => hne e.symm)).trans (heap_alloc_old w _ hb)
theorem SlR.kept {w w' : World} {B : Nat} {k : IntKind} {A : Option Addr} {ds : List Int} {v : Value} (h : SlR w (fun b => B ≤ b) k A ds) (hv : ∀ g, v.ownBlock = some g → g < B)
    (hG : ∀ b, b < w.heap.size → v.ownBlock ≠ some b → w'.heap[b]? = w.heap[b]?) : SlR w' (fun _ => True) k A ds :=
  (h.keep fun b o hb hlt => World.cell?_of_block (hG b hlt (fun e => by have := hv b e; omega))).imp fun _ _ => trivial
theorem infoByte : (Tryd.prog.info? 5).map (fun i => (i.zero, i.size, i.bytes)) = some (some (.int .u8 0), 1, 1) := by kernel_rfl
theorem sv_zero {l : List Int} (h : Us l) : sv l = 0 ↔ uv l = 0 := by
  have h1 := uv_lt h
  have h2 := uv_nonneg h
  unfold sv
  split <;> omega
theorem decDiv_n (A : Option Addr) (c n : Nat) (la : List Int) (w : World) (hw : Wts w) (ha : Arg w A c la) (hn : la.length = n) (l1 : 1 ≤ n) (l8 : n ≤ 8) :
    Calls Tryd.prog 16 #[.slice A n c, .int .u64 10] w fun e w' => ∃ A1 c1 ls, e = .returned (.tuple #[.slice A1 n c1, .int .u64 (uv la % 10)]) ∧ SlR w' (fun b => w.heap.size ≤ b) .u64 A1 ls ∧ Us ls ∧ ls.length ≤ c1 ∧ ls.length = n ∧ uv ls = uv la / 10 ∧ Below w.heap.size w w' := by
  subst hn
  refine (decDiv_yes A c la 10 w hw ha l1 l8 (by unfold U; decide) (by decide)).mono ?_
  rintro e w' ⟨A1, c1, rfl, hc, hs, hb⟩
  rw [limbs_length] at hc ⊢
  refine ⟨A1, c1, _, rfl, hs, limbs_us _ _, by rw [limbs_length]; exact hc, limbs_length _ _, ?_, hb⟩
  rw [limbs_uv]
  have h1 := uv_lt ha.us
  have h2 := uv_nonneg ha.us
  exact Int.emod_eq_of_lt (by omega) (by omega)
theorem limbSign_n (A : Option Addr) (c n : Nat) (la : List Int) (w : World) (hw : Wts w) (ha : Arg w A c la) (hn : la.length = n) (l1 : 1 ≤ n) (l8 : n ≤ 8) :
    Calls Tryd.prog 20 #[.slice A n c] w fun e w' => ∃ s : Int, e = .returned (.int .i64 s) ∧ (s = 0 ↔ uv la = 0) ∧ (s < 0 ↔ sv la < 0) ∧ Below w.heap.size w w' := by
  subst hn
  refine (limbSign_yes A c la w hw ha l1 l8).mono ?_
  rintro e w' ⟨rfl, hb⟩
  exact ⟨_, rfl, by rw [Int.sign_eq_zero_iff_zero, sv_zero ha.us], by rw [Int.sign_neg_iff], hb⟩
theorem limbNeg_n (A : Option Addr) (c n : Nat) (la : List Int) (w : World) (hw : Wts w) (ha : Arg w A c la) (hn : la.length = n) (l1 : 1 ≤ n) (l8 : n ≤ 8) :
    Calls Tryd.prog 21 #[.slice A n c] w fun e w' => ∃ A1 c1 ls, e = .returned (.slice A1 n c1) ∧ SlR w' (fun b => w.heap.size ≤ b) .u64 A1 ls ∧ Us ls ∧ ls.length ≤ c1 ∧ ls.length = n ∧ uv ls = -sv la % M n ∧ Below w.heap.size w w' := by
  subst hn
  refine (limbNeg_yes A c la w hw ha l1 l8).mono ?_
  rintro e w' ⟨A1, c1, rfl, hc, hs, hb⟩
  rw [limbs_length] at hc ⊢
  exact ⟨A1, c1, _, rfl, hs, limbs_us _ _, by rw [limbs_length]; exact hc, limbs_length _ _, limbs_uv _ _, hb⟩
theorem own_len {w : World} {B : Nat} {e : TypeId} {k : IntKind} {v : Value} {os : List Int} (h : OwnK w B e k v os) : sLen v = os.length := by
  obtain ⟨A, c, rfl, _⟩ := OwnK.slice_ h rfl
  rfl
/-- The bytes of a text as numbers. -/
def bInt (l : List UInt8) : List Int := l.map fun b => (b.toNat : Int)
theorem bInt_snoc (l : List UInt8) (d : Nat) (h : d < 10) : bInt l ++ [48 + (d : Int)] = bInt (l ++ [dig d]) := by
  unfold bInt
  rw [List.map_append, List.map_singleton, dig_nat h]
  congr 2
theorem bInt_length (l : List UInt8) : (bInt l).length = l.length := by unfold bInt; simp
theorem bInt_reverse (l : List UInt8) : (bInt l).reverse = bInt l.reverse := by unfold bInt; rw [List.map_reverse]
theorem dec_step {X N : Nat} {st : List UInt8} (h : decN X ++ st.reverse = decN N) :
    (10 ≤ X → decN (X / 10) ++ (st ++ [dig (X % 10)]).reverse = decN N) ∧ (X < 10 → (st ++ [dig (X % 10)]).reverse = decN N) := by
  constructor
  · intro hx
    rw [← h, decN_big hx]; simp
  · intro hx
    rw [← h, decN_small hx, Nat.mod_eq_of_lt hx]; simp
theorem dec_room {X N : Nat} {st : List UInt8} (h : decN X ++ st.reverse = decN N) : st.length < (decN N).length := by
  rw [← h]
  have := List.length_pos_iff.2 (decN_ne X)
  simp; omega
/-- The text of a row of bytes of the call's own. -/
theorem own_text {w : World} {B g m cap : Nat} {l : List UInt8} (h : OwnK w B 5 .u8 (.slice (some ⟨g, 0, none⟩) m cap) (bInt l)) (hm : l.length = m) :
    (convert 40 9 (.slice (some ⟨g, 0, none⟩) m cap)).run Tryd.prog w = .ok (.string (bs l)) w := by
  subst hm
  refine run_convert_bytes_back (P := Tryd.prog) w 40 9 5 ⟨g, 0, none⟩ cap l Tryd.underlying40 Tryd.underlying5 Tryd.underlying9 ?_
  intro j hj
  have hc := OwnK.cell_ h (bInt_length l) hj
  have e : (⟨g, 0, none⟩ : Addr).add j = ⟨g, j, none⟩ := by rw [addr_add, Nat.zero_add]
  rw [e, hc, dgt_lt (by rw [bInt_length]; exact hj)]
  simp [bInt]
theorem decFormat_no (A : Option Addr) (c : Nat) (la : List Int) (w : World) (_hw : Wts w) (_ha : Arg w A c la) (_hl : la.length ≤ 1000000) (h : la.length < 1 ∨ 8 < la.length) :
    Calls Tryd.prog 10 #[.slice A la.length c] w (GivesStr w []) := by
  have HN := Lib.hid (show (la.length : Int) < 1 ∨ 8 < (la.length : Int) by omega)
  clear h
  go_enter Tryd.func10, Tryd.ntmps10
  go_wp2
  go_step3
  go_wp2_with (fail)
  refine (decWidth_no _ _ HN.out).mono ?_
  rintro e w' ⟨rfl, hw1⟩
  obtain rfl := hw1.symm
  go_wp2
  rw [Exit.noGoto_ret]
  go_ret
  exact ⟨rfl, Below.refl _ _⟩
/-- What holds at the label. -/
def FmtRel (W : World) (N n : Nat) (rest digits : Value) (wr : World) : Prop :=
  ∃ A c ls st, rest = .slice A n c ∧ Arg wr A c ls ∧ ls.length = n ∧ OwnK wr W.heap.size 5 .u8 digits (bInt st) ∧ decN (uv ls).toNat ++ st.reverse = decN N ∧ Below W.heap.size W wr
def sgL (b : Bool) : List UInt8 := if b then [45] else []
theorem decL_sg (x : Int) : decL x = sgL (decide (x < 0)) ++ decN x.natAbs := by
  unfold decL sgL
  by_cases h : x < 0
  · rw [if_pos h, decide_eq_true h]; rfl
  · rw [if_neg h, decide_eq_false h]; rfl
set_option maxRecDepth 100000 in
set_option maxHeartbeats 4000000 in
theorem decFormat_yes (A : Option Addr) (c : Nat) (la : List Int) (w : World) (hw : Wts w) (ha : Arg w A c la) (l1 : 1 ≤ la.length) (l8 : la.length ≤ 8) :
    Calls Tryd.prog 10 #[.slice A la.length c] w (GivesStr w (decL (sv la))) := by
  obtain ⟨N, hN⟩ : ∃ N, N = (sv la).natAbs := ⟨_, rfl⟩
  obtain ⟨sg, hsg⟩ : ∃ sg, sg = sgL (decide (sv la < 0)) := ⟨_, rfl⟩
  rw [decL_sg, ← hN, ← hsg]
  have HN := Lib.hid hN
  have HS := Lib.hid hsg
  have HDL := Lib.hid (show (decN N).length ≤ 200 by
    have h1 := sv_range ha.us
    have h2 := M_le l8
    have h8 : M 8 = 18446744073709551616 ^ 8 := rfl
    have hp : (18446744073709551616 : Int) ^ 8 < 10 ^ 160 := by decide +kernel
    have h3 : ((10 ^ 160 : Nat) : Int) = (10 : Int) ^ 160 := by simp
    exact Nat.le_trans (decN_length (k := 160) (by decide) (by rw [hN]; omega)) (by decide))
  clear hN hsg
  obtain ⟨n, hn⟩ : ∃ n, la.length = n := ⟨_, rfl⟩
  have HL := Lib.hid hn
  rw [hn] at l1 l8 ⊢
  clear hn
  go_enter Tryd.func10, Tryd.ntmps10
  go_wp2
  refine wp_scope_jumps 0 (fun a' w' => ∃ (u3 u5 u6 u7 u8 u9 u10 u11 u12 u13 u14 u15 u16 u17 u18 u19 u20 u21 u22 u23 u24 u25 u26 u27 u28 u29 u30 u31 u32 u33 u34 u35 u36 : Value), FmtRel w N n u3 u5 w' ∧
    a' = { tmps := #[.slice A n c, undef, .string ⟨#[]⟩, u3, .string (bs sg), u5, u6, u7, u8, u9, u10, u11, u12, u13, u14, u15, u16, u17, u18, u19, u20, u21, u22, u23, u24, u25, u26, u27, u28, u29, u30, u31, u32, u33, u34, u35, u36], defers := [] })
    (fun a' _ => (decN N).length - sLen (a'.tmps.getD 5 undef)) rfl ?_ ?_
  · go_wp2_with (fail)
    refine (decWidth_yes _ _ (by omega) (by omega)).mono ?_
    rintro e w' ⟨rfl, hw1⟩
    obtain rfl := hw1.symm
    go_wp2_with (fail)
    refine (limbSign_n A c n la _ hw ha HL.out l1 l8).mono ?_
    rintro e w1 ⟨s, rfl, _, hs, hb1⟩
    have HS1 := Lib.hid hs
    clear hs
    go_upto_if 14 with (fail)
    go_cut [3, 4] (fun s3 s4 wx => FmtRel w N n s3 (.slice none 0 0) wx ∧ s4 = .string (bs sg))
    case first =>
      by_cases hneg : s < 0
      · have hx := HS1.out.1 hneg
        have HSG := Lib.hid (show sg = [45] by rw [HS.out, decide_eq_true hx]; rfl)
        go_wp2_with (fail)
        refine (limbNeg_n A c n la _ (hw.below hb1) (ha.next hb1) HL.out l1 l8).mono ?_
        rintro e w2 ⟨A2, c2, ls2, rfl, hsl2, hus2, hcap2, hl2, huv2, hb2⟩
        have HUV := Lib.hid (show (uv ls2).toNat = N by
          have h1 := sv_range ha.us
          rw [HL.out] at h1
          have h2 : -sv la % M n = -sv la := Int.emod_eq_of_lt (by omega) (by omega)
          rw [huv2, h2, HN.out]; omega)
        have HL2 := Lib.hid hl2
        clear huv2 hl2 hx
        go_wp2
        go_meet
        refine ⟨⟨A2, c2, ls2, [], rfl, ⟨hsl2.imp fun _ _ => trivial, hus2, hcap2⟩, HL2.out, OwnK.nil_ _ _ _ _, by rw [HUV.out]; simp, hb1.trans (hb2.mono hb1.size)⟩, ?_⟩
        rw [HSG.out]; rfl
      · have hx : ¬ sv la < 0 := fun h => hneg (HS1.out.2 h)
        have HSG := Lib.hid (show sg = [] by rw [HS.out, decide_eq_false hx]; rfl)
        have HUV := Lib.hid (show (uv la).toNat = N by
          have e : sv la = uv la := by
            unfold sv at hx ⊢
            split
            · rfl
            · next h => rw [if_neg h] at hx; have := uv_lt ha.us; omega
          rw [HN.out, e]; have := uv_nonneg ha.us; omega)
        clear hx
        go_wp2
        go_meet
        refine ⟨⟨A, c, la, [], rfl, ha.next hb1, HL.out, OwnK.nil_ _ _ _ _, by rw [HUV.out]; simp, hb1⟩, ?_⟩
        rw [HSG.out]; rfl
    case rest =>
      obtain ⟨⟨A1, c1, ls, st, rfl, harg, hl, hown, hdec, hbl⟩, rfl⟩ := hcut
      go_wp2
      go_step3
      have HO := Lib.hid hown
      have HD := Lib.hid hdec
      have HLs := Lib.hid hl
      have hlen : (bInt st).length ≤ 1000000000 := by rw [bInt_length]; have := dec_room hdec; have := HDL.out; omega
      obtain ⟨i0, hi0, hz0, hz1, hz2⟩ := info_parts infoByte
      clear hown hdec hl
      go_wp2_with (fail)
      refine (decDiv_n A1 c1 n ls _ (hw.below hbl) harg HLs.out l1 l8).mono ?_
      rintro e w2 ⟨A2, c2, ls2, rfl, hsl2, hus2, hcap2, hl2, huv2, hb2⟩
      have hU := uv_nonneg harg.us
      obtain ⟨D, hD⟩ : ∃ D : Nat, (D : Int) = uv ls % 10 := ⟨(uv ls % 10).toNat, by omega⟩
      have hD9 : D < 10 := by omega
      have hDX : D = (uv ls).toNat % 10 := by omega
      have e1 : IntKind.u8.wrap (D : Int) = D := by simp [IntKind.wrap, IntKind.bits, IntKind.signed]; omega
      have e2 : IntKind.u8.wrap (48 + (D : Int)) = 48 + (D : Int) := by simp [IntKind.wrap, IntKind.bits, IntKind.signed]; omega
      rw [← hD]
      have HO2 := Lib.hid (OwnK.next HO.out hb2)
      have hbl2 : Below w.heap.size w w2 := hbl.trans (hb2.mono hbl.size)
      have HU2 := Lib.hid huv2
      have HDX := Lib.hid hDX
      have HL2 := Lib.hid hl2
      clear hD hDX huv2 hl2
      go_wp2_with (at_builtin; refine wp_app8 rfl (.tmp 22) (.tmp 26) 40 rfl w.heap.size 5 .u8 i0 _ Tryd.underlying40 hi0 hz0 hz1 hz2 rfl _ (bInt st) _ rfl HO2.out rfl hlen hbl2.size ?_; intro v' w3 hown3 hb3 hG3)
      rw [bInt_snoc st D hD9] at hown3
      have harg3 : Arg w3 A2 c2 ls2 := ⟨SlR.kept hsl2 (fun g hg => (World.ownsRow.lt HO.out g hg).2) hG3, hus2, hcap2⟩
      have hbl3 : Below w.heap.size w w3 := hbl2.trans hb3
      have HO3 := Lib.hid hown3
      have HST := Lib.hid (dec_step HD.out)
      have HRM := Lib.hid (dec_room HD.out)
      have hU2 := uv_nonneg hus2
      clear hown3 hG3 hb3 hb2 hsl2 harg
      go_wp2_with (fail)
      refine (limbSign_n A2 c2 n ls2 _ (hw.below hbl3) harg3 HL2.out l1 l8).mono ?_
      rintro e w4 ⟨s4, rfl, hs4, _, hb4⟩
      have HS4 := Lib.hid hs4
      clear hs4
      have hbl4 : Below w.heap.size w w4 := hbl3.trans (hb4.mono hbl3.size)
      have HO4 := Lib.hid (OwnK.next HO3.out hb4)
      have harg4 := harg3.next hb4
      obtain ⟨A5, c5, hv5, hc5, hp5⟩ := OwnK.slice_ HO4.out (bInt_length _)
      obtain ⟨g, hg1, hg2⟩ := hp5 (by simp)
      subst hg1
      subst hv5
      obtain ⟨m, hm⟩ : ∃ m, m = (st ++ [dig D]).length := ⟨_, rfl⟩
      have hrl : (bInt (st ++ [dig D])).length = m := by rw [hm]; exact bInt_length _
      have hlz : m ≤ 1000000 := by have := HRM.out; have := HDL.out; rw [hm, List.length_append, List.length_singleton]; omega
      have hm1 : 1 ≤ m := by rw [hm]; simp
      rw [← hm] at HO4 ⊢
      have HM := Lib.hid hm
      clear hm hc5 hp5
      by_cases hs0 : s4 = 0
      · have hs0' : (s4 == 0) = true := by rw [beq_iff_eq]; exact hs0
        have HLAST := Lib.hid (show (st ++ [dig D]).reverse = decN N by
          have h1 := HU2.out
          have h2 := HS4.out.1 hs0
          rw [HDX.out]
          exact HST.out.2 (by omega))
        clear hs0 HST
        go_wp2_with (fail)
        refine (reverse_any w.heap.size g m c5 (bInt (st ++ [dig D])) w4 hbl4.size hg2 HO4.out hrl hlz hm1).mono ?_
        rintro e w5 ⟨rfl, hown5, hb5⟩
        rw [bInt_reverse, HLAST.out] at hown5
        have hcv := own_text hown5 (by rw [← HLAST.out, List.length_reverse]; exact HM.out.symm)
        have hsz1 : (bs sg).size ≤ 1000000 := by rw [bs_size, HS.out]; unfold sgL; split <;> simp
        have hsz2 : (bs (decN N)).size ≤ 1000000 := by rw [bs_size]; have := HDL.out; omega
        clear hown5
        go_wp2
        simp only [Exit.jump]
        go_ret
        exact ⟨ret_str (bs_append _ _), hbl4.trans hb5⟩
      · have hs0' : (s4 == 0) = false := by rw [beq_eq_false_iff_ne]; exact hs0
        have HNEXT := Lib.hid (show decN (uv ls2).toNat ++ (st ++ [dig D]).reverse = decN N by
          have h1 := HU2.out
          have h2 : ¬ uv ls2 = 0 := fun e => hs0 (HS4.out.2 e)
          have h3 : (uv ls2).toNat = (uv ls).toNat / 10 := by omega
          rw [HDX.out, h3]
          exact HST.out.1 (by omega))
        clear hs0
        go_wp2
        go_step3
        exact ⟨rfl, _, _, _, _, _, _, _, _, _, _, _, _, _, _, _, _, _, _, _, _, _, _, _, _, _, _, _, _, _, _, _, _, _, ⟨A2, c2, ls2, st ++ [dig D], rfl, harg4, HL2.out, HO4.out, HNEXT.out, hbl4⟩, rfl⟩
  · rintro a' w' ⟨u3, u5, u6, u7, u8, u9, u10, u11, u12, u13, u14, u15, u16, u17, u18, u19, u20, u21, u22, u23, u24, u25, u26, u27, u28, u29, u30, u31, u32, u33, u34, u35, u36, ⟨A1, c1, ls, st, rfl, harg, hl, hown, hdec, hbl⟩, rfl⟩
    have HO := Lib.hid hown
    have HD := Lib.hid hdec
    have HLs := Lib.hid hl
    have hlen : (bInt st).length ≤ 1000000000 := by rw [bInt_length]; have := dec_room hdec; have := HDL.out; omega
    obtain ⟨i0, hi0, hz0, hz1, hz2⟩ := info_parts infoByte
    clear hown hdec hl
    go_wp2_with (fail)
    refine (decDiv_n A1 c1 n ls _ (hw.below hbl) harg HLs.out l1 l8).mono ?_
    rintro e w2 ⟨A2, c2, ls2, rfl, hsl2, hus2, hcap2, hl2, huv2, hb2⟩
    have hU := uv_nonneg harg.us
    obtain ⟨D, hD⟩ : ∃ D : Nat, (D : Int) = uv ls % 10 := ⟨(uv ls % 10).toNat, by omega⟩
    have hD9 : D < 10 := by omega
    have hDX : D = (uv ls).toNat % 10 := by omega
    have e1 : IntKind.u8.wrap (D : Int) = D := by simp [IntKind.wrap, IntKind.bits, IntKind.signed]; omega
    have e2 : IntKind.u8.wrap (48 + (D : Int)) = 48 + (D : Int) := by simp [IntKind.wrap, IntKind.bits, IntKind.signed]; omega
    rw [← hD]
    have HO2 := Lib.hid (OwnK.next HO.out hb2)
    have hbl2 : Below w.heap.size w w2 := hbl.trans (hb2.mono hbl.size)
    have HU2 := Lib.hid huv2
    have HDX := Lib.hid hDX
    have HL2 := Lib.hid hl2
    clear hD hDX huv2 hl2
    go_wp2_with (at_builtin; refine wp_app8 rfl (.tmp 22) (.tmp 26) 40 rfl w.heap.size 5 .u8 i0 _ Tryd.underlying40 hi0 hz0 hz1 hz2 rfl _ (bInt st) _ rfl HO2.out rfl hlen hbl2.size ?_; intro v' w3 hown3 hb3 hG3)
    rw [bInt_snoc st D hD9] at hown3
    have harg3 : Arg w3 A2 c2 ls2 := ⟨SlR.kept hsl2 (fun g hg => (World.ownsRow.lt HO.out g hg).2) hG3, hus2, hcap2⟩
    have hbl3 : Below w.heap.size w w3 := hbl2.trans hb3
    have HO3 := Lib.hid hown3
    have HST := Lib.hid (dec_step HD.out)
    have HRM := Lib.hid (dec_room HD.out)
    have hU2 := uv_nonneg hus2
    clear hown3 hG3 hb3 hb2 hsl2 harg
    go_wp2_with (fail)
    refine (limbSign_n A2 c2 n ls2 _ (hw.below hbl3) harg3 HL2.out l1 l8).mono ?_
    rintro e w4 ⟨s4, rfl, hs4, _, hb4⟩
    have HS4 := Lib.hid hs4
    clear hs4
    have hbl4 : Below w.heap.size w w4 := hbl3.trans (hb4.mono hbl3.size)
    have HO4 := Lib.hid (OwnK.next HO3.out hb4)
    have harg4 := harg3.next hb4
    obtain ⟨A5, c5, hv5, hc5, hp5⟩ := OwnK.slice_ HO4.out (bInt_length _)
    obtain ⟨g, hg1, hg2⟩ := hp5 (by simp)
    subst hg1
    subst hv5
    obtain ⟨m, hm⟩ : ∃ m, m = (st ++ [dig D]).length := ⟨_, rfl⟩
    have hrl : (bInt (st ++ [dig D])).length = m := by rw [hm]; exact bInt_length _
    have hlz : m ≤ 1000000 := by have := HRM.out; have := HDL.out; rw [hm, List.length_append, List.length_singleton]; omega
    have hm1 : 1 ≤ m := by rw [hm]; simp
    rw [← hm] at HO4 ⊢
    have HM := Lib.hid hm
    clear hm hc5 hp5
    by_cases hs0 : s4 = 0
    · have hs0' : (s4 == 0) = true := by rw [beq_iff_eq]; exact hs0
      have HLAST := Lib.hid (show (st ++ [dig D]).reverse = decN N by
        have h1 := HU2.out
        have h2 := HS4.out.1 hs0
        rw [HDX.out]
        exact HST.out.2 (by omega))
      clear hs0 HST
      go_wp2_with (fail)
      refine (reverse_any w.heap.size g m c5 (bInt (st ++ [dig D])) w4 hbl4.size hg2 HO4.out hrl hlz hm1).mono ?_
      rintro e w5 ⟨rfl, hown5, hb5⟩
      rw [bInt_reverse, HLAST.out] at hown5
      have hcv := own_text hown5 (by rw [← HLAST.out, List.length_reverse]; exact HM.out.symm)
      have hsz1 : (bs sg).size ≤ 1000000 := by rw [bs_size, HS.out]; unfold sgL; split <;> simp
      have hsz2 : (bs (decN N)).size ≤ 1000000 := by rw [bs_size]; have := HDL.out; omega
      clear hown5
      go_wp2
      simp only [Exit.jump]
      go_ret
      exact ⟨ret_str (bs_append _ _), hbl4.trans hb5⟩
    · have hs0' : (s4 == 0) = false := by rw [beq_eq_false_iff_ne]; exact hs0
      have HNEXT := Lib.hid (show decN (uv ls2).toNat ++ (st ++ [dig D]).reverse = decN N by
        have h1 := HU2.out
        have h2 : ¬ uv ls2 = 0 := fun e => hs0 (HS4.out.2 e)
        have h3 : (uv ls2).toNat = (uv ls).toNat / 10 := by omega
        rw [HDX.out, h3]
        exact HST.out.1 (by omega))
      clear hs0
      go_wp2
      go_step3
      exact ⟨rfl, ⟨_, _, _, _, _, _, _, _, _, _, _, _, _, _, _, _, _, _, _, _, _, _, _, _, _, _, _, _, _, _, _, _, _, ⟨A2, c2, ls2, st ++ [dig D], rfl, harg4, HL2.out, HO4.out, HNEXT.out, hbl4⟩, rfl⟩, by
        have h1 := HRM.out
        have h2 := own_len HO.out
        rw [bInt_length] at h2
        have h3 := HM.out
        rw [List.length_append, List.length_singleton] at h3
        show (decN N).length - m < (decN N).length - sLen u5
        omega⟩
end Go.Proofs.YtpdmpmlieligoaaDoor
