/-
  Layer 11: ArrayWrites, ArrayEvents, ArrayIsOblivious.
-/
import Derived.Test.YtknldcogmbbgjaaDoorLaw11b
namespace Go.Proofs.YtknldcogmbbgjaaDoor
open Go.RowKit Go.Maps
set_option maxRecDepth 100000
set_option linter.unusedVariables false
set_option linter.unusedSimpArgs false

theorem st_empty (w0 w : World) (h : w0.heap.size ≤ w.heap.size) : St w0.heap.size w.heap.size w none [] none [] (.slice none 0 0) [] :=
  ⟨fun _ => False, fun _ => False, 0, h, Nat.le_refl _, .inl ⟨rfl, rfl⟩, .inl ⟨rfl, rfl⟩, OwnK.nil_ _ _ _ _, fun _ h => h.elim, fun _ h => h.elim, fun g hg => by simp [Value.ownBlock] at hg⟩
theorem St.newT {B C : Nat} {w w' : World} {u : Option Addr} {lu : List Ev} {v : Value} {ys : List Int} {tb : Nat} (h : St B C w none [] u lu v ys) (hb : Below w.heap.size w w') (ht : TapeW w' (fun g => w.heap.size ≤ g) tb []) : St B w'.heap.size w' (some ⟨tb, 0, none⟩) [] u lu v ys := by
  obtain ⟨T, U, base, h⟩ := h
  have hbc := h.bc
  have hcw := h.cw
  have hsz := hb.size
  exact ⟨fun g => w.heap.size ≤ g ∧ g < w'.heap.size, U, base, by omega, Nat.le_refl _, ht.now.o, h.two.next hb, h.row.keep_ fun g hg => hb.block g (h.row.lt_ g hg).2, fun g hg => ⟨by omega, hg.2, fun e => by have := (h.inU g e).2; omega⟩, fun g hg => by have := h.inU g hg; omega,
    fun g hg => by obtain ⟨k1, k2, k3, k4⟩ := h.inV g hg; exact ⟨k1, by omega, fun e => by omega, k4⟩⟩
theorem St.newV {B C : Nat} {w w' : World} {t u : Option Addr} {lt lu : List Ev} {v v' : Value} {ys zs : List Int} (h : St B C w t lt u lu v ys) (hb : Below w.heap.size w w') (hrow : OwnK w' w.heap.size 23 .u64 v' zs) : St B w'.heap.size w' t lt u lu v' zs := by
  obtain ⟨T, U, base, h⟩ := h
  have hbc := h.bc
  have hcw := h.cw
  have hsz := hb.size
  exact ⟨T, U, w.heap.size, by omega, Nat.le_refl _, h.one.next hb, h.two.next hb, hrow, fun g hg => by obtain ⟨k1, k2, k3⟩ := h.inT g hg; exact ⟨k1, by omega, k3⟩, fun g hg => by obtain ⟨k1, k2⟩ := h.inU g hg; exact ⟨k1, by omega⟩,
    fun g hg => by have := hrow.lt_ g hg; exact ⟨by omega, this.2, fun e => by have := (h.inT g e).2.1; omega, fun e => by have := (h.inU g e).2; omega⟩⟩
theorem wrL_us {xs : List Int} {i x : Int} (h : Us xs) (hx : U x) : Us (wrL xs i x) := fun y hy => by
  unfold wrL at hy
  split at hy
  · rcases List.mem_or_eq_of_mem_set hy with h1 | rfl
    · exact h y h1
    · exact hx
  · exact h y hy
theorem rd_wr {xs : List Int} {i x : Int} (h0 : 0 ≤ i) (h : i < xs.length) : rdL (wrL xs i x) i = x := by
  unfold rdL wrL
  rw [if_pos h, List.length_set, if_pos h, dgt_lt (by rw [List.length_set]; omega)]
  simp
set_option maxHeartbeats 2000000 in
theorem law_arrayWrites (A : Option Addr) (c : Nat) (xs : List Int) (i x : Int) (w : World) (hw : Wts w) (ha : ArgW w A c xs) (hi : U i) (hx : U x) (hml : xs.length ≤ maxLen) :
    Calls Tryd.prog 4 #[.slice A xs.length c, .int .u64 i, .int .u64 x] w fun e w' => e = .returned (.bool true) ∧ Below w.heap.size w w' := by
  unfold maxLen at hml
  by_cases hgt : 500 < xs.length
  · go_enter Tryd.func4, Tryd.ntmps4
    go_wp2_with (fail)
    refine (alive11_any w hw).mono ?_
    rintro e w1 ⟨rfl, hb⟩
    go_wp2
    go_ret
    exact ⟨rfl, hb⟩
  · have hz := wrap_u64' (x := (xs.length : Int)) (by omega) (by omega)
    go_enter Tryd.func4, Tryd.ntmps4
    go_wp2_with (fail)
    refine (cloneU_any A c xs _ w ha.sl (by omega)).mono ?_
    rintro e w1 ⟨v, rfl, hown, hb1⟩
    obtain ⟨A1, c1, rfl, hc1, _, -⟩ := hown.form
    have st1 := (st_empty w w (Nat.le_refl _)).newV hb1 hown
    clear hown
    go_wp2_with (fail)
    refine (arrWrite_m hw st1 hb1 (by simp) (by omega) ha.us hi hx).mono ?_
    rintro e w2 ⟨rfl, st2, h2⟩
    rw [addT_none] at st2
    go_wp2_with (fail)
    refine (alive11_any w2 (hw.below h2)).mono ?_
    rintro e w3 ⟨rfl, hb3⟩
    have st3 := st2.next hb3
    have h3 := h2.trans (hb3.mono h2.size)
    go_wp2_with (fail)
    refine (ref11Write_any A c xs i x _ w3 (ha.next h3).sl ha.nil (by omega) hi).mono ?_
    rintro e w4 ⟨v2, rfl, hown2, hb4⟩
    have st4 := st3.next hb4
    have h4 := h3.trans (hb4.mono h3.size)
    obtain ⟨A2, c2, rfl, hc2, _, hs2⟩ := hown2.form
    obtain ⟨base, hrow⟩ := st4.row_
    obtain ⟨hn, hsl⟩ := own_cells hrow
    have HN := Lib.hid hn
    have HWL := Lib.hid (wrL_len xs i x)
    clear hn
    go_wp2_with (fail)
    refine (equalU_n hsl hs2 HN.out rfl (by omega) (by have := HWL.out; omega) true (by simp)).mono ?_
    rintro e w5 ⟨rfl, hb5⟩
    have st5 := st4.next hb5
    have h5 := h4.trans (hb5.mono h4.size)
    clear hrow hsl hs2 hown2 HN HWL
    by_cases hlt : i < xs.length
    · have hd : decide ((xs.length : Int) ≤ i) = false := decide_eq_false (by omega)
      go_wp2_with (fail)
      refine (arrRead_m i hw st5 h5 (by simp) (by omega) hi (wrL_us ha.us hx)).mono ?_
      rintro e w6 ⟨rfl, st6, h6⟩
      rw [rd_wr hi.1 hlt]
      have hd2 : (x == x) = true := beq_self_eq_true _
      go_wp2
      go_ret
      exact ⟨rfl, h6⟩
    · have hd : decide ((xs.length : Int) ≤ i) = true := decide_eq_true (by omega)
      go_wp2
      go_ret
      exact ⟨rfl, h5⟩
theorem lit6_ls (w : World) (A0 A1 A2 A3 A4 A5 : Option Addr) (c0 c1 c2 c3 c4 c5 : Nat) (l0 l1 l2 l3 l4 l5 : List Ev) (t : TypeId)
    (h0 : EvsR w (fun _ => True) A0 l0 ∧ (A0 = none → c0 = 0)) (h1 : EvsR w (fun _ => True) A1 l1 ∧ (A1 = none → c1 = 0)) (h2 : EvsR w (fun _ => True) A2 l2 ∧ (A2 = none → c2 = 0)) (h3 : EvsR w (fun _ => True) A3 l3 ∧ (A3 = none → c3 = 0)) (h4 : EvsR w (fun _ => True) A4 l4 ∧ (A4 = none → c4 = 0)) (h5 : EvsR w (fun _ => True) A5 l5 ∧ (A5 = none → c5 = 0)) :
    EvLs (w.alloc (.cells #[.slice A0 l0.length c0, .slice A1 l1.length c1, .slice A2 l2.length c2, .slice A3 l3.length c3, .slice A4 l4.length c4, .slice A5 l5.length c5] t)) w.heap.size 0 [(A0, c0, l0), (A1, c1, l1), (A2, c2, l2), (A3, c3, l3), (A4, c4, l4), (A5, c5, l5)] := by
  have hb : Below w.heap.size w (w.alloc (.cells #[.slice A0 l0.length c0, .slice A1 l1.length c1, .slice A2 l2.length c2, .slice A3 l3.length c3, .slice A4 l4.length c4, .slice A5 l5.length c5] t)) := (Below.refl _ _).alloc (Nat.le_refl _) _
  refine ⟨fun j p hp => ?_, fun p hp => ?_⟩
  · match j, hp with
    | 0, hp => simp at hp; subst hp; simp [go_sem]
    | 1, hp => simp at hp; subst hp; simp [go_sem]
    | 2, hp => simp at hp; subst hp; simp [go_sem]
    | 3, hp => simp at hp; subst hp; simp [go_sem]
    | 4, hp => simp at hp; subst hp; simp [go_sem]
    | 5, hp => simp at hp; subst hp; simp [go_sem]
  · simp only [List.mem_cons, List.not_mem_nil, or_false] at hp
    rcases hp with rfl | rfl | rfl | rfl | rfl | rfl
    · exact ⟨h0.1.next hb, h0.2⟩
    · exact ⟨h1.1.next hb, h1.2⟩
    · exact ⟨h2.1.next hb, h2.2⟩
    · exact ⟨h3.1.next hb, h3.2⟩
    · exact ⟨h4.1.next hb, h4.2⟩
    · exact ⟨h5.1.next hb, h5.2⟩
theorem concatEv_r (b o c : Nat) (Ls : List (Option Addr × Nat × List Ev)) (M : List Ev) (w : World) (h : EvLs w b o Ls) (hM : totE Ls = M) (h0 : 0 < Ls.length) (hl : Ls.length ≤ 1000) (ht : M.length ≤ 1000000) :
    Calls Tryd.prog 26 #[.slice (some ⟨b, o, none⟩) Ls.length c] w (GivesEv w M) := by
  subst hM
  exact concatEv_any b o c Ls w h h0 hl ht
theorem ref10Same_r (A B : Option Addr) (c d : Nat) (l m : List Ev) (T U : Nat → Prop) (w : World) (r : Bool) (ha : EvsR w T A l) (hb : EvsR w U B m) (hl : l.length ≤ 1000000) (hm : m.length ≤ 1000000) (hr : decide (l = m) = r) :
    Calls Tryd.prog 24 #[.slice A l.length c, .slice B m.length d] w fun e w' => e = .returned (.bool r) ∧ ∃ n, w' = w.drewN n := by rw [← hr]; exact ref10Same_any A B c d l m T U w ha hb hl hm
theorem evR_len (k : Int) (n : Nat) : (evR k n).length = n := by unfold evR; simp
set_option maxHeartbeats 2000000 in
theorem law_arrayEvents (A : Option Addr) (c : Nat) (xs : List Int) (i x : Int) (w : World) (hw : Wts w) (ha : ArgW w A c xs) (hi : U i) (hx : U x) (hml : xs.length ≤ maxLen) :
    Calls Tryd.prog 7 #[.slice A xs.length c, .int .u64 i, .int .u64 x] w fun e w' => e = .returned (.bool true) ∧ Below w.heap.size w w' := by
  unfold maxLen at hml
  by_cases hgt : 500 < xs.length
  · go_enter Tryd.func7, Tryd.ntmps7
    go_wp2_with (fail)
    refine (alive11_any w hw).mono ?_
    rintro e w1 ⟨rfl, hb⟩
    go_wp2
    go_ret
    exact ⟨rfl, hb⟩
  · have HWL := Lib.hid (wrL_len xs i x)
    go_enter Tryd.func7, Tryd.ntmps7
    go_wp2_with (fail)
    refine (tapeNew_any w).mono ?_
    rintro e w1 ⟨tb, rfl, ht, hb1⟩
    have st1 := (st_empty w w (Nat.le_refl _)).newT hb1 ht
    go_wp2_with (fail)
    refine (cloneU_any A c xs _ w1 (ha.next hb1).sl (by omega)).mono ?_
    rintro e w2 ⟨v, rfl, hown, hb2⟩
    obtain ⟨A1, c1, rfl, hc1, _, -⟩ := hown.form
    have st2 := st1.newV hb2 hown
    have h2 := hb1.trans (hb2.mono hb1.size)
    clear ht hown st1
    go_wp2_with (fail)
    refine (arrRead_m i hw st2 h2 (by simp only [addT_some, List.length_append, evR_len, List.length_nil]; omega) (by omega) hi ha.us).mono ?_
    rintro e w3 ⟨rfl, st3, h3⟩
    clear st2 h2
    go_wp2_with (fail)
    refine (arrWrite_m hw st3 h3 (by simp only [addT_some, List.length_append, evR_len, List.length_nil]; omega) (by omega) ha.us hi hx).mono ?_
    rintro e w4 ⟨rfl, st4, h4⟩
    clear st3 h3
    have hus := wrL_us (i := i) ha.us hx
    go_wp2_with (fail)
    refine (arrCount_m hw st4 h4 (by simp only [addT_some, List.length_append, evR_len, List.length_nil]; omega) (by omega) hus).mono ?_
    rintro e w5 ⟨rfl, st5, h5⟩
    clear st4 h4
    go_wp2_with (fail)
    refine (arrFirst_m hw st5 h5 (by simp only [addT_some, List.length_append, evR_len, List.length_nil]; omega) (by omega) hus).mono ?_
    rintro e w6 ⟨rfl, st6, h6⟩
    clear st5 h5
    go_wp2_with (fail)
    refine (arrAll_m hw st6 h6 (by simp only [addT_some, List.length_append, evR_len, List.length_nil]; omega) (by omega) hus).mono ?_
    rintro e w7 ⟨rfl, st7, h7⟩
    clear st6 h6
    go_wp2_with (fail)
    refine (arrSome_m hw st7 h7 (by simp only [addT_some, List.length_append, evR_len, List.length_nil]; omega) (by omega) hus).mono ?_
    rintro e w8 ⟨rfl, st8, h8⟩
    clear st7 h7
    simp only [addT_some, List.nil_append] at st8
    obtain ⟨T8, ht8⟩ := st8.lenT
    clear st8
    obtain ⟨LL, hLL⟩ : ∃ LL, LL = evR 1 xs.length ++ evR 2 xs.length ++ evR 1 xs.length ++ evR 1 xs.length ++ evR 1 xs.length ++ evR 1 xs.length := ⟨_, rfl⟩
    rw [← hLL] at ht8
    have hlen : LL.length ≤ 1000000 := by rw [hLL]; simp only [List.length_append, evR_len]; omega
    have HLL := Lib.hid hLL
    clear hLL
    obtain ⟨E1, hE1l⟩ : ∃ E1, E1 = evR 1 xs.length := ⟨_, rfl⟩
    obtain ⟨E2, hE2l⟩ : ∃ E2, E2 = evR 2 xs.length := ⟨_, rfl⟩
    have HE1 := Lib.hid hE1l
    have HE2 := Lib.hid hE2l
    clear hE1l hE2l
    go_wp2_with (fail)
    refine (ref11Events_any 1 xs.length (by omega) w8).mono ?_
    rintro e w9 ⟨AE1, cE1, rfl, hcE1, hE1, hb9⟩
    rw [← HE1.out] at hE1 ⊢
    have h9 := h8.trans (hb9.mono h8.size)
    go_wp2_with (fail)
    refine (ref11Events_any 2 xs.length (by omega) w9).mono ?_
    rintro e w10 ⟨AE2, cE2, rfl, hcE2, hE2, hb10⟩
    rw [← HE2.out] at hE2 ⊢
    have h10 := h9.trans (hb10.mono h9.size)
    have hE1b := hE1.next hb10
    have ht10 := (ht8.next hb9).next hb10
    clear ht8 hE1
    go_wp2_with (fail)
    refine (alive11_any w10 (hw.below h10)).mono ?_
    rintro e w11 ⟨rfl, hb11⟩
    have h11 := h10.trans (hb11.mono h10.size)
    have ht11 := ht10.next hb11
    clear ht10
    go_wp2_with (fail)
    refine (tapeEvents_any _ _ _ w11 ht11 hlen).mono ?_
    rintro e w12 ⟨AT, cT, rfl, hcT, hT, hb12⟩
    have h12 := h11.trans (hb12.mono h11.size)
    have hF1 := (hE1b.next hb11).next hb12
    have hF2 := (hE2.next hb11).next hb12
    clear hE1b hE2 ht11
    obtain ⟨M, hM⟩ : ∃ M, totE [(AE1, cE1, E1), (AE2, cE2, E2), (AE1, cE1, E1), (AE1, cE1, E1), (AE1, cE1, E1), (AE1, cE1, E1)] = M := ⟨_, rfl⟩
    have HLM := Lib.hid (show LL = M by rw [← hM, HLL.out, ← HE1.out, ← HE2.out]; simp [totE, List.append_assoc])
    have hF1a : EvsR w12 (fun _ => True) AE1 E1 := hF1.imp fun _ _ => trivial
    have hF2a : EvsR w12 (fun _ => True) AE2 E2 := hF2.imp fun _ _ => trivial
    have hls := lit6_ls w12 AE1 AE2 AE1 AE1 AE1 AE1 cE1 cE2 cE1 cE1 cE1 cE1 E1 E2 E1 E1 E1 E1 38 ⟨hF1a, hcE1⟩ ⟨hF2a, hcE2⟩ ⟨hF1a, hcE1⟩ ⟨hF1a, hcE1⟩ ⟨hF1a, hcE1⟩ ⟨hF1a, hcE1⟩
    clear hF1 hF2 hF1a hF2a
    go_wp2_with (fail)
    refine (concatEv_r w12.heap.size 0 6 _ M _ hls hM (by simp) (by simp) (by rw [← HLM.out]; exact hlen)).mono ?_
    rintro e w13 ⟨AM, cM, rfl, hcM, hM2, hb13⟩
    have h13 := (h12.alloc h12.size _).trans (hb13.mono (h12.alloc h12.size _).size)
    have hT13 := (hT.next ((Below.refl _ _).alloc (Nat.le_refl _) _)).next hb13
    go_wp2_with (fail)
    refine (ref10Same_r AT AM cT cM LL M _ _ w13 true hT13 hM2 hlen (by rw [← HLM.out]; exact hlen) (by rw [HLM.out]; simp)).mono ?_
    rintro e w14 ⟨rfl, n14, rfl⟩
    go_wp2
    go_ret
    exact ⟨rfl, below_drewN' h13 n14⟩
def mulL (xs : List Int) (i k : Int) (j : Nat) : List Int := (xs.take j).map (fun x => IntKind.u64.wrap (IntKind.u64.wrap (x * i) + k)) ++ xs.drop j
theorem mulL_len (xs : List Int) (i k : Int) (j : Nat) : (mulL xs i k j).length = xs.length := by unfold mulL; simp [List.length_take, List.length_drop]; omega
theorem U_wrapx (x : Int) : U (IntKind.u64.wrap x) := by
  unfold U; simp [IntKind.wrap, IntKind.signed, IntKind.bits]; omega
theorem mulL_us {xs : List Int} {i k : Int} {j : Nat} (h : Us xs) : Us (mulL xs i k j) := fun y hy => by
  unfold mulL at hy
  rcases List.mem_append.1 hy with hy | hy
  · obtain ⟨z, _, rfl⟩ := List.mem_map.1 hy
    exact U_wrapx _
  · exact h y (List.mem_of_mem_drop hy)
theorem mulL_at {xs : List Int} {i k : Int} {j : Nat} (h : j < xs.length) : dgt (mulL xs i k j) j = xs[j] := by
  rw [dgt_lt (by rw [mulL_len]; exact h)]
  unfold mulL
  rw [List.getElem_append_right (by simp; omega)]
  simp [List.length_take, Nat.min_eq_left (Nat.le_of_lt h)]
theorem mulL_succ {xs : List Int} {i k : Int} {j : Nat} (h : j < xs.length) : mulL xs i k (j + 1) = (mulL xs i k j).set j (IntKind.u64.wrap (IntKind.u64.wrap (xs[j] * i) + k)) := by
  unfold mulL
  rw [List.take_succ_eq_append_getElem h, List.map_append, List.set_append_right _ _ (by simp; omega)]
  simp only [List.length_map, List.length_take, Nat.min_eq_left (Nat.le_of_lt h), Nat.sub_self, List.map_cons, List.map_nil, List.append_assoc, List.cons_append, List.nil_append]
  congr 1
  rw [List.drop_eq_getElem_cons h, List.set_cons_zero]
set_option maxHeartbeats 2000000 in
theorem law_arrayIsOblivious (A : Option Addr) (c : Nat) (xs : List Int) (i k : Int) (w : World) (hw : Wts w) (ha : ArgW w A c xs) (hi : U i) (hk : U k) (hml : xs.length ≤ maxLen) :
    Calls Tryd.prog 8 #[.slice A xs.length c, .int .u64 i, .int .u64 k] w fun e w' => e = .returned (.bool true) ∧ Below w.heap.size w w' := by
  unfold maxLen at hml
  by_cases hgt : 500 < xs.length
  · go_enter Tryd.func8, Tryd.ntmps8
    go_wp2_with (fail)
    refine (alive11_any w hw).mono ?_
    rintro e w1 ⟨rfl, hb⟩
    go_wp2
    go_ret
    exact ⟨rfl, hb⟩
  · go_enter Tryd.func8, Tryd.ntmps8
    go_wp2_with (fail)
    refine (cloneU_any A c xs _ w ha.sl (by omega)).mono ?_
    rintro e w1 ⟨v, rfl, hown, hb1⟩
    obtain ⟨A1, c1, rfl, hc1, hg1⟩ := hown.slice_ rfl
    go_wp2
    go_loopw [19] (fun q wr => ∃ j : Nat, q = .int .i64 j ∧ j ≤ xs.length ∧ OwnK wr w.heap.size 23 .u64 (.slice A1 xs.length c1) (mulL xs i k j) ∧ Below w.heap.size w wr) (fun q _ => xs.length - (intOf q).toNat)
    case atStart => exact ⟨0, rfl, Nat.zero_le _, by simpa [mulL] using hown, hb1⟩
    case round =>
      clear hown hb1
      obtain ⟨j, rfl, hj, hown, hb⟩ := hrel
      by_cases hgo : j < xs.length
      · obtain ⟨g, rfl, hgb⟩ := hg1 (by omega)
        have hcell := hown.cell_ (mulL_len xs i k j) hgo
        have hfr := hown.frozen_ (mulL_len xs i k j) j
        have HSET := Lib.hid (fun z => (hown.set_ (mulL_len xs i k j) j z).1)
        rw [mulL_at hgo] at hcell
        have HS := Lib.hid (mulL_succ (i := i) (k := k) hgo)
        obtain ⟨z, hz⟩ : ∃ z, z = xs[j]'hgo := ⟨_, rfl⟩
        rw [← hz] at hcell HS
        clear hz hg1 hown
        go_wp2
        go_roundw
        case rel => exact ⟨j + 1, by go_num, hgo, by rw [HS.out]; have := HSET.out (IntKind.u64.wrap (IntKind.u64.wrap (z * i) + k)); simpa using this, hb.setCell (p := ⟨g, _, none⟩) hgb _⟩
        case measure => simp [intOf]; omega
      · have HE := Lib.hid (show j = xs.length by omega)
        have hus : Us (mulL xs i k j) := mulL_us ha.us
        generalize mulL xs i k j = ms at hown hus
        have st1 := (st_empty w w (Nat.le_refl _)).newV hb hown
        clear hown hg1 HE
        have hsl := (ha.sl.lt).imp (T := fun g => g < w.heap.size) (fun g h => h.2)
        go_wp2_with (fail)
        refine (tapeNew_any wr).mono ?_
        rintro e w2 ⟨tb, rfl, ht, hb2⟩
        have st2 := (st1.newT hb2 ht).swap
        have h2 := hb.trans (hb2.mono hb.size)
        clear ht st1
        go_wp2_with (fail)
        refine (tapeNew_any w2).mono ?_
        rintro e w3 ⟨ub, rfl, ht, hb3⟩
        have st3 := (st2.newT hb3 ht).swap
        have h3 := h2.trans (hb3.mono h2.size)
        clear ht st2
        go_wp2_with (fail)
        refine (arrRead_l i hw st3 h3 (by simp only [addT_some, List.length_append, evR_len, List.length_nil]; omega) (by omega) hi (hsl.next h3) rfl (by omega) ha.us).mono ?_
        rintro e w4 ⟨rfl, st4, h4⟩
        clear st3
        go_wp2_with (fail)
        refine (arrRead_m k hw st4.swap h4 (by simp only [addT_some, List.length_append, evR_len, List.length_nil]; omega) (by omega) hk hus).mono ?_
        rintro e w5 ⟨rfl, st5, h5⟩
        clear st4
        go_wp2_with (fail)
        refine (arrFirst_l hw st5.swap h5 (by simp only [addT_some, List.length_append, evR_len, List.length_nil]; omega) (by omega) (hsl.next h5) rfl (by omega) ha.us).mono ?_
        rintro e w6 ⟨rfl, st6, h6⟩
        clear st5
        go_wp2_with (fail)
        refine (arrFirst_m hw st6.swap h6 (by simp only [addT_some, List.length_append, evR_len, List.length_nil]; omega) (by omega) hus).mono ?_
        rintro e w7 ⟨rfl, st7, h7⟩
        clear st6
        go_wp2_with (fail)
        refine (cloneU_any A c xs _ w7 (ha.next h7).sl (by omega)).mono ?_
        rintro e w8 ⟨v2, rfl, hown2, hb8⟩
        obtain ⟨A2, c2, rfl, hc2, _, -⟩ := hown2.form
        have st8 := st7.swap.next hb8
        have h8 := h7.trans (hb8.mono h7.size)
        clear st7
        go_wp2_with (fail)
        refine (arrWrite_o hw st8 h8 (by simp only [addT_some, List.length_append, evR_len, List.length_nil]; omega) (by omega) hown2 (Nat.le_refl _) ha.us hi hk).mono ?_
        rintro e w9 ⟨rfl, st9, h9⟩
        clear st8 hown2
        go_wp2_with (fail)
        refine (arrWrite_m hw st9.swap h9 (by simp only [addT_some, List.length_append, evR_len, List.length_nil]; omega) (by omega) hus hk hi).mono ?_
        rintro e wa ⟨rfl, sta, ha2⟩
        clear st9
        go_wp2_with (fail)
        refine (alive11_any wa (hw.below ha2)).mono ?_
        rintro e wb ⟨rfl, hbb⟩
        have hb9 := ha2.trans (hbb.mono ha2.size)
        obtain ⟨U, T, hu, ht⟩ := (sta.next hbb).two_
        clear sta
        go_wp2_with (fail)
        refine (tapeEqual_any _ _ _ _ true _ _ wb ht hu (by simp only [addT_some, List.length_append, evR_len, List.length_nil]; omega) (by simp only [addT_some, List.length_append, evR_len, List.length_nil]; omega) (by simp [addT_some])).mono ?_
        rintro e wc ⟨rfl, hbc⟩
        go_wp2
        go_ret
        exact ⟨rfl, hb9.trans (hbc.mono hb9.size)⟩
end Go.Proofs.YtknldcogmbbgjaaDoor
