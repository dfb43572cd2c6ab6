/-
  Layer 10: law TapeSums.
-/
import Derived.Test.YtmgdonkfkpppcaaLaw10
namespace Go.Proofs.Ytmgdonkfkpppcaa
open Go.RowKit Go.Maps
set_option maxRecDepth 100000
set_option linter.unusedVariables false
set_option linter.unusedSimpArgs false

theorem plainElem_bool_inv {H : Type} {P : Program} {e : TypeId} (he : P.underlying e = some .bool) {v : Value} {z : DataW H × List MemPlace} (h : plainElem P e v = some z) : ∃ x, v = .bool x ∧ z = (.lit (.bool x), []) := by
  unfold plainElem at h
  rw [he] at h
  cases v <;> simp at h
  exact ⟨_, rfl, h.symm⟩
/-- A look-up in a map of Booleans that the call made. -/
theorem lookup_bool {H : Type} {P : Program} {w : World} {k t e : TypeId} {b n : Nat} {D : DataW H} (h : w.ownsMap P k (plainElem P e) b n D) (K : Keyed P k) (ht : P.underlying t = some (.map k e)) (he : P.underlying e = some .bool) (hz : (zeroValue e).run P w = .ok (.bool false) w)
    {key : Value} {kl : Lit} (hkey : keyOf P k key = some kl) : ∃ c, (Instr.lookup t (.map (some b)) key false).run P w = .ok (.bool c) w ∧ D.atKey kl (.lit (.bool false)) = .lit (.bool c) := by
  obtain ⟨v, ps, hrun, hv⟩ := h.lookup K ht hz (plainElem_bool he false) hkey
  obtain ⟨c, rfl, hc⟩ := plainElem_bool_inv he hv
  simp only [Prod.mk.injEq] at hc
  exact ⟨c, hrun, hc.1⟩
def seenB (p : List Ev) (x : Int) : Bool := p.any fun f => f.k == x
/-- How many events of l have a kind that occurs in p. -/
def seenC (l p : List Ev) : Nat := l.countP fun e => seenB p e.k
theorem seenB_snoc (p : List Ev) (f : Ev) (x : Int) : seenB (p ++ [f]) x = (seenB p x || f.k == x) := by unfold seenB; rw [List.any_append]; simp
theorem seenC_new {p : List Ev} {f : Ev} (h : seenB p f.k = false) : ∀ l, seenC l (p ++ [f]) = seenC l p + cntK l f.k
  | [] => rfl
  | e :: l => by
    have ih := seenC_new h l
    unfold seenC cntK at *
    rw [List.countP_cons, List.countP_cons, List.countP_cons, ih, seenB_snoc]
    by_cases he : e.k = f.k
    · rw [he, h]; simp; omega
    · have h1 : (f.k == e.k) = false := by rw [beq_eq_false_iff_ne]; exact fun h => he h.symm
      have h2 : (e.k == f.k) = false := by rw [beq_eq_false_iff_ne]; exact he
      rw [h1, h2, Bool.or_false]; simp; omega
theorem seenC_old {p : List Ev} {f : Ev} (h : seenB p f.k = true) (l : List Ev) : seenC l (p ++ [f]) = seenC l p := by
  unfold seenC
  congr 1
  funext e
  rw [seenB_snoc]
  by_cases he : f.k = e.k
  · rw [← he, h]; rfl
  · have h1 : (f.k == e.k) = false := by rw [beq_eq_false_iff_ne]; exact he
    rw [h1, Bool.or_false]
theorem seenC_all (l : List Ev) : seenC l l = l.length := by
  unfold seenC
  rw [List.countP_eq_length]
  intro e he
  unfold seenB
  rw [List.any_eq_true]
  exact ⟨e, he, by simp⟩
theorem seenC_le (l p : List Ev) : seenC l p ≤ l.length := List.countP_le_length
theorem TapeW.lt {w : World} {T : Nat → Prop} {tb : Nat} {l : List Ev} (h : TapeW w T tb l) : TapeW w (fun b => T b ∧ b < w.heap.size) tb l := by
  obtain ⟨v, mb, n, D, hT, hM, hV, hh, hrow, hmap, rest⟩ := h
  exact ⟨v, mb, n, D, ⟨hT, (Array.getElem?_eq_some_iff.1 hh).1⟩, ⟨hM, hmap.lt⟩, fun g hg => ⟨hV g hg, (hrow.lt g hg).2⟩, hh, hrow, hmap, rest⟩
theorem map_next {H : Type} {P : Program} {w w' : World} {k : TypeId} {R : Value → Option (DataW H × List MemPlace)} {b n : Nat} {D : DataW H} (h : w.ownsMap P k R b n D) (hb : Below w.heap.size w w') : w'.ownsMap P k R b n D := by
  obtain ⟨es, ck, hm, rest⟩ := h
  exact ⟨es, ck, (hb.block b (Array.getElem?_eq_some_iff.1 hm).1).trans hm, rest⟩
theorem zero_bool (w : World) : (zeroValue 4).run Try.prog w = .ok (.bool false) w := by kernel_rfl
def SumRel (w w1 : World) (l : List Ev) (tb : Nat) (nv i : Value) (wr : World) : Prop := ∃ (k : Nat) (D : DataW Unit), i = .int .i64 k ∧ k ≤ l.length ∧ nv = .int .i64 (seenC l (l.take k)) ∧ TapeW wr (fun b => w.heap.size ≤ b ∧ b < w1.heap.size) tb l ∧
  wr.ownsMap Try.prog 3 (plainElem (H := Unit) Try.prog 4) w1.heap.size k D ∧ (∀ x, (Lit.int .i64 x).wf = true → D.atKey (.int .i64 x) (.lit (.bool false)) = .lit (.bool (seenB (l.take k) x))) ∧ Below w1.heap.size w1 wr
set_option maxHeartbeats 2000000 in
theorem law_tapeSums (A : Option Addr) (c : Nat) (l : List Ev) (w : World) (ha : EvsR w (fun _ => True) A l) (hw : WfE l) (hml : l.length ≤ maxLen) :
    Calls Try.prog 6 #[.slice A l.length c] w fun e w' => e = .returned (.bool true) ∧ Below w.heap.size w w' := by
  unfold maxLen at hml
  by_cases hgt : 1000 < l.length
  · go_enter Try.func6, Try.ntmps6
    go_wp2_with (fail)
    refine (alive10_any w).mono ?_
    rintro e w1 ⟨rfl, hb⟩
    go_wp2
    go_ret
    exact ⟨rfl, hb⟩
  · have hmm := @run_makeMap Try.prog
    go_enter Try.func6, Try.ntmps6
    go_wp2_with (fail)
    refine (record_any A c l _ w ha (by omega) hw).mono ?_
    rintro e w1 ⟨tb, rfl, ht, hb1⟩
    have ht := ht.lt
    go_wp2
    go_loopw [5, 19] (fun nv i wr => SumRel w w1 l tb nv i wr) (fun _ i _ => l.length - (intOf i).toNat)
    case atStart => exact ⟨0, .map [], rfl, Nat.zero_le _, by unfold seenC; simp [seenB], ht.next ((Below.refl _ _).alloc (Nat.le_refl _) _), World.ownsMap_made _ _ _ _, fun x _ => rfl, (Below.refl _ _).alloc (Nat.le_refl _) _⟩
    case round =>
      clear ht
      obtain ⟨k, D, rfl, hk, rfl, ht, hmap, hat, hb⟩ := hrel
      have h2 := hb1.trans (hb.mono hb1.size)
      have hsl := seenC_le l (l.take k)
      by_cases hgo : k < l.length
      · obtain ⟨b, o, rfl, _, c1, c2, c3⟩ := (ha.next h2).at_ hgo
        have hwk := hw.at_ hgo
        have HS := Lib.hid (show l.take (k + 1) = l.take k ++ [l[k]'hgo] from List.take_succ_eq_append_getElem hgo)
        have hcl := cntK_le l (l[k]'hgo).k
        generalize l[k]'hgo = e at *
        have hkey : keyOf Try.prog 3 (.int .i64 e.k) = some (.int .i64 e.k) := keyOf_int_mk Try.underlying3 hwk
        have hm1 := hmap.alloc (.cells #[.int .i64 e.k, .int .i64 e.a, .int .i64 e.b] 36)
        obtain ⟨s, hrun, hs⟩ := lookup_bool hm1 law_int Try.underlying39 Try.underlying4 (zero_bool _) hkey
        obtain rfl : s = seenB (l.take k) e.k := by have h := hs.symm.trans (hat e.k hwk); injection h with h; injection h
        have HA := Lib.hid hat
        clear hat hs ha
        have hsz := hb.size
        have htn := ht.next ((Below.refl wr.heap.size wr).alloc (Nat.le_refl _) (.cells #[.int .i64 e.k, .int .i64 e.a, .int .i64 e.b] 36))
        obtain ⟨q, hq⟩ : ∃ q, seenB (l.take k) e.k = q := ⟨_, rfl⟩
        rw [hq] at hrun
        have HQ := Lib.hid hq
        clear hq ht
        cases q with
        | true =>
          go_wp2
          go_roundw
          case rel => exact ⟨k + 1, D, by go_num, hgo, by rw [HS.out, seenC_old HQ.out], htn, hm1.mono (Nat.le_succ _), fun x hx => by
            rw [HA.out x hx, HS.out, seenB_snoc]
            by_cases he : e.k = x
            · rw [← he, HQ.out]; rfl
            · rw [show (e.k == x) = false by rw [beq_eq_false_iff_ne]; exact he, Bool.or_false], hb.alloc hsz _⟩
          case measure => simp [intOf]; omega
        | false =>
          have HN := Lib.hid (seenC_new HQ.out l)
          go_wp2_with (first
            | (at_mapUpdate; refine wpList_mapUpdate_own _ rfl _ _ _ 39 rfl 3 4 law_int Try.underlying39 _ w1.heap.size k _ rfl hm1 (by unfold maxLen; omega) _ _ _ rfl rfl hkey _ [] (plainElem_bool Try.underlying4 true) ?_
               intro w2 hm2 hgrow2
               have q0 : w2.cell? ⟨wr.heap.size, 0, none⟩ = some (.int .i64 e.k) := hgrow2.cell (a := ⟨wr.heap.size, 0, none⟩) (by simp [go_sem]) (fun h => by injection h with h; have h : wr.heap.size = w1.heap.size := h; have := hmap.lt; omega)))
          have ht2 := htn.keep (w' := w2) (fun b hT hlt => hgrow2.block b hlt (fun h => by injection h with h; have h2 : b < w1.heap.size := hT.2; omega))
          have hb2 := (hb.alloc hsz _).grown hgrow2 (by simp; omega) (fun k h => by injection h with h; exact Nat.le_of_eq h)
          refine (tapeCount_any _ l e.k _ w2 ht2.o (by omega) hwk).mono ?_
          rintro e' w3 ⟨rfl, hb3⟩
          go_wp2
          go_roundw
          case rel => exact ⟨k + 1, _, by go_num, hgo, by rw [HS.out, HN.out]; push_cast; rfl, ht2.next hb3, map_next hm2 hb3, fun x hx => by
            rw [HS.out, seenB_snoc]
            by_cases he : x = e.k
            · rw [he, atKey_put_same hmap.isMap (by simp [WideAt.IsKeyLit])]; simp
            · rw [atKey_put_other (fun h => he (by injection h)), HA.out x hx, show (e.k == x) = false by rw [beq_eq_false_iff_ne]; exact fun h => he h.symm, Bool.or_false], hb2.trans (hb3.mono hb2.size)⟩
          case measure => simp [intOf]; omega
      · have hkl : k = l.length := by omega
        have HE := Lib.hid (show seenC l (l.take k) = l.length by rw [List.take_of_length_le (by omega)]; exact seenC_all l)
        rw [HE.out]
        have hd : ((l.length : Int) == (l.length : Int)) = true := beq_self_eq_true _
        clear hat hmap hkl
        go_wp2_with (fail)
        refine (alive10_any wr).mono ?_
        rintro e w3 ⟨rfl, hb3⟩
        go_wp2_with (fail)
        refine (tapeLen_any _ l _ w3 (ht.next hb3).o (by omega)).mono ?_
        rintro e w4 ⟨rfl, hb4⟩
        have h3 := h2.trans (hb3.mono h2.size)
        go_wp2
        go_ret
        exact ⟨rfl, h3.trans (hb4.mono h3.size)⟩
end Go.Proofs.Ytmgdonkfkpppcaa
