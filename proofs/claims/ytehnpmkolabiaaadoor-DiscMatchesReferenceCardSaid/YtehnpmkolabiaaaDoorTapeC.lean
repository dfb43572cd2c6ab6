/-
  A tape in memory, and the contracts of package tape.
-/
import Derived.Test.YtehnpmkolabiaaaDoorEv
import Derived.Test.YtehnpmkolabiaaaDoorIn
import Derived.Test.YtehnpmkolabiaaaDoorRow
import Derived.Maps.Own
import Derived.Maps.OwnOps
import Derived.Maps.OwnSet
import Derived.Maps.Views
import Derived.Maps.AppendAt
import Derived.RangeFuncBox
import Derived.Lib.SliceRun
import Derived.Deep.Draws
namespace Go.Proofs.YtehnpmkolabiaaaDoor
open Go.RowKit Go.Maps
set_option maxRecDepth 100000
set_option linter.unusedVariables false
set_option linter.unusedSimpArgs false

/-- The cells of an event. -/
def evC (e : Ev) : List Value := [.int .i64 e.k, .int .i64 e.a, .int .i64 e.b]
/-- The block at tb is a tape with the events l; its blocks are such as T admits. -/
def TapeW (w : World) (T : Nat → Prop) (tb : Nat) (l : List Ev) : Prop :=
  ∃ (v : Value) (mb n : Nat) (D : DataW Unit), T tb ∧ T mb ∧ (∀ g, v.ownBlock = some g → T g) ∧
    w.heap[tb]? = some (.cells #[v, .map (some mb)] 55 (0, 0)) ∧
    w.ownsRow 0 37 3 v l.length (l.flatMap evC) ∧
    w.ownsMap Tryd.prog 3 (plainElem (H := Unit) Tryd.prog 3) mb n D ∧ n ≤ l.length ∧
    ∀ x, (Lit.int .i64 x).wf = true → D.atKey (.int .i64 x) (.lit (.int .i64 0)) = .lit (.int .i64 (cntK l x))
theorem law_int : Keyed Tryd.prog 3 := int_keyed Tryd.underlying3
theorem zero_int (w : World) : (zeroValue 3).run Tryd.prog w = .ok (.int .i64 0) w := by kernel_rfl
theorem infoEv : (Tryd.prog.info? 37).map (fun i => (i.zero, i.size, i.bytes)) = some (some (.agg #[.int .i64 0, .int .i64 0, .int .i64 0]), 3, 24) := by kernel_rfl
/-- The cells of a block of two. -/
theorem two_of_heap {w : World} {b : Nat} {u v : Value} {t : TypeId} (h : w.heap[b]? = some (.cells #[u, v] t (0, 0))) :
    w.cell? ⟨b, 0, none⟩ = some u ∧ w.cell? ⟨b, 1, none⟩ = some v ∧ w.frozen? ⟨b, 0, none⟩ = false ∧ w.frozen? ⟨b, 1, none⟩ = false := by
  refine ⟨?_, ?_, ?_, ?_⟩ <;> simp [World.cell?, World.frozen?, h]
theorem elemEv : ElemT Tryd.prog 35 37 3 evC := by
  obtain ⟨i0, hi, hz0, hz1, hz2⟩ := info_parts infoEv
  exact ⟨Tryd.underlying35, ⟨i0, _, hi, hz0, hz1, by rw [hz2]; decide, rfl⟩, by decide, fun _ => rfl, fun x u hu => by simp [evC] at hu; rcases hu with rfl | rfl | rfl <;> rfl⟩
theorem EvsR.row {w : World} {T : Nat → Prop} {A : Option Addr} {l : List Ev} (h : EvsR w T A l) : RowR w T 3 evC A l := fun h0 => by
  obtain ⟨b, o, e, hT, hc⟩ := h h0
  refine ⟨b, o, e, hT, fun j x hx q u hu => ?_⟩
  obtain ⟨h1, h2, h3⟩ := hc j x hx
  match q, hu with
  | 0, hu => simp [evC] at hu; subst hu; exact h1
  | 1, hu => simp [evC] at hu; subst hu; exact h2
  | 2, hu => simp [evC] at hu; subst hu; exact h3
theorem EvsR.now {w : World} {T : Nat → Prop} {A : Option Addr} {l : List Ev} (h : EvsR w T A l) : EvsR w (fun b => T b ∧ b < w.heap.size) A l := fun h0 => by
  obtain ⟨b, o, e, hT, hc⟩ := h h0
  exact ⟨b, o, e, ⟨hT, World.block_lt_of_cell? w ⟨b, _, none⟩ (hc 0 _ (List.getElem?_eq_getElem h0)).1⟩, hc⟩
/-- New. -/
theorem tapeNew_any (w : World) : Calls Tryd.prog 15 #[] w fun e w' => ∃ tb, e = .returned (.pointer (some ⟨tb, 0, none⟩)) ∧ TapeW w' (fun g => w.heap.size ≤ g) tb [] ∧ Below w.heap.size w w' := by
  have hmm := @run_makeMap Tryd.prog
  go_enter Tryd.func15, Tryd.ntmps15
  go_wp2
  go_ret
  refine ⟨w.heap.size + 1, rfl, ⟨.slice none 0 0, w.heap.size, 0, .map [], by simp, by simp, by simp [Value.ownBlock], (by have := heap_alloc_new (w.alloc (.map #[] 0)) (.cells #[.slice none 0 0, .map (some w.heap.size)] 55); rw [World.size_alloc] at this; exact this), World.ownsRow_nil _ _ _ _, (World.ownsMap_made _ _ _ _).alloc _, Nat.le_refl _, fun x hx => rfl⟩, ((Below.refl _ _).alloc (Nat.le_refl _) _).alloc (by simp) _⟩
theorem heap_set0 {w : World} {b : Nat} {u v x : Value} {t : TypeId} (h : w.heap[b]? = some (.cells #[u, v] t (0, 0))) : (w.setCell ⟨b, 0, none⟩ x).heap[b]? = some (.cells #[x, v] t (0, 0)) := by
  show (w.heap.modify b _)[b]? = _
  rw [Array.getElem?_modify, if_pos rfl, h]
  rfl
theorem cell_ev (w : World) (e : Ev) (t : TypeId) (j : Nat) (u : Value) (h : (evC e)[j]? = some u) : (w.alloc (.cells #[.int .i64 e.k, .int .i64 e.a, .int .i64 e.b] t)).cell? ((⟨w.heap.size, 0, none⟩ : Addr).add j) = some u := by
  match j, h with
  | 0, h => simp [evC] at h; subst h; simp [go_sem, Addr.add]
  | 1, h => simp [evC] at h; subst h; simp [go_sem, Addr.add]
  | 2, h => simp [evC] at h; subst h; simp [go_sem, Addr.add]
theorem cntK_one (l : List Ev) (e : Ev) (x : Int) : cntK (l ++ [e]) x = cntK l x + if e.k = x then 1 else 0 := by
  unfold cntK
  rw [List.countP_append, List.countP_singleton]
  congr 1
  by_cases h : e.k = x <;> simp [h]
set_option maxHeartbeats 4000000 in
theorem tapeNote_any (tb : Nat) (l : List Ev) (T : Nat → Prop) (k a b : Int) (w : World) (h : TapeW w T tb l) (hl : l.length ≤ 1000000) (hk : (Lit.int .i64 k).wf = true) :
    Calls Tryd.prog 19 #[.pointer (some ⟨tb, 0, none⟩), .int .i64 k, .int .i64 a, .int .i64 b] w fun e w' => e = .returned (.tuple #[]) ∧ TapeW w' (fun g => T g ∨ w.heap.size ≤ g) tb (l ++ [⟨k, a, b⟩]) ∧ Moved T w w' := by
  obtain ⟨v, mb, n, D, hT, hM, hV, hh, hrow, hmap, hn, hat0⟩ := h
  obtain ⟨c0, c1, f0, f1⟩ := two_of_heap hh
  obtain ⟨i0, hi, hz0, hz1, hz2⟩ := info_parts infoEv
  have hkey : keyOf Tryd.prog 3 (.int .i64 k) = some (.int .i64 k) := keyOf_int_mk Tryd.underlying3 hk
  have hlt : tb < w.heap.size := (Array.getElem?_eq_some_iff.1 hh).1
  have hmlt := hmap.lt
  obtain ⟨mes, mck, hmh, _⟩ := id hmap
  have HNT := Lib.hid (show ∀ g, v.ownBlock = some g → g ≠ tb from fun g hg e => by
    obtain ⟨cur, hc⟩ := row_block hrow hg
    subst e; rw [hh] at hc; simp at hc)
  have HNM := Lib.hid (show ∀ g, v.ownBlock = some g → g ≠ mb from fun g hg e => by
    obtain ⟨cur, hc⟩ := row_block hrow hg
    subst e; rw [hmh] at hc; simp at hc)
  have HMT := Lib.hid (show mb ≠ tb from fun e => by subst e; rw [hh] at hmh; simp at hmh)
  have HVL := Lib.hid (show ∀ g, v.ownBlock = some g → g < w.heap.size from fun g hg => (hrow.lt g hg).2)
  have hcl := cntK_le l k
  have HH := Lib.hid hh
  have HMH := Lib.hid hmh
  have HA := Lib.hid hat0
  clear hh hmh hat0
  go_enter Tryd.func19, Tryd.ntmps19
  go_wp2_with (first
    | (at_builtin; refine wpList_append_own_at _ rfl _ _ 35 rfl 0 37 i0 (.agg #[.int .i64 0, .int .i64 0, .int .i64 0]) 3 24 Tryd.underlying35 hi hz0 hz1 hz2 rfl (by decide) v l.length (l.flatMap evC) rfl (hrow.alloc _) ⟨w.heap.size, 0, none⟩ 1 1 (evC ⟨k, a, b⟩) rfl rfl (cell_ev w ⟨k, a, b⟩ _) (by simp [evC, Value.oneCell']) (by unfold maxLen; omega) (by omega) (by simp) ?_
       intro v' w1 hown1 hgrow1 _ hloc
       obtain ⟨g', cap', rfl⟩ := ownsRow_succ hown1
       have hb1 : w1.heap[tb]? = w.heap[tb]? := (hgrow1.block tb (by simp; omega) (fun e => HNT.out tb e.symm rfl)).trans (Below.heap_alloc w _ tb hlt)
       obtain ⟨d0, d1, e0, e1⟩ := two_of_heap (hb1.trans HH.out)
       have hmap1 := (hmap.alloc (.cells #[.int .i64 k, .int .i64 a, .int .i64 b] 37)).kept hgrow1 (fun e => HNM.out mb e.symm rfl)
       have HB1 := Lib.hid hb1
       clear hb1)
    | (at_lookup; refine wpList_lookup_own_int _ rfl _ _ 53 rfl 3 3 .i64 law_int Tryd.underlying53 Tryd.underlying3 (zero_int _) mb n D rfl (hmap1.setCell HMT.out _) _ _ rfl hkey ?_
       intro c hat hwc
       obtain rfl : c = (cntK l k : Int) := by have h := hat.symm.trans (HA.out k hk); injection h with h; injection h)
    | (at_mapUpdate; refine wpList_mapUpdate_own _ rfl _ _ _ 53 rfl 3 3 law_int Tryd.underlying53 _ mb n _ rfl (hmap1.setCell HMT.out _) (by unfold maxLen; omega) _ _ _ rfl rfl hkey _ [] (plainElem_int Tryd.underlying3 (WalkArith.wf_i64 (by omega))) ?_
       intro w2 hown2 hgrow2))
  go_end0
  have hs1 : w.heap.size + 1 ≤ w1.heap.size := by have := hgrow1.size; simpa using this
  have hs2 : w1.heap.size ≤ w2.heap.size := by have := hgrow2.size; simpa using this
  have hg2 : ∀ g, g < w1.heap.size → g ≠ mb → g ≠ tb → w2.heap[g]? = w1.heap[g]? := fun g hg h1 h2 => (hgrow2.block g (by simpa using hg) (fun e => h1 (by injection e))).trans (Below.heap_setCell _ _ _ _ h2)
  have hnew : ∀ g, (Value.slice (some ⟨g', 0, none⟩) (l.length + 1) cap').ownBlock = some g → g < w1.heap.size ∧ g ≠ mb ∧ g ≠ tb := fun g hg => by
    obtain ⟨cur, hc⟩ := row_block hown1 hg
    refine ⟨(Array.getElem?_eq_some_iff.1 hc).1, fun e => ?_, fun e => ?_⟩
    · obtain ⟨es, ck, hm, _⟩ := hmap1
      rw [e, hm] at hc; simp at hc
    · rw [e, HB1.out, HH.out] at hc; simp at hc
  refine ⟨rfl, ⟨.slice (some ⟨g', 0, none⟩) (l.length + 1) cap', mb, n + 1, _, .inl hT, .inl hM, fun g hg => ?_, ?_, ?_, hown2, by simp; omega, fun x hx => ?_⟩, hgrow2.os.trans hgrow1.os, hgrow2.tape.trans hgrow1.tape, hgrow2.output.trans hgrow1.output, by omega, fun g hg hnT => ?_⟩
  · rcases hloc with h | h
    · exact .inl (hV g (h.symm.trans hg))
    · rw [h] at hg
      injection hg with hg
      right; rw [← hg]; simp
  · exact (hgrow2.block tb (by simp; omega) (fun e => HMT.out (by injection e with e; exact e.symm))).trans (heap_set0 (HB1.out.trans HH.out))
  · rw [List.length_append, List.flatMap_append]
    simp only [List.length_cons, List.length_nil, List.flatMap_cons, List.flatMap_nil, List.append_nil]
    exact row_keep hown1 fun g hg => hg2 g (hnew g hg).1 (hnew g hg).2.1 (hnew g hg).2.2
  · rw [cntK_one]
    by_cases e : x = k
    · subst e
      rw [atKey_put_same hmap.isMap (by simp [WideAt.IsKeyLit]), if_pos rfl]
      push_cast; rfl
    · rw [atKey_put_other (fun h => e (by injection h)), HA.out x hx, if_neg (fun h => e h.symm)]
      rfl
  · have h1 : g ≠ mb := fun e => hnT (e ▸ hM)
    have h2 : g ≠ tb := fun e => hnT (e ▸ hT)
    exact (hg2 g (by omega) h1 h2).trans ((hgrow1.block g (by simp; omega) (fun e => hnT (hV g e.symm))).trans (Below.heap_alloc _ _ _ hg))
theorem flat_get : ∀ (l : List Ev) (j : Nat) (u : Value), (l.flatMap evC)[j]? = some u → ∃ e, l[j / 3]? = some e ∧ (evC e)[j % 3]? = some u
  | [], j, u, h => by simp at h
  | e :: l, j, u, h => by
    rw [List.flatMap_cons] at h
    by_cases hj : j < 3
    · rw [List.getElem?_append_left (by simp [evC]; omega)] at h
      exact ⟨e, by rw [show j / 3 = 0 by omega]; rfl, by rw [show j % 3 = j by omega]; exact h⟩
    · rw [List.getElem?_append_right (by simp [evC]; omega)] at h
      obtain ⟨f, h1, h2⟩ := flat_get l (j - 3) u (by simpa [evC] using h)
      exact ⟨f, by rw [show j / 3 = (j - 3) / 3 + 1 by omega]; exact h1, by rw [show j % 3 = (j - 3) % 3 by omega]; exact h2⟩
theorem flat_at : ∀ (l : List Ev) (j : Nat) (e : Ev), l[j]? = some e → (l.flatMap evC)[j * 3]? = some (.int .i64 e.k) ∧ (l.flatMap evC)[j * 3 + 1]? = some (.int .i64 e.a) ∧ (l.flatMap evC)[j * 3 + 2]? = some (.int .i64 e.b)
  | [], j, e, h => by simp at h
  | f :: l, 0, e, h => by simp at h; subst h; simp [evC]
  | f :: l, j + 1, e, h => by
    have := flat_at l j e (by simpa using h)
    rw [List.flatMap_cons]
    refine ⟨?_, ?_, ?_⟩
    · rw [List.getElem?_append_right (by simp [evC]; omega)]; simp [evC]; rw [show (j + 1) * 3 - 3 = j * 3 by omega]; exact this.1
    · rw [List.getElem?_append_right (by simp [evC]; omega)]; simp [evC]; rw [show (j + 1) * 3 - 2 = j * 3 + 1 by omega]; exact this.2.1
    · rw [List.getElem?_append_right (by simp [evC]; omega)]; simp [evC]; rw [show (j + 1) * 3 - 1 = j * 3 + 2 by omega]; exact this.2.2
theorem flat_len (l : List Ev) : (l.flatMap evC).length = l.length * 3 := by
  induction l with
  | nil => rfl
  | cons e l ih => rw [List.flatMap_cons, List.length_append, ih]; simp [evC]; omega
/-- A row of one's own that holds events is a list of events. -/
theorem own_evs {w : World} {base : Nat} {v : Value} {l : List Ev} (h : w.ownsRow base 37 3 v l.length (l.flatMap evC)) :
    ∃ A c, v = .slice A l.length c ∧ l.length ≤ c ∧ c ≤ maxLen ∧ EvsR w (fun g => v.ownBlock = some g) A l := by
  obtain ⟨_, h⟩ := h
  rcases h with ⟨rfl, h0⟩ | ⟨g, cap, cur, rfl, hb, hg, hn, hc, hs, ht⟩
  · rw [h0]
    exact ⟨none, 0, rfl, Nat.le_refl _, by decide, fun hl => by omega⟩
  · refine ⟨some ⟨g, 0, none⟩, cap, rfl, hn, hc, fun hl => ⟨g, 0, rfl, rfl, fun j e he => ?_⟩⟩
    obtain ⟨h1, h2, h3⟩ := flat_at l j e he
    have hj : j < l.length := (List.getElem?_eq_some_iff.1 he).1
    have key : ∀ (q : Nat) (u : Value), (l.flatMap evC)[q]? = some u → w.cell? ⟨g, q, none⟩ = some u := fun q u hq => by
      rw [← ht, List.getElem?_take] at hq
      split at hq
      · simp only [World.cell?, hg]
        simpa using hq
      · cases hq
    exact ⟨by simpa using key _ _ h1, by simpa using key _ _ h2, by simpa using key _ _ h3⟩
/-- A list of events, in cells. -/
theorem EvsR.cells_ {w : World} {T : Nat → Prop} {ad : Addr} {l : List Ev} (h : EvsR w T (some ad) l) (j : Nat) (u : Value) (hj : (l.flatMap evC)[j]? = some u) : w.cell? (ad.add j) = some u := by
  obtain ⟨e, h1, h2⟩ := flat_get l j u hj
  have hl : j / 3 < l.length := (List.getElem?_eq_some_iff.1 h1).1
  obtain ⟨b, o, e0, _, hc⟩ := h (by omega)
  injection e0 with e0
  subst e0
  obtain ⟨c1, c2, c3⟩ := hc _ e h1
  have hm : j % 3 = 0 ∨ j % 3 = 1 ∨ j % 3 = 2 := by omega
  rw [show (⟨b, o, none⟩ : Addr).add j = ⟨b, o + j, none⟩ by simp [Addr.add]]
  rcases hm with hm | hm | hm <;> rw [hm] at h2 <;> simp [evC] at h2 <;> subst h2
  · rw [show o + j = o + j / 3 * 3 by omega]; exact c1
  · rw [show o + j = o + j / 3 * 3 + 1 by omega]; exact c2
  · rw [show o + j = o + j / 3 * 3 + 2 by omega]; exact c3
theorem flat_cell (l : List Ev) : ∀ u ∈ l.flatMap evC, u.oneCell' = true := fun u hu => by
  obtain ⟨e, _, he⟩ := List.mem_flatMap.1 hu
  simp [evC] at he
  rcases he with rfl | rfl | rfl <;> rfl
/-- What a call that makes a list of events gives. -/
def GivesEv (w : World) (l : List Ev) (e : Ending) (w' : World) : Prop := ∃ A c, e = .returned (.slice A l.length c) ∧ l.length ≤ c ∧ EvsR w' (fun b => w.heap.size ≤ b) A l ∧ Below w.heap.size w w'
/-- Cells of a row of one's own may be written. -/
theorem own_free {w : World} {base : Nat} {t : TypeId} {k : Nat} {v : Value} {n : Nat} {xs : List Value} {A : Option Addr} {m c : Nat} (h : w.ownsRow base t k v n xs) (hv : v = .slice A m c) : ∀ b o, A = some ⟨b, o, none⟩ → ∀ j, w.frozen? ⟨b, j, none⟩ = false := by
  intro b o e j
  obtain ⟨_, h⟩ := h
  rcases h with ⟨h0, _⟩ | ⟨g, cap, cur, h0, _, hg, _⟩
  · rw [hv, e] at h0; cases h0
  · rw [hv, e] at h0
    injection h0 with h1
    injection h1 with h1
    injection h1 with h1
    subst h1
    simp [World.frozen?, hg]
/-- What a call gives that makes a list of events, whose cells may be written. -/
def GivesEvW (w : World) (l : List Ev) (e : Ending) (w' : World) : Prop := ∃ A c, e = .returned (.slice A l.length c) ∧ l.length ≤ c ∧ EvsR w' (fun b => w.heap.size ≤ b) A l ∧ Below w.heap.size w w' ∧ ∀ b o, A = some ⟨b, o, none⟩ → ∀ j, w'.frozen? ⟨b, j, none⟩ = false
theorem GivesEvW.g {w : World} {l : List Ev} {e : Ending} {w' : World} (h : GivesEvW w l e w') : GivesEv w l e w' := by
  obtain ⟨A, c, h1, h2, h3, h4, _⟩ := h
  exact ⟨A, c, h1, h2, h3, h4⟩
/-- slices.Clone of events. -/
theorem evCloneW_any (A : Option Addr) (c : Nat) (l : List Ev) (T : Nat → Prop) (w : World) (ha : EvsR w T A l) (hl : l.length ≤ 1000000) :
    Calls Tryd.prog 25 #[.slice A l.length c] w (GivesEvW w l) := by
  obtain ⟨i0, hi, hz0, hz1, hz2⟩ := info_parts infoEv
  have hq : ∀ (w : World) (a : Option Addr) (n c n' c' : Nat), (binOp .eql 35 (.slice a n c) (.slice none n' c')).run Tryd.prog w = .ok (.bool a.isNone) w := fun w a n c n' c' => Lib.run_eql_slice_nil w _ 37 a n c n' c' Tryd.underlying35
  cases A with
  | none =>
    have h0 : l = [] := by
      rcases l with _ | ⟨e, l⟩
      · rfl
      · obtain ⟨b, o, e, _⟩ := ha (by simp); cases e
    subst h0
    go_enter Tryd.func25, Tryd.ntmps25
    go_wp2
    go_ret
    exact ⟨none, 0, rfl, Nat.le_refl _, EvsR.nil_ _ _ _, Below.refl _ _, fun b o e => by cases e⟩
  | some ad =>
    have HC := Lib.hid (show ∀ (j : Nat) (u : Value), (l.flatMap evC)[j]? = some u → (w.alloc (.cells #[] 37)).cell? (ad.add j) = some u from fun j u hj => Lib.cell?_alloc_some _ (ha.cells_ j u hj))
    have hrow : (w.alloc (.cells #[] 37)).ownsRow w.heap.size 37 3 (.slice (some ⟨w.heap.size, 0, none⟩) 0 0) 0 [] := World.ownsRow_made w #[] 0 (Nat.le_refl _) (by decide) rfl
    go_enter Tryd.func25, Tryd.ntmps25
    go_wp2_with (first
      | (at_builtin; refine wpList_append_own _ rfl _ _ 35 rfl w.heap.size 37 i0 (.agg #[.int .i64 0, .int .i64 0, .int .i64 0]) 3 24 Tryd.underlying35 hi hz0 hz1 hz2 rfl (by decide) _ 0 [] rfl hrow ad l.length c (l.flatMap evC) rfl (flat_len l) HC.out (flat_cell l) (by unfold maxLen; omega) (by omega) (by simp) ?_
         intro v' w1 hown1 hgrow1 _))
    go_ret
    rw [Nat.zero_add, List.nil_append] at hown1
    obtain ⟨A', c', hv', hlc, _, hev⟩ := own_evs hown1
    have hfr := own_free hown1 hv'
    subst hv'
    exact ⟨A', c', rfl, hlc, hev.imp (fun g hg => (hown1.lt g hg).1), ((Below.refl _ _).alloc (Nat.le_refl _) _).grown hgrow1 (by simp) (fun k e => by injection e with e; exact Nat.le_of_eq e), hfr⟩
theorem evClone_any (A : Option Addr) (c : Nat) (l : List Ev) (T : Nat → Prop) (w : World) (ha : EvsR w T A l) (hl : l.length ≤ 1000000) :
    Calls Tryd.prog 25 #[.slice A l.length c] w (GivesEv w l) := (evCloneW_any A c l T w ha hl).mono fun e w' h => h.g
theorem TapeW.keep {w w' : World} {T : Nat → Prop} {tb : Nat} {l : List Ev} (h : TapeW w T tb l) (hk : ∀ b, T b → b < w.heap.size → w'.heap[b]? = w.heap[b]?) : TapeW w' T tb l := by
  obtain ⟨v, mb, n, D, hT, hM, hV, hh, hrow, hmap, hn, hat⟩ := h
  refine ⟨v, mb, n, D, hT, hM, hV, (hk tb hT (Array.getElem?_eq_some_iff.1 hh).1).trans hh, row_keep hrow fun g hg => hk g (hV g hg) (hrow.lt g hg).2, ?_, hn, hat⟩
  obtain ⟨es, ck, hm, rest⟩ := hmap
  exact ⟨es, ck, (hk mb hM (Array.getElem?_eq_some_iff.1 hm).1).trans hm, rest⟩
theorem TapeW.imp {w : World} {T U : Nat → Prop} {tb : Nat} {l : List Ev} (h : TapeW w T tb l) (hTU : ∀ b, T b → U b) : TapeW w U tb l := by
  obtain ⟨v, mb, n, D, hT, hM, hV, rest⟩ := h
  exact ⟨v, mb, n, D, hTU _ hT, hTU _ hM, fun g hg => hTU g (hV g hg), rest⟩
theorem TapeW.next {w w' : World} {T : Nat → Prop} {tb : Nat} {l : List Ev} (h : TapeW w T tb l) (hb : Below w.heap.size w w') : TapeW w' T tb l := h.keep fun b _ hlt => hb.block b hlt
theorem TapeW.now {w : World} {T : Nat → Prop} {tb : Nat} {l : List Ev} (h : TapeW w T tb l) : TapeW w (fun g => T g ∧ g < w.heap.size) tb l := by
  obtain ⟨v, mb, n, D, hT, hM, hV, hh, hrow, hmap, hn, hat⟩ := h
  exact ⟨v, mb, n, D, ⟨hT, (Array.getElem?_eq_some_iff.1 hh).1⟩, ⟨hM, hmap.lt⟩, fun g hg => ⟨hV g hg, (hrow.lt g hg).2⟩, hh, hrow, hmap, hn, hat⟩
/-- A tape, or none. -/
def TapeO (w : World) (T : Nat → Prop) (v : Value) (l : List Ev) : Prop := (v = .pointer none ∧ l = []) ∨ ∃ tb, v = .pointer (some ⟨tb, 0, none⟩) ∧ TapeW w T tb l
theorem TapeW.o {w : World} {T : Nat → Prop} {tb : Nat} {l : List Ev} (h : TapeW w T tb l) : TapeO w T (.pointer (some ⟨tb, 0, none⟩)) l := .inr ⟨tb, rfl, h⟩
theorem recorded_any (v : Value) (l : List Ev) (T : Nat → Prop) (w : World) (h : TapeO w T v l) (hl : l.length ≤ 1000000) :
    Calls Tryd.prog 26 #[v] w fun e w' => ∃ A c, e = .returned (.slice A l.length c) ∧ EvsR w T A l ∧ ∃ n, w' = w.drewN n := by
  rcases h with ⟨rfl, rfl⟩ | ⟨tb, rfl, h⟩
  · go_enter Tryd.func26, Tryd.ntmps26
    go_wp2
    go_ret
    exact ⟨none, 0, rfl, EvsR.nil_ _ _ _, 0, rfl⟩
  · obtain ⟨v, mb, n, D, hT, hM, hV, hh, hrow, hmap, hn, hat⟩ := h
    obtain ⟨c0, c1, f0, f1⟩ := two_of_heap hh
    obtain ⟨A, c, rfl, hlc, hcm, hev⟩ := own_evs hrow
    have hev := hev.imp hV
    have HH := Lib.hid hh
    unfold maxLen at hcm
    clear hh hrow hmap hV hat
    go_enter Tryd.func26, Tryd.ntmps26
    go_wp2
    go_quiet (fail)
    go_wp2
    go_ret
    exact ⟨A, l.length, rfl, hev, _, rfl⟩
theorem tapeEventsW_any (v : Value) (l : List Ev) (T : Nat → Prop) (w : World) (h : TapeO w T v l) (hl : l.length ≤ 1000000) : Calls Tryd.prog 17 #[v] w (GivesEvW w l) := by
  go_enter Tryd.func17, Tryd.ntmps17
  go_wp2_with (fail)
  refine (recorded_any v l T w h hl).mono ?_
  rintro e w1 ⟨A, c, rfl, hev, n, rfl⟩
  go_wp2_with (fail)
  refine (evCloneW_any A c l T (w.drewN n) hev hl).mono ?_
  rintro e w2 ⟨A', c', rfl, hc, hev2, hb, hf⟩
  go_wp2
  go_ret
  exact ⟨A', c', rfl, hc, hev2, (below_drewN' (Below.refl _ _) n).trans hb, hf⟩
theorem tapeEvents_any (v : Value) (l : List Ev) (T : Nat → Prop) (w : World) (h : TapeO w T v l) (hl : l.length ≤ 1000000) : Calls Tryd.prog 17 #[v] w (GivesEv w l) := (tapeEventsW_any v l T w h hl).mono fun e w' h => h.g
theorem tapeNoteNil_any (k a b : Int) (w : World) : Calls Tryd.prog 19 #[.pointer none, .int .i64 k, .int .i64 a, .int .i64 b] w fun e w' => e = .returned (.tuple #[]) ∧ w' = w := by
  go_enter Tryd.func19, Tryd.ntmps19
  go_wp2
  refine bodyPost_ret (results_none rfl _ _ _) rfl ?_
  exact ⟨rfl, rfl⟩
end Go.Proofs.YtehnpmkolabiaaaDoor
