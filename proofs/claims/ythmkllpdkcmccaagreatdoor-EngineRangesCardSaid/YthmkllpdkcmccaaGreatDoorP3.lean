/-
  Packed texts: Row, TapeC, TapeL, PolyD, Ref03a, Ref03b.
-/
import Derived.Maps.AppendAt
import Derived.Laws.AppendOwnNone
import Derived.Laws.OwnMore
import Derived.Deep.AppendLies
import Derived.Maps.Own
import Derived.Maps.OwnOps
import Derived.Maps.OwnSet
import Derived.Maps.Views
import Derived.RangeFuncBox
import Derived.Lib.SliceRun
import Derived.Deep.Draws
import Derived.Deep.QuietTactic
import Derived.BigQuiet
import Derived.RegionTactic
import Derived.Deep.RegionWith
import Derived.Deep.RegionLaw
import Derived.Deep.RegionHeld3
import Derived.Laws.Pointers
import Derived.WalkSpells
import Derived.Test.YthmkllpdkcmccaaGreatDoorP2
namespace Go.Proofs.YthmkllpdkcmccaaGreatDoor
open Go.RowKit
set_option maxRecDepth 100000
set_option linter.unusedVariables false
set_option linter.unusedSimpArgs false

section
variable {α : Type} {C : α → List Value} {k : Nat}
/-- Cells of a list of elements. -/
theorem flatC_len (hk : ∀ x, (C x).length = k) (l : List α) : (l.flatMap C).length = l.length * k := by
  induction l with
  | nil => simp
  | cons x l ih => rw [List.flatMap_cons, List.length_append, ih, hk, List.length_cons, Nat.succ_mul, Nat.add_comm]
theorem flatC_at (hk : ∀ x, (C x).length = k) : ∀ (l : List α) (j : Nat) (x : α), l[j]? = some x → ∀ q, q < k → (l.flatMap C)[j * k + q]? = (C x)[q]?
  | [], j, x, h => by simp at h
  | y :: l, 0, x, h => by
    intro q hq
    simp at h
    subst h
    rw [List.flatMap_cons, Nat.zero_mul, Nat.zero_add, List.getElem?_append_left (by rw [hk]; exact hq)]
  | y :: l, j + 1, x, h => by
    intro q hq
    rw [List.flatMap_cons, List.getElem?_append_right (by rw [hk, Nat.succ_mul]; omega), hk, show (j + 1) * k + q - k = j * k + q by rw [Nat.succ_mul]; omega]
    exact flatC_at hk l j x (by simpa using h) q hq
theorem flatC_get (hk : ∀ x, (C x).length = k) (h0 : 0 < k) (l : List α) (j : Nat) (u : Value) (h : (l.flatMap C)[j]? = some u) : ∃ x, l[j / k]? = some x ∧ (C x)[j % k]? = some u := by
  have hj : j < l.length * k := by rw [← flatC_len hk]; exact (List.getElem?_eq_some_iff.1 h).1
  have hq : j / k < l.length := Nat.div_lt_of_lt_mul (by rw [Nat.mul_comm]; exact hj)
  refine ⟨l[j / k]'hq, List.getElem?_eq_getElem hq, ?_⟩
  rw [← flatC_at hk l (j / k) _ (List.getElem?_eq_getElem hq) (j % k) (Nat.mod_lt _ h0), ← h]
  congr 1
  rw [Nat.mul_comm]; exact Nat.div_add_mod j k
theorem RowR.nil_ (w : World) (S : Nat → Prop) (A : Option Addr) : RowR w S k C A [] := fun h => absurd h (by simp)
theorem RowR.at_ {w : World} {S : Nat → Prop} {A : Option Addr} {l : List α} (h : RowR w S k C A l) {j : Nat} (hj : j < l.length) :
    ∃ b o, A = some ⟨b, o, none⟩ ∧ S b ∧ ∀ q u, (C (l[j]'hj))[q]? = some u → w.cell? ⟨b, o + (j * k + q), none⟩ = some u := by
  obtain ⟨b, o, e, hS, hc⟩ := h (by omega)
  exact ⟨b, o, e, hS, hc j _ (List.getElem?_eq_getElem hj)⟩
theorem RowR.keep {w w' : World} {S : Nat → Prop} {A : Option Addr} {l : List α} (h : RowR w S k C A l) (hk : ∀ b, S b → b < w.heap.size → w'.heap[b]? = w.heap[b]?) : RowR w' S k C A l := fun hl => by
  obtain ⟨b, o, e, hS, hc⟩ := h hl
  refine ⟨b, o, e, hS, fun j x hx q u hu => ?_⟩
  have h1 := hc j x hx q u hu
  exact (World.cell?_of_block (a := ⟨b, _, none⟩) (hk b hS (World.block_lt_of_cell? w ⟨b, _, none⟩ h1))).trans h1
theorem RowR.next {w w' : World} {S : Nat → Prop} {A : Option Addr} {l : List α} (h : RowR w S k C A l) (hb : Below w.heap.size w w') : RowR w' S k C A l := h.keep fun b _ hlt => hb.block b hlt
theorem RowR.imp {w : World} {S T : Nat → Prop} {A : Option Addr} {l : List α} (h : RowR w S k C A l) (hST : ∀ b, S b → T b) : RowR w T k C A l := fun hl => by
  obtain ⟨b, o, e, hS, hc⟩ := h hl
  exact ⟨b, o, e, hST b hS, hc⟩
/-- Below the world's own size, too. -/
theorem RowR.now {w : World} {S : Nat → Prop} {A : Option Addr} {l : List α} (h : RowR w S k C A l) (hk : ∀ x, 0 < (C x).length) : RowR w (fun b => S b ∧ b < w.heap.size) k C A l := fun hl => by
  obtain ⟨b, o, e, hS, hc⟩ := h hl
  have h1 := hc 0 _ (List.getElem?_eq_getElem hl) 0 _ (List.getElem?_eq_getElem (hk _))
  exact ⟨b, o, e, ⟨hS, World.block_lt_of_cell? w ⟨b, _, none⟩ h1⟩, hc⟩
theorem RowR.take {w : World} {S : Nat → Prop} {A : Option Addr} {l : List α} (h : RowR w S k C A l) (n : Nat) : RowR w S k C A (l.take n) := fun hl => by
  obtain ⟨b, o, e, hS, hc⟩ := h (by rw [List.length_take] at hl; omega)
  refine ⟨b, o, e, hS, fun j x hx => hc j x ?_⟩
  rw [List.getElem?_take] at hx
  split at hx
  · exact hx
  · cases hx
/-- The cells behind an address. -/
theorem RowR.cells_ {w : World} {S : Nat → Prop} {ad : Addr} {l : List α} (h : RowR w S k C (some ad) l) (hk : ∀ x, (C x).length = k) (h0 : 0 < k) (j : Nat) (u : Value) (hj : (l.flatMap C)[j]? = some u) : w.cell? (ad.add j) = some u := by
  obtain ⟨x, h1, h2⟩ := flatC_get hk h0 l j u hj
  have hl : j / k < l.length := (List.getElem?_eq_some_iff.1 h1).1
  obtain ⟨b, o, e0, _, hc⟩ := h (Nat.lt_of_le_of_lt (Nat.zero_le _) hl)
  injection e0 with e0
  subst e0
  rw [Go.WideShapes.add_plain]
  have := hc _ x h1 _ u h2
  rwa [show j / k * k + j % k = j by rw [Nat.mul_comm]; exact Nat.div_add_mod j k] at this
theorem RowR.nilOf {w : World} {S : Nat → Prop} {l : List α} (h : RowR w S k C none l) : l = [] := by
  rcases l with _ | ⟨e, l⟩
  · rfl
  · obtain ⟨b, o, e, _⟩ := h (by simp); cases e
/-- A row of one's own is a list of elements. -/
theorem own_rowR {w : World} {base : Nat} {e : TypeId} {v : Value} {l : List α} (hk : ∀ x, (C x).length = k) (h : w.ownsRow base e k v l.length (l.flatMap C)) :
    ∃ A c, v = .slice A l.length c ∧ l.length ≤ c ∧ c ≤ maxLen ∧ RowR w (fun g => v.ownBlock = some g) k C A l ∧ (A = none → c = 0) := by
  obtain ⟨_, h⟩ := h
  rcases h with ⟨rfl, h0⟩ | ⟨g, cap, cur, rfl, hb, hg, hn, hc, hs, ht⟩
  · rw [h0]
    exact ⟨none, 0, rfl, Nat.le_refl _, by decide, fun hl => by omega, fun _ => rfl⟩
  · refine ⟨some ⟨g, 0, none⟩, cap, rfl, hn, hc, fun hl => ⟨g, 0, rfl, rfl, fun j x hx q u hu => ?_⟩, fun h => by cases h⟩
    have hq : q < k := by rw [← hk x]; exact (List.getElem?_eq_some_iff.1 hu).1
    have h1 := (flatC_at hk l j x hx q hq).trans hu
    rw [← ht, List.getElem?_take] at h1
    rw [Nat.zero_add]
    split at h1
    · simp only [World.cell?, hg]
      simpa using h1
    · cases h1
/-- A new block that holds elements. -/
theorem row_lit {w : World} {t : TypeId} (hk : ∀ x, (C x).length = k) (l : List α) : RowR (w.alloc (.cells (l.flatMap C).toArray t)) (fun g => w.heap.size ≤ g) k C (some ⟨w.heap.size, 0, none⟩) l := fun _ => by
  refine ⟨w.heap.size, 0, rfl, Nat.le_refl _, fun j x hx q u hu => ?_⟩
  have hq : q < k := by rw [← hk x]; exact (List.getElem?_eq_some_iff.1 hu).1
  have h1 := (flatC_at hk l j x hx q hq).trans hu
  rw [Nat.zero_add]
  simp [go_sem, h1]
end
/-- What appends ask of an element's type. -/
structure ElemT (P : Program) (t e : TypeId) (k : Nat) {α : Type} (C : α → List Value) : Prop where
  sl : P.underlying t = some (.slice e)
  info : ∃ i z, P.info? e = some i ∧ i.zero = some z ∧ i.size = k ∧ i.bytes ≤ 128 ∧ z.cells.size = k
  pos : 0 < k
  len : ∀ x, (C x).length = k
  one : ∀ x, ∀ u ∈ C x, u.oneCell' = true
theorem ElemT.flat1 {P : Program} {t e : TypeId} {k : Nat} {α : Type} {C : α → List Value} (h : ElemT P t e k C) (l : List α) : ∀ u ∈ l.flatMap C, u.oneCell' = true := fun u hu => by
  obtain ⟨x, _, hx⟩ := List.mem_flatMap.1 hu
  exact h.one x u hx
/-- append of elements onto a row of one's own: whatever comes, nil too. -/
theorem run_app_row {P : Program} {t e : TypeId} {k : Nat} {α : Type} {C : α → List Value} (E : ElemT P t e k C) (ty : TypeId) {w : World} (base : Nat) (v : Value) (n : Nat) (xs : List Value) (hown : w.ownsRow base e k v n xs)
    (A : Option Addr) (c m : Nat) (l : List α) (T : Nat → Prop) (hm : m = l.length) (hl : RowR w T k C A l) (hc : A = none → c = 0) (h1 : n + m ≤ 1000000) (hbase : base ≤ w.heap.size) :
    ∃ v' w', (Builtin.append_ #[t, t] ty #[v, .slice A m c]).run P w = .ok v' w' ∧ w'.ownsRow base e k v' (n + m) (xs ++ l.flatMap C) ∧ w.grownBy w' v.ownBlock ∧ (v'.ownBlock = v.ownBlock ∨ v'.ownBlock = some w.heap.size) := by
  obtain ⟨i0, z, hi, hz0, hz1, hz2, hz3⟩ := E.info
  subst hm
  cases A with
  | some ad =>
    obtain ⟨v', w', hr, h2, h3, _, h5⟩ := run_append_own_at (P := P) w base t ty e i0 z k i0.bytes E.sl hi hz0 hz1 rfl hz3 E.pos v n xs hown ad l.length c (l.flatMap C) (flatC_len E.len l) (fun j u hj => hl.cells_ E.len E.pos j u hj) (E.flat1 l) (by unfold maxLen; omega) (Nat.le_trans (Nat.mul_le_mul h1 hz2) (by decide)) hbase
    exact ⟨v', w', hr, h2, h3, h5⟩
  | none =>
    obtain rfl := hl.nilOf
    obtain rfl := hc rfl
    exact ⟨v, w, run_append_owned_none (P := P) (w := w) base t ty e i0 k E.sl hi v n xs hown, by simpa using hown, World.grownBy.refl w _, .inl rfl⟩
/-- At one operation of a region. -/
theorem op_app_row {P : Program} {t e : TypeId} {k : Nat} {α : Type} {C : α → List Value} (E : ElemT P t e k C) {o : Oper} {a : Act} {K : Act → World → Prop} {Q : Exit → Act → World → Prop} {w : World} (s x : Operand)
    (ho : o.op = .call { callee := .builtin .append, args := #[s, x], argTypes := #[t, t] }) (base : Nat) (v : Value) (n : Nat) (xs : List Value) (hs : a.eval s = v) (hown : w.ownsRow base e k v n xs)
    (A : Option Addr) (c m : Nat) (l : List α) (T : Nat → Prop) (hx : a.eval x = .slice A m c) (hm : m = l.length) (hl : RowR w T k C A l) (hc : A = none → c = 0) (h1 : n + m ≤ 1000000) (hbase : base ≤ w.heap.size)
    (h : ∀ v' w', w'.ownsRow base e k v' (n + m) (xs ++ l.flatMap C) → w.grownBy w' v.ownBlock → (v'.ownBlock = v.ownBlock ∨ v'.ownBlock = some w.heap.size) → K (a.put o.dst v') w') : o.wp P a w K Q := by
  obtain ⟨v', w', hr, h2, h3, h5⟩ := run_app_row E o.type base v n xs hown A c m l T hm hl hc h1 hbase
  unfold Oper.wp execOp
  simp only [ho, resolve, invoke, builtin, Sem.run_bind, Sem.run_pure, Result.andThen_ok, List.map_toArray, List.map_cons, List.map_nil, hs, hx, hr]
  exact h v' w' h2 h3 h5
/-- At the walk's operation. -/
theorem wp_app_row {P : Program} {t e : TypeId} {k : Nat} {α : Type} {C : α → List Value} (E : ElemT P t e k C) {ops : Array Oper} {rest : List Oper} {o : Oper} {a : Act} {Q : Exit → Act → World → Prop} {w : World} (hgd : o.guard = none) (s x : Operand)
    (ho : o.op = .call { callee := .builtin .append, args := #[s, x], argTypes := #[t, t] }) (base : Nat) (v : Value) (n : Nat) (xs : List Value) (hs : a.eval s = v) (hown : w.ownsRow base e k v n xs)
    (A : Option Addr) (c m : Nat) (l : List α) (T : Nat → Prop) (hx : a.eval x = .slice A m c) (hm : m = l.length) (hl : RowR w T k C A l) (hc : A = none → c = 0) (h1 : n + m ≤ 1000000) (hbase : base ≤ w.heap.size)
    (h : ∀ v' w', w'.ownsRow base e k v' (n + m) (xs ++ l.flatMap C) → w.grownBy w' v.ownBlock → (v'.ownBlock = v.ownBlock ∨ v'.ownBlock = some w.heap.size) → wpList P ops Q rest (a.put o.dst v') w') : wpList P ops Q (o :: rest) a w :=
  wpList_plain hgd fun _ hK => op_app_row E s x ho base v n xs hs hown A c m l T hx hm hl hc h1 hbase fun v' w' h2 h3 h4 => hK _ _ (h v' w' h2 h3 h4)
theorem row_keep {w w' : World} {base : Nat} {e : TypeId} {s : Nat} {v : Value} {n : Nat} {xs : List Value} (h : w.ownsRow base e s v n xs) (hk : ∀ g, v.ownBlock = some g → w'.heap[g]? = w.heap[g]?) : w'.ownsRow base e s v n xs := by
  obtain ⟨hl, h⟩ := h
  refine ⟨hl, ?_⟩
  rcases h with h | ⟨g, cap, cur, rfl, hb, hg, rest⟩
  · exact .inl h
  · exact .inr ⟨g, cap, cur, rfl, hb, (hk g rfl).trans hg, rest⟩
theorem row_block {w : World} {base : Nat} {e : TypeId} {s : Nat} {v : Value} {n : Nat} {xs : List Value} (h : w.ownsRow base e s v n xs) {g : Nat} (hg : v.ownBlock = some g) : ∃ cur, w.heap[g]? = some (.cells cur e (0, 0)) := by
  obtain ⟨_, h⟩ := h
  rcases h with ⟨rfl, _⟩ | ⟨g', cap, cur, rfl, hb, hg', rest⟩
  · simp [Value.ownBlock] at hg
  · simp [Value.ownBlock] at hg
    subst hg
    exact ⟨cur, hg'⟩
end Go.Proofs.YthmkllpdkcmccaaGreatDoor
namespace Go.Proofs.YthmkllpdkcmccaaGreatDoor
open Go.RowKit Go.Maps
set_option maxRecDepth 100000
set_option linter.unusedVariables false
set_option linter.unusedSimpArgs false

/-- The cells of an event. -/
def evC (e : Ev) : List Value := [.int .i64 e.k, .int .i64 e.a, .int .i64 e.b]
/-- The block at tb is a tape with the events l; its blocks are such as T admits. -/
def TapeW (w : World) (T : Nat → Prop) (tb : Nat) (l : List Ev) : Prop :=
  ∃ (v : Value) (mb n : Nat) (D : DataW Unit), T tb ∧ T mb ∧ (∀ g, v.ownBlock = some g → T g) ∧
    w.heap[tb]? = some (.cells #[v, .map (some mb)] 63 (0, 0)) ∧
    w.ownsRow 0 73 3 v l.length (l.flatMap evC) ∧
    w.ownsMap Tryz.prog 3 (plainElem (H := Unit) Tryz.prog 3) mb n D ∧ n ≤ l.length ∧
    ∀ x, (Lit.int .i64 x).wf = true → D.atKey (.int .i64 x) (.lit (.int .i64 0)) = .lit (.int .i64 (cntK l x))
theorem law_int : Keyed Tryz.prog 3 := int_keyed Tryz.underlying3
theorem zero_int (w : World) : (zeroValue 3).run Tryz.prog w = .ok (.int .i64 0) w := by kernel_rfl
theorem infoEv : (Tryz.prog.info? 73).map (fun i => (i.zero, i.size, i.bytes)) = some (some (.agg #[.int .i64 0, .int .i64 0, .int .i64 0]), 3, 24) := by kernel_rfl
/-- The cells of a block of two. -/
theorem two_of_heap {w : World} {b : Nat} {u v : Value} {t : TypeId} (h : w.heap[b]? = some (.cells #[u, v] t (0, 0))) :
    w.cell? ⟨b, 0, none⟩ = some u ∧ w.cell? ⟨b, 1, none⟩ = some v ∧ w.frozen? ⟨b, 0, none⟩ = false ∧ w.frozen? ⟨b, 1, none⟩ = false := by
  refine ⟨?_, ?_, ?_, ?_⟩ <;> simp [World.cell?, World.frozen?, h]
theorem elemEv : ElemT Tryz.prog 31 73 3 evC := by
  obtain ⟨i0, hi, hz0, hz1, hz2⟩ := info_parts infoEv
  exact ⟨Tryz.underlying31, ⟨i0, _, hi, hz0, hz1, by rw [hz2]; decide, rfl⟩, by decide, fun _ => rfl, fun x u hu => by simp [evC] at hu; rcases hu with rfl | rfl | rfl <;> rfl⟩
theorem EvsR.row {w : World} {T : Nat → Prop} {A : Option Addr} {l : List Ev} (h : EvsR w T A l) : RowR w T 3 evC A l := fun h0 => by
  obtain ⟨b, o, e, hT, hc⟩ := h h0
  refine ⟨b, o, e, hT, fun j x hx q u hu => ?_⟩
  obtain ⟨h1, h2, h3⟩ := hc j x hx
  match q, hu with
  | 0, hu => simp [evC] at hu; subst hu; exact h1
  | 1, hu => simp [evC] at hu; subst hu; exact h2
  | 2, hu => simp [evC] at hu; subst hu; exact h3
theorem EvsR.now {w : World} {T : Nat → Prop} {A : Option Addr} {l : List Ev} (h : EvsR w T A l) : EvsR w (fun b => T b ∧ b < w.heap.size) A l := fun h0 => by
  obtain ⟨b, o, e, hT, hc⟩ := h h0
  exact ⟨b, o, e, ⟨hT, World.block_lt_of_cell? w ⟨b, _, none⟩ (hc 0 _ (List.getElem?_eq_getElem h0)).1⟩, hc⟩
/-- New. -/
theorem tapeNew_any (w : World) : Calls Tryz.prog 8 #[] w fun e w' => ∃ tb, e = .returned (.pointer (some ⟨tb, 0, none⟩)) ∧ TapeW w' (fun g => w.heap.size ≤ g) tb [] ∧ Below w.heap.size w w' := by
  have hmm := @run_makeMap Tryz.prog
  go_enter Tryz.func8, Tryz.ntmps8
  go_wp2
  go_ret
  refine ⟨w.heap.size + 1, rfl, ⟨.slice none 0 0, w.heap.size, 0, .map [], by simp, by simp, by simp [Value.ownBlock], (by have := heap_alloc_new (w.alloc (.map #[] 0)) (.cells #[.slice none 0 0, .map (some w.heap.size)] 63); rw [World.size_alloc] at this; exact this), World.ownsRow_nil _ _ _ _, (World.ownsMap_made _ _ _ _).alloc _, Nat.le_refl _, fun x hx => rfl⟩, ((Below.refl _ _).alloc (Nat.le_refl _) _).alloc (by simp) _⟩
theorem heap_set0 {w : World} {b : Nat} {u v x : Value} {t : TypeId} (h : w.heap[b]? = some (.cells #[u, v] t (0, 0))) : (w.setCell ⟨b, 0, none⟩ x).heap[b]? = some (.cells #[x, v] t (0, 0)) := by
  show (w.heap.modify b _)[b]? = _
  rw [Array.getElem?_modify, if_pos rfl, h]
  rfl
theorem cell_ev (w : World) (e : Ev) (t : TypeId) (j : Nat) (u : Value) (h : (evC e)[j]? = some u) : (w.alloc (.cells #[.int .i64 e.k, .int .i64 e.a, .int .i64 e.b] t)).cell? ((⟨w.heap.size, 0, none⟩ : Addr).add j) = some u := by
  match j, h with
  | 0, h => simp [evC] at h; subst h; simp [go_sem, Addr.add]
  | 1, h => simp [evC] at h; subst h; simp [go_sem, Addr.add]
  | 2, h => simp [evC] at h; subst h; simp [go_sem, Addr.add]
theorem cntK_one (l : List Ev) (e : Ev) (x : Int) : cntK (l ++ [e]) x = cntK l x + if e.k = x then 1 else 0 := by
  unfold cntK
  rw [List.countP_append, List.countP_singleton]
  congr 1
  by_cases h : e.k = x <;> simp [h]
set_option maxHeartbeats 4000000 in
theorem tapeNote_any (tb : Nat) (l : List Ev) (T : Nat → Prop) (k a b : Int) (w : World) (h : TapeW w T tb l) (hl : l.length ≤ 1000000) (hk : (Lit.int .i64 k).wf = true) :
    Calls Tryz.prog 46 #[.pointer (some ⟨tb, 0, none⟩), .int .i64 k, .int .i64 a, .int .i64 b] w fun e w' => e = .returned (.tuple #[]) ∧ TapeW w' (fun g => T g ∨ w.heap.size ≤ g) tb (l ++ [⟨k, a, b⟩]) ∧ Moved T w w' := by
  obtain ⟨v, mb, n, D, hT, hM, hV, hh, hrow, hmap, hn, hat0⟩ := h
  obtain ⟨c0, c1, f0, f1⟩ := two_of_heap hh
  obtain ⟨i0, hi, hz0, hz1, hz2⟩ := info_parts infoEv
  have hkey : keyOf Tryz.prog 3 (.int .i64 k) = some (.int .i64 k) := keyOf_int_mk Tryz.underlying3 hk
  have hlt : tb < w.heap.size := (Array.getElem?_eq_some_iff.1 hh).1
  have hmlt := hmap.lt
  obtain ⟨mes, mck, hmh, _⟩ := id hmap
  have HNT := Lib.hid (show ∀ g, v.ownBlock = some g → g ≠ tb from fun g hg e => by
    obtain ⟨cur, hc⟩ := row_block hrow hg
    subst e; rw [hh] at hc; simp at hc)
  have HNM := Lib.hid (show ∀ g, v.ownBlock = some g → g ≠ mb from fun g hg e => by
    obtain ⟨cur, hc⟩ := row_block hrow hg
    subst e; rw [hmh] at hc; simp at hc)
  have HMT := Lib.hid (show mb ≠ tb from fun e => by subst e; rw [hh] at hmh; simp at hmh)
  have HVL := Lib.hid (show ∀ g, v.ownBlock = some g → g < w.heap.size from fun g hg => (hrow.lt g hg).2)
  have hcl := cntK_le l k
  have HH := Lib.hid hh
  have HMH := Lib.hid hmh
  have HA := Lib.hid hat0
  clear hh hmh hat0
  go_enter Tryz.func46, Tryz.ntmps46
  go_wp2_with (first
    | (at_builtin; refine wpList_append_own_at _ rfl _ _ 31 rfl 0 73 i0 (.agg #[.int .i64 0, .int .i64 0, .int .i64 0]) 3 24 Tryz.underlying31 hi hz0 hz1 hz2 rfl (by decide) v l.length (l.flatMap evC) rfl (hrow.alloc _) ⟨w.heap.size, 0, none⟩ 1 1 (evC ⟨k, a, b⟩) rfl rfl (cell_ev w ⟨k, a, b⟩ _) (by simp [evC, Value.oneCell']) (by unfold maxLen; omega) (by omega) (by simp) ?_
       intro v' w1 hown1 hgrow1 _ hloc
       obtain ⟨g', cap', rfl⟩ := ownsRow_succ hown1
       have hb1 : w1.heap[tb]? = w.heap[tb]? := (hgrow1.block tb (by simp; omega) (fun e => HNT.out tb e.symm rfl)).trans (Below.heap_alloc w _ tb hlt)
       obtain ⟨d0, d1, e0, e1⟩ := two_of_heap (hb1.trans HH.out)
       have hmap1 := (hmap.alloc (.cells #[.int .i64 k, .int .i64 a, .int .i64 b] 73)).kept hgrow1 (fun e => HNM.out mb e.symm rfl)
       have HB1 := Lib.hid hb1
       clear hb1)
    | (at_lookup; refine wpList_lookup_own_int _ rfl _ _ 61 rfl 3 3 .i64 law_int Tryz.underlying61 Tryz.underlying3 (zero_int _) mb n D rfl (hmap1.setCell HMT.out _) _ _ rfl hkey ?_
       intro c hat hwc
       obtain rfl : c = (cntK l k : Int) := by have h := hat.symm.trans (HA.out k hk); injection h with h; injection h)
    | (at_mapUpdate; refine wpList_mapUpdate_own _ rfl _ _ _ 61 rfl 3 3 law_int Tryz.underlying61 _ mb n _ rfl (hmap1.setCell HMT.out _) (by unfold maxLen; omega) _ _ _ rfl rfl hkey _ [] (plainElem_int Tryz.underlying3 (WalkArith.wf_i64 (by omega))) ?_
       intro w2 hown2 hgrow2))
  go_end0
  have hs1 : w.heap.size + 1 ≤ w1.heap.size := by have := hgrow1.size; simpa using this
  have hs2 : w1.heap.size ≤ w2.heap.size := by have := hgrow2.size; simpa using this
  have hg2 : ∀ g, g < w1.heap.size → g ≠ mb → g ≠ tb → w2.heap[g]? = w1.heap[g]? := fun g hg h1 h2 => (hgrow2.block g (by simpa using hg) (fun e => h1 (by injection e))).trans (Below.heap_setCell _ _ _ _ h2)
  have hnew : ∀ g, (Value.slice (some ⟨g', 0, none⟩) (l.length + 1) cap').ownBlock = some g → g < w1.heap.size ∧ g ≠ mb ∧ g ≠ tb := fun g hg => by
    obtain ⟨cur, hc⟩ := row_block hown1 hg
    refine ⟨(Array.getElem?_eq_some_iff.1 hc).1, fun e => ?_, fun e => ?_⟩
    · obtain ⟨es, ck, hm, _⟩ := hmap1
      rw [e, hm] at hc; simp at hc
    · rw [e, HB1.out, HH.out] at hc; simp at hc
  refine ⟨rfl, ⟨.slice (some ⟨g', 0, none⟩) (l.length + 1) cap', mb, n + 1, _, .inl hT, .inl hM, fun g hg => ?_, ?_, ?_, hown2, by simp; omega, fun x hx => ?_⟩, hgrow2.os.trans hgrow1.os, hgrow2.tape.trans hgrow1.tape, hgrow2.output.trans hgrow1.output, by omega, fun g hg hnT => ?_⟩
  · rcases hloc with h | h
    · exact .inl (hV g (h.symm.trans hg))
    · rw [h] at hg
      injection hg with hg
      right; rw [← hg]; simp
  · exact (hgrow2.block tb (by simp; omega) (fun e => HMT.out (by injection e with e; exact e.symm))).trans (heap_set0 (HB1.out.trans HH.out))
  · rw [List.length_append, List.flatMap_append]
    simp only [List.length_cons, List.length_nil, List.flatMap_cons, List.flatMap_nil, List.append_nil]
    exact row_keep hown1 fun g hg => hg2 g (hnew g hg).1 (hnew g hg).2.1 (hnew g hg).2.2
  · rw [cntK_one]
    by_cases e : x = k
    · subst e
      rw [atKey_put_same hmap.isMap (by simp [WideAt.IsKeyLit]), if_pos rfl]
      push_cast; rfl
    · rw [atKey_put_other (fun h => e (by injection h)), HA.out x hx, if_neg (fun h => e h.symm)]
      rfl
  · have h1 : g ≠ mb := fun e => hnT (e ▸ hM)
    have h2 : g ≠ tb := fun e => hnT (e ▸ hT)
    exact (hg2 g (by omega) h1 h2).trans ((hgrow1.block g (by simp; omega) (fun e => hnT (hV g e.symm))).trans (Below.heap_alloc _ _ _ hg))
theorem flat_get : ∀ (l : List Ev) (j : Nat) (u : Value), (l.flatMap evC)[j]? = some u → ∃ e, l[j / 3]? = some e ∧ (evC e)[j % 3]? = some u
  | [], j, u, h => by simp at h
  | e :: l, j, u, h => by
    rw [List.flatMap_cons] at h
    by_cases hj : j < 3
    · rw [List.getElem?_append_left (by simp [evC]; omega)] at h
      exact ⟨e, by rw [show j / 3 = 0 by omega]; rfl, by rw [show j % 3 = j by omega]; exact h⟩
    · rw [List.getElem?_append_right (by simp [evC]; omega)] at h
      obtain ⟨f, h1, h2⟩ := flat_get l (j - 3) u (by simpa [evC] using h)
      exact ⟨f, by rw [show j / 3 = (j - 3) / 3 + 1 by omega]; exact h1, by rw [show j % 3 = (j - 3) % 3 by omega]; exact h2⟩
theorem flat_at : ∀ (l : List Ev) (j : Nat) (e : Ev), l[j]? = some e → (l.flatMap evC)[j * 3]? = some (.int .i64 e.k) ∧ (l.flatMap evC)[j * 3 + 1]? = some (.int .i64 e.a) ∧ (l.flatMap evC)[j * 3 + 2]? = some (.int .i64 e.b)
  | [], j, e, h => by simp at h
  | f :: l, 0, e, h => by simp at h; subst h; simp [evC]
  | f :: l, j + 1, e, h => by
    have := flat_at l j e (by simpa using h)
    rw [List.flatMap_cons]
    refine ⟨?_, ?_, ?_⟩
    · rw [List.getElem?_append_right (by simp [evC]; omega)]; simp [evC]; rw [show (j + 1) * 3 - 3 = j * 3 by omega]; exact this.1
    · rw [List.getElem?_append_right (by simp [evC]; omega)]; simp [evC]; rw [show (j + 1) * 3 - 2 = j * 3 + 1 by omega]; exact this.2.1
    · rw [List.getElem?_append_right (by simp [evC]; omega)]; simp [evC]; rw [show (j + 1) * 3 - 1 = j * 3 + 2 by omega]; exact this.2.2
theorem flat_len (l : List Ev) : (l.flatMap evC).length = l.length * 3 := by
  induction l with
  | nil => rfl
  | cons e l ih => rw [List.flatMap_cons, List.length_append, ih]; simp [evC]; omega
/-- A row of one's own that holds events is a list of events. -/
theorem own_evs {w : World} {base : Nat} {v : Value} {l : List Ev} (h : w.ownsRow base 73 3 v l.length (l.flatMap evC)) :
    ∃ A c, v = .slice A l.length c ∧ l.length ≤ c ∧ c ≤ maxLen ∧ EvsR w (fun g => v.ownBlock = some g) A l := by
  obtain ⟨_, h⟩ := h
  rcases h with ⟨rfl, h0⟩ | ⟨g, cap, cur, rfl, hb, hg, hn, hc, hs, ht⟩
  · rw [h0]
    exact ⟨none, 0, rfl, Nat.le_refl _, by decide, fun hl => by omega⟩
  · refine ⟨some ⟨g, 0, none⟩, cap, rfl, hn, hc, fun hl => ⟨g, 0, rfl, rfl, fun j e he => ?_⟩⟩
    obtain ⟨h1, h2, h3⟩ := flat_at l j e he
    have hj : j < l.length := (List.getElem?_eq_some_iff.1 he).1
    have key : ∀ (q : Nat) (u : Value), (l.flatMap evC)[q]? = some u → w.cell? ⟨g, q, none⟩ = some u := fun q u hq => by
      rw [← ht, List.getElem?_take] at hq
      split at hq
      · simp only [World.cell?, hg]
        simpa using hq
      · cases hq
    exact ⟨by simpa using key _ _ h1, by simpa using key _ _ h2, by simpa using key _ _ h3⟩
/-- A list of events, in cells. -/
theorem EvsR.cells_ {w : World} {T : Nat → Prop} {ad : Addr} {l : List Ev} (h : EvsR w T (some ad) l) (j : Nat) (u : Value) (hj : (l.flatMap evC)[j]? = some u) : w.cell? (ad.add j) = some u := by
  obtain ⟨e, h1, h2⟩ := flat_get l j u hj
  have hl : j / 3 < l.length := (List.getElem?_eq_some_iff.1 h1).1
  obtain ⟨b, o, e0, _, hc⟩ := h (by omega)
  injection e0 with e0
  subst e0
  obtain ⟨c1, c2, c3⟩ := hc _ e h1
  have hm : j % 3 = 0 ∨ j % 3 = 1 ∨ j % 3 = 2 := by omega
  rw [show (⟨b, o, none⟩ : Addr).add j = ⟨b, o + j, none⟩ by simp [Addr.add]]
  rcases hm with hm | hm | hm <;> rw [hm] at h2 <;> simp [evC] at h2 <;> subst h2
  · rw [show o + j = o + j / 3 * 3 by omega]; exact c1
  · rw [show o + j = o + j / 3 * 3 + 1 by omega]; exact c2
  · rw [show o + j = o + j / 3 * 3 + 2 by omega]; exact c3
theorem flat_cell (l : List Ev) : ∀ u ∈ l.flatMap evC, u.oneCell' = true := fun u hu => by
  obtain ⟨e, _, he⟩ := List.mem_flatMap.1 hu
  simp [evC] at he
  rcases he with rfl | rfl | rfl <;> rfl
/-- What a call that makes a list of events gives. -/
def GivesEv (w : World) (l : List Ev) (e : Ending) (w' : World) : Prop := ∃ A c, e = .returned (.slice A l.length c) ∧ l.length ≤ c ∧ EvsR w' (fun b => w.heap.size ≤ b) A l ∧ Below w.heap.size w w'
/-- Cells of a row of one's own may be written. -/
theorem own_free {w : World} {base : Nat} {t : TypeId} {k : Nat} {v : Value} {n : Nat} {xs : List Value} {A : Option Addr} {m c : Nat} (h : w.ownsRow base t k v n xs) (hv : v = .slice A m c) : ∀ b o, A = some ⟨b, o, none⟩ → ∀ j, w.frozen? ⟨b, j, none⟩ = false := by
  intro b o e j
  obtain ⟨_, h⟩ := h
  rcases h with ⟨h0, _⟩ | ⟨g, cap, cur, h0, _, hg, _⟩
  · rw [hv, e] at h0; cases h0
  · rw [hv, e] at h0
    injection h0 with h1
    injection h1 with h1
    injection h1 with h1
    subst h1
    simp [World.frozen?, hg]
/-- What a call gives that makes a list of events, whose cells may be written. -/
def GivesEvW (w : World) (l : List Ev) (e : Ending) (w' : World) : Prop := ∃ A c, e = .returned (.slice A l.length c) ∧ l.length ≤ c ∧ EvsR w' (fun b => w.heap.size ≤ b) A l ∧ Below w.heap.size w w' ∧ ∀ b o, A = some ⟨b, o, none⟩ → ∀ j, w'.frozen? ⟨b, j, none⟩ = false
theorem GivesEvW.g {w : World} {l : List Ev} {e : Ending} {w' : World} (h : GivesEvW w l e w') : GivesEv w l e w' := by
  obtain ⟨A, c, h1, h2, h3, h4, _⟩ := h
  exact ⟨A, c, h1, h2, h3, h4⟩
/-- slices.Clone of events. -/
theorem evCloneW_any (A : Option Addr) (c : Nat) (l : List Ev) (T : Nat → Prop) (w : World) (ha : EvsR w T A l) (hl : l.length ≤ 1000000) :
    Calls Tryz.prog 29 #[.slice A l.length c] w (GivesEvW w l) := by
  obtain ⟨i0, hi, hz0, hz1, hz2⟩ := info_parts infoEv
  have hq : ∀ (w : World) (a : Option Addr) (n c n' c' : Nat), (binOp .eql 31 (.slice a n c) (.slice none n' c')).run Tryz.prog w = .ok (.bool a.isNone) w := fun w a n c n' c' => Lib.run_eql_slice_nil w _ 73 a n c n' c' Tryz.underlying31
  cases A with
  | none =>
    have h0 : l = [] := by
      rcases l with _ | ⟨e, l⟩
      · rfl
      · obtain ⟨b, o, e, _⟩ := ha (by simp); cases e
    subst h0
    go_enter Tryz.func29, Tryz.ntmps29
    go_wp2
    go_ret
    exact ⟨none, 0, rfl, Nat.le_refl _, EvsR.nil_ _ _ _, Below.refl _ _, fun b o e => by cases e⟩
  | some ad =>
    have HC := Lib.hid (show ∀ (j : Nat) (u : Value), (l.flatMap evC)[j]? = some u → (w.alloc (.cells #[] 73)).cell? (ad.add j) = some u from fun j u hj => Lib.cell?_alloc_some _ (ha.cells_ j u hj))
    have hrow : (w.alloc (.cells #[] 73)).ownsRow w.heap.size 73 3 (.slice (some ⟨w.heap.size, 0, none⟩) 0 0) 0 [] := World.ownsRow_made w #[] 0 (Nat.le_refl _) (by decide) rfl
    go_enter Tryz.func29, Tryz.ntmps29
    go_wp2_with (first
      | (at_builtin; refine wpList_append_own _ rfl _ _ 31 rfl w.heap.size 73 i0 (.agg #[.int .i64 0, .int .i64 0, .int .i64 0]) 3 24 Tryz.underlying31 hi hz0 hz1 hz2 rfl (by decide) _ 0 [] rfl hrow ad l.length c (l.flatMap evC) rfl (flat_len l) HC.out (flat_cell l) (by unfold maxLen; omega) (by omega) (by simp) ?_
         intro v' w1 hown1 hgrow1 _))
    go_ret
    rw [Nat.zero_add, List.nil_append] at hown1
    obtain ⟨A', c', hv', hlc, _, hev⟩ := own_evs hown1
    have hfr := own_free hown1 hv'
    subst hv'
    exact ⟨A', c', rfl, hlc, hev.imp (fun g hg => (hown1.lt g hg).1), ((Below.refl _ _).alloc (Nat.le_refl _) _).grown hgrow1 (by simp) (fun k e => by injection e with e; exact Nat.le_of_eq e), hfr⟩
theorem TapeW.keep {w w' : World} {T : Nat → Prop} {tb : Nat} {l : List Ev} (h : TapeW w T tb l) (hk : ∀ b, T b → b < w.heap.size → w'.heap[b]? = w.heap[b]?) : TapeW w' T tb l := by
  obtain ⟨v, mb, n, D, hT, hM, hV, hh, hrow, hmap, hn, hat⟩ := h
  refine ⟨v, mb, n, D, hT, hM, hV, (hk tb hT (Array.getElem?_eq_some_iff.1 hh).1).trans hh, row_keep hrow fun g hg => hk g (hV g hg) (hrow.lt g hg).2, ?_, hn, hat⟩
  obtain ⟨es, ck, hm, rest⟩ := hmap
  exact ⟨es, ck, (hk mb hM (Array.getElem?_eq_some_iff.1 hm).1).trans hm, rest⟩
theorem TapeW.imp {w : World} {T U : Nat → Prop} {tb : Nat} {l : List Ev} (h : TapeW w T tb l) (hTU : ∀ b, T b → U b) : TapeW w U tb l := by
  obtain ⟨v, mb, n, D, hT, hM, hV, rest⟩ := h
  exact ⟨v, mb, n, D, hTU _ hT, hTU _ hM, fun g hg => hTU g (hV g hg), rest⟩
theorem TapeW.next {w w' : World} {T : Nat → Prop} {tb : Nat} {l : List Ev} (h : TapeW w T tb l) (hb : Below w.heap.size w w') : TapeW w' T tb l := h.keep fun b _ hlt => hb.block b hlt
theorem TapeW.now {w : World} {T : Nat → Prop} {tb : Nat} {l : List Ev} (h : TapeW w T tb l) : TapeW w (fun g => T g ∧ g < w.heap.size) tb l := by
  obtain ⟨v, mb, n, D, hT, hM, hV, hh, hrow, hmap, hn, hat⟩ := h
  exact ⟨v, mb, n, D, ⟨hT, (Array.getElem?_eq_some_iff.1 hh).1⟩, ⟨hM, hmap.lt⟩, fun g hg => ⟨hV g hg, (hrow.lt g hg).2⟩, hh, hrow, hmap, hn, hat⟩
/-- A tape, or none. -/
def TapeO (w : World) (T : Nat → Prop) (v : Value) (l : List Ev) : Prop := (v = .pointer none ∧ l = []) ∨ ∃ tb, v = .pointer (some ⟨tb, 0, none⟩) ∧ TapeW w T tb l
theorem TapeW.o {w : World} {T : Nat → Prop} {tb : Nat} {l : List Ev} (h : TapeW w T tb l) : TapeO w T (.pointer (some ⟨tb, 0, none⟩)) l := .inr ⟨tb, rfl, h⟩
theorem recorded_any (v : Value) (l : List Ev) (T : Nat → Prop) (w : World) (h : TapeO w T v l) (hl : l.length ≤ 1000000) :
    Calls Tryz.prog 30 #[v] w fun e w' => ∃ A c, e = .returned (.slice A l.length c) ∧ EvsR w T A l ∧ ∃ n, w' = w.drewN n := by
  rcases h with ⟨rfl, rfl⟩ | ⟨tb, rfl, h⟩
  · go_enter Tryz.func30, Tryz.ntmps30
    go_wp2
    go_ret
    exact ⟨none, 0, rfl, EvsR.nil_ _ _ _, 0, rfl⟩
  · obtain ⟨v, mb, n, D, hT, hM, hV, hh, hrow, hmap, hn, hat⟩ := h
    obtain ⟨c0, c1, f0, f1⟩ := two_of_heap hh
    obtain ⟨A, c, rfl, hlc, hcm, hev⟩ := own_evs hrow
    have hev := hev.imp hV
    have HH := Lib.hid hh
    unfold maxLen at hcm
    clear hh hrow hmap hV hat
    go_enter Tryz.func30, Tryz.ntmps30
    go_wp2
    go_quiet (fail)
    go_wp2
    go_ret
    exact ⟨A, l.length, rfl, hev, _, rfl⟩
theorem tapeLen_any (v : Value) (l : List Ev) (T : Nat → Prop) (w : World) (h : TapeO w T v l) (hl : l.length ≤ 1000000) : Calls Tryz.prog 17 #[v] w fun e w' => e = .returned (.int .i64 l.length) ∧ Below w.heap.size w w' := by
  go_enter Tryz.func17, Tryz.ntmps17
  go_wp2_with (fail)
  refine (recorded_any v l T w h hl).mono ?_
  rintro e w1 ⟨A, c, rfl, _, n, rfl⟩
  go_wp2
  go_ret
  exact ⟨rfl, below_drewN' (Below.refl _ _) n⟩
theorem tapeEventsW_any (v : Value) (l : List Ev) (T : Nat → Prop) (w : World) (h : TapeO w T v l) (hl : l.length ≤ 1000000) : Calls Tryz.prog 12 #[v] w (GivesEvW w l) := by
  go_enter Tryz.func12, Tryz.ntmps12
  go_wp2_with (fail)
  refine (recorded_any v l T w h hl).mono ?_
  rintro e w1 ⟨A, c, rfl, hev, n, rfl⟩
  go_wp2_with (fail)
  refine (evCloneW_any A c l T (w.drewN n) hev hl).mono ?_
  rintro e w2 ⟨A', c', rfl, hc, hev2, hb, hf⟩
  go_wp2
  go_ret
  exact ⟨A', c', rfl, hc, hev2, (below_drewN' (Below.refl _ _) n).trans hb, hf⟩
set_option maxHeartbeats 4000000 in
theorem tapeFirst_any (u v : Value) (l m : List Ev) (T U : Nat → Prop) (w : World) (h : TapeO w T u l) (k : TapeO w U v m) (hl : l.length ≤ 1000000) (hm : m.length ≤ 1000000) : Calls Tryz.prog 36 #[u, v] w fun e w' => e = .returned (.int .i64 (firstD l m)) ∧ Below w.heap.size w w' := by
  rcases Nat.le_total l.length m.length with hle | hle
  · have hmin : min (l.length : Int) (m.length : Int) = (l.length : Int) := Int.min_eq_left (by omega)
    go_enter Tryz.func36, Tryz.ntmps36
    go_wp2_with (fail)
    refine (recorded_any u l T w h hl).mono ?_
    rintro e w1 ⟨A, c, rfl, ha, n1, rfl⟩
    go_wp2_with (fail)
    refine (recorded_any v m U (w.drewN n1) k hm).mono ?_
    rintro e w2 ⟨B, d, rfl, hb, n2, rfl⟩
    have hb : EvsR w U B m := hb
    go_wp2
    go_loopw [19] (fun i wr => ∃ k n : Nat, i = .int .i64 k ∧ k ≤ l.length ∧ k ≤ m.length ∧ l.take k = m.take k ∧ wr = w.drewN n) (fun i _ => l.length - (intOf i).toNat)
    case atStart => exact ⟨0, n1 + n2, rfl, Nat.zero_le _, Nat.zero_le _, by simp, rfl⟩
    case round =>
      obtain ⟨k, n, rfl, hk1, hk2, heq, rfl⟩ := hrel
      have HQ := Lib.hid heq
      clear heq
      by_cases hgo : k < l.length
      · have hg1 : k < l.length := by omega
        have hg2 : k < m.length := by omega
        obtain ⟨b, o, rfl, _, h1, h2, h3⟩ := ha.at_ hg1
        obtain ⟨b2, o2, rfl, _, g1, g2, g3⟩ := hb.at_ hg2
        clear ha hb
        obtain ⟨e, he⟩ : ∃ e, e = l[k]'hg1 := ⟨_, rfl⟩
        obtain ⟨f, hf⟩ : ∃ f, f = m[k]'hg2 := ⟨_, rfl⟩
        rw [← he] at h1 h2 h3
        rw [← hf] at g1 g2 g3
        have HE := Lib.hid he
        have HF := Lib.hid hf
        clear he hf
        by_cases hef : e = f
        · subst hef
          have d1 : (e.k == e.k) = true := beq_self_eq_true _
          have d2 : (e.a == e.a) = true := beq_self_eq_true _
          have d3 : (e.b == e.b) = true := beq_self_eq_true _
          go_wp2
          go_quiet (fail)
          go_wp2
          go_roundw
          case rel => exact ⟨k + 1, n + nq, by go_num, hg1, hg2, take_snoc_eq HQ.out hg1 hg2 (by rw [← HE.out, ← HF.out]), rfl⟩
          case measure => simp [intOf]; omega
        · have HN := Lib.hid hef
          by_cases c1 : e.k = f.k
          · have d1 : (e.k == f.k) = true := by rw [beq_iff_eq]; exact c1
            by_cases c2 : e.a = f.a
            · have d2 : (e.a == f.a) = true := by rw [beq_iff_eq]; exact c2
              have d3 : (e.b == f.b) = false := by rw [beq_eq_false_iff_ne]; exact fun c3 => HN.out (ev_ext c1 c2 c3)
              clear c1 c2 hef
              go_wp2
              go_quiet (fail)
              go_wp2
              go_ret
              exact ⟨by rw [firstD_at HQ.out hg1 hg2 (by rw [← HE.out, ← HF.out]; exact HN.out)]; rfl, below_drewN' (below_drewN' (Below.refl _ _) _) _⟩
            · have d2 : (e.a == f.a) = false := by rw [beq_eq_false_iff_ne]; exact c2
              clear c1 c2 hef
              go_wp2
              go_quiet (fail)
              go_wp2
              go_ret
              exact ⟨by rw [firstD_at HQ.out hg1 hg2 (by rw [← HE.out, ← HF.out]; exact HN.out)]; rfl, below_drewN' (below_drewN' (Below.refl _ _) _) _⟩
          · have d1 : (e.k == f.k) = false := by rw [beq_eq_false_iff_ne]; exact c1
            clear c1 hef
            go_wp2
            go_quiet (fail)
            go_wp2
            go_ret
            exact ⟨by rw [firstD_at HQ.out hg1 hg2 (by rw [← HE.out, ← HF.out]; exact HN.out)]; rfl, below_drewN' (below_drewN' (Below.refl _ _) _) _⟩
      · have HV := Lib.hid (firstD_end HQ.out (.inl (by omega)) hk1 hk2)
        clear ha hb
        by_cases heq : l.length = m.length
        · have hd : ((l.length : Int) != (m.length : Int)) = false := by rw [bne_eq_false_iff_eq]; omega
          have HL := Lib.hid heq
          clear heq
          go_wp2
          go_ret
          exact ⟨by rw [HV.out, if_pos HL.out]; rfl, below_drewN' (Below.refl _ _) _⟩
        · have hd : ((l.length : Int) != (m.length : Int)) = true := by rw [bne_iff_ne]; omega
          have HL := Lib.hid heq
          have HM := Lib.hid hmin
          clear heq
          go_wp2
          go_ret
          exact ⟨by rw [HV.out, if_neg HL.out, HM.out]; rfl, below_drewN' (Below.refl _ _) _⟩
  · have hmin : min (l.length : Int) (m.length : Int) = (m.length : Int) := Int.min_eq_right (by omega)
    go_enter Tryz.func36, Tryz.ntmps36
    go_wp2_with (fail)
    refine (recorded_any u l T w h hl).mono ?_
    rintro e w1 ⟨A, c, rfl, ha, n1, rfl⟩
    go_wp2_with (fail)
    refine (recorded_any v m U (w.drewN n1) k hm).mono ?_
    rintro e w2 ⟨B, d, rfl, hb, n2, rfl⟩
    have hb : EvsR w U B m := hb
    go_wp2
    go_loopw [19] (fun i wr => ∃ k n : Nat, i = .int .i64 k ∧ k ≤ l.length ∧ k ≤ m.length ∧ l.take k = m.take k ∧ wr = w.drewN n) (fun i _ => l.length - (intOf i).toNat)
    case atStart => exact ⟨0, n1 + n2, rfl, Nat.zero_le _, Nat.zero_le _, by simp, rfl⟩
    case round =>
      obtain ⟨k, n, rfl, hk1, hk2, heq, rfl⟩ := hrel
      have HQ := Lib.hid heq
      clear heq
      by_cases hgo : k < m.length
      · have hg1 : k < l.length := by omega
        have hg2 : k < m.length := by omega
        obtain ⟨b, o, rfl, _, h1, h2, h3⟩ := ha.at_ hg1
        obtain ⟨b2, o2, rfl, _, g1, g2, g3⟩ := hb.at_ hg2
        clear ha hb
        obtain ⟨e, he⟩ : ∃ e, e = l[k]'hg1 := ⟨_, rfl⟩
        obtain ⟨f, hf⟩ : ∃ f, f = m[k]'hg2 := ⟨_, rfl⟩
        rw [← he] at h1 h2 h3
        rw [← hf] at g1 g2 g3
        have HE := Lib.hid he
        have HF := Lib.hid hf
        clear he hf
        by_cases hef : e = f
        · subst hef
          have d1 : (e.k == e.k) = true := beq_self_eq_true _
          have d2 : (e.a == e.a) = true := beq_self_eq_true _
          have d3 : (e.b == e.b) = true := beq_self_eq_true _
          go_wp2
          go_quiet (fail)
          go_wp2
          go_roundw
          case rel => exact ⟨k + 1, n + nq, by go_num, hg1, hg2, take_snoc_eq HQ.out hg1 hg2 (by rw [← HE.out, ← HF.out]), rfl⟩
          case measure => simp [intOf]; omega
        · have HN := Lib.hid hef
          by_cases c1 : e.k = f.k
          · have d1 : (e.k == f.k) = true := by rw [beq_iff_eq]; exact c1
            by_cases c2 : e.a = f.a
            · have d2 : (e.a == f.a) = true := by rw [beq_iff_eq]; exact c2
              have d3 : (e.b == f.b) = false := by rw [beq_eq_false_iff_ne]; exact fun c3 => HN.out (ev_ext c1 c2 c3)
              clear c1 c2 hef
              go_wp2
              go_quiet (fail)
              go_wp2
              go_ret
              exact ⟨by rw [firstD_at HQ.out hg1 hg2 (by rw [← HE.out, ← HF.out]; exact HN.out)]; rfl, below_drewN' (below_drewN' (Below.refl _ _) _) _⟩
            · have d2 : (e.a == f.a) = false := by rw [beq_eq_false_iff_ne]; exact c2
              clear c1 c2 hef
              go_wp2
              go_quiet (fail)
              go_wp2
              go_ret
              exact ⟨by rw [firstD_at HQ.out hg1 hg2 (by rw [← HE.out, ← HF.out]; exact HN.out)]; rfl, below_drewN' (below_drewN' (Below.refl _ _) _) _⟩
          · have d1 : (e.k == f.k) = false := by rw [beq_eq_false_iff_ne]; exact c1
            clear c1 hef
            go_wp2
            go_quiet (fail)
            go_wp2
            go_ret
            exact ⟨by rw [firstD_at HQ.out hg1 hg2 (by rw [← HE.out, ← HF.out]; exact HN.out)]; rfl, below_drewN' (below_drewN' (Below.refl _ _) _) _⟩
      · have HV := Lib.hid (firstD_end HQ.out (.inr (by omega)) hk1 hk2)
        clear ha hb
        by_cases heq : l.length = m.length
        · have hd : ((l.length : Int) != (m.length : Int)) = false := by rw [bne_eq_false_iff_eq]; omega
          have HL := Lib.hid heq
          clear heq
          go_wp2
          go_ret
          exact ⟨by rw [HV.out, if_pos HL.out]; rfl, below_drewN' (Below.refl _ _) _⟩
        · have hd : ((l.length : Int) != (m.length : Int)) = true := by rw [bne_iff_ne]; omega
          have HL := Lib.hid heq
          have HM := Lib.hid hmin
          clear heq
          go_wp2
          go_ret
          exact ⟨by rw [HV.out, if_neg HL.out, HM.out]; rfl, below_drewN' (Below.refl _ _) _⟩
theorem tapeEqual_any (u v : Value) (l m : List Ev) (r : Bool) (T U : Nat → Prop) (w : World) (h : TapeO w T u l) (k : TapeO w U v m) (hl : l.length ≤ 1000000) (hm : m.length ≤ 1000000) (hr : decide (l = m) = r) : Calls Tryz.prog 19 #[u, v] w fun e w' => e = .returned (.bool r) ∧ Below w.heap.size w w' := by
  have HD := Lib.hid ((firstD_neg l m).trans hr)
  clear hr
  go_enter Tryz.func19, Tryz.ntmps19
  go_wp2_with (fail)
  refine (tapeFirst_any u v l m T U w h k hl hm).mono ?_
  rintro e w1 ⟨rfl, hb⟩
  go_wp2
  go_ret
  exact ⟨by rw [← HD.out]; rfl, hb⟩
theorem tapeEvents_any (v : Value) (l : List Ev) (T : Nat → Prop) (w : World) (h : TapeO w T v l) (hl : l.length ≤ 1000000) : Calls Tryz.prog 12 #[v] w (GivesEv w l) := (tapeEventsW_any v l T w h hl).mono fun e w' h => h.g
theorem tapeNoteNil_any (k a b : Int) (w : World) : Calls Tryz.prog 46 #[.pointer none, .int .i64 k, .int .i64 a, .int .i64 b] w fun e w' => e = .returned (.tuple #[]) ∧ w' = w := by
  go_enter Tryz.func46, Tryz.ntmps46
  go_wp2
  refine bodyPost_ret (results_none rfl _ _ _) rfl ?_
  exact ⟨rfl, rfl⟩
end Go.Proofs.YthmkllpdkcmccaaGreatDoor
namespace Go.Proofs.YthmkllpdkcmccaaGreatDoor
open Go.RowKit Go.Maps
set_option maxRecDepth 100000
set_option linter.unusedVariables false
set_option linter.unusedSimpArgs false

/-- The events behind more events: none for no tape. -/
def addT (v : Value) (l m : List Ev) : List Ev := match v with
  | .pointer none => []
  | _ => l ++ m
theorem addT_some (tb : Nat) (l m : List Ev) : addT (.pointer (some ⟨tb, 0, none⟩)) l m = l ++ m := rfl
/-- One event for each of the first k indices. -/
def evR (kind : Int) (k : Nat) : List Ev := (List.range k).map fun i : Nat => ⟨kind, i, 0⟩
theorem evR_succ (kind : Int) (k : Nat) : evR kind (k + 1) = evR kind k ++ [⟨kind, k, 0⟩] := by unfold evR; rw [List.range_succ]; simp
theorem TapeO.now {w : World} {T : Nat → Prop} {v : Value} {l : List Ev} (h : TapeO w T v l) : TapeO w (fun g => T g ∧ g < w.heap.size) v l := by
  rcases h with h | ⟨tb, e, h⟩
  · exact .inl h
  · exact .inr ⟨tb, e, h.now⟩
theorem TapeO.imp {w : World} {T U : Nat → Prop} {v : Value} {l : List Ev} (h : TapeO w T v l) (hTU : ∀ b, T b → U b) : TapeO w U v l := by
  rcases h with h | ⟨tb, e, h⟩
  · exact .inl h
  · exact .inr ⟨tb, e, h.imp hTU⟩
theorem TapeO.keep {w w' : World} {T : Nat → Prop} {v : Value} {l : List Ev} (h : TapeO w T v l) (hk : ∀ b, T b → b < w.heap.size → w'.heap[b]? = w.heap[b]?) : TapeO w' T v l := by
  rcases h with h | ⟨tb, e, h⟩
  · exact .inl h
  · exact .inr ⟨tb, e, h.keep hk⟩
theorem TapeO.next {w w' : World} {T : Nat → Prop} {v : Value} {l : List Ev} (h : TapeO w T v l) (hb : Below w.heap.size w w') : TapeO w' T v l := h.keep fun b _ hlt => hb.block b hlt
/-- Note, for a tape or none. -/
theorem noteO_any (v : Value) (l : List Ev) (T : Nat → Prop) (k a b : Int) (w : World) (h : TapeO w T v l) (hl : l.length ≤ 1000000) (hk : (Lit.int .i64 k).wf = true) (hT : ∀ g, w.heap.size ≤ g → T g) :
    Calls Tryz.prog 46 #[v, .int .i64 k, .int .i64 a, .int .i64 b] w fun e w' => e = .returned (.tuple #[]) ∧ TapeO w' T v (addT v l [⟨k, a, b⟩]) ∧ Moved T w w' := by
  rcases h with ⟨rfl, rfl⟩ | ⟨tb, rfl, h⟩
  · refine (tapeNoteNil_any k a b w).mono ?_
    rintro e w' ⟨rfl, rfl⟩
    exact ⟨rfl, .inl ⟨rfl, rfl⟩, Moved.refl _ _⟩
  · refine (tapeNote_any tb l T k a b w h hl hk).mono ?_
    rintro e w' ⟨rfl, ht, hm⟩
    exact ⟨rfl, .inr ⟨tb, rfl, ht.imp fun g hg => hg.elim id (hT g)⟩, hm⟩
theorem tape_start {w W : World} {T : Nat → Prop} {v : Value} {l : List Ev} (h : TapeO w T v l) (hb : Below w.heap.size w W) (B : Nat) (d o : Obj) : TapeO ((W.alloc d).alloc o) (Star w T B) v l := by
  have h2 : Below W.heap.size W ((W.alloc d).alloc o) := ((Below.refl _ _).alloc (Nat.le_refl _) _).alloc (by simp) _
  exact (h.now.next (hb.trans (h2.mono hb.size))).imp fun g hg => .inl hg
theorem TapeO.out {w W : World} {T : Nat → Prop} {B : Nat} {v : Value} {l : List Ev} (h : TapeO W (Star w T B) v l) (hB : w.heap.size ≤ B) : TapeO W (fun g => T g ∨ w.heap.size ≤ g) v l :=
  h.imp fun g hg => by rcases hg with ⟨hg, _⟩ | hg; exact .inl hg; exact .inr (by omega)
theorem TapeO.drewN {W : World} {T : Nat → Prop} {v : Value} {l : List Ev} (h : TapeO W T v l) (n : Nat) : TapeO (W.drewN n) T v l := h.next (below_drewN' (Below.refl _ _) n)
theorem tape_put {w W : World} {T : Nat → Prop} {B : Nat} {v : Value} {l : List Ev} (h : TapeO W (Star w T B) v l) {k : Nat} (h1 : w.heap.size ≤ k) (h2 : k < B) (o : Obj) : TapeO (W.putObj k o) (Star w T B) v l :=
  h.keep fun b hb _ => World.putObj_heap_other fun e => Star.not h1 h2 (e ▸ hb)
theorem tape_set {w W : World} {T : Nat → Prop} {B : Nat} {v : Value} {l : List Ev} (h : TapeO W (Star w T B) v l) {k : Nat} (h1 : w.heap.size ≤ k) (h2 : k < B) (x : Value) : TapeO (W.setCell ⟨k, 0, none⟩ x) (Star w T B) v l :=
  h.keep fun b hb _ => Below.heap_setCell _ _ _ _ fun e => Star.not h1 h2 (e ▸ hb)
theorem addT_assoc (v : Value) (l m n : List Ev) : addT v (addT v l m) n = addT v l (m ++ n) := by
  unfold addT
  split <;> simp
theorem addT_nil {w : World} {T : Nat → Prop} {v : Value} {l : List Ev} (h : TapeO w T v l) : addT v l [] = l := by
  rcases h with ⟨rfl, rfl⟩ | ⟨tb, rfl, _⟩
  · rfl
  · rw [addT_some, List.append_nil]
theorem moved_mix {T : Nat → Prop} {w W w' : World} (hb : Below w.heap.size w W) (hm : Moved (fun g => (T g ∧ g < w.heap.size) ∨ W.heap.size ≤ g) W w') : Moved T w w' :=
  ⟨hm.os.trans hb.os, hm.tape.trans hb.tape, hm.output.trans hb.output, Nat.le_trans hb.size hm.size, fun g hg hT => (hm.block g (Nat.lt_of_lt_of_le hg hb.size) (fun h => by rcases h with h | h; exact hT h.1; have := hb.size; omega)).trans (hb.block g hg)⟩
theorem tape_mix {T : Nat → Prop} {w W : World} {v : Value} {l : List Ev} (h : TapeO w T v l) (hb : Below w.heap.size w W) : TapeO W (fun g => (T g ∧ g < w.heap.size) ∨ W.heap.size ≤ g) v l := (h.now.next hb).imp fun g hg => .inl hg
theorem moved_out {T : Nat → Prop} {w W w' : World} (h : Moved T w W) (k : Moved (fun g => T g ∨ w.heap.size ≤ g) W w') : Moved T w w' :=
  ⟨k.os.trans h.os, k.tape.trans h.tape, k.output.trans h.output, Nat.le_trans h.size k.size, fun g hg hT => (k.block g (Nat.lt_of_lt_of_le hg h.size) (fun h2 => h2.elim hT (fun h3 => by omega))).trans (h.block g hg hT)⟩
theorem moved_own {T : Nat → Prop} {w W W' : World} {g : Nat} (h : Moved T w W) (k : Moved (fun b => b = g) W W') (hg : w.heap.size ≤ g) : Moved T w W' :=
  ⟨k.os.trans h.os, k.tape.trans h.tape, k.output.trans h.output, Nat.le_trans h.size k.size, fun b hb hT => (k.block b (Nat.lt_of_lt_of_le hb h.size) (fun e => by omega)).trans (h.block b hb hT)⟩
theorem addT_evR {v : Value} {l : List Ev} {kind : Int} {k : Nat} : addT v (addT v l (evR kind k)) [⟨kind, k, 0⟩] = addT v l (evR kind (k + 1)) := by rw [addT_assoc, evR_succ]
theorem addT_le (v : Value) (l m : List Ev) : (addT v l m).length ≤ l.length + m.length := by unfold addT; split <;> simp
theorem evR_len (kind : Int) (k : Nat) : (evR kind k).length = k := by unfold evR; simp
end Go.Proofs.YthmkllpdkcmccaaGreatDoor
namespace Go.Proofs.YthmkllpdkcmccaaGreatDoor
open Go.RowKit Go.Maps
set_option maxRecDepth 100000
set_option linter.unusedVariables false
set_option linter.unusedSimpArgs false

/-- The events of one edge: its other vertices. -/
def otherE (n i k : Nat) : List Ev := ((List.range k).filter fun j => !(j == i) && !(j == nx n i)).map fun j : Nat => ⟨4, i, j⟩
def validB (n k : Nat) : List Ev := (List.range k).flatMap fun i => otherE n i n
def okN (n : Nat) : Bool := decide (3 ≤ n) && decide (n ≤ 64)
/-- The events of Valid. -/
def validE (n : Nat) : List Ev := if okN n then validB n n else []
/-- The events of Locate. -/
def locateE (n : Nat) : List Ev := if okN n then evR 5 n else []
theorem okN_iff (n : Nat) : okN n = true ↔ 3 ≤ n ∧ n ≤ 64 := by unfold okN; simp
theorem okN_isP (l : List Pt) : okN l.length = isP l := rfl
theorem otherE_succ (n i k : Nat) : otherE n i (k + 1) = otherE n i k ++ if k = i ∨ k = nx n i then [] else [⟨4, i, k⟩] := by
  unfold otherE
  rw [List.range_succ, List.filter_append, List.map_append]
  congr 1
  by_cases h1 : k = i
  · rw [if_pos (.inl h1)]; simp [h1]
  · by_cases h2 : k = nx n i
    · rw [if_pos (.inr h2)]; simp [h2]
    · rw [if_neg (by omega)]; simp [h1, h2]
theorem validB_succ (n k : Nat) : validB n (k + 1) = validB n k ++ otherE n k n := by unfold validB; rw [List.range_succ, List.flatMap_append]; simp
theorem otherE_len (n i k : Nat) : (otherE n i k).length ≤ k := by
  unfold otherE
  rw [List.length_map]
  refine Nat.le_trans (List.length_filter_le _ _) ?_
  simp
theorem validB_len (n k : Nat) : (validB n k).length ≤ k * n := by
  induction k with
  | zero => simp [validB]
  | succ k ih => rw [validB_succ, List.length_append, Nat.succ_mul]; have := otherE_len n k n; omega
theorem validE_len (n : Nat) : (validE n).length ≤ 4096 := by
  unfold validE
  split
  · rename_i h
    unfold okN at h
    simp only [Bool.and_eq_true, decide_eq_true_eq] at h
    have h1 := validB_len n n
    have h2 : n * n ≤ 64 * 64 := Nat.mul_le_mul h.2 h.2
    omega
  · simp
theorem locateE_len (n : Nat) : (locateE n).length ≤ 64 := by
  unfold locateE
  split
  · rename_i h
    unfold okN at h
    simp only [Bool.and_eq_true, decide_eq_true_eq] at h
    unfold evR
    simp; omega
  · simp
/-- What has been looked at: the vertices below k beside an edge; the edges below k. -/
def rowTo (l : List Pt) (s : Int) (i k : Nat) : Prop := ∀ j, j < k → j ≠ i → j ≠ nx l.length i → side l i (Go.Proofs.YthmkllpdkcmccaaGreatDoor.at_ l j) = s
def goodTo (l : List Pt) (s : Int) (k : Nat) : Prop := ∀ i, i < k → rowTo l s i l.length
theorem rowTo_zero (l : List Pt) (s : Int) (i : Nat) : rowTo l s i 0 := fun j h => by omega
theorem rowTo_skip {l : List Pt} {s : Int} {i k : Nat} (h : rowTo l s i k) (hk : k = i ∨ k = nx l.length i) : rowTo l s i (k + 1) := fun j h1 h2 h3 => h j (by omega) h2 h3
theorem rowTo_succ {l : List Pt} {s : Int} {i k : Nat} (h : rowTo l s i k) (hk : side l i (Go.Proofs.YthmkllpdkcmccaaGreatDoor.at_ l k) = s) : rowTo l s i (k + 1) := fun j h1 h2 h3 => by
  by_cases e : j = k
  · subst e; exact hk
  · exact h j (by omega) h2 h3
theorem goodTo_zero (l : List Pt) (s : Int) : goodTo l s 0 := fun j h => by omega
theorem goodTo_succ {l : List Pt} {s : Int} {k : Nat} (h : goodTo l s k) (hk : rowTo l s k l.length) : goodTo l s (k + 1) := fun j h1 => by
  by_cases e : j = k
  · subst e; exact hk
  · exact h j (by omega)
theorem validP_lo {l : List Pt} (h : isP l = false) : validP l = false := by unfold validP; rw [h]; rfl
theorem validP_no {l : List Pt} {s : Int} {i j : Nat} (hs : orP l = s) (hi : i < l.length) (hj : j < l.length) (h1 : j ≠ i) (h2 : j ≠ nx l.length i) (h : side l i (Go.Proofs.YthmkllpdkcmccaaGreatDoor.at_ l j) ≠ s) : validP l = false := by
  unfold validP
  rw [decide_eq_false (p := good l (orP l)) (fun hg => h (by rw [← hs]; exact hg i hi j hj h1 h2)), Bool.and_false]
theorem validP_end {l : List Pt} {s : Int} (hp : isP l = true) (hs : orP l = s) (h : goodTo l s l.length) : validP l = (s != 0) := by
  unfold validP
  rw [hp, decide_eq_true (p := good l (orP l)) (fun i hi j hj h1 h2 => by rw [hs]; exact h i hi j hj h1 h2), hs]
  by_cases e : s = 0 <;> simp [e]
theorem tmod_nx {n i : Nat} (h : i < n) : ((i : Int) + 1).tmod (n : Int) = (nx n i : Nat) := by
  rw [show ((i : Int) + 1) = ((i + 1 : Nat) : Int) by omega, ← Int.ofNat_tmod, nx_mod h]
end Go.Proofs.YthmkllpdkcmccaaGreatDoor
namespace Go.Proofs.YthmkllpdkcmccaaGreatDoor
open Go.RowKit
set_option maxRecDepth 100000
set_option linter.unusedVariables false
set_option linter.unusedSimpArgs false

theorem rint {k : IntKind} {a b : Int} (h : a = b) : Ending.returned (.int k a) = .returned (.int k b) := by rw [h]
theorem r3digit_any (A : Option Addr) (c : Nat) (ds : List Int) (i : Nat) (S : Nat → Prop) (w : World) (h : SlR w S .i64 A ds) :
    Calls Tryz.prog 130 #[.slice A ds.length c, .int .i64 i] w fun e w' => e = .returned (.int .i64 (dgt ds i)) ∧ w' = w := by
  by_cases hi : i < ds.length
  · obtain ⟨b, off, rfl, _, hc⟩ := h.at_ hi
    have HD := Lib.hid (dgt_lt hi)
    clear h
    go_enter Tryz.func130, Tryz.ntmps130
    go_wp2
    go_ret
    exact ⟨rint HD.out.symm, rfl⟩
  · have HD := Lib.hid (dgt_ge (Nat.le_of_not_lt hi))
    go_enter Tryz.func130, Tryz.ntmps130
    go_wp2
    go_ret
    exact ⟨rint HD.out.symm, rfl⟩
theorem trim_stop {ds : List Int} {k : Nat} (hk : k ≤ ds.length) (h : 0 < k → ds.getD (k - 1) 0 ≠ 0) : trimL (ds.take k) = ds.take k := by
  match k, hk, h with
  | 0, _, _ => simp [trimL]
  | k + 1, hk, h =>
    rw [List.take_succ_eq_append_getElem (by omega)]
    refine trimL_snoc ?_ _
    have := h (by omega)
    simpa [show k < ds.length by omega] using this
theorem trim_go {ds : List Int} {k : Nat} (hk : k < ds.length) (h : ds[k] = 0) : trimL (ds.take (k + 1)) = trimL (ds.take k) := by
  rw [List.take_succ_eq_append_getElem hk, h, trimL_snoc_zero]
def sLen : Value → Nat
  | .slice _ n _ => n
  | _ => 0
def SliceIs (w : World) (A : Option Addr) (c : Nat) (ds : List Int) (e : Ending) (w' : World) : Prop := e = .returned (.slice A ds.length c) ∧ w' = w
theorem r3trim_any (A : Option Addr) (c : Nat) (ds : List Int) (S : Nat → Prop) (w : World) (h : SlR w S .i64 A ds) (hl : ds.length ≤ 1000000) (hc : ds.length ≤ c) :
    Calls Tryz.prog 129 #[.slice A ds.length c] w (SliceIs w A c (trimL ds)) := by
  go_enter Tryz.func129, Tryz.ntmps129
  go_wp2
  go_loop [0] (fun v => ∃ k : Nat, k ≤ ds.length ∧ v = .slice A k c ∧ trimL (ds.take k) = trimL ds) (fun v => sLen v)
  case atStart => exact ⟨ds.length, Nat.le_refl _, rfl, by rw [List.take_length]⟩
  case round =>
    obtain ⟨k, hk, rfl, ht⟩ := hrel
    match k, hk with
    | 0, hk =>
      have HT := Lib.hid (show trimL ds = [] by rw [← ht]; rfl)
      clear ht
      go_wp2
      go_ret
      exact ⟨by rw [HT.out]; rfl, rfl⟩
    | k + 1, hk =>
      have hkl : k < ds.length := hk
      obtain ⟨b, off, rfl, _, hcell⟩ := h.at_ hkl
      by_cases hz : ds[k] = 0
      · have HT := Lib.hid (show trimL (ds.take k) = trimL ds by rw [← ht, trim_go hkl hz])
        have hz' : (ds[k] == 0) = true := by rw [hz]; rfl
        clear ht hz h
        go_wp2
        go_round
        case rel => exact ⟨k, by omega, by rfl, HT.out⟩
        case measure => simp [sLen]
      · have HT := Lib.hid (show trimL ds = ds.take (k + 1) by rw [← ht, trim_stop hk (fun _ => by simpa [hkl] using hz)])
        have hz' : (ds[k] == 0) = false := by simpa using hz
        clear ht hz h
        go_wp2
        go_ret
        exact ⟨by rw [HT.out, List.length_take, Nat.min_eq_left hk]; rfl, rfl⟩
/-- The value v is the number x, with at most L digits. -/
def NumR (w : World) (S : Nat → Prop) (L : Nat) (v : Value) (x : Int) : Prop :=
  ∃ A c ds, v = .agg #[.int .i64 x.sign, .slice A ds.length c] ∧ ds.length ≤ c ∧ SlR w S .i64 A ds ∧ Nf ds ∧ ev ds = (x.natAbs : Int) ∧ ds.length ≤ L
theorem NumR.next {w w' : World} {S : Nat → Prop} {L : Nat} {v : Value} {x : Int} (h : NumR w S L v x) (hb : Below w.heap.size w w') : NumR w' S L v x := by
  obtain ⟨A, c, ds, e, hc, hs, hn, he, hl⟩ := h
  exact ⟨A, c, ds, e, hc, hs.next hb, hn, he, hl⟩
theorem NumR.le {w : World} {S : Nat → Prop} {L M : Nat} {v : Value} {x : Int} (h : NumR w S L v x) (hM : L ≤ M) : NumR w S M v x := by
  obtain ⟨A, c, ds, e, hc, hs, hn, he, hl⟩ := h
  exact ⟨A, c, ds, e, hc, hs, hn, he, Nat.le_trans hl hM⟩
theorem NumR.imp {w : World} {S T : Nat → Prop} {L : Nat} {v : Value} {x : Int} (h : NumR w S L v x) (hST : ∀ b, S b → T b) : NumR w T L v x := by
  obtain ⟨A, c, ds, e, hc, hs, hn, he, hl⟩ := h
  exact ⟨A, c, ds, e, hc, hs.imp hST, hn, he, hl⟩
theorem NumR.lt {w : World} {S : Nat → Prop} {L : Nat} {v : Value} {x : Int} (h : NumR w S L v x) : NumR w (fun b => S b ∧ b < w.heap.size) L v x := by
  obtain ⟨A, c, ds, e, hc, hs, hn, he, hl⟩ := h
  exact ⟨A, c, ds, e, hc, hs.lt, hn, he, hl⟩
def GivesNum (w : World) (S : Nat → Prop) (L : Nat) (x : Int) (e : Ending) (w' : World) : Prop := ∃ v, e = .returned v ∧ NumR w' S L v x ∧ Below w.heap.size w w'
theorem r3make16_any (s : Int) (A : Option Addr) (c : Nat) (ds : List Int) (x : Int) (S : Nat → Prop) (w : World) (h : SlR w S .i64 A ds) (hl : ds.length ≤ 1000000) (hc : ds.length ≤ c) (hd : Dg ds)
    (hx : ev ds = (x.natAbs : Int)) (hs : x ≠ 0 → s = x.sign) :
    Calls Tryz.prog 118 #[.int .i64 s, .slice A ds.length c] w (GivesNum w S ds.length x) := by
  have hnf := trimL_nf hd
  have hev := trimL_ev ds
  have hlen := trimL_length ds
  obtain ⟨n, hn, ht⟩ := trimL_take ds
  have hsl : SlR w S .i64 A (trimL ds) := by rw [ht]; exact h.take n
  by_cases h0 : trimL ds = []
  · have hx0 : x = 0 := by
      have : ev ds = 0 := by rw [← hev, h0]; rfl
      omega
    have H0 := Lib.hid h0
    have HX := Lib.hid hx0
    clear h0 hx0 ht hev hnf hlen hx hs hd hsl
    go_enter Tryz.func118, Tryz.ntmps118
    go_wp2_with (fail)
    refine (r3trim_any A c ds S _ (h.next (Below.alloc (Below.refl _ _) (Nat.le_refl _) _)) hl hc).mono ?_
    rintro e w' ⟨rfl, rfl⟩
    rw [H0.out]
    go_wp2
    exact bodyPost_ret (v := .agg #[.int .i64 0, .slice none 0 0]) (by simp [results, Tryz.results118, go_sem]) rfl
      ⟨_, rfl, ⟨none, 0, [], by rw [HX.out]; rfl, Nat.le_refl _, SlR.nil_ _ _ _ _, ⟨Dg.nil_, fun r d e => by simp at e⟩, by rw [HX.out]; rfl, Nat.zero_le _⟩, (Below.refl _ _).alloc (Nat.le_refl _) _⟩
  · have hx0 : x ≠ 0 := by
      intro hx0
      exact h0 (hnf.ev_zero (by rw [hev, hx, hx0]; rfl))
    have hp : 0 < (trimL ds).length := List.length_pos_iff.2 h0
    have hp' : (((trimL ds).length : Int) == 0) = false := by rw [beq_eq_false_iff_ne]; omega
    have HS := Lib.hid (hs hx0)
    have HV := Lib.hid (show ev (trimL ds) = (x.natAbs : Int) by rw [hev, hx])
    clear ht hev hx hs hx0 h0
    go_enter Tryz.func118, Tryz.ntmps118
    go_wp2_with (fail)
    refine (r3trim_any A c ds S _ (h.next (Below.alloc (Below.refl _ _) (Nat.le_refl _) _)) hl hc).mono ?_
    rintro e w' ⟨rfl, rfl⟩
    go_wp2
    have hb : Below w.heap.size w (w.alloc (.cells #[.int .i64 s, .slice A (trimL ds).length c] 148)) := (Below.refl _ _).alloc (Nat.le_refl _) _
    exact bodyPost_ret (v := .agg #[.int .i64 s, .slice A (trimL ds).length c]) (by simp [results, Tryz.results118, go_sem]) rfl
      ⟨_, rfl, ⟨A, c, trimL ds, by rw [HS.out], by omega, hsl.next hb, hnf, HV.out, hlen⟩, hb⟩
theorem infoInt : (Tryz.prog.info? 3).map (fun i => (i.zero, i.size, i.bytes)) = some (some (.int .i64 0), 1, 8) := by kernel_rfl
def AddRel (W : World) (da db : List Int) (o cr i : Value) (wr : World) : Prop :=
  ∃ (k : Nat) (os : List Int) (c : Int), i = .int .i64 k ∧ cr = .int .i64 c ∧ OwnK wr W.heap.size 3 .i64 o os ∧ os.length = k ∧ Dg os ∧ 0 ≤ c ∧ c ≤ 1 ∧ ev os + 65536 ^ k * c = ev (da.take k) + ev (db.take k) ∧
    Below W.heap.size W wr ∧ (k ≤ max da.length db.length ∨ (k = max da.length db.length + 1 ∧ c = 0))
theorem addRel_step {W wr w1 : World} {da db os : List Int} {v' : Value} {k : Nat} {cr : Int} (hl : os.length = k) (hev : ev os + 65536 ^ k * cr = ev (da.take k) + ev (db.take k)) (hdo : Dg os)
    (hda : Dg da) (hdb : Dg db) (h0 : 0 ≤ cr) (h1 : cr ≤ 1) (hbl : Below W.heap.size W wr) (hb : Below W.heap.size wr w1)
    (ho : OwnK w1 W.heap.size 3 .i64 v' (os ++ [(dgt da k + dgt db k + cr) % 65536])) (hk : k < max da.length db.length ∨ (k = max da.length db.length ∧ cr = 1)) :
    AddRel W da db v' (.int .i64 ((dgt da k + dgt db k + cr) / 65536)) (.int .i64 (↑k + 1)) w1 := by
  have a1 := hda.dgt k
  have b1 := hdb.dgt k
  refine ⟨k + 1, _, _, by go_num, rfl, ho, by simp [hl], hdo.snoc (by omega) (by omega), by omega, by omega, add_step hl hev rfl, hbl.trans hb, ?_⟩
  rcases hk with hk | ⟨hk, hc⟩
  · exact .inl (by omega)
  · refine .inr ⟨by omega, ?_⟩
    rw [dgt_ge (show da.length ≤ k by omega), dgt_ge (show db.length ≤ k by omega), hc]; decide
/-- The value is a slice of digits that write x. -/
def GivesDigits (w : World) (L : Nat) (x : Int) (e : Ending) (w' : World) : Prop :=
  ∃ A c os, e = .returned (.slice A os.length c) ∧ os.length ≤ c ∧ SlR w' (fun b => w.heap.size ≤ b) .i64 A os ∧ Dg os ∧ ev os = x ∧ os.length ≤ L ∧ Below w.heap.size w w'
set_option maxHeartbeats 1000000 in
theorem r3addDigits_any (A B : Option Addr) (c d : Nat) (da db : List Int) (w : World) (SA SB : Nat → Prop) (ha : SlR w SA .i64 A da) (hb : SlR w SB .i64 B db) (hla : da.length ≤ 1000000) (hlb : db.length ≤ 1000000) (hda : Dg da) (hdb : Dg db) :
    Calls Tryz.prog 119 #[.slice A da.length c, .slice B db.length d] w (GivesDigits w (max da.length db.length + 1) (ev da + ev db)) := by
  obtain ⟨i0, hi0, hz0, hz1, hz2⟩ := info_parts infoInt
  go_enter Tryz.func119, Tryz.ntmps119
  go_wp2
  go_loopw [5, 6, 7] (fun o cr i wr => AddRel w da db o cr i wr) (fun _ _ i _ => max da.length db.length + 1 - (intOf i).toNat)
  case atStart => exact ⟨0, [], 0, rfl, rfl, OwnK.nil_ _ _ _ _, rfl, Dg.nil_, by decide, by decide, by simp [ev], Below.refl _ _, .inl (Nat.zero_le _)⟩
  case round =>
    obtain ⟨k, os, cr, rfl, rfl, hown, hl, hdo, hc0, hc1, hev, hbl, hk⟩ := hrel
    have HE := Lib.hid hev
    have HL := Lib.hid hl
    have HD := Lib.hid hdo
    have HA := Lib.hid hda
    have HB := Lib.hid hdb
    have hda' := (hda.dgt k)
    have hdb' := (hdb.dgt k)
    obtain ⟨a0, a1⟩ := hda'
    obtain ⟨b0, b1⟩ := hdb'
    have ha' := ha.next hbl
    have hb' := hb.next hbl
    have HO := Lib.hid hown
    have hk' : k ≤ 1000001 := by omega
    by_cases hgo : k < max da.length db.length ∨ (k = max da.length db.length ∧ cr = 1)
    · have hlen : os.length ≤ 1000000000 := by rw [HL.out]; omega
      have HG := Lib.hid hgo
      have hms : max da.length db.length + 1 - (k + 1) < max da.length db.length + 1 - k := by omega
      have h3 : k < da.length ∨ k < db.length ∨ 0 < cr := by omega
      clear hev hl hown hdo hda hdb ha hb hk hgo
      by_cases h1 : k < da.length
      rotate_left
      by_cases h2 : k < db.length
      rotate_left
      have h4 : 0 < cr := by omega
      all_goals
        clear h3
        go_wp2_with (fail)
        refine (r3digit_any A c da k SA _ ha').mono ?_
        rintro e w' ⟨rfl, hw'⟩
        obtain rfl := hw'.symm
        go_wp2_with (fail)
        refine (r3digit_any B d db k SB _ hb').mono ?_
        rintro e w' ⟨rfl, hw'⟩
        obtain rfl := hw'.symm
        go_wp2_with (at_builtin; refine wp_app1 rfl (.tmp 34) (.tmp 37) 146 rfl w.heap.size 3 .i64 i0 _ Tryz.underlying146 hi0 hz0 hz1 hz2 rfl _ os _ rfl HO.out rfl hlen hbl.size ?_; intro v' w1 hown1 hb1)
        go_roundw
        case rel => exact addRel_step HL.out HE.out HD.out HA.out HB.out hc0 hc1 hbl hb1 hown1 HG.out
        case measure => simp [intOf]; omega
    · have h1 : da.length ≤ k := by omega
      have h2 : db.length ≤ k := by omega
      have h3 : cr ≤ 0 := by omega
      obtain ⟨A', c', rfl, hcap, _, hsl⟩ := hown.form
      have HF := Lib.hid (show ev os = ev da + ev db by
        have : cr = 0 := by omega
        rw [this, List.take_of_length_le h1, List.take_of_length_le h2] at hev
        omega)
      clear hev hl hown hdo hda hdb ha hb HO HE
      go_wp2
      go_ret
      exact ⟨A', c', os, rfl, hcap, hsl, HD.out, HF.out, by rw [HL.out]; omega, hbl⟩
def SubRel (W : World) (da db : List Int) (o cr i : Value) (wr : World) : Prop :=
  ∃ (k : Nat) (os : List Int) (c : Int), i = .int .i64 k ∧ cr = .int .i64 c ∧ OwnK wr W.heap.size 3 .i64 o os ∧ os.length = k ∧ Dg os ∧ 0 ≤ c ∧ c ≤ 1 ∧ ev os = ev (da.take k) - ev (db.take k) + 65536 ^ k * c ∧
    Below W.heap.size W wr ∧ k ≤ da.length
theorem i64_small {n : Int} (h0 : -1000000000000 ≤ n) (h1 : n ≤ 1000000000000) : IntKind.i64.wrap n = n := by simp [IntKind.wrap, IntKind.bits, IntKind.signed]; split <;> omega
theorem subRel_step {W wr w1 : World} {da db os : List Int} {v' : Value} {k : Nat} {c s d c' : Int} (hl : os.length = k) (hev : ev os = ev (da.take k) - ev (db.take k) + 65536 ^ k * c) (hdo : Dg os)
    (hbl : Below W.heap.size W wr) (hb : Below W.heap.size wr w1) (hs : s = dgt da k - dgt db k - c) (hd : d = s + 65536 * c') (d0 : 0 ≤ d) (d1 : d < 65536) (c0 : 0 ≤ c') (c1 : c' ≤ 1)
    (ho : OwnK w1 W.heap.size 3 .i64 v' (os ++ [d])) (hk : k < da.length) :
    SubRel W da db v' (.int .i64 c') (.int .i64 (↑k + 1)) w1 :=
  ⟨k + 1, _, _, by go_num, rfl, ho, by simp [hl], hdo.snoc d0 d1, c0, c1, sub_step hl hev hs hd, hbl.trans hb, hk⟩
set_option maxHeartbeats 1000000 in
theorem r3subDigits_any (A B : Option Addr) (c d : Nat) (da db : List Int) (w : World) (SA SB : Nat → Prop) (ha : SlR w SA .i64 A da) (hb : SlR w SB .i64 B db) (hla : da.length ≤ 1000000) (hda : Dg da) (hdb : Dg db)
    (hlen : db.length ≤ da.length) (hle : ev db ≤ ev da) :
    Calls Tryz.prog 121 #[.slice A da.length c, .slice B db.length d] w (GivesDigits w da.length (ev da - ev db)) := by
  obtain ⟨i0, hi0, hz0, hz1, hz2⟩ := info_parts infoInt
  have HLE := Lib.hid hle
  clear hle
  go_enter Tryz.func121, Tryz.ntmps121
  go_wp2
  go_loopw [5, 6, 7] (fun o cr i wr => SubRel w da db o cr i wr) (fun _ _ i _ => da.length - (intOf i).toNat)
  case atStart => exact ⟨0, [], 0, rfl, rfl, OwnK.nil_ _ _ _ _, rfl, Dg.nil_, by decide, by decide, by simp [ev], Below.refl _ _, Nat.zero_le _⟩
  case round =>
    obtain ⟨k, os, cr, rfl, rfl, hown, hl, hdo, hc0, hc1, hev, hbl, hk⟩ := hrel
    have HE := Lib.hid hev
    have HL := Lib.hid hl
    have HD := Lib.hid hdo
    have HO := Lib.hid hown
    by_cases hgo : k < da.length
    · have hda' := (hda.dgt k)
      have hdb' := (hdb.dgt k)
      obtain ⟨a0, a1⟩ := hda'
      obtain ⟨b0, b1⟩ := hdb'
      obtain ⟨b, off, rfl, _, hcell⟩ := (ha.next hbl).at_ hgo
      rw [← dgt_lt hgo] at hcell
      have hb' := hb.next hbl
      have hk' : k ≤ 1000000 := by omega
      have hlen' : os.length ≤ 1000000000 := by rw [HL.out]; omega
      clear hev hl hown hdo hda hdb ha hb
      by_cases hs : dgt da k - dgt db k - cr < 0
      · have hs' : decide (dgt da k - dgt db k - cr < 0) = true := decide_eq_true hs
        have e1 : IntKind.i64.wrap (dgt da k - dgt db k) = dgt da k - dgt db k := i64_small (by omega) (by omega)
        have e2 : IntKind.i64.wrap (dgt da k - dgt db k - cr) = dgt da k - dgt db k - cr := i64_small (by omega) (by omega)
        have e3 : IntKind.i64.wrap (dgt da k - dgt db k - cr + 65536) = dgt da k - dgt db k - cr + 65536 := i64_small (by omega) (by omega)
        go_wp2_with (fail)
        go_quiet ((go_at_call 130; exact Calls.quiet_of_same (r3digit_any B d db k SB _ hb')))
        go_wp2_with (at_builtin; refine wp_app1 rfl (.tmp 29) (.tmp 31) 146 rfl w.heap.size 3 .i64 i0 _ Tryz.underlying146 hi0 hz0 hz1 hz2 rfl _ os _ rfl HO.out rfl hlen' hbl.size ?_; intro v' w1 hown1 hb1)
        clear e1 e2 e3
        go_roundw
        case rel => exact subRel_step HL.out HE.out HD.out (below_drewN' hbl _) hb1 rfl (show _ = _ + 65536 * 1 by omega) (by omega) (by omega) (by decide) (by decide) hown1 hgo
        case measure => simp [intOf]; omega
      · have hs' : decide (dgt da k - dgt db k - cr < 0) = false := decide_eq_false hs
        have hs2 : 0 ≤ dgt da k - dgt db k - cr := by omega
        have e1 : IntKind.i64.wrap (dgt da k - dgt db k) = dgt da k - dgt db k := i64_small (by omega) (by omega)
        have e2 : IntKind.i64.wrap (dgt da k - dgt db k - cr) = dgt da k - dgt db k - cr := i64_small (by omega) (by omega)
        clear hs
        go_wp2_with (fail)
        go_quiet ((go_at_call 130; exact Calls.quiet_of_same (r3digit_any B d db k SB _ hb')))
        go_wp2_with (at_builtin; refine wp_app1 rfl (.tmp 29) (.tmp 31) 146 rfl w.heap.size 3 .i64 i0 _ Tryz.underlying146 hi0 hz0 hz1 hz2 rfl _ os _ rfl HO.out rfl hlen' hbl.size ?_; intro v' w1 hown1 hb1)
        clear e1 e2
        go_roundw
        case rel => exact subRel_step HL.out HE.out HD.out (below_drewN' hbl _) hb1 rfl (show _ = _ + 65536 * 0 by omega) (by omega) (by omega) (by decide) (by decide) hown1 hgo
        case measure => simp [intOf]; omega
    · obtain ⟨A', c', rfl, hcap, _, hsl⟩ := hown.form
      have hkl : da.length ≤ k := by omega
      have HF := Lib.hid (show ev os = ev da - ev db from sub_end (by omega) (by
        rw [List.take_of_length_le hkl, List.take_of_length_le (by omega)] at hev
        rw [hev, show k = da.length by omega]) hc0 hc1 hdo HLE.out)
      clear hev hl hown hdo hda hdb ha hb HO HE hgo
      go_wp2
      go_ret
      exact ⟨A', c', os, rfl, hcap, hsl, HD.out, HF.out, by rw [HL.out]; omega, hbl⟩
def CmpIs (w : World) (x : Int) (e : Ending) (w' : World) : Prop := e = .returned (.int .i64 x.sign) ∧ ∃ n, w' = w.drewN n
def CmpRel (W : World) (da db : List Int) (i : Value) (wr : World) : Prop :=
  (∃ n, wr = W.drewN n) ∧ ((i = .int .i64 (-1) ∧ da = db) ∨ ∃ j : Nat, i = .int .i64 j ∧ j < da.length ∧ da.drop (j + 1) = db.drop (j + 1))
theorem drop_step {da db : List Int} {j : Nat} (h1 : j < da.length) (h2 : j < db.length) (h : da.drop (j + 1) = db.drop (j + 1)) (he : dgt da j = dgt db j) : da.drop j = db.drop j := by
  rw [List.drop_eq_getElem_cons h1, List.drop_eq_getElem_cons h2, h, ← dgt_lt h1, ← dgt_lt h2, he]
set_option maxHeartbeats 1000000 in
theorem r3compareDigits_any (A B : Option Addr) (c d : Nat) (da db : List Int) (w : World) (SA SB : Nat → Prop) (ha : SlR w SA .i64 A da) (hb : SlR w SB .i64 B db) (hla : da.length ≤ 1000000) (hda : Nf da) (hdb : Nf db) :
    Calls Tryz.prog 120 #[.slice A da.length c, .slice B db.length d] w (CmpIs w (ev da - ev db)) := by
  rcases Nat.lt_trichotomy da.length db.length with h | h | h
  · have HS := Lib.hid (show -1 = (ev da - ev db).sign from (sign_neg (by have := cmp_len hda hdb h; omega)).symm)
    have t1 : ((da.length : Int) != (db.length : Int)) = true := by rw [bne_iff_ne]; omega
    go_enter Tryz.func120, Tryz.ntmps120
    go_wp2
    go_ret
    exact ⟨rint HS.out, 0, rfl⟩
  · have t1 : ((da.length : Int) != (db.length : Int)) = false := by rw [bne_eq_false_iff_eq]; omega
    have HLL := Lib.hid h
    have hl2 : db.length ≤ da.length := by omega
    have hl3 : da.length ≤ db.length := by omega
    clear h
    go_enter Tryz.func120, Tryz.ntmps120
    go_wp2
    go_loopw [5] (fun i wr => CmpRel w da db i wr) (fun i _ => (intOf i + 1).toNat)
    case atStart =>
      refine ⟨⟨0, rfl⟩, ?_⟩
      rcases Nat.eq_zero_or_pos da.length with h0 | h0
      · exact .inl ⟨by rw [h0]; rfl, by rw [List.eq_nil_of_length_eq_zero h0, List.eq_nil_of_length_eq_zero (HLL.out.symm.trans h0)]⟩
      · refine .inr ⟨da.length - 1, by congr 1; omega, by omega, ?_⟩
        rw [List.drop_eq_nil_of_le (by omega), List.drop_eq_nil_of_le (by omega)]
    case round =>
      obtain ⟨⟨n, rfl⟩, hrel⟩ := hrel
      rcases hrel with ⟨rfl, heq⟩ | ⟨j, rfl, hj, hdr⟩
      · have HS := Lib.hid (show 0 = (ev da - ev db).sign by rw [heq, Int.sub_self]; rfl)
        clear heq
        go_wp2
        go_ret
        exact ⟨rint HS.out, n, rfl⟩
      · have hj2 : j < db.length := by omega
        obtain ⟨b, off, rfl, _, hca⟩ := ha.at_ hj
        obtain ⟨b2, off2, rfl, _, hcb⟩ := hb.at_ hj2
        rw [← dgt_lt hj] at hca
        rw [← dgt_lt hj2] at hcb
        have hcmp := cmp_at hda.1 hdb.1 HLL.out hj hdr
        have HDR := Lib.hid hdr
        have hj3 : j ≤ 1000000 := by omega
        clear hdr ha hb
        rcases Int.lt_trichotomy (dgt da j) (dgt db j) with hlt | hlt | hlt
        · have HS := Lib.hid (show -1 = (ev da - ev db).sign from (sign_neg (by have := hcmp.1 hlt; omega)).symm)
          have t2 : (dgt da j != dgt db j) = true := by rw [bne_iff_ne]; omega
          clear hcmp
          go_wp2_with (fail)
          go_quiet (fail)
          go_wp2_with (fail)
          go_quiet (fail)
          go_wp2
          go_ret
          exact ⟨rint HS.out, by simp only [World.drewN_drewN]; exact ⟨_, rfl⟩⟩
        · have t2 : (dgt da j != dgt db j) = false := by rw [bne_eq_false_iff_eq]; exact hlt
          have HQ := Lib.hid hlt
          clear hcmp hlt
          go_wp2_with (fail)
          go_quiet (fail)
          go_wp2
          go_roundw
          case rel =>
            refine ⟨⟨_, rfl⟩, ?_⟩
            rcases Nat.eq_zero_or_pos j with h0 | h0
            · subst h0
              exact .inl ⟨rfl, by have := drop_step hj hj2 HDR.out HQ.out; simpa using this⟩
            · refine .inr ⟨j - 1, by congr 1; omega, by omega, ?_⟩
              rw [show j - 1 + 1 = j by omega]
              exact drop_step hj hj2 HDR.out HQ.out
          case measure => simp [intOf] <;> omega
        · have HS := Lib.hid (show 1 = (ev da - ev db).sign from (sign_pos (by have := hcmp.2 hlt; omega)).symm)
          have t2 : (dgt da j != dgt db j) = true := by rw [bne_iff_ne]; omega
          have t3 : decide (dgt da j < dgt db j) = false := decide_eq_false (by omega)
          clear hcmp
          go_wp2_with (fail)
          go_quiet (fail)
          go_wp2_with (fail)
          go_quiet (fail)
          go_wp2
          go_ret
          exact ⟨rint HS.out, by simp only [World.drewN_drewN]; exact ⟨_, rfl⟩⟩
  · have HS := Lib.hid (show 1 = (ev da - ev db).sign from (sign_pos (by have := cmp_len hdb hda h; omega)).symm)
    have t1 : ((da.length : Int) != (db.length : Int)) = true := by rw [bne_iff_ne]; omega
    go_enter Tryz.func120, Tryz.ntmps120
    go_wp2
    go_ret
    exact ⟨rint HS.out, 0, rfl⟩
end Go.Proofs.YthmkllpdkcmccaaGreatDoor
namespace Go.Proofs.YthmkllpdkcmccaaGreatDoor
open Go.RowKit
set_option maxRecDepth 100000
set_option linter.unusedVariables false
set_option linter.unusedSimpArgs false

theorem sign_bd (x : Int) : -1 ≤ x.sign ∧ x.sign ≤ 1 := by
  rcases Int.lt_trichotomy x 0 with h | h | h
  · rw [sign_neg h]; decide
  · rw [h]; decide
  · rw [sign_pos h]; decide
theorem r3neg_any (v : Value) (x : Int) (L : Nat) (S : Nat → Prop) (w : World) (h : NumR w S L v x) : Calls Tryz.prog 122 #[v] w (GivesNum w S L (-x)) := by
  obtain ⟨A, c, ds, rfl, hc, hs, hn, he, hl⟩ := h
  have hb : Below w.heap.size w ((w.alloc (.cells #[.int .i64 x.sign, .slice A ds.length c] 148)).alloc (.cells #[.int .i64 (-x.sign), .slice A ds.length c] 148)) :=
    ((Below.refl _ _).alloc (Nat.le_refl _) _).alloc (by simp) _
  have HV := Lib.hid (show ev ds = ((-x).natAbs : Int) by rw [he, Int.natAbs_neg])
  have HS := Lib.hid (Int.sign_neg (z := x))
  have hb1 := (sign_bd x).1
  have hb2 := (sign_bd x).2
  clear he
  go_enter Tryz.func122, Tryz.ntmps122
  go_wp2
  exact bodyPost_ret (v := .agg #[.int .i64 (-x.sign), .slice A ds.length c]) (by simp [results, Tryz.results122, go_sem]) rfl
    ⟨_, rfl, ⟨A, c, ds, by rw [HS.out], hc, hs.next hb, hn, HV.out, hl⟩, hb⟩
/-- The world behind the boxes of two numbers and of a result. -/
abbrev Box3 (w : World) (sx : Int) (A : Option Addr) (n c : Nat) (sy : Int) (B : Option Addr) (m d : Nat) : World :=
  ((w.alloc (.cells #[.int .i64 sx, .slice A n c] 148)).alloc (.cells #[.int .i64 sy, .slice B m d] 148)).alloc (.cells #[.int .i64 0, .slice none 0 0] 148)
theorem box3_below (w : World) (sx : Int) (A : Option Addr) (n c : Nat) (sy : Int) (B : Option Addr) (m d : Nat) : Below w.heap.size w (Box3 w sx A n c sy B m d) :=
  (((Below.refl _ _).alloc (Nat.le_refl _) _).alloc (by simp) _).alloc (by simp; omega) _
/-- The end of a function that stores a number into its result. -/
theorem num_stored_at {w w2 : World} {S T : Nat → Prop} {L M : Nat} {x : Int} {A : Option Addr} {c : Nat} {ds : List Int} {q : Nat} (hq : w.heap.size ≤ q) (hS : ∀ b, T b → b ≠ q ∧ S b) (hc : ds.length ≤ c)
    (hs : SlR w2 T .i64 A ds) (hn : Nf ds) (he : ev ds = (x.natAbs : Int)) (hl : ds.length ≤ L) (hM : L ≤ M) (hb : Below w.heap.size w w2) (v0 v1 : Value) :
    NumR ((w2.setCell ⟨q, 0, none⟩ v0).setCell ⟨q, 1, none⟩ v1) S M (.agg #[.int .i64 x.sign, .slice A ds.length c]) x ∧
      Below w.heap.size w ((w2.setCell ⟨q, 0, none⟩ v0).setCell ⟨q, 1, none⟩ v1) :=
  ⟨⟨A, c, ds, rfl, hc, ((hs.set_ _ _ _ (fun h => (hS _ h).1 rfl)).set_ _ _ _ (fun h => (hS _ h).1 rfl)).imp fun b hb => (hS b hb).2, hn, he, Nat.le_trans hl hM⟩,
    (hb.setCell (p := ⟨q, 0, none⟩) hq v0).setCell (p := ⟨q, 1, none⟩) hq v1⟩
theorem num_stored {w w2 : World} {S T : Nat → Prop} {L M : Nat} {x : Int} {A : Option Addr} {c : Nat} {ds : List Int} (hS : ∀ b, T b → b ≠ w.heap.size + 1 + 1 ∧ S b) (hc : ds.length ≤ c)
    (hs : SlR w2 T .i64 A ds) (hn : Nf ds) (he : ev ds = (x.natAbs : Int)) (hl : ds.length ≤ L) (hM : L ≤ M) (hb : Below w.heap.size w w2) (v0 v1 : Value) :
    NumR ((w2.setCell ⟨w.heap.size + 1 + 1, 0, none⟩ v0).setCell ⟨w.heap.size + 1 + 1, 1, none⟩ v1) S M (.agg #[.int .i64 x.sign, .slice A ds.length c]) x ∧
      Below w.heap.size w ((w2.setCell ⟨w.heap.size + 1 + 1, 0, none⟩ v0).setCell ⟨w.heap.size + 1 + 1, 1, none⟩ v1) :=
  num_stored_at (by omega) hS hc hs hn he hl hM hb v0 v1
/-- A function whose first block is its result. -/
abbrev Res1 (w : World) : World := w.alloc (.cells #[.int .i64 0, .slice none 0 0] 148)
theorem res1_kept {w wr : World} (h : Below (w.heap.size + 1) (Res1 w) wr) : wr.cell? ⟨w.heap.size, 0, none⟩ = some (.int .i64 0) ∧ wr.cell? ⟨w.heap.size, 1, none⟩ = some (.slice none 0 0) ∧
    wr.frozen? ⟨w.heap.size, 0, none⟩ = false ∧ wr.frozen? ⟨w.heap.size, 1, none⟩ = false ∧ Below w.heap.size w wr ∧ w.heap.size < wr.heap.size := by
  have hs := h.size
  simp at hs
  exact ⟨(h.cell (p := ⟨w.heap.size, 0, none⟩) (by simp)).trans (by simp [go_sem]), (h.cell (p := ⟨w.heap.size, 1, none⟩) (by simp)).trans (by simp [go_sem]),
    (h.frozen (p := ⟨w.heap.size, 0, none⟩) (by simp)).trans (by simp [go_sem]), (h.frozen (p := ⟨w.heap.size, 1, none⟩) (by simp)).trans (by simp [go_sem]),
    ((Below.refl _ _).alloc (Nat.le_refl _) _).trans (h.mono (by omega)), by omega⟩
set_option maxHeartbeats 1000000 in
theorem r3add_same (sx : Int) (A B : Option Addr) (c d : Nat) (da db : List Int) (x y : Int) (S SA SB : Nat → Prop) (w : World) (ha : SlR w SA .i64 A da) (hb : SlR w SB .i64 B db)
    (hla : da.length ≤ 900000) (hlb : db.length ≤ 900000) (hda : Dg da) (hdb : Dg db) (t1 : (sx == 0) = false) (he : ev da + ev db = ((x + y).natAbs : Int)) (hs : x + y ≠ 0 → sx = (x + y).sign) (hS : ∀ b, w.heap.size ≤ b → S b) :
    Calls Tryz.prog 106 #[.agg #[.int .i64 sx, .slice A da.length c], .agg #[.int .i64 sx, .slice B db.length d]] w (GivesNum w S (max da.length db.length + 1) (x + y)) := by
  have t2 : (sx == sx) = true := beq_self_eq_true _
  have hb3 := box3_below w sx A da.length c sx B db.length d
  have HE := Lib.hid he
  have HS := Lib.hid hs
  have HSS := Lib.hid (show ∀ b, w.heap.size + 1 + 1 < b → b ≠ w.heap.size + 1 + 1 ∧ S b from fun b hb => ⟨by omega, hS b (by omega)⟩)
  clear he hs hS
  go_enter Tryz.func106, Tryz.ntmps106
  go_wp2_with (fail)
  go_region_law (first
    | (go_simp; go_at_call 119; refine (r3addDigits_any A B c d da db _ SA SB (ha.next (by first | exact hb3 | exact hb3.drew | exact below_drewN' hb3 _)) (hb.next (by first | exact hb3 | exact hb3.drew | exact below_drewN' hb3 _)) (by omega) (by omega) hda hdb).mono ?_; rintro e w1 ⟨A1, c1, os, rfl, hcap, hsl, hdo, hev, hlo, hb1⟩; obtain ⟨hcc, hff⟩ := cell_below hb1; have HV := Lib.hid hev; clear hev; have hz1 : w.heap.size + 1 + 1 < w1.heap.size := by (have := hb1.size; simp at this; omega))
    | (go_simp; go_at_call 118; refine (r3make16_any sx A1 c1 os (x + y) (fun b => w.heap.size + 1 + 1 < b) _ (hsl.imp (by intro b hb; simp at hb; omega)) (by omega) hcap hdo (HV.out.trans HE.out) HS.out).mono ?_; rintro e w2 ⟨_, rfl, ⟨A2, c2, ds2, rfl, hc2, hs2, hn2, he2, hl2⟩, hb2⟩; obtain ⟨hcd, hfd⟩ := cell_below hb2; have HV2 := Lib.hid he2; clear he2; have hz2 : w.heap.size + 1 + 1 < w2.heap.size := by (have := hb2.size; omega)))
  all_goals go_wp2
  all_goals
    have hbw2 : Below w.heap.size w w2 := (Below.trans hb3.drew (Below.mono hb1 (by simp; omega))).trans (hb2.mono (by omega))
    have R := num_stored HSS.out hc2 hs2 hn2 HV2.out hl2 hlo hbw2 (.int .i64 (x + y).sign) (.slice A2 ds2.length c2)
    clear HSS HV2 HV HE HS
    refine bodyPost_ret (v := .agg #[.int .i64 (x + y).sign, .slice A2 ds2.length c2]) (by simp [results, Tryz.results106, go_sem, hcd, hcc, hz1]) rfl ⟨_, rfl, R.1, R.2⟩
set_option maxHeartbeats 1000000 in
theorem r3add_ge (sx sy : Int) (A B : Option Addr) (c d : Nat) (da db : List Int) (x y : Int) (S SA SB : Nat → Prop) (w : World) (ha : SlR w SA .i64 A da) (hb : SlR w SB .i64 B db)
    (hla : da.length ≤ 900000) (hda : Nf da) (hdb : Nf db) (t1 : (sx == 0) = false) (t2 : (sy == 0) = false) (t3 : (sx == sy) = false) (hcmp : ev db ≤ ev da) (he : ev da - ev db = ((x + y).natAbs : Int)) (hs : x + y ≠ 0 → sx = (x + y).sign) (hS : ∀ b, w.heap.size ≤ b → S b) :
    Calls Tryz.prog 106 #[.agg #[.int .i64 sx, .slice A da.length c], .agg #[.int .i64 sy, .slice B db.length d]] w (GivesNum w S da.length (x + y)) := by
  have hb3 := box3_below w sx A da.length c sy B db.length d
  have hlen : db.length ≤ da.length := by
    rcases Nat.lt_or_ge da.length db.length with h | h
    · have := cmp_len hda hdb h; omega
    · exact h
  have hle : ev db ≤ ev da := by omega
  have hc0 : 0 ≤ (ev da - ev db).sign := by rcases Int.lt_trichotomy (ev da - ev db) 0 with h | h | h; (omega); (rw [h]; decide); (rw [sign_pos h]; decide)
  have HLE := Lib.hid hle
  have HE := Lib.hid he
  have HS := Lib.hid hs
  have HSS := Lib.hid (show ∀ b, w.heap.size + 1 + 1 < b → b ≠ w.heap.size + 1 + 1 ∧ S b from fun b hb => ⟨by omega, hS b (by omega)⟩)
  clear he hs hS hcmp hle
  go_enter Tryz.func106, Tryz.ntmps106
  go_wp2_with (fail)
  refine (r3compareDigits_any A B c d da db _ SA SB (ha.next hb3) (hb.next hb3) (by omega) hda hdb).mono ?_
  rintro e w' ⟨rfl, n, rfl⟩
  go_wp2_with (fail)
  go_region_law (first
    | (go_simp; go_at_call 121; refine (r3subDigits_any A B c d da db _ SA SB (ha.next (by first | exact hb3 | exact hb3.drew | exact below_drewN' hb3 _ | exact (below_drewN' hb3 _).drew)) (hb.next (by first | exact hb3 | exact hb3.drew | exact below_drewN' hb3 _ | exact (below_drewN' hb3 _).drew)) (by omega) hda.1 hdb.1 hlen HLE.out).mono ?_; rintro e w1 ⟨A1, c1, os, rfl, hcap, hsl, hdo, hev, hlo, hb1⟩; obtain ⟨hcc, hff⟩ := cell_below hb1; have HV := Lib.hid hev; clear hev; have hz1 : w.heap.size + 1 + 1 < w1.heap.size := by (have := hb1.size; simp at this; omega))
    | (go_simp; go_at_call 118; refine (r3make16_any sx A1 c1 os (x + y) (fun b => w.heap.size + 1 + 1 < b) _ (hsl.imp (by intro b hb; simp at hb; omega)) (by omega) hcap hdo (HV.out.trans HE.out) HS.out).mono ?_; rintro e w2 ⟨_, rfl, ⟨A2, c2, ds2, rfl, hc2, hs2, hn2, he2, hl2⟩, hb2⟩; obtain ⟨hcd, hfd⟩ := cell_below hb2; have HV2 := Lib.hid he2; clear he2; have hz2 : w.heap.size + 1 + 1 < w2.heap.size := by (have := hb2.size; omega)))
  all_goals go_wp2
  all_goals
    have hbw2 : Below w.heap.size w w2 := (Below.trans (by first | exact below_drewN' hb3 _ | exact (below_drewN' hb3 _).drew) (Below.mono hb1 (by simp; omega))).trans (hb2.mono (by omega))
    have R := num_stored HSS.out hc2 hs2 hn2 HV2.out hl2 hlo hbw2 (.int .i64 (x + y).sign) (.slice A2 ds2.length c2)
    clear HSS HV2 HV HE HS HLE
    refine bodyPost_ret (v := .agg #[.int .i64 (x + y).sign, .slice A2 ds2.length c2]) (by simp [results, Tryz.results106, go_sem, hcd, hcc, hz1]) rfl ⟨_, rfl, R.1, R.2⟩
set_option maxHeartbeats 1000000 in
theorem r3add_lt (sx sy : Int) (A B : Option Addr) (c d : Nat) (da db : List Int) (x y : Int) (S SA SB : Nat → Prop) (w : World) (ha : SlR w SA .i64 A da) (hb : SlR w SB .i64 B db)
    (hla : da.length ≤ 900000) (hlb : db.length ≤ 900000) (hda : Nf da) (hdb : Nf db) (t1 : (sx == 0) = false) (t2 : (sy == 0) = false) (t3 : (sx == sy) = false) (hcmp : ev da < ev db) (he : ev db - ev da = ((x + y).natAbs : Int)) (hs : x + y ≠ 0 → sy = (x + y).sign) (hS : ∀ b, w.heap.size ≤ b → S b) :
    Calls Tryz.prog 106 #[.agg #[.int .i64 sx, .slice A da.length c], .agg #[.int .i64 sy, .slice B db.length d]] w (GivesNum w S db.length (x + y)) := by
  have hb3 := box3_below w sx A da.length c sy B db.length d
  have hlen : da.length ≤ db.length := by
    rcases Nat.lt_or_ge db.length da.length with h | h
    · have := cmp_len hdb hda h; omega
    · exact h
  have hle : ev da ≤ ev db := by omega
  have HLE := Lib.hid hle
  have HE := Lib.hid he
  have HS := Lib.hid hs
  have HSS := Lib.hid (show ∀ b, w.heap.size + 1 + 1 < b → b ≠ w.heap.size + 1 + 1 ∧ S b from fun b hb => ⟨by omega, hS b (by omega)⟩)
  clear he hs hS hle
  go_enter Tryz.func106, Tryz.ntmps106
  go_wp2_with (fail)
  refine (r3compareDigits_any A B c d da db _ SA SB (ha.next hb3) (hb.next hb3) (by omega) hda hdb).mono ?_
  rintro e w' ⟨rfl, n, rfl⟩
  go_wp2_with (fail)
  go_region_law (first
    | (go_simp; go_at_call 121; refine (r3subDigits_any B A d c db da _ SB SA (hb.next (by first | exact hb3 | exact hb3.drew | exact below_drewN' hb3 _ | exact (below_drewN' hb3 _).drew)) (ha.next (by first | exact hb3 | exact hb3.drew | exact below_drewN' hb3 _ | exact (below_drewN' hb3 _).drew)) (by omega) hdb.1 hda.1 hlen HLE.out).mono ?_; rintro e w1 ⟨A1, c1, os, rfl, hcap, hsl, hdo, hev, hlo, hb1⟩; obtain ⟨hcc, hff⟩ := cell_below hb1; have HV := Lib.hid hev; clear hev; have hz1 : w.heap.size + 1 + 1 < w1.heap.size := by (have := hb1.size; simp at this; omega))
    | (go_simp; go_at_call 118; refine (r3make16_any sy A1 c1 os (x + y) (fun b => w.heap.size + 1 + 1 < b) _ (hsl.imp (by intro b hb; simp at hb; omega)) (by omega) hcap hdo (HV.out.trans HE.out) HS.out).mono ?_; rintro e w2 ⟨_, rfl, ⟨A2, c2, ds2, rfl, hc2, hs2, hn2, he2, hl2⟩, hb2⟩; obtain ⟨hcd, hfd⟩ := cell_below hb2; have HV2 := Lib.hid he2; clear he2; have hz2 : w.heap.size + 1 + 1 < w2.heap.size := by (have := hb2.size; omega)))
  all_goals go_wp2
  all_goals
    have hbw2 : Below w.heap.size w w2 := (Below.trans (by first | exact below_drewN' hb3 _ | exact (below_drewN' hb3 _).drew) (Below.mono hb1 (by simp; omega))).trans (hb2.mono (by omega))
    have R := num_stored HSS.out hc2 hs2 hn2 HV2.out hl2 hlo hbw2 (.int .i64 (x + y).sign) (.slice A2 ds2.length c2)
    clear HSS HV2 HV HE HS HLE
    refine bodyPost_ret (v := .agg #[.int .i64 (x + y).sign, .slice A2 ds2.length c2]) (by simp [results, Tryz.results106, go_sem, hcd, hcc, hz1]) rfl ⟨_, rfl, R.1, R.2⟩
theorem r3add_zl (sx sy : Int) (A B : Option Addr) (n c m d : Nat) (w : World) (t1 : (sx == 0) = true) :
    Calls Tryz.prog 106 #[.agg #[.int .i64 sx, .slice A n c], .agg #[.int .i64 sy, .slice B m d]] w fun e w' => e = .returned (.agg #[.int .i64 sy, .slice B m d]) ∧ Below w.heap.size w w' := by
  go_enter Tryz.func106, Tryz.ntmps106
  go_wp2
  exact bodyPost_ret (v := .agg #[.int .i64 sy, .slice B m d]) (by simp [results, Tryz.results106, go_sem]) rfl ⟨rfl, (((Below.refl _ _).alloc (Nat.le_refl _) _).alloc (by simp) _).alloc (by simp; omega) _⟩
theorem r3add_zr (sx sy : Int) (A B : Option Addr) (n c m d : Nat) (w : World) (t1 : (sx == 0) = false) (t2 : (sy == 0) = true) :
    Calls Tryz.prog 106 #[.agg #[.int .i64 sx, .slice A n c], .agg #[.int .i64 sy, .slice B m d]] w fun e w' => e = .returned (.agg #[.int .i64 sx, .slice A n c]) ∧ Below w.heap.size w w' := by
  go_enter Tryz.func106, Tryz.ntmps106
  go_wp2
  exact bodyPost_ret (v := .agg #[.int .i64 sx, .slice A n c]) (by simp [results, Tryz.results106, go_sem]) rfl ⟨rfl, (((Below.refl _ _).alloc (Nat.le_refl _) _).alloc (by simp) _).alloc (by simp; omega) _⟩
theorem GivesNum.le {w : World} {S : Nat → Prop} {L M : Nat} {x : Int} {e : Ending} {w' : World} (h : GivesNum w S L x e w') (hM : L ≤ M) : GivesNum w S M x e w' := by
  obtain ⟨v, he, hn, hb⟩ := h
  exact ⟨v, he, hn.le hM, hb⟩
theorem sign_ne {x : Int} (h : x ≠ 0) : (x.sign == 0) = false := by
  rw [beq_eq_false_iff_ne]
  rcases Int.lt_trichotomy x 0 with h' | h' | h'
  · rw [sign_neg h']; decide
  · exact absurd h' h
  · rw [sign_pos h']; decide
theorem r3add_any (va vb : Value) (x y : Int) (L M : Nat) (S : Nat → Prop) (w : World) (ha : NumR w S L va x) (hb : NumR w S M vb y) (hL : L ≤ 900000) (hM : M ≤ 900000) (hS : ∀ b, w.heap.size ≤ b → S b) :
    Calls Tryz.prog 106 #[va, vb] w (GivesNum w S (max L M + 1) (x + y)) := by
  have ha' := ha
  have hb' := hb
  obtain ⟨A, c, da, rfl, hc, hs, hn, he, hl⟩ := ha
  obtain ⟨B, d, db, rfl, hd, hs2, hn2, he2, hl2⟩ := hb
  by_cases hx : x = 0
  · refine (r3add_zl _ _ A B _ c _ d w (by rw [hx]; rfl)).mono ?_
    rintro e w' ⟨rfl, hbl⟩
    exact ⟨_, rfl, by rw [hx, Int.zero_add]; exact (hb'.next hbl).le (by omega), hbl⟩
  by_cases hy : y = 0
  · refine (r3add_zr _ _ A B _ c _ d w (sign_ne hx) (by rw [hy]; rfl)).mono ?_
    rintro e w' ⟨rfl, hbl⟩
    exact ⟨_, rfl, by rw [hy, Int.add_zero]; exact (ha'.next hbl).le (by omega), hbl⟩
  rcases Int.lt_trichotomy x 0 with h | h | h
  · rcases Int.lt_trichotomy y 0 with h' | h' | h'
    · have e1 : x.sign = y.sign := by rw [sign_neg h, sign_neg h']
      rw [e1]
      exact (r3add_same y.sign A B c d da db x y S S S w hs hs2 (by omega) (by omega) hn.1 hn2.1 (sign_ne hy) (by omega) (fun _ => by rw [sign_neg h', sign_neg (by omega)]) hS).mono fun _ _ hh => hh.le (by omega)
    · exact absurd h' hy
    · have t3 : (x.sign == y.sign) = false := by rw [sign_neg h, sign_pos h']; decide
      rcases Int.lt_or_le (ev da) (ev db) with hlt | hle
      · exact (r3add_lt x.sign y.sign A B c d da db x y S S S w hs hs2 (by omega) (by omega) hn hn2 (sign_ne hx) (sign_ne hy) t3 hlt (by omega) (fun _ => by rw [sign_pos h', sign_pos (by omega)]) hS).mono fun _ _ hh => hh.le (by omega)
      · exact (r3add_ge x.sign y.sign A B c d da db x y S S S w hs hs2 (by omega) hn hn2 (sign_ne hx) (sign_ne hy) t3 hle (by omega) (fun _ => by rw [sign_neg h, sign_neg (by omega)]) hS).mono fun _ _ hh => hh.le (by omega)
  · exact absurd h hx
  · rcases Int.lt_trichotomy y 0 with h' | h' | h'
    · have t3 : (x.sign == y.sign) = false := by rw [sign_pos h, sign_neg h']; decide
      rcases Int.lt_or_le (ev da) (ev db) with hlt | hle
      · exact (r3add_lt x.sign y.sign A B c d da db x y S S S w hs hs2 (by omega) (by omega) hn hn2 (sign_ne hx) (sign_ne hy) t3 hlt (by omega) (fun _ => by rw [sign_neg h', sign_neg (by omega)]) hS).mono fun _ _ hh => hh.le (by omega)
      · exact (r3add_ge x.sign y.sign A B c d da db x y S S S w hs hs2 (by omega) hn hn2 (sign_ne hx) (sign_ne hy) t3 hle (by omega) (fun _ => by rw [sign_pos h, sign_pos (by omega)]) hS).mono fun _ _ hh => hh.le (by omega)
    · exact absurd h' hy
    · have e1 : x.sign = y.sign := by rw [sign_pos h, sign_pos h']
      rw [e1]
      exact (r3add_same y.sign A B c d da db x y S S S w hs hs2 (by omega) (by omega) hn.1 hn2.1 (sign_ne hy) (by omega) (fun _ => by rw [sign_pos h', sign_pos (by omega)]) hS).mono fun _ _ hh => hh.le (by omega)
end Go.Proofs.YthmkllpdkcmccaaGreatDoor
