/-
  Rows of elements, whatever the elements are: readings, appends. No program is named here.
-/
import Derived.Test.YtokabljeekokmaaDoorOpen
import Derived.Maps.AppendAt
import Derived.Laws.AppendOwnNone
import Derived.Laws.OwnMore
import Derived.Deep.AppendLies
namespace Go.Proofs.YtokabljeekokmaaDoor
open Go.RowKit
set_option maxRecDepth 100000
set_option linter.unusedVariables false
set_option linter.unusedSimpArgs false

section
variable {α : Type} {C : α → List Value} {k : Nat}
/-- Cells of a list of elements. -/
theorem flatC_len (hk : ∀ x, (C x).length = k) (l : List α) : (l.flatMap C).length = l.length * k := by
  induction l with
  | nil => simp
  | cons x l ih => rw [List.flatMap_cons, List.length_append, ih, hk, List.length_cons, Nat.succ_mul, Nat.add_comm]
theorem flatC_at (hk : ∀ x, (C x).length = k) : ∀ (l : List α) (j : Nat) (x : α), l[j]? = some x → ∀ q, q < k → (l.flatMap C)[j * k + q]? = (C x)[q]?
  | [], j, x, h => by simp at h
  | y :: l, 0, x, h => by
    intro q hq
    simp at h
    subst h
    rw [List.flatMap_cons, Nat.zero_mul, Nat.zero_add, List.getElem?_append_left (by rw [hk]; exact hq)]
  | y :: l, j + 1, x, h => by
    intro q hq
    rw [List.flatMap_cons, List.getElem?_append_right (by rw [hk, Nat.succ_mul]; omega), hk, show (j + 1) * k + q - k = j * k + q by rw [Nat.succ_mul]; omega]
    exact flatC_at hk l j x (by simpa using h) q hq
theorem flatC_get (hk : ∀ x, (C x).length = k) (h0 : 0 < k) (l : List α) (j : Nat) (u : Value) (h : (l.flatMap C)[j]? = some u) : ∃ x, l[j / k]? = some x ∧ (C x)[j % k]? = some u := by
  have hj : j < l.length * k := by rw [← flatC_len hk]; exact (List.getElem?_eq_some_iff.1 h).1
  have hq : j / k < l.length := Nat.div_lt_of_lt_mul (by rw [Nat.mul_comm]; exact hj)
  refine ⟨l[j / k]'hq, List.getElem?_eq_getElem hq, ?_⟩
  rw [← flatC_at hk l (j / k) _ (List.getElem?_eq_getElem hq) (j % k) (Nat.mod_lt _ h0), ← h]
  congr 1
  rw [Nat.mul_comm]; exact Nat.div_add_mod j k
theorem RowR.nil_ (w : World) (S : Nat → Prop) (A : Option Addr) : RowR w S k C A [] := fun h => absurd h (by simp)
theorem RowR.at_ {w : World} {S : Nat → Prop} {A : Option Addr} {l : List α} (h : RowR w S k C A l) {j : Nat} (hj : j < l.length) :
    ∃ b o, A = some ⟨b, o, none⟩ ∧ S b ∧ ∀ q u, (C (l[j]'hj))[q]? = some u → w.cell? ⟨b, o + (j * k + q), none⟩ = some u := by
  obtain ⟨b, o, e, hS, hc⟩ := h (by omega)
  exact ⟨b, o, e, hS, hc j _ (List.getElem?_eq_getElem hj)⟩
theorem RowR.keep {w w' : World} {S : Nat → Prop} {A : Option Addr} {l : List α} (h : RowR w S k C A l) (hk : ∀ b, S b → b < w.heap.size → w'.heap[b]? = w.heap[b]?) : RowR w' S k C A l := fun hl => by
  obtain ⟨b, o, e, hS, hc⟩ := h hl
  refine ⟨b, o, e, hS, fun j x hx q u hu => ?_⟩
  have h1 := hc j x hx q u hu
  exact (World.cell?_of_block (a := ⟨b, _, none⟩) (hk b hS (World.block_lt_of_cell? w ⟨b, _, none⟩ h1))).trans h1
theorem RowR.next {w w' : World} {S : Nat → Prop} {A : Option Addr} {l : List α} (h : RowR w S k C A l) (hb : Below w.heap.size w w') : RowR w' S k C A l := h.keep fun b _ hlt => hb.block b hlt
theorem RowR.imp {w : World} {S T : Nat → Prop} {A : Option Addr} {l : List α} (h : RowR w S k C A l) (hST : ∀ b, S b → T b) : RowR w T k C A l := fun hl => by
  obtain ⟨b, o, e, hS, hc⟩ := h hl
  exact ⟨b, o, e, hST b hS, hc⟩
theorem RowR.drewN_ {w : World} {S : Nat → Prop} {A : Option Addr} {l : List α} (h : RowR w S k C A l) (n : Nat) : RowR (w.drewN n) S k C A l := h
/-- Below the world's own size, too. -/
theorem RowR.now {w : World} {S : Nat → Prop} {A : Option Addr} {l : List α} (h : RowR w S k C A l) (hk : ∀ x, 0 < (C x).length) : RowR w (fun b => S b ∧ b < w.heap.size) k C A l := fun hl => by
  obtain ⟨b, o, e, hS, hc⟩ := h hl
  have h1 := hc 0 _ (List.getElem?_eq_getElem hl) 0 _ (List.getElem?_eq_getElem (hk _))
  exact ⟨b, o, e, ⟨hS, World.block_lt_of_cell? w ⟨b, _, none⟩ h1⟩, hc⟩
theorem RowR.take {w : World} {S : Nat → Prop} {A : Option Addr} {l : List α} (h : RowR w S k C A l) (n : Nat) : RowR w S k C A (l.take n) := fun hl => by
  obtain ⟨b, o, e, hS, hc⟩ := h (by rw [List.length_take] at hl; omega)
  refine ⟨b, o, e, hS, fun j x hx => hc j x ?_⟩
  rw [List.getElem?_take] at hx
  split at hx
  · exact hx
  · cases hx
/-- The cells behind an address. -/
theorem RowR.cells_ {w : World} {S : Nat → Prop} {ad : Addr} {l : List α} (h : RowR w S k C (some ad) l) (hk : ∀ x, (C x).length = k) (h0 : 0 < k) (j : Nat) (u : Value) (hj : (l.flatMap C)[j]? = some u) : w.cell? (ad.add j) = some u := by
  obtain ⟨x, h1, h2⟩ := flatC_get hk h0 l j u hj
  have hl : j / k < l.length := (List.getElem?_eq_some_iff.1 h1).1
  obtain ⟨b, o, e0, _, hc⟩ := h (Nat.lt_of_le_of_lt (Nat.zero_le _) hl)
  injection e0 with e0
  subst e0
  rw [Go.WideShapes.add_plain]
  have := hc _ x h1 _ u h2
  rwa [show j / k * k + j % k = j by rw [Nat.mul_comm]; exact Nat.div_add_mod j k] at this
theorem RowR.nilOf {w : World} {S : Nat → Prop} {l : List α} (h : RowR w S k C none l) : l = [] := by
  rcases l with _ | ⟨e, l⟩
  · rfl
  · obtain ⟨b, o, e, _⟩ := h (by simp); cases e
/-- A row of one's own is a list of elements. -/
theorem own_rowR {w : World} {base : Nat} {e : TypeId} {v : Value} {l : List α} (hk : ∀ x, (C x).length = k) (h : w.ownsRow base e k v l.length (l.flatMap C)) :
    ∃ A c, v = .slice A l.length c ∧ l.length ≤ c ∧ c ≤ maxLen ∧ RowR w (fun g => v.ownBlock = some g) k C A l ∧ (A = none → c = 0) := by
  obtain ⟨_, h⟩ := h
  rcases h with ⟨rfl, h0⟩ | ⟨g, cap, cur, rfl, hb, hg, hn, hc, hs, ht⟩
  · rw [h0]
    exact ⟨none, 0, rfl, Nat.le_refl _, by decide, fun hl => by omega, fun _ => rfl⟩
  · refine ⟨some ⟨g, 0, none⟩, cap, rfl, hn, hc, fun hl => ⟨g, 0, rfl, rfl, fun j x hx q u hu => ?_⟩, fun h => by cases h⟩
    have hq : q < k := by rw [← hk x]; exact (List.getElem?_eq_some_iff.1 hu).1
    have h1 := (flatC_at hk l j x hx q hq).trans hu
    rw [← ht, List.getElem?_take] at h1
    rw [Nat.zero_add]
    split at h1
    · simp only [World.cell?, hg]
      simpa using h1
    · cases h1
/-- A new block that holds elements. -/
theorem row_lit {w : World} {t : TypeId} (hk : ∀ x, (C x).length = k) (l : List α) : RowR (w.alloc (.cells (l.flatMap C).toArray t)) (fun g => w.heap.size ≤ g) k C (some ⟨w.heap.size, 0, none⟩) l := fun _ => by
  refine ⟨w.heap.size, 0, rfl, Nat.le_refl _, fun j x hx q u hu => ?_⟩
  have hq : q < k := by rw [← hk x]; exact (List.getElem?_eq_some_iff.1 hu).1
  have h1 := (flatC_at hk l j x hx q hq).trans hu
  rw [Nat.zero_add]
  simp [go_sem, h1]
end
/-- What appends ask of an element's type. -/
structure ElemT (P : Program) (t e : TypeId) (k : Nat) {α : Type} (C : α → List Value) : Prop where
  sl : P.underlying t = some (.slice e)
  info : ∃ i z, P.info? e = some i ∧ i.zero = some z ∧ i.size = k ∧ i.bytes ≤ 128 ∧ z.cells.size = k
  pos : 0 < k
  len : ∀ x, (C x).length = k
  one : ∀ x, ∀ u ∈ C x, u.oneCell' = true
theorem ElemT.flat1 {P : Program} {t e : TypeId} {k : Nat} {α : Type} {C : α → List Value} (h : ElemT P t e k C) (l : List α) : ∀ u ∈ l.flatMap C, u.oneCell' = true := fun u hu => by
  obtain ⟨x, _, hx⟩ := List.mem_flatMap.1 hu
  exact h.one x u hx
/-- append of elements onto a row of one's own: whatever comes, nil too. -/
theorem run_app_row {P : Program} {t e : TypeId} {k : Nat} {α : Type} {C : α → List Value} (E : ElemT P t e k C) (ty : TypeId) {w : World} (base : Nat) (v : Value) (n : Nat) (xs : List Value) (hown : w.ownsRow base e k v n xs)
    (A : Option Addr) (c m : Nat) (l : List α) (T : Nat → Prop) (hm : m = l.length) (hl : RowR w T k C A l) (hc : A = none → c = 0) (h1 : n + m ≤ 1000000) (hbase : base ≤ w.heap.size) :
    ∃ v' w', (Builtin.append_ #[t, t] ty #[v, .slice A m c]).run P w = .ok v' w' ∧ w'.ownsRow base e k v' (n + m) (xs ++ l.flatMap C) ∧ w.grownBy w' v.ownBlock ∧ (v'.ownBlock = v.ownBlock ∨ v'.ownBlock = some w.heap.size) := by
  obtain ⟨i0, z, hi, hz0, hz1, hz2, hz3⟩ := E.info
  subst hm
  cases A with
  | some ad =>
    obtain ⟨v', w', hr, h2, h3, _, h5⟩ := run_append_own_at (P := P) w base t ty e i0 z k i0.bytes E.sl hi hz0 hz1 rfl hz3 E.pos v n xs hown ad l.length c (l.flatMap C) (flatC_len E.len l) (fun j u hj => hl.cells_ E.len E.pos j u hj) (E.flat1 l) (by unfold maxLen; omega) (Nat.le_trans (Nat.mul_le_mul h1 hz2) (by decide)) hbase
    exact ⟨v', w', hr, h2, h3, h5⟩
  | none =>
    obtain rfl := hl.nilOf
    obtain rfl := hc rfl
    exact ⟨v, w, run_append_owned_none (P := P) (w := w) base t ty e i0 k E.sl hi v n xs hown, by simpa using hown, World.grownBy.refl w _, .inl rfl⟩
/-- At one operation of a region. -/
theorem op_app_row {P : Program} {t e : TypeId} {k : Nat} {α : Type} {C : α → List Value} (E : ElemT P t e k C) {o : Oper} {a : Act} {K : Act → World → Prop} {Q : Exit → Act → World → Prop} {w : World} (s x : Operand)
    (ho : o.op = .call { callee := .builtin .append, args := #[s, x], argTypes := #[t, t] }) (base : Nat) (v : Value) (n : Nat) (xs : List Value) (hs : a.eval s = v) (hown : w.ownsRow base e k v n xs)
    (A : Option Addr) (c m : Nat) (l : List α) (T : Nat → Prop) (hx : a.eval x = .slice A m c) (hm : m = l.length) (hl : RowR w T k C A l) (hc : A = none → c = 0) (h1 : n + m ≤ 1000000) (hbase : base ≤ w.heap.size)
    (h : ∀ v' w', w'.ownsRow base e k v' (n + m) (xs ++ l.flatMap C) → w.grownBy w' v.ownBlock → (v'.ownBlock = v.ownBlock ∨ v'.ownBlock = some w.heap.size) → K (a.put o.dst v') w') : o.wp P a w K Q := by
  obtain ⟨v', w', hr, h2, h3, h5⟩ := run_app_row E o.type base v n xs hown A c m l T hm hl hc h1 hbase
  unfold Oper.wp execOp
  simp only [ho, resolve, invoke, builtin, Sem.run_bind, Sem.run_pure, Result.andThen_ok, List.map_toArray, List.map_cons, List.map_nil, hs, hx, hr]
  exact h v' w' h2 h3 h5
/-- At the walk's operation. -/
theorem wp_app_row {P : Program} {t e : TypeId} {k : Nat} {α : Type} {C : α → List Value} (E : ElemT P t e k C) {ops : Array Oper} {rest : List Oper} {o : Oper} {a : Act} {Q : Exit → Act → World → Prop} {w : World} (hgd : o.guard = none) (s x : Operand)
    (ho : o.op = .call { callee := .builtin .append, args := #[s, x], argTypes := #[t, t] }) (base : Nat) (v : Value) (n : Nat) (xs : List Value) (hs : a.eval s = v) (hown : w.ownsRow base e k v n xs)
    (A : Option Addr) (c m : Nat) (l : List α) (T : Nat → Prop) (hx : a.eval x = .slice A m c) (hm : m = l.length) (hl : RowR w T k C A l) (hc : A = none → c = 0) (h1 : n + m ≤ 1000000) (hbase : base ≤ w.heap.size)
    (h : ∀ v' w', w'.ownsRow base e k v' (n + m) (xs ++ l.flatMap C) → w.grownBy w' v.ownBlock → (v'.ownBlock = v.ownBlock ∨ v'.ownBlock = some w.heap.size) → wpList P ops Q rest (a.put o.dst v') w') : wpList P ops Q (o :: rest) a w :=
  wpList_plain hgd fun _ hK => op_app_row E s x ho base v n xs hs hown A c m l T hx hm hl hc h1 hbase fun v' w' h2 h3 h4 => hK _ _ (h v' w' h2 h3 h4)
theorem row_keep {w w' : World} {base : Nat} {e : TypeId} {s : Nat} {v : Value} {n : Nat} {xs : List Value} (h : w.ownsRow base e s v n xs) (hk : ∀ g, v.ownBlock = some g → w'.heap[g]? = w.heap[g]?) : w'.ownsRow base e s v n xs := by
  obtain ⟨hl, h⟩ := h
  refine ⟨hl, ?_⟩
  rcases h with h | ⟨g, cap, cur, rfl, hb, hg, rest⟩
  · exact .inl h
  · exact .inr ⟨g, cap, cur, rfl, hb, (hk g rfl).trans hg, rest⟩
theorem row_block {w : World} {base : Nat} {e : TypeId} {s : Nat} {v : Value} {n : Nat} {xs : List Value} (h : w.ownsRow base e s v n xs) {g : Nat} (hg : v.ownBlock = some g) : ∃ cur, w.heap[g]? = some (.cells cur e (0, 0)) := by
  obtain ⟨_, h⟩ := h
  rcases h with ⟨rfl, _⟩ | ⟨g', cap, cur, rfl, hb, hg', rest⟩
  · simp [Value.ownBlock] at hg
  · simp [Value.ownBlock] at hg
    subst hg
    exact ⟨cur, hg'⟩
theorem row_form {w : World} {base : Nat} {e : TypeId} {v : Value} {n s : Nat} {xs : List Value} (h : w.ownsRow base e s v n xs) : ∃ A c, v = .slice A n c := by
  rcases h.2 with ⟨e1, h1⟩ | ⟨g, cap, cur, rfl, _⟩
  · subst e1 h1; exact ⟨_, _, rfl⟩
  · exact ⟨_, _, rfl⟩
end Go.Proofs.YtokabljeekokmaaDoor
