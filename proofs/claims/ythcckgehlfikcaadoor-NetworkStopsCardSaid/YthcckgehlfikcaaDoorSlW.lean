/-
  Copies, comparisons and appends of lists of words.
-/
import Derived.Test.YthcckgehlfikcaaDoorBox
import Derived.Test.YthcckgehlfikcaaDoorWords
import Derived.BigQuiet
import Derived.Deep.QuietTactic
import Derived.Lib.Hide
import Derived.Lib.SliceRun
import Derived.Laws.AppendOwnNone
import Derived.RangeFuncBox
namespace Go.Proofs.YthcckgehlfikcaaDoor
open Go.RowKit
set_option maxRecDepth 100000
set_option linter.unusedVariables false
set_option linter.unusedSimpArgs false

theorem infoW : (Tryd.prog.info? 38).map (fun i => (i.zero, i.size, i.bytes)) = some (some (.int .u64 0), 1, 8) := by kernel_rfl
theorem one_cells (k : IntKind) (l : List Int) : ∀ u ∈ l.map (Value.int k), u.oneCell' = true := fun u hu => by
  obtain ⟨d, _, rfl⟩ := List.mem_map.1 hu
  rfl
theorem SlR.nilOf {w : World} {S : Nat → Prop} {k : IntKind} {ds : List Int} (h : SlR w S k none ds) : ds = [] := by
  rcases ds with _ | ⟨d, ds⟩
  · rfl
  · obtain ⟨b, o, e, _⟩ := h (by simp); cases e
/-- slices.Clone of words. -/
theorem cloneU_any (A : Option Addr) (c : Nat) (xs : List Int) (S : Nat → Prop) (w : World) (ha : SlR w S .u64 A xs) (hl : xs.length ≤ 1000000) :
    Calls Tryd.prog 17 #[.slice A xs.length c] w fun e w' => ∃ v, e = .returned v ∧ OwnK w' w.heap.size 38 .u64 v xs ∧ Below w.heap.size w w' := by
  obtain ⟨i0, hi, hz0, hz1, hz2⟩ := info_parts infoW
  have hq : ∀ (w : World) (a : Option Addr) (n c n' c' : Nat), (binOp .eql 36 (.slice a n c) (.slice none n' c')).run Tryd.prog w = .ok (.bool a.isNone) w := fun w a n c n' c' => Lib.run_eql_slice_nil w _ 38 a n c n' c' Tryd.underlying36
  cases A with
  | none =>
    obtain rfl := ha.nilOf
    go_enter Tryd.func17, Tryd.ntmps17
    go_wp2
    go_ret
    exact ⟨_, rfl, OwnK.nil_ _ _ _ _, Below.refl _ _⟩
  | some ad =>
    have hrow : (w.alloc (.cells #[] 38)).ownsRow w.heap.size 38 1 (.slice (some ⟨w.heap.size, 0, none⟩) 0 0) 0 [] := World.ownsRow_made w #[] 0 (Nat.le_refl _) (by decide) rfl
    have HC := Lib.hid (show ∀ (j : Nat) (u : Value), (xs.map (Value.int .u64))[j]? = some u → (w.alloc (.cells #[] 38)).cell? (ad.add j) = some u from fun j u hj => by
      rw [List.getElem?_map] at hj
      cases hd : xs[j]? with
      | none => rw [hd] at hj; cases hj
      | some d =>
        rw [hd] at hj; injection hj with hj; subst hj
        obtain ⟨b, o, e, _, hc⟩ := ha (by have := (List.getElem?_eq_some_iff.1 hd).1; omega)
        injection e with e
        subst e
        exact Lib.cell?_alloc_some _ (by rw [addr_add0]; exact hc j d hd))
    have hx1 := one_cells .u64 xs
    have hln : (xs.map (Value.int .u64)).length = xs.length * 1 := by simp
    clear ha
    go_enter Tryd.func17, Tryd.ntmps17
    go_wp2_with (first
      | (at_builtin; refine wpList_append_own _ rfl _ _ 36 rfl w.heap.size 38 i0 (.int .u64 0) 1 8 Tryd.underlying36 hi hz0 hz1 hz2 rfl (by decide) _ 0 [] rfl hrow ad xs.length c (xs.map (Value.int .u64)) rfl hln HC.out hx1 (by unfold maxLen; omega) (by omega) (by simp) ?_
         intro v' w1 hown1 hgrow1 _))
    go_ret
    rw [Nat.zero_add, List.nil_append] at hown1
    exact ⟨v', rfl, hown1, ((Below.refl _ _).alloc (Nat.le_refl _) _).grown hgrow1 (by simp) (fun k e => by injection e with e; exact Nat.le_of_eq e)⟩
theorem take_snoc_eqI {l m : List Int} {k : Nat} (h : l.take k = m.take k) (h1 : k < l.length) (h2 : k < m.length) (he : l[k] = m[k]) : l.take (k + 1) = m.take (k + 1) := by rw [List.take_succ_eq_append_getElem h1, List.take_succ_eq_append_getElem h2, h, he]
set_option maxHeartbeats 1000000 in
/-- slices.Equal of words. -/
theorem equalU_any (A B : Option Addr) (c d : Nat) (l m : List Int) (S T : Nat → Prop) (w : World) (ha : SlR w S .u64 A l) (hb : SlR w T .u64 B m) (hl : l.length ≤ 1000000) (hm : m.length ≤ 1000000) (r : Bool) (hr : decide (l = m) = r) :
    Calls Tryd.prog 19 #[.slice A l.length c, .slice B m.length d] w fun e w' => e = .returned (.bool r) ∧ Below w.heap.size w w' := by
  have HR := Lib.hid hr
  clear hr
  by_cases hlen : l.length = m.length
  · have hd : ((l.length : Int) != (m.length : Int)) = false := by rw [bne_eq_false_iff_eq]; omega
    have HL := Lib.hid hlen
    clear hlen
    go_enter Tryd.func19, Tryd.ntmps19
    go_wp2
    go_loopw [13] (fun i wr => ∃ k n : Nat, i = .int .i64 k ∧ k ≤ l.length ∧ l.take k = m.take k ∧ wr = w.drewN n) (fun i _ => l.length - (intOf i).toNat)
    case atStart => exact ⟨0, 0, rfl, Nat.zero_le _, by simp, rfl⟩
    case round =>
      obtain ⟨k, n, rfl, hk1, heq, rfl⟩ := hrel
      have HQ := Lib.hid heq
      clear heq
      by_cases hgo : k < l.length
      · have hgo2 : k < m.length := by have := HL.out; omega
        obtain ⟨b, o, rfl, _, h1⟩ := ha.at_ hgo
        obtain ⟨b2, o2, rfl, _, g1⟩ := hb.at_ hgo2
        clear ha hb
        obtain ⟨e, he⟩ : ∃ e, e = l[k]'hgo := ⟨_, rfl⟩
        obtain ⟨f, hf⟩ : ∃ f, f = m[k]'hgo2 := ⟨_, rfl⟩
        rw [← he] at h1
        rw [← hf] at g1
        have HE := Lib.hid he
        have HF := Lib.hid hf
        clear he hf
        by_cases c1 : e = f
        · have d1 : (e != f) = false := by rw [bne_eq_false_iff_eq]; exact c1
          have H1 := Lib.hid c1
          clear c1
          go_wp2
          go_quiet (fail)
          go_wp2
          go_roundw
          case rel => exact ⟨k + 1, n + nq, by go_num, hgo, take_snoc_eqI HQ.out hgo hgo2 (by rw [← HE.out, ← HF.out]; exact H1.out), rfl⟩
          case measure => simp [intOf]; omega
        · have d1 : (e != f) = true := by rw [bne_iff_ne]; exact c1
          have HN := Lib.hid (show l ≠ m from fun h => c1 (by rw [HE.out, HF.out]; simp only [h]))
          clear c1
          go_wp2
          go_quiet (fail)
          go_wp2
          go_ret
          exact ⟨by rw [← HR.out, decide_eq_false HN.out]; rfl, below_drewN' (below_drewN' (Below.refl _ _) n) _⟩
      · have HN := Lib.hid (show l = m from by
          have h := HQ.out
          rwa [List.take_of_length_le (by omega), List.take_of_length_le (by have := HL.out; omega)] at h)
        clear ha hb
        go_wp2
        go_ret
        exact ⟨by rw [← HR.out, decide_eq_true HN.out]; rfl, below_drewN' (Below.refl _ _) _⟩
  · have hd : ((l.length : Int) != (m.length : Int)) = true := by rw [bne_iff_ne]; omega
    have HN := Lib.hid (show l ≠ m from fun h => hlen (by rw [h]))
    clear hlen ha hb
    go_enter Tryd.func19, Tryd.ntmps19
    go_wp2
    go_ret
    exact ⟨by rw [← HR.out, decide_eq_false HN.out]; rfl, Below.refl _ _⟩
theorem SlR.cells_ {w : World} {S : Nat → Prop} {k : IntKind} {ad : Addr} {xs : List Int} (h : SlR w S k (some ad) xs) (j : Nat) (u : Value) (hj : (xs.map (Value.int k))[j]? = some u) : w.cell? (ad.add j) = some u := by
  rw [List.getElem?_map] at hj
  cases hd : xs[j]? with
  | none => rw [hd] at hj; cases hj
  | some d =>
    rw [hd] at hj; injection hj with hj; subst hj
    obtain ⟨b, o, e, _, hc⟩ := h (by have := (List.getElem?_eq_some_iff.1 hd).1; omega)
    injection e with e
    subst e
    rw [addr_add0]; exact hc j d hd
/-- append of words onto a row of one's own, at the walk's operation: whatever comes, nil too. -/
theorem wp_app_w {ops : Array Oper} {rest : List Oper} {o : Oper} {a : Act} {Q : Exit → Act → World → Prop} {w : World} (hgd : o.guard = none) (s x : Operand)
    (ho : o.op = .call { callee := .builtin .append, args := #[s, x], argTypes := #[36, 36] }) (base : Nat) (v : Value) (ys : List Int) (hs : a.eval s = v) (hown : OwnK w base 38 .u64 v ys)
    (A : Option Addr) (c : Nat) (xs : List Int) (S : Nat → Prop) (hx : a.eval x = .slice A xs.length c) (hl : SlR w S .u64 A xs) (hc : A = none → c = 0) (h1 : ys.length + xs.length ≤ 1000000) (hbase : base ≤ w.heap.size)
    (h : ∀ v' w', OwnK w' base 38 .u64 v' (ys ++ xs) → Below base w w' → wpList Tryd.prog ops Q rest (a.put o.dst v') w') : wpList Tryd.prog ops Q (o :: rest) a w := by
  obtain ⟨i0, hi, hz0, hz1, hz2⟩ := info_parts infoW
  have key : ∀ v' w', w'.ownsRow base 38 1 v' (ys.length + xs.length) (ys.map (Value.int .u64) ++ xs.map (Value.int .u64)) → OwnK w' base 38 .u64 v' (ys ++ xs) := fun v' w' hr => by
    unfold OwnK; rw [List.length_append, List.map_append]; exact hr
  cases A with
  | some ad => exact wpList_append_own _ hgd s x 36 ho base 38 i0 (.int .u64 0) 1 8 Tryd.underlying36 hi hz0 hz1 hz2 rfl (by decide) v ys.length (ys.map (Value.int .u64)) hs hown ad xs.length c (xs.map (Value.int .u64)) hx (by simp) (fun j u hj => hl.cells_ j u hj) (one_cells _ _) (by unfold maxLen; omega) (by omega) hbase (fun v' w' h1 h2 _ => h v' w' (key v' w' h1) ((Below.refl base w).grown h2 hbase (fun g hg => (World.ownsRow.lt hown g hg).1)))
  | none =>
    obtain rfl := hl.nilOf
    obtain rfl := hc rfl
    exact wpList_append_own_none hgd s x 36 ho base 38 i0 1 Tryd.underlying36 hi v ys.length (ys.map (Value.int .u64)) hs hown hx (h v w (by simpa using hown) (Below.refl _ _))
theorem OwnK.keep_ {w w' : World} {base : Nat} {e : TypeId} {k : IntKind} {v : Value} {os : List Int} (h : OwnK w base e k v os) (hk : ∀ g, v.ownBlock = some g → w'.heap[g]? = w.heap[g]?) : OwnK w' base e k v os := by
  obtain ⟨hl, h⟩ := h
  refine ⟨hl, ?_⟩
  rcases h with h | ⟨g, cap, cur, rfl, hb, hg, rest⟩
  · exact .inl h
  · exact .inr ⟨g, cap, cur, rfl, hb, (hk g rfl).trans hg, rest⟩
theorem OwnK.lt_ {w : World} {base : Nat} {e : TypeId} {k : IntKind} {v : Value} {os : List Int} (h : OwnK w base e k v os) : ∀ g, v.ownBlock = some g → base ≤ g ∧ g < w.heap.size := World.ownsRow.lt h
theorem own_cells {w : World} {base : Nat} {A : Option Addr} {n c : Nat} {ys : List Int} (h : OwnK w base 38 .u64 (.slice A n c) ys) : n = ys.length ∧ SlR w (fun g => (Value.slice A n c).ownBlock = some g) .u64 A ys := by
  obtain ⟨A', c', e, _, _, hs⟩ := h.form
  injection e with e1 e2 e3
  subst e1 e2 e3
  refine ⟨rfl, fun hl => ?_⟩
  obtain ⟨b, o, e, _, hc⟩ := hs hl
  subst e
  exact ⟨b, o, rfl, rfl, hc⟩
theorem equalU_n {A B : Option Addr} {n c m d : Nat} {l r : List Int} {S T : Nat → Prop} {w : World} (ha : SlR w S .u64 A l) (hb : SlR w T .u64 B r) (hn : n = l.length) (hm : m = r.length) (hl : n ≤ 1000000) (hr : m ≤ 1000000) (q : Bool) (hq : decide (l = r) = q) :
    Calls Tryd.prog 19 #[.slice A n c, .slice B m d] w fun e w' => e = .returned (.bool q) ∧ Below w.heap.size w w' := by
  subst hn hm
  exact equalU_any A B c d l r S T w ha hb hl hr q hq
end Go.Proofs.YthcckgehlfikcaaDoor
