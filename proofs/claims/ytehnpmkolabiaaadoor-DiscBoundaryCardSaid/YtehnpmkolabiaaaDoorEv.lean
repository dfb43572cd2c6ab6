/-
  Lists of events, and the reference of layer 10.
-/
import Derived.Test.YtehnpmkolabiaaaDoorBox
import Derived.BigQuiet
import Derived.Deep.CutRange
import Derived.Deep.DeepCutAuto
import Derived.Deep.QuietTactic
import Derived.Deep.RegionLaw
import Derived.Deep.RegionWith
import Derived.Laws.CopyOwn
import Derived.Laws.Pointers
import Derived.Laws.StructEq
import Derived.Lib.Hide
import Derived.Lib.MinMax
import Derived.RegionTactic
import Derived.StillTactics
import Derived.WalkSpells
import Derived.Defers
import Derived.Recover
namespace Go.Proofs.YtehnpmkolabiaaaDoor
open Go.RowKit
set_option maxRecDepth 100000
set_option linter.unusedVariables false
set_option linter.unusedSimpArgs false

/-- An event. -/
structure Ev where
  k : Int
  a : Int
  b : Int
  deriving DecidableEq
/-- The first difference of two lists, or -1. -/
def firstD : List Ev → List Ev → Int
  | [], [] => -1
  | [], _ :: _ => 0
  | _ :: _, [] => 0
  | e :: l, f :: m => if e = f then (if firstD l m < 0 then -1 else firstD l m + 1) else 0
theorem firstD_self : ∀ l, firstD l l = -1
  | [] => rfl
  | e :: l => by unfold firstD; rw [if_pos rfl, firstD_self l]; rfl
theorem firstD_cases : ∀ l m, (firstD l m = -1 ∧ l = m) ∨ (0 ≤ firstD l m ∧ l ≠ m)
  | [], [] => .inl ⟨rfl, rfl⟩
  | [], _ :: _ => .inr ⟨Int.le_refl 0, by simp⟩
  | _ :: _, [] => .inr ⟨Int.le_refl 0, by simp⟩
  | e :: l, f :: m => by
    unfold firstD
    by_cases h : e = f
    · subst h
      rw [if_pos rfl]
      rcases firstD_cases l m with ⟨h1, rfl⟩ | ⟨h1, h2⟩
      · left; rw [h1]; exact ⟨rfl, rfl⟩
      · right; rw [if_neg (by omega)]; exact ⟨by omega, fun e => h2 (by injection e)⟩
    · rw [if_neg h]; right; exact ⟨by decide, fun e2 => h (by injection e2)⟩
theorem firstD_neg (l m : List Ev) : decide (firstD l m < 0) = decide (l = m) := by
  rw [decide_eq_decide]
  rcases firstD_cases l m with ⟨h, e⟩ | ⟨h, e⟩
  · rw [h]; exact ⟨fun _ => e, fun _ => by decide⟩
  · exact ⟨fun h2 => by omega, fun h2 => absurd h2 e⟩
theorem firstD_append : ∀ p l m, firstD (p ++ l) (p ++ m) = if firstD l m < 0 then -1 else p.length + firstD l m
  | [], l, m => by
    rcases firstD_cases l m with ⟨h, e⟩ | ⟨h, e⟩
    · simp [h]
    · simp [Int.not_lt.2 h]
  | e :: p, l, m => by
    show firstD (e :: (p ++ l)) (e :: (p ++ m)) = _
    rw [show firstD (e :: (p ++ l)) (e :: (p ++ m)) = if e = e then (if firstD (p ++ l) (p ++ m) < 0 then -1 else firstD (p ++ l) (p ++ m) + 1) else 0 from rfl, if_pos rfl, firstD_append p l m]
    rcases firstD_cases l m with ⟨h, e⟩ | ⟨h, e⟩
    · simp [h]
    · rw [if_neg (by omega : ¬ firstD l m < 0), if_neg (by omega)]; simp; omega
/-- What a comparison that has come to index k knows. -/
theorem firstD_at {l m : List Ev} {k : Nat} (h : l.take k = m.take k) (h1 : k < l.length) (h2 : k < m.length) (hne : l[k] ≠ m[k]) : firstD l m = k := by
  have e1 : l = l.take k ++ (l[k] :: l.drop (k + 1)) := by rw [← List.drop_eq_getElem_cons h1, List.take_append_drop]
  have e2 : m = l.take k ++ (m[k] :: m.drop (k + 1)) := by rw [h, ← List.drop_eq_getElem_cons h2, List.take_append_drop]
  have e3 : firstD (l[k] :: l.drop (k + 1)) (m[k] :: m.drop (k + 1)) = 0 := by unfold firstD; rw [if_neg hne]
  have hl : (l.take k).length = k := by rw [List.length_take]; omega
  have h5 : ∀ L M, L = l.take k ++ (l[k] :: l.drop (k + 1)) → M = l.take k ++ (m[k] :: m.drop (k + 1)) → firstD L M = k := by
    intro L M hL hM
    rw [hL, hM, firstD_append, e3, hl]; simp
  exact h5 l m e1 e2
theorem firstD_end {l m : List Ev} {k : Nat} (h : l.take k = m.take k) (hk : k = l.length ∨ k = m.length) (h1 : k ≤ l.length) (h2 : k ≤ m.length) : firstD l m = if l.length = m.length then -1 else min (l.length : Int) m.length := by
  have e1 : l = l.take k ++ l.drop k := (List.take_append_drop k l).symm
  have e2 : m = l.take k ++ m.drop k := by rw [h, List.take_append_drop]
  have hl : (l.take k).length = k := by rw [List.length_take]; omega
  have h5 : ∀ L M, L = l.take k ++ l.drop k → M = l.take k ++ m.drop k → firstD L M = if l.length = m.length then -1 else min (l.length : Int) m.length := by
    intro L M hL hM
    rw [hL, hM, firstD_append, hl]
    by_cases e : l.length = m.length
    · rw [if_pos e, List.drop_eq_nil_of_le (by omega), List.drop_eq_nil_of_le (by omega)]; rfl
    · rw [if_neg e]
      rcases hk with hk | hk
      · rw [show l.drop k = [] from List.drop_eq_nil_of_le (by omega)]
        rcases hm : m.drop k with _ | ⟨f, r⟩
        · have := congrArg List.length hm; simp at this; omega
        · show (if (0 : Int) < 0 then _ else _) = _
          rw [if_neg (by decide)]; show (k : Int) + 0 = _; omega
      · rw [show m.drop k = [] from List.drop_eq_nil_of_le (by omega)]
        rcases hm : l.drop k with _ | ⟨f, r⟩
        · have := congrArg List.length hm; simp at this; omega
        · show (if (0 : Int) < 0 then _ else _) = _
          rw [if_neg (by decide)]; show (k : Int) + 0 = _; omega
  exact h5 l m e1 e2
/-- How many events have a kind. -/
def cntK (l : List Ev) (x : Int) : Nat := l.countP fun e => e.k == x
theorem cntK_snoc (l : List Ev) (x : Int) (k : Nat) (h : k < l.length) : cntK (l.take (k + 1)) x = cntK (l.take k) x + if l[k].k = x then 1 else 0 := by
  unfold cntK
  rw [List.take_succ_eq_append_getElem h, List.countP_append, List.countP_singleton]
  congr 1
  by_cases h2 : l[k].k = x <;> simp [h2]
theorem cntK_le (l : List Ev) (x : Int) : cntK l x ≤ l.length := List.countP_le_length

/-- The cells behind an address are the events l, and lie in a block that T admits. -/
def EvsR (w : World) (T : Nat → Prop) (A : Option Addr) (l : List Ev) : Prop :=
  0 < l.length → ∃ b o, A = some ⟨b, o, none⟩ ∧ T b ∧ ∀ j (e : Ev), l[j]? = some e → w.cell? ⟨b, o + j * 3, none⟩ = some (.int .i64 e.k) ∧ w.cell? ⟨b, o + j * 3 + 1, none⟩ = some (.int .i64 e.a) ∧ w.cell? ⟨b, o + j * 3 + 2, none⟩ = some (.int .i64 e.b)
theorem EvsR.nil_ (w : World) (T : Nat → Prop) (A : Option Addr) : EvsR w T A [] := fun h => absurd h (by simp)
theorem EvsR.at_ {w : World} {T : Nat → Prop} {A : Option Addr} {l : List Ev} (h : EvsR w T A l) {j : Nat} (hj : j < l.length) :
    ∃ b o, A = some ⟨b, o, none⟩ ∧ T b ∧ w.cell? ⟨b, o + j * 3, none⟩ = some (.int .i64 (l[j]'hj).k) ∧ w.cell? ⟨b, o + j * 3 + 1, none⟩ = some (.int .i64 (l[j]'hj).a) ∧ w.cell? ⟨b, o + j * 3 + 2, none⟩ = some (.int .i64 (l[j]'hj).b) := by
  obtain ⟨b, o, e, hT, hc⟩ := h (by omega)
  exact ⟨b, o, e, hT, hc j _ (List.getElem?_eq_getElem hj)⟩
theorem EvsR.drewN_ {w : World} {T : Nat → Prop} {A : Option Addr} {l : List Ev} (h : EvsR w T A l) (n : Nat) : EvsR (w.drewN n) T A l := h
theorem EvsR.keep {w w' : World} {T : Nat → Prop} {A : Option Addr} {l : List Ev} (h : EvsR w T A l) (hk : ∀ b, T b → b < w.heap.size → w'.heap[b]? = w.heap[b]?) : EvsR w' T A l := fun hl => by
  obtain ⟨b, o, e, hT, hc⟩ := h hl
  refine ⟨b, o, e, hT, fun j x hx => ?_⟩
  obtain ⟨h1, h2, h3⟩ := hc j x hx
  have hb := hk b hT (World.block_lt_of_cell? w ⟨b, _, none⟩ h1)
  exact ⟨(World.cell?_of_block (a := ⟨b, _, none⟩) hb).trans h1, (World.cell?_of_block (a := ⟨b, _, none⟩) hb).trans h2, (World.cell?_of_block (a := ⟨b, _, none⟩) hb).trans h3⟩
theorem EvsR.imp {w : World} {T U : Nat → Prop} {A : Option Addr} {l : List Ev} (h : EvsR w T A l) (hTU : ∀ b, T b → U b) : EvsR w U A l := fun hl => by
  obtain ⟨b, o, e, hT, hc⟩ := h hl
  exact ⟨b, o, e, hTU b hT, hc⟩
theorem EvsR.next {w w' : World} {T : Nat → Prop} {A : Option Addr} {l : List Ev} (h : EvsR w T A l) (hb : Below w.heap.size w w') : EvsR w' T A l := h.keep fun b _ hlt => hb.block b hlt
theorem ev_ext {e f : Ev} (h1 : e.k = f.k) (h2 : e.a = f.a) (h3 : e.b = f.b) : e = f := by cases e; cases f; simp_all
theorem take_snoc_eq {l m : List Ev} {k : Nat} (h : l.take k = m.take k) (h1 : k < l.length) (h2 : k < m.length) (he : l[k] = m[k]) : l.take (k + 1) = m.take (k + 1) := by rw [List.take_succ_eq_append_getElem h1, List.take_succ_eq_append_getElem h2, h, he]
set_option maxHeartbeats 4000000 in
theorem ref10First_any (A B : Option Addr) (c d : Nat) (l m : List Ev) (T U : Nat → Prop) (w : World) (ha : EvsR w T A l) (hb : EvsR w U B m) (hl : l.length ≤ 1000000) (hm : m.length ≤ 1000000) :
    Calls Tryd.prog 24 #[.slice A l.length c, .slice B m.length d] w fun e w' => e = .returned (.int .i64 (firstD l m)) ∧ ∃ n, w' = w.drewN n := by
  go_enter Tryd.func24, Tryd.ntmps24
  go_wp2
  go_loopw [5] (fun i wr => ∃ k n : Nat, i = .int .i64 k ∧ k ≤ l.length ∧ k ≤ m.length ∧ l.take k = m.take k ∧ wr = w.drewN n) (fun i _ => l.length - (intOf i).toNat)
  case atStart => exact ⟨0, 0, rfl, Nat.zero_le _, Nat.zero_le _, by simp, rfl⟩
  case round =>
    obtain ⟨k, n, rfl, hk1, hk2, heq, rfl⟩ := hrel
    have HQ := Lib.hid heq
    clear heq
    by_cases hgo : k < l.length
    · by_cases hgo2 : k < m.length
      · obtain ⟨b, o, rfl, _, h1, h2, h3⟩ := ha.at_ hgo
        obtain ⟨b2, o2, rfl, _, g1, g2, g3⟩ := hb.at_ hgo2
        clear ha hb
        obtain ⟨e, he⟩ : ∃ e, e = l[k]'hgo := ⟨_, rfl⟩
        obtain ⟨f, hf⟩ : ∃ f, f = m[k]'hgo2 := ⟨_, rfl⟩
        rw [← he] at h1 h2 h3
        rw [← hf] at g1 g2 g3
        have HE := Lib.hid he
        have HF := Lib.hid hf
        clear he hf
        by_cases c1 : e.k = f.k
        · have d1 : (e.k != f.k) = false := by rw [bne_eq_false_iff_eq]; exact c1
          have H1 := Lib.hid c1
          clear c1
          by_cases c2 : e.a = f.a
          · have d2 : (e.a != f.a) = false := by rw [bne_eq_false_iff_eq]; exact c2
            have H2 := Lib.hid c2
            clear c2
            by_cases c3 : e.b = f.b
            · have d3 : (e.b != f.b) = false := by rw [bne_eq_false_iff_eq]; exact c3
              have H3 := Lib.hid c3
              clear c3
              go_wp2
              go_quiet (fail)
              go_wp2
              go_roundw
              case rel => exact ⟨k + 1, n + nq, by go_num, hgo, hgo2, take_snoc_eq HQ.out hgo hgo2 (by rw [← HE.out, ← HF.out]; exact ev_ext H1.out H2.out H3.out), rfl⟩
              case measure => simp [intOf]; omega
            · have d3 : (e.b != f.b) = true := by rw [bne_iff_ne]; exact c3
              have HN := Lib.hid (show e ≠ f from fun h => c3 (by rw [h]))
              clear c3
              go_wp2
              go_quiet (fail)
              go_wp2
              go_ret
              exact ⟨by rw [firstD_at HQ.out hgo hgo2 (by rw [← HE.out, ← HF.out]; exact HN.out)]; rfl, n + nq, by simp [go_sem]⟩
          · have d2 : (e.a != f.a) = true := by rw [bne_iff_ne]; exact c2
            have HN := Lib.hid (show e ≠ f from fun h => c2 (by rw [h]))
            clear c2
            go_wp2
            go_quiet (fail)
            go_wp2
            go_ret
            exact ⟨by rw [firstD_at HQ.out hgo hgo2 (by rw [← HE.out, ← HF.out]; exact HN.out)]; rfl, n + nq, by simp [go_sem]⟩
        · have d1 : (e.k != f.k) = true := by rw [bne_iff_ne]; exact c1
          have HN := Lib.hid (show e ≠ f from fun h => c1 (by rw [h]))
          clear c1
          go_wp2
          go_quiet (fail)
          go_wp2
          go_ret
          exact ⟨by rw [firstD_at HQ.out hgo hgo2 (by rw [← HE.out, ← HF.out]; exact HN.out)]; rfl, n + nq, by simp [go_sem]⟩
      · have HK := Lib.hid (show k = m.length by omega)
        have HV := Lib.hid (firstD_end HQ.out (.inr HK.out) hk1 hk2)
        clear ha hb
        by_cases heq : l.length = m.length
        · have hd : ((l.length : Int) == (m.length : Int)) = true := by rw [beq_iff_eq]; omega
          have HL := Lib.hid heq
          clear heq
          go_wp2
          go_ret
          exact ⟨by rw [HV.out, if_pos HL.out]; rfl, n, rfl⟩
        · have hd : ((l.length : Int) == (m.length : Int)) = false := by rw [beq_eq_false_iff_ne]; omega
          have HL := Lib.hid heq
          clear heq
          go_wp2
          go_ret
          exact ⟨by rw [HV.out, if_neg HL.out]; rfl, n, rfl⟩
    · have HK := Lib.hid (show k = l.length by omega)
      have HV := Lib.hid (firstD_end HQ.out (.inl HK.out) hk1 hk2)
      clear ha hb
      by_cases heq : l.length = m.length
      · have hd : ((l.length : Int) == (m.length : Int)) = true := by rw [beq_iff_eq]; omega
        have HL := Lib.hid heq
        clear heq
        go_wp2
        go_ret
        exact ⟨by rw [HV.out, if_pos HL.out]; rfl, n, rfl⟩
      · have hd : ((l.length : Int) == (m.length : Int)) = false := by rw [beq_eq_false_iff_ne]; omega
        have HL := Lib.hid heq
        clear heq
        go_wp2
        go_ret
        exact ⟨by rw [HV.out, if_neg HL.out]; rfl, n, rfl⟩
theorem ref10Same_any (A B : Option Addr) (c d : Nat) (l m : List Ev) (T U : Nat → Prop) (w : World) (ha : EvsR w T A l) (hb : EvsR w U B m) (hl : l.length ≤ 1000000) (hm : m.length ≤ 1000000) :
    Calls Tryd.prog 16 #[.slice A l.length c, .slice B m.length d] w fun e w' => e = .returned (.bool (decide (l = m))) ∧ ∃ n, w' = w.drewN n := by
  have HD := Lib.hid (firstD_neg l m)
  go_enter Tryd.func16, Tryd.ntmps16
  go_wp2_with (fail)
  refine (ref10First_any A B c d l m T U w ha hb hl hm).mono ?_
  rintro e w' ⟨rfl, n, rfl⟩
  go_wp2
  go_ret
  exact ⟨by rw [← HD.out]; rfl, n, rfl⟩
end Go.Proofs.YtehnpmkolabiaaaDoor
