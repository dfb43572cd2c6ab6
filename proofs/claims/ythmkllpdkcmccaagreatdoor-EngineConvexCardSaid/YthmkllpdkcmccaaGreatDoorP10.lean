/-
  Packed texts: Net, Srt, Cod, Eng, SlW, By, Ref18, Ref17, Ref18c, CodD, EngC0, EngO, CodN, TailM, DirP, Grew.
-/
import Derived.BigQuiet
import Derived.Deep.QuietTactic
import Derived.Lib.Hide
import Derived.Lib.SliceRun
import Derived.Laws.AppendOwnNone
import Derived.RangeFuncBox
import Derived.Lib.SlBytesRow
import Derived.Laws.BytesArg
import Derived.WalkSpells
import Derived.WideMake
import Derived.ChangeMaps4
import Derived.Test.YthmkllpdkcmccaaGreatDoorP9
namespace Go.Proofs.YthmkllpdkcmccaaGreatDoor
open Go.RowKit
set_option maxRecDepth 100000
set_option linter.unusedVariables false
set_option linter.unusedSimpArgs false
namespace Net

/-- On the m places from o on, b is an interval or the complement of one. -/
def Bit (b : Nat → Bool) (o m : Nat) : Prop := ∃ (f : Bool) (a c : Nat), ∀ i, i < m → b (o + i) = xor f (decide (a ≤ i) && decide (i < c))
theorem not_bit {b : Nat → Bool} {o m : Nat} (h : Bit b o m) : Bit (fun i => !b i) o m := by
  obtain ⟨f, a, c, h⟩ := h
  refine ⟨!f, a, c, fun i hi => ?_⟩
  simp [h i hi]
theorem div_low {x h i : Nat} (hi : i < h) : (x * (2 * h) + i) / h % 2 = 0 := by
  have : (x * (2 * h) + i) / h = 2 * x := by
    rw [show x * (2 * h) + i = i + h * (2 * x) by rw [show x * (2 * h) = h * (2 * x) by rw [Nat.mul_comm, Nat.mul_right_comm, Nat.mul_comm h, Nat.mul_assoc]]; omega]
    rw [Nat.add_mul_div_left _ _ (by omega), Nat.div_eq_of_lt hi, Nat.zero_add]
  omega
theorem div_high {x h i : Nat} (hi : i < h) : (x * (2 * h) + (i + h)) / h % 2 = 1 := by
  have : (x * (2 * h) + (i + h)) / h = 2 * x + 1 := by
    rw [show x * (2 * h) + (i + h) = i + h * (2 * x + 1) by rw [Nat.mul_add, show x * (2 * h) = h * (2 * x) by rw [Nat.mul_comm, Nat.mul_right_comm, Nat.mul_comm h, Nat.mul_assoc]]; omega]
    rw [Nat.add_mul_div_left _ _ (by omega), Nat.div_eq_of_lt hi, Nat.zero_add]
  omega
/- The same on numbers, and by single comparators. -/
def low (j x : Nat) : Nat := if x / j % 2 = 0 then x else x - j
theorem parts {j : Nat} (hj : 0 < j) (x : Nat) : ∃ u v, v < j ∧ ((x = 2 * j * u + v ∧ x / j % 2 = 0) ∨ (x = 2 * j * u + (v + j) ∧ x / j % 2 = 1)) := by
  have hlt := Nat.mod_lt x (show 0 < 2 * j by omega)
  have hdm := Nat.div_add_mod x (2 * j)
  by_cases h : x % (2 * j) < j
  · refine ⟨x / (2 * j), x % (2 * j), h, .inl ⟨hdm.symm, ?_⟩⟩
    have := div_low (x := x / (2 * j)) (h := j) h
    rwa [Nat.mul_comm (x / (2 * j)), hdm] at this
  · refine ⟨x / (2 * j), x % (2 * j) - j, by omega, .inr ⟨by omega, ?_⟩⟩
    have := div_high (x := x / (2 * j)) (h := j) (i := x % (2 * j) - j) (by omega)
    rwa [Nat.mul_comm (x / (2 * j)), show x % (2 * j) - j + j = x % (2 * j) by omega, hdm] at this
/- Lists. -/
/-- Comparators within n. -/
def Within (n : Nat) (cs : List (Nat × Nat)) : Prop := ∀ c ∈ cs, c.1 < n ∧ c.2 < n ∧ c.1 ≠ c.2
/- All rounds. -/
end Net
end Go.Proofs.YthmkllpdkcmccaaGreatDoor
namespace Go.Proofs.YthmkllpdkcmccaaGreatDoor
open Go.RowKit
set_option maxRecDepth 100000
set_option linter.unusedVariables false
set_option linter.unusedSimpArgs false

/-- A record. -/
structure Rc where
  live : Int
  id : Int
  deriving DecidableEq
def rcC (r : Rc) : List Value := [.int .u64 r.live, .int .u64 r.id]
/-- The place of a clean record in the order. -/
def rankR (r : Rc) : Int := if r.live % 2 = 1 then r.id else 18446744073709551616
def ranks (l : List Rc) : List Int := l.map rankR
end Go.Proofs.YthmkllpdkcmccaaGreatDoor
namespace Go.Proofs.YthmkllpdkcmccaaGreatDoor
open Go

/-! ### Requests -/
abbrev RgD := (Bool × Int) × List Pt
def rgD (r : Rg) : RgD := (rgK r, r.l)
structure Rqd where
  h : Hq
  rs : List RgD
  ps : List Pt
  qs : List Qr
def cntP (h : Hq) : Int := if h.op = 1 then 3 else if h.op = 2 then 4 else if h.op = 3 then h.vs + 1 else if h.op = 4 then 1 else 0
def cntQ (h : Hq) : Int := if h.op = 1 ∨ h.op = 2 ∨ h.op = 3 ∨ h.op = 4 then 0 else h.pts
def lens : List RgD → List (Bool × Int) → Bool
  | r :: rs, k :: ks => decide ((r.2.length : Int) = sizeF k.2) && lens rs ks
  | _, _ => true
def kinds (rs : List RgD) (ks : List (Bool × Int)) : Bool := decide (rs.map Prod.fst = ks)
/-- The error of Encode. -/
def encE (r : Rqd) (p : Bool) : Int :=
  if formErr r.h p ≠ 0 then formErr r.h p
  else if ¬ (r.rs.length = r.h.ks.length ∧ (r.ps.length : Int) = cntP r.h ∧ (r.qs.length : Int) = cntQ r.h) then 8
  else if lens r.rs r.h.ks = false then 8
  else if kinds r.rs r.h.ks = false then 2 else 0
def rgsB (rs : List RgD) : List Int := rs.flatMap fun r => r.2.flatMap ptB
def encB (r : Rqd) : List Int := formB r.h ++ (rgsB r.rs ++ (r.ps.flatMap ptB ++ r.qs.flatMap qrB))
/-! ### Encode and Decode are inverse -/
theorem cnt_nn {h : Hq} (k : Okh h) : 0 ≤ cntP h ∧ cntP h ≤ 65 ∧ 0 ≤ cntQ h ∧ cntQ h ≤ 4096 := by
  have h1 := k.op
  unfold cntP cntQ
  have h3 := k.vs3
  have h5 := k.pts5
  refine ⟨?_, ?_, ?_, ?_⟩ <;> (repeat' split) <;> omega
def OkQ (q : Qr) : Prop := (S q.p.x ∧ S q.p.y) ∧ U q.id
theorem flatK_len {α : Type} {B : α → List Int} {k : Nat} (hB : ∀ x, (B x).length = k) : ∀ l : List α, (l.flatMap B).length = k * l.length
  | [] => rfl
  | x :: l => by rw [List.flatMap_cons, List.length_append, flatK_len hB l, hB, List.length_cons, Nat.mul_succ, Nat.add_comm]
theorem lens_each : ∀ {rs : List RgD} {ks : List (Bool × Int)}, rs.map Prod.fst = ks → lens rs ks = true → ∀ r ∈ rs, (r.2.length : Int) = sizeF r.1.2
  | [], _, _, _ => fun r hr => by cases hr
  | r :: rs, [], e, _ => by cases e
  | r :: rs, k :: ks, e, h => fun q hq => by
    rw [List.map_cons] at e
    injection e with e1 e2
    simp only [lens, Bool.and_eq_true, decide_eq_true_eq] at h
    rcases List.mem_cons.1 hq with rfl | hq
    · rw [h.1, e1]
    · exact lens_each e2 h.2 q hq
theorem encE_ok {r : Rqd} {p : Bool} (h : encE r p = 0) : Okh r.h ∧ p = false ∧ r.rs.length = r.h.ks.length ∧ (r.ps.length : Int) = cntP r.h ∧ (r.qs.length : Int) = cntQ r.h ∧ lens r.rs r.h.ks = true ∧ r.rs.map Prod.fst = r.h.ks := by
  unfold encE at h
  split at h
  · rename_i h1; exact absurd h h1
  split at h
  · cases h
  split at h
  · cases h
  split at h
  · cases h
  rename_i h1 h2 h3 h4
  have h1 : formErr r.h p = 0 := by simpa using h1
  obtain ⟨hk, hp⟩ := formErr_ok.1 h1
  have h2 : r.rs.length = r.h.ks.length ∧ (r.ps.length : Int) = cntP r.h ∧ (r.qs.length : Int) = cntQ r.h := Classical.not_not.1 h2
  have h4 : kinds r.rs r.h.ks = true := by simpa using h4
  exact ⟨hk, hp, h2.1, h2.2.1, h2.2.2, by simpa using h3, of_decide_eq_true h4⟩
/-! ### Answers -/
structure An where
  v : Int
  n : Int
  l : List Rc
  deriving DecidableEq
def mostA (op : Int) : Int := if op = 3 then 3 else if op = 5 then 1 else 2
def recsA : Int → List Rc → Bool
  | _, [] => true
  | n, x :: l => (if 0 < n then decide (x.live = 1) else decide (x.live = 0) && decide (x.id = 0)) && recsA (n - 1) l
def headA (h : Hq) (a : An) : Bool := decide (0 ≤ a.v) && decide (a.v ≤ mostA h.op) && decide ((a.l.length : Int) = h.pts) && decide (0 ≤ a.n) && decide (a.n ≤ h.pts) && !(decide (a.v = 0) && decide (0 < a.n))
def isA (h : Hq) (a : An) : Bool := headA h a && recsA a.n a.l
def rcB (r : Rc) : List Int := r.live :: digs 8 r.id
def rspB (h : Hq) (a : An) : List Int := [0, a.v] ++ ((if h.op = 5 then [a.n % 256, a.n / 256] else []) ++ a.l.flatMap rcB)
def rspE (h : Hq) (p : Bool) (a : An) : Int := if formErr h p ≠ 0 then formErr h p else if isA h a then 0 else 10
theorem rcB_len (r : Rc) : (rcB r).length = 9 := by unfold rcB; rw [List.length_cons, digs_len]
theorem recsA_live : ∀ {n : Int} {l : List Rc}, recsA n l = true → ∀ x ∈ l, x.live = 0 ∨ x.live = 1
  | _, [], _, x, hx => by cases hx
  | n, y :: l, h, x, hx => by
    simp only [recsA, Bool.and_eq_true] at h
    rcases List.mem_cons.1 hx with rfl | hx
    · have h1 := h.1
      split at h1
      · exact .inr (of_decide_eq_true h1)
      · rw [Bool.and_eq_true] at h1; exact .inl (of_decide_eq_true h1.1)
    · exact recsA_live h.2 x hx
theorem headA_iff {h : Hq} {a : An} : headA h a = true ↔ 0 ≤ a.v ∧ a.v ≤ mostA h.op ∧ (a.l.length : Int) = h.pts ∧ 0 ≤ a.n ∧ a.n ≤ h.pts ∧ (a.v = 0 → a.n ≤ 0) := by
  unfold headA
  simp only [Bool.and_eq_true, decide_eq_true_eq, Bool.not_eq_true', Bool.and_eq_false_iff, decide_eq_false_iff_not]
  constructor
  · rintro ⟨⟨⟨⟨⟨h1, h2⟩, h3⟩, h4⟩, h5⟩, h6⟩
    exact ⟨h1, h2, h3, h4, h5, fun e => by omega⟩
  · rintro ⟨h1, h2, h3, h4, h5, h6⟩
    exact ⟨⟨⟨⟨⟨h1, h2⟩, h3⟩, h4⟩, h5⟩, by omega⟩
/-! ### Encode, check by check -/
theorem lens_iff : ∀ {rs : List RgD} {ks : List (Bool × Int)}, rs.length = ks.length → (lens rs ks = true ↔ ∀ (j : Nat) (h1 : j < rs.length) (h2 : j < ks.length), ((rs[j]).2.length : Int) = sizeF (ks[j]).2)
  | [], [], _ => ⟨fun _ j h1 => absurd h1 (by simp), fun _ => rfl⟩
  | r :: rs, k :: ks, hl => by
    have ih := lens_iff (rs := rs) (ks := ks) (by simpa using hl)
    simp only [lens, Bool.and_eq_true, decide_eq_true_eq, ih]
    constructor
    · rintro ⟨h0, h⟩ j h1 h2
      cases j with
      | zero => exact h0
      | succ j => exact h j (by simpa using h1) (by simpa using h2)
    · intro h
      exact ⟨h 0 (by simp) (by simp), fun j h1 h2 => h (j + 1) (by simpa using h1) (by simpa using h2)⟩
  | [], _ :: _, hl => by simp at hl
  | _ :: _, [], hl => by simp at hl
def LensTo (rs hrs : List Rg) (k : Nat) : Prop := ∀ (j : Nat) (h1 : j < rs.length) (h2 : j < hrs.length), j < k → ((rs[j]).l.length : Int) = sizeF (hrs[j]).v
def KindsTo (rs hrs : List Rg) (k : Nat) : Prop := ∀ (j : Nat) (h1 : j < rs.length) (h2 : j < hrs.length), j < k → rs[j].d = hrs[j].d ∧ rs[j].v = hrs[j].v
theorem LensTo.succ {rs hrs : List Rg} {k : Nat} (h : LensTo rs hrs k) (h1 : k < rs.length) (h2 : k < hrs.length) (e : ((rs[k]).l.length : Int) = sizeF (hrs[k]).v) : LensTo rs hrs (k + 1) := fun j g1 g2 hj => by
  by_cases ej : j = k
  · subst ej; exact e
  · exact h j g1 g2 (by omega)
theorem KindsTo.succ {rs hrs : List Rg} {k : Nat} (h : KindsTo rs hrs k) (h1 : k < rs.length) (h2 : k < hrs.length) (e : rs[k].d = hrs[k].d ∧ rs[k].v = hrs[k].v) : KindsTo rs hrs (k + 1) := fun j g1 g2 hj => by
  by_cases ej : j = k
  · subst ej; exact e
  · exact h j g1 g2 (by omega)
theorem lens_to {rs hrs : List Rg} (hl : rs.length = hrs.length) : lens (rs.map rgD) (hrs.map rgK) = true ↔ LensTo rs hrs rs.length := by
  rw [lens_iff (by simpa using hl)]
  constructor
  · intro h j h1 h2 _
    have := h j (by simpa using h1) (by simpa using h2)
    rw [List.getElem_map, List.getElem_map] at this
    exact this
  · intro h j h1 h2
    rw [List.getElem_map, List.getElem_map]
    exact h j (by simpa using h1) (by simpa using h2) (by simpa using h1)
theorem kinds_to {rs hrs : List Rg} (hl : rs.length = hrs.length) : kinds (rs.map rgD) (hrs.map rgK) = true ↔ KindsTo rs hrs rs.length := by
  unfold kinds
  rw [decide_eq_true_eq, List.map_map]
  constructor
  · intro h j h1 h2 _
    have h3 : (rs.map (Prod.fst ∘ rgD))[j]'(by simpa using h1) = (hrs.map rgK)[j]'(by simpa using h2) := by simp only [h]
    rw [List.getElem_map, List.getElem_map] at h3
    simp only [Function.comp, rgD, rgK, Prod.mk.injEq] at h3
    exact h3
  · intro h
    refine List.ext_getElem (by simpa using hl) fun j h1 h2 => ?_
    rw [List.getElem_map, List.getElem_map]
    have := h j (by simpa using h1) (by simpa using h2) (by simpa using h1)
    simp only [Function.comp, rgD, rgK, this.1, this.2]
theorem enc_fmt {r : Rqd} {p : Bool} (h : formErr r.h p ≠ 0) : encE r p = formErr r.h p := by unfold encE; rw [if_pos h]
theorem enc_cnt {r : Rqd} {p : Bool} (h0 : formErr r.h p = 0) (h : ¬ (r.rs.length = r.h.ks.length ∧ (r.ps.length : Int) = cntP r.h ∧ (r.qs.length : Int) = cntQ r.h)) : encE r p = 8 := by unfold encE; rw [if_neg (by simpa using h0), if_pos h]
theorem enc_len {r : Rqd} {p : Bool} (h0 : formErr r.h p = 0) (h1 : r.rs.length = r.h.ks.length ∧ (r.ps.length : Int) = cntP r.h ∧ (r.qs.length : Int) = cntQ r.h) (h : lens r.rs r.h.ks = false) : encE r p = 8 := by
  unfold encE; rw [if_neg (by simpa using h0), if_neg (Classical.not_not.2 h1), if_pos h]
theorem enc_kind {r : Rqd} {p : Bool} (h0 : formErr r.h p = 0) (h1 : r.rs.length = r.h.ks.length ∧ (r.ps.length : Int) = cntP r.h ∧ (r.qs.length : Int) = cntQ r.h) (h2 : lens r.rs r.h.ks = true) (h : kinds r.rs r.h.ks = false) : encE r p = 2 := by
  unfold encE; rw [if_neg (by simpa using h0), if_neg (Classical.not_not.2 h1), if_neg (by rw [h2]; simp), if_pos h]
theorem enc_ok {r : Rqd} {p : Bool} (h0 : formErr r.h p = 0) (h1 : r.rs.length = r.h.ks.length ∧ (r.ps.length : Int) = cntP r.h ∧ (r.qs.length : Int) = cntQ r.h) (h2 : lens r.rs r.h.ks = true) (h3 : kinds r.rs r.h.ks = true) : encE r p = 0 := by
  unfold encE; rw [if_neg (by simpa using h0), if_neg (Classical.not_not.2 h1), if_neg (by rw [h2]; simp), if_neg (by rw [h3]; simp)]
theorem rgsB_snoc {rs : List Rg} {k : Nat} (h : k < rs.length) : rgsB ((rs.take (k + 1)).map rgD) = rgsB ((rs.take k).map rgD) ++ (rs[k]).l.flatMap ptB := by
  rw [List.take_succ_eq_append_getElem h, List.map_append]
  unfold rgsB
  rw [List.flatMap_append]
  simp [rgD]
theorem flat_snoc {α : Type} (B : α → List Int) {l : List α} {k : Nat} (h : k < l.length) : (l.take (k + 1)).flatMap B = (l.take k).flatMap B ++ B l[k] := by
  rw [List.take_succ_eq_append_getElem h, List.flatMap_append]; simp
def qrC (q : Qr) : List Value := [.int .i64 q.p.x, .int .i64 q.p.y, .int .u64 q.id]
end Go.Proofs.YthmkllpdkcmccaaGreatDoor
namespace Go.Proofs.YthmkllpdkcmccaaGreatDoor
open Go.RowKit
set_option maxRecDepth 100000
set_option linter.unusedVariables false
set_option linter.unusedSimpArgs false

def sgnC (a b c d : Pt) : Int := (lc a.x a.y b.x b.y c.x c.y d.x d.y).sign
def convV (l : List Pt) (p : Pt) : Int := if validP l then locP l p + 1 else 3
def fencVw (q : Int) (rs : List Rg) (p : Pt) : Int := if validFw q rs then (if memberF rs p then 1 else 0) else 2
/-- The value of a well-formed request with a single query. -/
def valEw (q op : Int) (rs : List Rg) (ps : List Pt) : Int :=
  if op = 1 then sgnP (at_ ps 0) (at_ ps 1) (at_ ps 2) + 1 else if op = 2 then sgnC (at_ ps 0) (at_ ps 1) (at_ ps 2) (at_ ps 3) + 1
  else if op = 3 then convV (ps.take (ps.length - 1)) (at_ ps (ps.length - 1)) else fencVw q rs (at_ ps 0)
/-- The events that a header asks for. -/
def evE (op vs : Int) (ks : List (Bool × Int)) : List Ev :=
  if op = 3 then validE vs.toNat ++ locateE vs.toNat else if op = 4 then evsV 0 (ks.map fun k => ⟨k.1, k.2, none, 0, []⟩) ++ evsM 0 (ks.map fun k => ⟨k.1, k.2, none, 0, []⟩) else []
theorem evsV_keys : ∀ {a b : List Rg}, a.map rgK = b.map rgK → ∀ i, evsV i a = evsV i b
  | [], [], _, _ => rfl
  | [], y :: b, h, _ => by simp at h
  | x :: a, [], h, _ => by simp at h
  | x :: a, y :: b, h, i => by
    rw [List.map_cons, List.map_cons] at h
    injection h with h1 h2
    unfold rgK at h1
    injection h1 with h3 h4
    rw [evsV, evsV, evsV_keys h2]
    unfold evV
    rw [h4]
theorem evsM_keys : ∀ {a b : List Rg}, a.map rgK = b.map rgK → ∀ i, evsM i a = evsM i b
  | [], [], _, _ => rfl
  | [], y :: b, h, _ => by simp at h
  | x :: a, [], h, _ => by simp at h
  | x :: a, y :: b, h, i => by
    rw [List.map_cons, List.map_cons] at h
    injection h with h1 h2
    unfold rgK at h1
    injection h1 with h3 h4
    rw [evsM, evsM, evsM_keys h2]
    unfold evM
    rw [h4]
theorem bare_keys (ks : List (Bool × Int)) : (ks.map fun k => (⟨k.1, k.2, none, 0, []⟩ : Rg)).map rgK = ks := by rw [List.map_map]; exact List.map_id ks
theorem evE_4 {vs : Int} {rs : List Rg} {ks : List (Bool × Int)} (h : rs.map rgK = ks) : evE 4 vs ks = evsV 0 rs ++ evsM 0 rs := by
  unfold evE
  rw [if_neg (by decide), if_pos rfl, evsV_keys (b := rs) (by rw [bare_keys, h]), evsM_keys (b := rs) (by rw [bare_keys, h])]
theorem evE_3 (vs : Int) (ks : List (Bool × Int)) : evE 3 vs ks = validE vs.toNat ++ locateE vs.toNat := by unfold evE; rw [if_pos rfl]
theorem evE_no {op vs : Int} {ks : List (Bool × Int)} (h3 : op ≠ 3) (h4 : op ≠ 4) : evE op vs ks = [] := by unfold evE; rw [if_neg h3, if_neg h4]
/-- A well-formed request's regions are a fence. -/
theorem check_enc {op vs pts : Int} {ks : List (Bool × Int)} {rs : List Rg} {ps : List Pt} {qs : List Qr} {p : Bool} (h : encE ⟨⟨op, vs, ks, pts⟩, rs.map rgD, ps, qs⟩ p = 0) (h4 : 4 ≤ op) : checkF rs = 0 := by
  obtain ⟨hk, _, hl, _, _, hlens, hkinds⟩ := encE_ok h
  have h1 := hk.len h4
  have h2 := hk.ok h4
  simp only at h1 h2 hl hlens hkinds
  rw [List.length_map] at hl
  refine (check_iff rs).2 ⟨by unfold lenF; simp; omega, fun r hr => ?_⟩
  have hm : rgD r ∈ rs.map rgD := List.mem_map_of_mem hr
  have h3 := lens_each hkinds hlens _ hm
  refine ⟨?_, h3⟩
  have h5 : rgK r ∈ ks := by rw [← hkinds]; exact List.mem_map_of_mem (f := Prod.fst) hm
  unfold anyBad at h2
  have h6 : ¬ decide (sizeF r.v = 0) = true := List.any_eq_false.1 h2 _ h5
  simpa using h6
theorem keys_enc {op vs pts : Int} {ks : List (Bool × Int)} {rs : List Rg} {ps : List Pt} {qs : List Qr} {p : Bool} (h : encE ⟨⟨op, vs, ks, pts⟩, rs.map rgD, ps, qs⟩ p = 0) : rs.map rgK = ks := by
  obtain ⟨_, _, _, _, _, _, hkinds⟩ := encE_ok h
  simp only at hkinds
  rw [← hkinds, List.map_map]; rfl
theorem pts_enc {op vs pts : Int} {ks : List (Bool × Int)} {rs : List Rg} {ps : List Pt} {qs : List Qr} {p : Bool} (h : encE ⟨⟨op, vs, ks, pts⟩, rs.map rgD, ps, qs⟩ p = 0) : (ps.length : Int) = cntP ⟨op, vs, ks, pts⟩ ∧ Okh ⟨op, vs, ks, pts⟩ := by
  obtain ⟨hk, _, _, hp, _⟩ := encE_ok h
  exact ⟨hp, hk⟩
theorem fencV_in (q : Int) (rs : List Rg) (p : Pt) : 0 ≤ fencVw q rs p ∧ fencVw q rs p ≤ 2 := by unfold fencVw; split <;> (try split) <;> omega
theorem locP_in (l : List Pt) (p : Pt) (h : validP l = true) : -1 ≤ locP l p ∧ locP l p ≤ 1 := by
  have hp := (valid_iff l).1 h
  unfold locP
  rw [if_pos hp.1]
  obtain ⟨k1, k2, k3⟩ := foldl_min (sides l p l.length) 1
  have hm : minL (sides l p l.length) = (sides l p l.length).foldl min 1 := rfl
  rw [hm]
  rcases k3 with k3 | k3
  · omega
  · obtain ⟨i, _, hi⟩ := mem_sides.1 k3
    have h1 := or_in l
    have h2 := sgn_in (at_ l i) (at_ l (nx l.length i)) p
    unfold side at hi
    rcases h1 with h1 | h1 | h1 <;> rcases h2 with h2 | h2 | h2 <;> rw [h1, h2] at hi <;> omega
theorem convV_in (l : List Pt) (p : Pt) : 0 ≤ convV l p ∧ convV l p ≤ 3 := by
  unfold convV
  by_cases h : validP l = true
  · rw [if_pos h]; have := locP_in l p h; omega
  · rw [if_neg h]; omega
theorem sgnC_in (a b c d : Pt) : -1 ≤ sgnC a b c d ∧ sgnC a b c d ≤ 1 := by
  unfold sgnC
  rcases Int.lt_trichotomy (lc a.x a.y b.x b.y c.x c.y d.x d.y) 0 with h | h | h
  · rw [Int.sign_eq_neg_one_of_neg h]; decide
  · rw [h]; decide
  · rw [Int.sign_eq_one_of_pos h]; decide
theorem valE_in (q op : Int) (rs : List Rg) (ps : List Pt) (h1 : 1 ≤ op) (h4 : op ≤ 4) : 0 ≤ valEw q op rs ps ∧ valEw q op rs ps ≤ mostA op := by
  unfold valEw mostA
  have hs := sgn_in (at_ ps 0) (at_ ps 1) (at_ ps 2)
  have hc := sgnC_in (at_ ps 0) (at_ ps 1) (at_ ps 2) (at_ ps 3)
  have hv := convV_in (ps.take (ps.length - 1)) (at_ ps (ps.length - 1))
  have hf := fencV_in q rs (at_ ps 0)
  have : op = 1 ∨ op = 2 ∨ op = 3 ∨ op = 4 := by omega
  rcases this with rfl | rfl | rfl | rfl
  · simp; omega
  · simp; omega
  · simp; omega
  · simp; omega
end Go.Proofs.YthmkllpdkcmccaaGreatDoor
namespace Go.Proofs.YthmkllpdkcmccaaGreatDoor
open Go.RowKit
set_option maxRecDepth 100000
set_option linter.unusedVariables false
set_option linter.unusedSimpArgs false

theorem one_cells (k : IntKind) (l : List Int) : ∀ u ∈ l.map (Value.int k), u.oneCell' = true := fun u hu => by
  obtain ⟨d, _, rfl⟩ := List.mem_map.1 hu
  rfl
theorem SlR.nilOf {w : World} {S : Nat → Prop} {k : IntKind} {ds : List Int} (h : SlR w S k none ds) : ds = [] := by
  rcases ds with _ | ⟨d, ds⟩
  · rfl
  · obtain ⟨b, o, e, _⟩ := h (by simp); cases e
theorem SlR.cells_ {w : World} {S : Nat → Prop} {k : IntKind} {ad : Addr} {xs : List Int} (h : SlR w S k (some ad) xs) (j : Nat) (u : Value) (hj : (xs.map (Value.int k))[j]? = some u) : w.cell? (ad.add j) = some u := by
  rw [List.getElem?_map] at hj
  cases hd : xs[j]? with
  | none => rw [hd] at hj; cases hj
  | some d =>
    rw [hd] at hj; injection hj with hj; subst hj
    obtain ⟨b, o, e, _, hc⟩ := h (by have := (List.getElem?_eq_some_iff.1 hd).1; omega)
    injection e with e
    subst e
    rw [addr_add0]; exact hc j d hd
theorem OwnK.keep_ {w w' : World} {base : Nat} {e : TypeId} {k : IntKind} {v : Value} {os : List Int} (h : OwnK w base e k v os) (hk : ∀ g, v.ownBlock = some g → w'.heap[g]? = w.heap[g]?) : OwnK w' base e k v os := by
  obtain ⟨hl, h⟩ := h
  refine ⟨hl, ?_⟩
  rcases h with h | ⟨g, cap, cur, rfl, hb, hg, rest⟩
  · exact .inl h
  · exact .inr ⟨g, cap, cur, rfl, hb, (hk g rfl).trans hg, rest⟩
theorem OwnK.lt_ {w : World} {base : Nat} {e : TypeId} {k : IntKind} {v : Value} {os : List Int} (h : OwnK w base e k v os) : ∀ g, v.ownBlock = some g → base ≤ g ∧ g < w.heap.size := World.ownsRow.lt h
end Go.Proofs.YthmkllpdkcmccaaGreatDoor
namespace Go.Proofs.YthmkllpdkcmccaaGreatDoor
open Go.RowKit
set_option maxRecDepth 100000
set_option linter.unusedVariables false
set_option linter.unusedSimpArgs false

theorem infoB : (Tryz.prog.info? 5).map (fun i => (i.zero, i.size, i.bytes)) = some (some (.int .u8 0), 1, 1) := by kernel_rfl
theorem OwnK.base {w : World} {base b2 : Nat} {e : TypeId} {k : IntKind} {v : Value} {os : List Int} (h : OwnK w base e k v os) (hb : b2 ≤ base) : OwnK w b2 e k v os := by
  unfold OwnK at h ⊢
  refine ⟨h.1, ?_⟩
  rcases h.2 with ⟨h1, h2⟩ | ⟨g, cap, cur, h1, h2, h3⟩
  · exact .inl ⟨h1, h2⟩
  · exact .inr ⟨g, cap, cur, h1, Nat.le_trans hb h2, h3⟩
/-- A literal list of bytes, new. -/
theorem own_lit {w : World} (ns : List Int) (hm : ns.length ≤ 1000000) (B : Nat) (hB : B ≤ w.heap.size) : OwnK (w.alloc (.cells (ns.map (Value.int .u8)).toArray 5)) B 5 .u8 (.slice (some ⟨w.heap.size, 0, none⟩) ns.length ns.length) ns := by
  unfold OwnK
  refine ⟨by simp, .inr ⟨w.heap.size, ns.length, (ns.map (Value.int .u8)).toArray, rfl, hB, heap_alloc_new w _, Nat.le_refl _, by unfold maxLen; omega, by simp, by simp only [List.size_toArray, Nat.mul_one]; exact List.take_of_length_le (by simp)⟩⟩
/-- append of bytes onto a row of the call's own. -/
theorem wp_app_b {ops : Array Oper} {rest : List Oper} {o : Oper} {a : Act} {Q : Exit → Act → World → Prop} {w : World} (hgd : o.guard = none) (s x : Operand)
    (ho : o.op = .call { callee := .builtin .append, args := #[s, x], argTypes := #[56, 56] }) (base : Nat) (v : Value) (ys : List Int) (hs : a.eval s = v) (hown : OwnK w base 5 .u8 v ys)
    (A : Option Addr) (n c : Nat) (xs : List Int) (S : Nat → Prop) (hx : a.eval x = .slice A n c) (hn : n = xs.length) (hl : SlR w S .u8 A xs) (hc : A = none → c = 0) (h1 : ys.length + xs.length ≤ 140737488355328) (hbase : base ≤ w.heap.size)
    (h : ∀ v' w', OwnK w' base 5 .u8 v' (ys ++ xs) → Below base w w' → wpList Tryz.prog ops Q rest (a.put o.dst v') w') : wpList Tryz.prog ops Q (o :: rest) a w := by
  subst hn
  obtain ⟨i0, hi, hz0, hz1, hz2⟩ := info_parts infoB
  have key : ∀ v' w', w'.ownsRow base 5 1 v' (ys.length + xs.length) (ys.map (Value.int .u8) ++ xs.map (Value.int .u8)) → OwnK w' base 5 .u8 v' (ys ++ xs) := fun v' w' hr => by
    unfold OwnK; rw [List.length_append, List.map_append]; exact hr
  cases A with
  | some ad => exact wpList_append_own _ hgd s x 56 ho base 5 i0 (.int .u8 0) 1 1 Tryz.underlying56 hi hz0 hz1 hz2 rfl (by decide) v ys.length (ys.map (Value.int .u8)) hs hown ad xs.length c (xs.map (Value.int .u8)) hx (by simp) (fun j u hj => hl.cells_ j u hj) (one_cells _ _) (by unfold maxLen; omega) (by omega) hbase fun v' w' k1 k2 _ => h v' w' (key v' w' k1) ((Below.refl _ _).grown k2 hbase (fun g hg => (World.ownsRow.lt hown g hg).1))
  | none =>
    obtain rfl := hl.nilOf
    obtain rfl := hc rfl
    exact wpList_append_own_none hgd s x 56 ho base 5 i0 1 Tryz.underlying56 hi v ys.length (ys.map (Value.int .u8)) hs hown hx (h v w (by simpa using hown) (Below.refl _ _))
/-- append of a literal list of bytes onto a row of the call's own. -/
theorem wp_app_lit {ops : Array Oper} {rest : List Oper} {o : Oper} {a : Act} {Q : Exit → Act → World → Prop} {w : World} (hgd : o.guard = none) (s x : Operand)
    (ho : o.op = .call { callee := .builtin .append, args := #[s, x], argTypes := #[56, 56] }) (base : Nat) (v : Value) (ys : List Int) (hs : a.eval s = v) (hown : OwnK w base 5 .u8 v ys)
    (xs : List Int) (n c : Nat) (hx : a.eval x = .slice (some ⟨w.heap.size, 0, none⟩) n c) (hn : n = xs.length) (h1 : ys.length + xs.length ≤ 140737488355328) (hbase : base ≤ w.heap.size)
    (h : ∀ v' w', OwnK w' base 5 .u8 v' (ys ++ xs) → Below base w w' → wpList Tryz.prog ops Q rest (a.put o.dst v') w') : wpList Tryz.prog ops Q (o :: rest) a (w.alloc (.cells (xs.map (Value.int .u8)).toArray 5)) := by
  have hb : Below w.heap.size w (w.alloc (.cells (xs.map (Value.int .u8)).toArray 5)) := (Below.refl _ _).alloc (Nat.le_refl _) _
  refine wp_app_b hgd s x ho base v ys hs (World.ownsRow.alloc hown _) (some ⟨w.heap.size, 0, none⟩) n c xs (fun _ => True) hx hn ?_ (by simp) h1 (by simp; omega) fun v' w' k1 k2 => h v' w' k1 ((hb.mono hbase).trans k2)
  intro hl
  refine ⟨w.heap.size, 0, rfl, trivial, fun j d hd => ?_⟩
  have h2 := heap_alloc_new w (.cells (xs.map (Value.int .u8)).toArray 5)
  have h3 : (xs.map (Value.int .u8))[j]? = some (.int .u8 d) := by rw [List.getElem?_map, hd]; rfl
  rw [Nat.zero_add]
  unfold World.cell?
  rw [h2]
  simpa using h3
end Go.Proofs.YthmkllpdkcmccaaGreatDoor
namespace Go.Proofs.YthmkllpdkcmccaaGreatDoor
open Go.RowKit
set_option maxRecDepth 100000
set_option linter.unusedVariables false
set_option linter.unusedSimpArgs false

end Go.Proofs.YthmkllpdkcmccaaGreatDoor
namespace Go.Proofs.YthmkllpdkcmccaaGreatDoor
open Go.RowKit Go.Maps
set_option maxRecDepth 100000
set_option linter.unusedVariables false
set_option linter.unusedSimpArgs false

theorem box4 {w W : World} {t : TypeId} {a b c d : Value} (hW : W = w.alloc (.cells #[a, b, c, d] t)) :
    Below w.heap.size w W ∧ W.heap.size = w.heap.size + 1 ∧ W.cell? ⟨w.heap.size, 0, none⟩ = some a ∧ W.cell? ⟨w.heap.size, 1, none⟩ = some b ∧ W.cell? ⟨w.heap.size, 2, none⟩ = some c ∧ W.cell? ⟨w.heap.size, 3, none⟩ = some d := by
  subst hW
  refine ⟨(Below.refl _ _).alloc (Nat.le_refl _) _, by simp, ?_, ?_, ?_, ?_⟩ <;> simp [go_sem]
theorem rgs_at {w : World} {T : Nat → Prop} {A : Option Addr} {rs : List Rg} (h : RowR w T 3 rgC A rs) {k : Nat} (hk : k < rs.length) :
    ∃ b o, A = some ⟨b, o, none⟩ ∧ T b ∧ ∃ (d : Bool) (v : Int) (A2 : Option Addr) (m c : Nat), rs[k].d = d ∧ rs[k].v = v ∧ rs[k].l.length = m ∧
      w.cell? ⟨b, o + k * 3, none⟩ = some (.bool d) ∧ w.cell? ⟨b, o + k * 3 + 1, none⟩ = some (.int .i64 v) ∧ w.cell? ⟨b, o + k * 3 + 2, none⟩ = some (.slice A2 m c) := by
  obtain ⟨b, o, e, hT, c0, c1, c2⟩ := h.rg2 hk
  exact ⟨b, o, e, hT, _, _, _, _, _, rfl, rfl, rfl, c0, c1, c2⟩
end Go.Proofs.YthmkllpdkcmccaaGreatDoor
namespace Go.Proofs.YthmkllpdkcmccaaGreatDoor
open Go.RowKit
set_option maxRecDepth 100000
set_option linter.unusedVariables false
set_option linter.unusedSimpArgs false

end Go.Proofs.YthmkllpdkcmccaaGreatDoor
namespace Go.Proofs.YthmkllpdkcmccaaGreatDoor
open Go.RowKit
set_option maxRecDepth 100000
set_option linter.unusedVariables false
set_option linter.unusedSimpArgs false

/-- A request in memory, and what it says. -/
structure ReqR (w : World) (T : Nat → Prop) (hA : Option Addr) (hn hc : Nat) (hrs : List Rg) (RA : Option Addr) (rn rc : Nat) (rs : List Rg) (PA : Option Addr) (pn pc : Nat) (ps : List Pt) (QA : Option Addr) (qn qc : Nat) (qs : List Qr) : Prop where
  hrow : RowR w T 3 rgC hA hrs
  hlen : hn = hrs.length
  rrow : RowR w T 3 rgC RA rs
  rlen : rn = rs.length
  rok : RegsOk w T rs
  prow : RowR w T 2 ptC PA ps
  plen : pn = ps.length
  pss : SsP ps
  qrow : RowR w T 3 qrC QA qs
  qlen : qn = qs.length
  qok : ∀ q ∈ qs, OkQ q
  pcap : pn ≤ pc
theorem ReqR.next {w w' : World} {T : Nat → Prop} {hA : Option Addr} {hn hc : Nat} {hrs : List Rg} {RA : Option Addr} {rn rc : Nat} {rs : List Rg} {PA : Option Addr} {pn pc : Nat} {ps : List Pt} {QA : Option Addr} {qn qc : Nat} {qs : List Qr} (h : ReqR w T hA hn hc hrs RA rn rc rs PA pn pc ps QA qn qc qs) (hb : Below w.heap.size w w') :
    ReqR w' T hA hn hc hrs RA rn rc rs PA pn pc ps QA qn qc qs :=
  ⟨h.hrow.next hb, h.hlen, h.rrow.next hb, h.rlen, h.rok.next hb, h.prow.next hb, h.plen, h.pss, h.qrow.next hb, h.qlen, h.qok, h.pcap⟩
structure ReqN (op vx pts : Int) (hn rn pn qn : Nat) (hrs : List Rg) : Prop where
  len : hn ≤ 9223372036854775807 ∧ rn ≤ 9223372036854775807 ∧ pn ≤ 9223372036854775807 ∧ qn ≤ 9223372036854775807
  num : S op ∧ S vx ∧ S pts
  wf : ∀ r ∈ hrs, S r.v
end Go.Proofs.YthmkllpdkcmccaaGreatDoor
namespace Go.Proofs.YthmkllpdkcmccaaGreatDoor
open Go.RowKit Go.Maps
set_option maxRecDepth 100000
set_option linter.unusedVariables false
set_option linter.unusedSimpArgs false

/-- What Answer answers. -/
def ansVw (q er op : Int) (rs : List Rg) (ps : List Pt) : Int × Int := if er ≠ 0 then (0, er) else if op = 5 then (0, 2) else (valEw q op rs ps, 0)
def ansE (er op vs : Int) (ks : List (Bool × Int)) : List Ev := if er = 0 then evE op vs ks else []
theorem evE_len {op vs pts : Int} {ks : List (Bool × Int)} (hk : Okh ⟨op, vs, ks, pts⟩) : (evE op vs ks).length ≤ 600000 := by
  unfold evE
  by_cases h3 : op = 3
  · rw [if_pos h3, List.length_append]
    have h1 := validE_len vs.toNat
    have h2 := locateE_len vs.toNat
    omega
  · rw [if_neg h3]
    by_cases h4 : op = 4
    · rw [if_pos h4, List.length_append]
      have h1 := evsV_len (ks.map fun k => (⟨k.1, k.2, none, 0, []⟩ : Rg)) 0
      have h2 := evsM_len (ks.map fun k => (⟨k.1, k.2, none, 0, []⟩ : Rg)) 0
      rw [List.length_map] at h1 h2
      have h5 := hk.len (show 4 ≤ op by omega)
      simp only at h5
      have h6 : 4097 * ks.length ≤ 4097 * 64 := Nat.mul_le_mul (Nat.le_refl _) h5.2
      omega
    · rw [if_neg h4]; simp
theorem ansE_len {er op vs pts : Int} {ks : List (Bool × Int)} (hk : er = 0 → Okh ⟨op, vs, ks, pts⟩) : (ansE er op vs ks).length ≤ 600000 := by
  unfold ansE
  by_cases h : er = 0
  · rw [if_pos h]; exact evE_len (hk h)
  · rw [if_neg h]; simp
/-- An answer without records. -/
def GivesV (v er : Int) (e : Ending) : Prop := ∃ (A : Option Addr) (c : Nat), e = .returned (.tuple #[.agg #[.int .i64 v, .int .i64 0, .slice A 0 c], .int .i64 er])
end Go.Proofs.YthmkllpdkcmccaaGreatDoor
namespace Go.Proofs.YthmkllpdkcmccaaGreatDoor
open Go.RowKit Go.Maps
set_option maxRecDepth 100000
set_option linter.unusedVariables false
set_option linter.unusedSimpArgs false

/-- A new key is laid into a map. -/
theorem map_ins {P : Program} {mty kt et : TypeId} (hm : P.underlying mty = some (.map kt et)) (hk : P.underlying kt = some (.int .i64)) (w : World) (r clock : Nat) (es : Array MapEntry) (k : Int) (v : Value) (hb : w.heap[r]? = some (.map es clock)) (hf : Instr.findNow (.int .i64) (.int .i64 k) es.toList 0 = some none) :
    ∃ w', (Instr.mapUpdate mty (.map (some r)) (.int .i64 k) v).run P w = .ok () w' ∧ w'.heap[r]? = some (.map (es.push ⟨.int .i64 k, v, clock⟩) (clock + 1)) ∧ Below r w w' := by
  have hc : (Instr.checkKey false 10000 kt (.int .i64 k)).run P w = .ok () w := MapKept.run_checkKey (k := .int .i64 k) hk (by simp [MapKept.IsKey]) false 9999
  have hlt := (Array.getElem?_eq_some_iff.1 hb).1
  refine ⟨{ w with heap := w.heap.setIfInBounds r (.map (es.push ⟨.int .i64 k, v, clock⟩) (clock + 1)) }, ?_, ?_, ?_⟩
  · simp [Instr.mapUpdate, run_underlying hm, MapKept.run_getObj_map hb, hc, MapKept.run_findKey hk hf, MapKept.run_setObj_map _ hb, Result.andThen]
  · simp [hlt]
  · refine ⟨rfl, rfl, rfl, by simp, fun b hbr => ?_⟩
    show (w.heap.setIfInBounds r _)[b]? = _
    rw [Array.getElem?_setIfInBounds_ne (by omega)]
/-- A key is looked up. -/
theorem map_has {P : Program} {mty kt et : TypeId} (hm : P.underlying mty = some (.map kt et)) (hk : P.underlying kt = some (.int .i64)) (w : World) (r clock : Nat) (es : Array MapEntry) (k : Int) (i : Nat) (v : Value) (hb : w.heap[r]? = some (.map es clock)) (hf : Instr.findNow (.int .i64) (.int .i64 k) es.toList 0 = some (some (i, v))) :
    (Instr.lookup mty (.map (some r)) (.int .i64 k) true).run P w = .ok (.tuple #[v, .bool true]) w := by
  have hc : (Instr.checkKey es.isEmpty 10000 kt (.int .i64 k)).run P w = .ok () w := MapKept.run_checkKey (k := .int .i64 k) hk (by simp [MapKept.IsKey]) _ 9999
  simp [Instr.lookup, run_underlying hm, MapKept.run_getObj_map hb, hc, MapKept.run_findKey hk hf, Result.andThen]
theorem map_hasnt {P : Program} {mty kt et : TypeId} (hm : P.underlying mty = some (.map kt et)) (hk : P.underlying kt = some (.int .i64)) (w : World) (r clock : Nat) (es : Array MapEntry) (k : Int) (z : Value) (hz : (zeroValue et).run P w = .ok z w) (hb : w.heap[r]? = some (.map es clock)) (hf : Instr.findNow (.int .i64) (.int .i64 k) es.toList 0 = some none) :
    (Instr.lookup mty (.map (some r)) (.int .i64 k) true).run P w = .ok (.tuple #[z, .bool false]) w := by
  have hc : (Instr.checkKey es.isEmpty 10000 kt (.int .i64 k)).run P w = .ok () w := MapKept.run_checkKey (k := .int .i64 k) hk (by simp [MapKept.IsKey]) _ 9999
  simp [Instr.lookup, run_underlying hm, MapKept.run_getObj_map hb, hc, MapKept.run_findKey hk hf, hz, Result.andThen]
def opMap : Array MapEntry := #[⟨.int .i64 1, .agg #[.string ⟨#[111, 114, 105, 101, 110, 116]⟩, .func (.func 62) #[] #[]], 0⟩, ⟨.int .i64 2, .agg #[.string ⟨#[99, 105, 114, 99, 108, 101]⟩, .func (.func 63) #[] #[]], 1⟩, ⟨.int .i64 3, .agg #[.string ⟨#[99, 111, 110, 118, 101, 120]⟩, .func (.func 64) #[] #[]], 2⟩, ⟨.int .i64 4, .agg #[.string ⟨#[102, 101, 110, 99, 101]⟩, .func (.func 65) #[] #[]], 3⟩]
theorem under_map : Tryz.prog.underlying 81 = some (.map 3 79) := Tryz.underlying81
theorem under_int : Tryz.prog.underlying 3 = some (.int .i64) := Tryz.underlying3
theorem zero_oper (w : World) : (zeroValue 79).run Tryz.prog w = .ok (.agg #[.string ⟨#[]⟩, .nilFunc]) w := by kernel_rfl
/-- What operations answers: the map in new memory. -/
theorem operations_any (w : World) : Calls Tryz.prog 33 #[] w fun e w' => (∃ mb, e = .returned (.map (some mb)) ∧ w'.heap[mb]? = some (.map opMap 4) ∧ w.heap.size ≤ mb) ∧ Below w.heap.size w w' := by
  have hmk := @run_makeMap_plain Tryz.prog
  obtain ⟨W, hW⟩ : ∃ W, W = w.alloc (.map #[] 0) := ⟨_, rfl⟩
  obtain ⟨mb, hmb⟩ : ∃ b, b = w.heap.size := ⟨_, rfl⟩
  have h0 : Below w.heap.size w W := by rw [hW]; exact (Below.refl _ _).alloc (Nat.le_refl _) _
  have b0 : W.heap[mb]? = some (.map #[] 0) := by rw [hW, hmb]; exact heap_alloc_new _ _
  obtain ⟨w1, e1, b1, l1⟩ := map_ins under_map under_int W mb 0 #[] 1 (.agg #[.string ⟨#[111, 114, 105, 101, 110, 116]⟩, .func (.func 62) #[] #[]]) b0 (by rfl)
  obtain ⟨w2, e2, b2, l2⟩ := map_ins under_map under_int w1 mb 1 #[⟨.int .i64 1, .agg #[.string ⟨#[111, 114, 105, 101, 110, 116]⟩, .func (.func 62) #[] #[]], 0⟩] 2 (.agg #[.string ⟨#[99, 105, 114, 99, 108, 101]⟩, .func (.func 63) #[] #[]]) b1 (by rfl)
  obtain ⟨w3, e3, b3, l3⟩ := map_ins under_map under_int w2 mb 2 #[⟨.int .i64 1, .agg #[.string ⟨#[111, 114, 105, 101, 110, 116]⟩, .func (.func 62) #[] #[]], 0⟩, ⟨.int .i64 2, .agg #[.string ⟨#[99, 105, 114, 99, 108, 101]⟩, .func (.func 63) #[] #[]], 1⟩] 3 (.agg #[.string ⟨#[99, 111, 110, 118, 101, 120]⟩, .func (.func 64) #[] #[]]) b2 (by rfl)
  obtain ⟨w4, e4, b4, l4⟩ := map_ins under_map under_int w3 mb 3 #[⟨.int .i64 1, .agg #[.string ⟨#[111, 114, 105, 101, 110, 116]⟩, .func (.func 62) #[] #[]], 0⟩, ⟨.int .i64 2, .agg #[.string ⟨#[99, 105, 114, 99, 108, 101]⟩, .func (.func 63) #[] #[]], 1⟩, ⟨.int .i64 3, .agg #[.string ⟨#[99, 111, 110, 118, 101, 120]⟩, .func (.func 64) #[] #[]], 2⟩] 4 (.agg #[.string ⟨#[102, 101, 110, 99, 101]⟩, .func (.func 65) #[] #[]]) b3 (by rfl)
  have hf : Below w.heap.size w w4 := by rw [hmb] at l1 l2 l3 l4; exact h0.trans (l1.trans (l2.trans (l3.trans l4)))
  have HF := Lib.hid hf
  have HM := Lib.hid (show w4.heap[mb]? = some (.map opMap 4) from b4)
  subst hW hmb
  clear b0 b1 b2 b3 b4 l1 l2 l3 l4 h0 hf
  go_enter Tryz.func33, Tryz.ntmps33
  go_wp2
  go_ret
  exact ⟨⟨_, rfl, HM.out, Nat.le_refl _⟩, HF.out⟩
end Go.Proofs.YthmkllpdkcmccaaGreatDoor
namespace Go.Proofs.YthmkllpdkcmccaaGreatDoor

theorem two_256 (k : Nat) : (2 : Nat) ^ (8 * k) = 256 ^ k := by rw [Nat.pow_mul]
theorem shr_eq : ∀ (k : Nat) (x : Int), shr k x = x / ((2 ^ (8 * k) : Nat) : Int)
  | 0, x => by show x = x / ((1 : Nat) : Int); simp
  | k + 1, x => by
    rw [shr_succ, shr_eq k x, Int.ediv_ediv_of_nonneg (Int.natCast_nonneg _), two_256, two_256, Nat.pow_succ, Int.natCast_mul]
    rfl
theorem shr_pow (k : Nat) (x : Int) : x / 2 ^ (8 * k) = shr k x := by
  rw [shr_eq, Int.natCast_pow]; rfl
end Go.Proofs.YthmkllpdkcmccaaGreatDoor
namespace Go.Proofs.YthmkllpdkcmccaaGreatDoor
open Go.RowKit
set_option maxRecDepth 100000
set_option linter.unusedVariables false
set_option linter.unusedSimpArgs false

section
variable {P : Program} {ops : Array Oper} {Q : Exit → Act → World → Prop}
def rgChkM (ops : Array Oper) (m : Nat) (pre : List (List (Nat × Nat))) : Bool :=
  (List.range ops.size).all fun i => match ops[i]?, pre[i]? with
    | some o, some l =>
      (match o.op with | .select .. => false | _ => true) &&
      (o.after.all fun e => !Region.binds .any e || Nat.blt e.on i) &&
      (l.all fun p => (match ops[p.2]? with | some q => q.dst == some p.1 | none => false) && o.after.any fun e => Region.binds .any e && (e.on == p.2 || (pre.getD e.on []).contains p)) &&
      ((o.looksAt ops).all fun t => (List.range ops.size).all fun j => (match ops[j]? with | some q => q.dst != some t || !(Nat.blt j m) | none => true) || l.contains (t, j)) &&
      ((List.range ops.size).all fun j => j == i || (match o.dst with | none => true | some t => match ops[j]? with | some q => q.dst != some t | none => true))
    | _, _ => false
structure RgOkM (ops : Array Oper) (m : Nat) (pre : List (List (Nat × Nat))) : Prop where
  sel : ∀ {i : Nat} {o : Oper}, ops[i]? = some o → ∀ cs b, o.op ≠ .select cs b
  down : ∀ {i : Nat} {o : Oper}, ops[i]? = some o → ∀ e ∈ o.after, Region.binds .any e = true → e.on < i
  dst : ∀ {i : Nat} {o : Oper}, ops[i]? = some o → ∀ p ∈ pre.getD i [], ∃ q, ops[p.2]? = some q ∧ q.dst = some p.1
  anc : ∀ {i : Nat} {o : Oper}, ops[i]? = some o → ∀ p ∈ pre.getD i [], ∃ e ∈ o.after, Region.binds .any e = true ∧ (e.on = p.2 ∨ p ∈ pre.getD e.on [])
  looks : ∀ {i : Nat} {o : Oper}, ops[i]? = some o → ∀ t ∈ o.looksAt ops, ∀ {j : Nat} {q : Oper}, ops[j]? = some q → q.dst = some t → j < m → (t, j) ∈ pre.getD i []
  one : ∀ {i j : Nat} {o q : Oper} {t : Nat}, ops[i]? = some o → ops[j]? = some q → o.dst = some t → q.dst = some t → j = i
theorem rgOkM {m : Nat} {pre : List (List (Nat × Nat))} (h : rgChkM ops m pre = true) : RgOkM ops m pre := by
  have key : ∀ {i : Nat} {o : Oper}, ops[i]? = some o → _ := fun {i o} ho => by
    have hi : i < ops.size := (Array.getElem?_eq_some_iff.1 ho).1
    have h1 := List.all_eq_true.1 h i (List.mem_range.2 hi)
    rw [ho] at h1
    exact h1
  have lt : ∀ {i : Nat} {o : Oper}, ops[i]? = some o → i < ops.size := fun {i o} ho => (Array.getElem?_eq_some_iff.1 ho).1
  refine ⟨fun {i o} ho cs b e => ?_, fun {i o} ho e he hb => ?_, fun {i o} ho p hp => ?_, fun {i o} ho p hp => ?_, fun {i o} ho t ht j q hq hd hjm => ?_, fun {i j o q t} ho hq hd hd' => ?_⟩
  all_goals
    have h1 := key ho
    obtain ⟨l, hl⟩ : ∃ l, pre[i]? = some l := by
      cases hl : pre[i]? with
      | none => rw [hl] at h1; cases h1
      | some l => exact ⟨l, rfl⟩
    rw [hl] at h1
    have hg : pre.getD i [] = l := by rw [List.getD_eq_getElem?_getD, hl]; rfl
    simp only [Bool.and_eq_true] at h1
    obtain ⟨⟨⟨⟨s1, s2⟩, s3⟩, s4⟩, s5⟩ := h1
  · rw [e] at s1; cases s1
  · have := Array.all_eq_true_iff_forall_mem.1 s2 e he
    rw [hb] at this
    simpa [Nat.blt_eq] using this
  · rw [hg] at hp
    have := List.all_eq_true.1 s3 p hp
    rw [Bool.and_eq_true] at this
    cases hq : ops[p.2]? with
    | none => rw [hq] at this; cases this.1
    | some q => rw [hq] at this; exact ⟨q, rfl, by simpa using this.1⟩
  · rw [hg] at hp
    have := List.all_eq_true.1 s3 p hp
    rw [Bool.and_eq_true] at this
    obtain ⟨e, he, h2⟩ := Array.any_eq_true'.1 this.2
    rw [Bool.and_eq_true] at h2
    refine ⟨e, he, h2.1, ?_⟩
    rcases Bool.or_eq_true_iff.1 h2.2 with h3 | h3
    · exact .inl (by simpa using h3)
    · exact .inr (by simpa using h3)
  · rw [hg]
    have := List.all_eq_true.1 (List.all_eq_true.1 s4 t ht) j (List.mem_range.2 (lt hq))
    rw [hq] at this
    simp only [hd, bne_self_eq_false, Bool.false_or] at this
    have hb : Nat.blt j m = true := by rw [Nat.blt_eq]; exact hjm
    rw [hb] at this
    simpa using this
  · have := List.all_eq_true.1 s5 j (List.mem_range.2 (lt hq))
    rw [hd, hq] at this
    simp only [hd', bne_self_eq_false, Bool.or_false] at this
    simpa using this
variable {Γ : Type}
theorem held_stepM {a0 : Act} {pre : List (List (Nat × Nat))} {I : Γ → World → Prop} {R : Nat → Value → Γ → World → Prop} {G : Nat → Γ → World → Γ → World → Prop} {F : Nat → Γ → Prop} {m : Nat} (hk : RgOkM ops m pre)
    (hst : ∀ i j v g w g' w', i ≠ j → i < ops.size → R i v g w → G j g w g' w' → R i v g' w') (hF : ∀ i j g w g' w', i ≠ j → F i g → G j g w g' w' → F i g')
    {i : Nat} {o : Oper} (ho : ops[i]? = some o) (hs : StepAt P ops Q a0 pre I R G F o i) {L : Nat → Bool} {vs : Nat → Value} {g : Γ} {a : Act} {w : World} (h : Held ops a0 pre I R F L vs g a w)
    (hi : L i = false) (hready : ∀ e ∈ o.after, Region.binds .any e = true → L e.on = true) (him : i < m) (htl : ∀ j, m ≤ j → L j = false) :
    wpOp P ops (NoPanic Q) i (fun a' w' => ∃ vs' g', Held ops a0 pre I R F (fun j => j == i || L j) vs' g' a' w') a w := by
  have hpre : ∀ p ∈ pre.getD i [], L p.2 = true := fun p hp => by
    obtain ⟨e, he, hb, h1⟩ := hk.anc ho p hp
    rcases h1 with h1 | h1
    · rw [← h1]; exact hready e he hb
    · exact h.closed _ (hready e he hb) p h1
  have hlt : ∀ {i : Nat} {o : Oper}, ops[i]? = some o → i < ops.size := fun {i o} ho => (Array.getElem?_eq_some_iff.1 ho).1
  have hfacts : Facts R vs g w (pre.getD i []) := facts_of fun p hp => by
    obtain ⟨q, hq, _⟩ := hk.dst ho p hp
    exact h.fact _ (hlt hq) (hpre p hp)
  -- the two frames agree wherever the operation looks
  have hsame : ∀ t ∈ o.looksAt ops, a.tmps[t]? = (fill a0 vs (pre.getD i [])).tmps[t]? := fun t ht => by
    by_cases hw : ∃ (j : Nat) (q : Oper), ops[j]? = some q ∧ q.dst = some t ∧ j < m
    · obtain ⟨j, q, hq, hd, hjm⟩ := hw
      have hin := hk.looks ho t ht hq hd hjm
      by_cases hts : t < a0.tmps.size
      · rw [h.slot t j q hq hd (hpre _ hin) hts, fill_in a0 vs _ t j hin (fun p hp he => by
          obtain ⟨q', hq', hd'⟩ := hk.dst ho p hp
          exact hk.one hq hq' hd (by rw [hd', he])) hts]
      · rw [Array.getElem?_eq_none (by rw [h.size]; exact Nat.le_of_not_lt hts), Array.getElem?_eq_none (by rw [fill_size]; exact Nat.le_of_not_lt hts)]
    · rw [h.rest t (fun j q hq hd => by
        by_cases hjm : j < m
        · exact absurd ⟨j, q, hq, hd, hjm⟩ hw
        · exact htl j (by omega)), fill_out a0 vs _ t (fun p hp he => by
        obtain ⟨q', hq', hd'⟩ := hk.dst ho p hp
        have hlm : p.2 < m := by
          by_cases hjm : p.2 < m
          · exact hjm
          · have h1 := hpre p hp; rw [htl p.2 (by omega)] at h1; cases h1
        exact hw ⟨_, q', hq', by rw [hd', he], hlm⟩)]
  have hev : execOp a.eval o = execOp (fill a0 vs (pre.getD i [])).eval o := execOp_congr o (hk.sel ho) fun x hx => by
    cases x with
    | tmp t =>
      have := hsame t (List.mem_append_left _ (List.mem_filterMap.2 ⟨.tmp t, by simpa using hx, rfl⟩))
      simp only [Act.eval, Array.getD_eq_getD_getElem?, this]
    | _ => rfl
  have hwa : Region.wanted o (yielded ops a.tmps) = Region.wanted o (yielded ops (fill a0 vs (pre.getD i [])).tmps) := by
    unfold Region.wanted
    cases hg : o.guard with
    | none => rfl
    | some gw =>
      obtain ⟨gi, want⟩ := gw
      have hy : yielded ops a.tmps gi = yielded ops (fill a0 vs (pre.getD i [])).tmps gi := by
        unfold yielded
        cases ht : (ops[gi]?).bind (·.dst) with
        | none => rfl
        | some t =>
          have := hsame t (by simp [Oper.looksAt, hg, ht])
          simp only [Option.bind_some, this]
      simp only [hy]
  -- what follows
  have next : ∀ v g' w', I g' w' → G i g w g' w' → R i v g' w' → ∃ vs' g'', Held ops a0 pre I R F (fun j => j == i || L j) vs' g'' (a.put o.dst v) w' := fun v g' w' h1 h2 h3 => by
    refine ⟨fun j => if j = i then v else vs j, g', ⟨h1, fun j hj hl => ?_, fun j hl => ?_, fun j hl p hp => ?_, put_put.trans h.defers, put_size.trans h.size, fun t j q hq hd hl ht => ?_, fun t hall => ?_⟩⟩
    · by_cases e : j = i
      · subst e; simp only [if_true]; exact h3
      · simp only [if_neg e]
        have hl' : L j = true := by simpa [e] using hl
        exact hst j i _ _ _ _ _ e hj (h.fact j hj hl') h2
    · have e : j ≠ i := fun e => by simp [e] at hl
      exact hF j i _ _ _ _ e (h.todo j (by simpa [e] using hl)) h2
    · by_cases e : j = i
      · subst e; simp [hpre p hp]
      · have hl' : L j = true := by simpa [e] using hl
        simp [h.closed j hl' p hp]
    · by_cases e : j = i
      · subst e
        rw [ho] at hq
        injection hq with hq
        subst hq
        simp only [if_true, hd, Act.put]
        rw [Array.getElem?_setIfInBounds_self_of_lt (by rw [h.size]; exact ht)]
      · have hl' : L j = true := by simpa [e] using hl
        simp only [if_neg e]
        rw [put_get (fun hd' => e (hk.one ho hq hd' hd))]
        exact h.slot t j q hq hd hl' ht
    · have hne : o.dst ≠ some t := fun hd => by simpa using hall i o ho hd
      rw [put_get hne]
      exact h.rest t fun j q hq hd => by
        have := hall j q hq hd
        simp at this
        exact this.2
  have hstep := hs vs g w h.inv (h.todo i hi) hfacts (fun a' w' => ∃ v, a' = (fill a0 vs (pre.getD i [])).put o.dst v ∧ ∃ vs' g'', Held ops a0 pre I R F (fun j => j == i || L j) vs' g'' (a.put o.dst v) w')
    (fun v g' w' h1 h2 h3 => ⟨v, rfl, next v g' w' h1 h2 h3⟩)
  have hsz : a.tmps.size = (fill a0 vs (pre.getD i [])).tmps.size := by rw [fill_size]; exact h.size
  unfold wpOp
  simp only [ho]
  rw [hwa]
  split
  · rename_i hw
    rw [if_pos hw] at hstep
    refine .inl ?_
    unfold Oper.wp at *
    rw [hev]
    generalize (execOp (fill a0 vs (pre.getD i [])).eval o).run P w = r at *
    cases r with
    | ok n w' =>
      cases n <;> simp only [Oper.upon] at hstep ⊢
      case value u =>
        obtain ⟨v, e, hv⟩ := hstep
        rw [put_inj hsz e]; exact hv
      case skip =>
        obtain ⟨v, e, hv⟩ := hstep
        rw [put_inj hsz e]; exact hv
      case defer d =>
        obtain ⟨v, e, _⟩ := hstep
        have := congrArg Act.defers e
        rw [put_put, put_put] at this
        simp at this
      case enter f args =>
        refine Calls.mono hstep fun e w'' he => ?_
        cases e with
        | returned u =>
          obtain ⟨v, e, hv⟩ := he
          show ∃ vs' g', Held ops a0 pre I R F (fun j => j == i || L j) vs' g' (a.put o.dst u) w''
          rw [put_inj hsz e]; exact hv
        | panicked c => exact he
        | outgrown => exact he
      case row row args =>
        refine Rows.mono hstep fun u w'' he => ?_
        obtain ⟨v, e, hv⟩ := he
        show ∃ vs' g', Held ops a0 pre I R F (fun j => j == i || L j) vs' g' (a.put o.dst u) w''
        rw [put_inj hsz e]; exact hv
      all_goals exact hstep
    | halt x w' =>
      cases x <;> simp only [Oper.upon] at hstep ⊢ <;> exact hstep
  · rename_i hw
    rw [if_neg hw] at hstep
    obtain ⟨v, e, hv⟩ := hstep
    rw [put_inj hsz e]; exact hv
theorem ancs_listedM {pre : List (List (Nat × Nat))} {m : Nat} (hk : RgOkM ops m pre) {L : Nat → Bool} (hcl : ∀ j o, ops[j]? = some o → L j = true → ∀ e ∈ o.after, Region.binds .any e = true → L e.on = true) :
    ∀ (k : Nat) (o : Oper), ops[k]? = some o → (∀ e ∈ o.after, Region.binds .any e = true → L e.on = true) → ∀ x ∈ (ancs ops ops.size).getD k [], L x = true := by
  intro k
  induction k using Nat.strongRecOn with
  | ind k ih =>
    intro o ho hall x hx
    have hlt : k < ops.size := (Array.getElem?_eq_some_iff.1 ho).1
    rw [ancs_at ops ops.size k hlt, ho] at hx
    simp only [List.mem_flatMap, List.mem_filter, Array.mem_toList_iff] at hx
    obtain ⟨e, ⟨he, hb⟩, hx⟩ := hx
    have hon := hall e he hb
    have hdn := hk.down ho e he hb
    rcases List.mem_cons.1 hx with rfl | hx
    · exact hon
    · have hlt2 : e.on < ops.size := by omega
      have ho2 : ops[e.on]? = some ops[e.on] := Array.getElem?_eq_getElem hlt2
      rw [ancs_same ops hdn hlt2] at hx
      exact ih e.on hdn _ ho2 (fun e' he' hb' => hcl _ _ ho2 hon e' he' hb') x hx
theorem tail_anyM {pre : List (List (Nat × Nat))} {m0 : Nat} (hk : RgOkM ops m0 pre) {m : Nat} (ht : tailChk ops m = true) : ∀ (d j fuel : Nat) (listed : Array Bool) (a : Act) (w : World), j + d = ops.size → m ≤ j → listed.size = ops.size → d ≤ fuel →
    (∀ i, i < ops.size → listed.getD i false = decide (i < j)) → Closed ops (fun j => listed.getD j false) → wpOps P ops (NoPanic Q) (List.range' j d) a w → wpAny P .any ops (NoPanic Q) fuel listed a w := by
  intro d
  induction d with
  | zero =>
    intro j fuel listed a w hj hm hsz hf hl hcl h
    have hnone : Region.ready .any ops listed = [] := by
      cases hr : Region.ready .any ops listed with
      | nil => rfl
      | cons x r =>
        obtain ⟨h0, o, ho, _⟩ := mem_ready.1 (show x ∈ Region.ready .any ops listed by rw [hr]; simp)
        have hx := (Array.getElem?_eq_some_iff.1 ho).1
        have := hl x hx
        simp [Array.getD_eq_getD_getElem?, Array.getElem?_eq_getElem (show x < listed.size by omega)] at h0 this
        rw [h0] at this
        simp at this
        omega
    cases fuel with
    | zero => exact ⟨hnone, h⟩
    | succ fuel => exact ⟨fun _ => h, fun i hi => by rw [hnone] at hi; cases hi⟩
  | succ d ih =>
    intro j fuel listed a w hj hm hsz hf hl hcl h
    obtain ⟨fuel, rfl⟩ : ∃ f, fuel = f + 1 := ⟨fuel - 1, by omega⟩
    have hjlt : j < ops.size := by omega
    have hoj : ops[j]? = some ops[j] := Array.getElem?_eq_getElem hjlt
    have hjr : j ∈ Region.ready .any ops listed := mem_ready.2 ⟨by
      have := hl j hjlt
      simp [Array.getD_eq_getD_getElem?, Array.getElem?_eq_getElem (show j < listed.size by omega)] at this ⊢; exact this, _, hoj, fun e he hb => by
      have hd := hk.down hoj e he hb
      rw [hl e.on (by omega)]; simp [hd]⟩
    refine ⟨fun hr => (by rw [hr] at hjr; cases hjr), fun i hi => ?_⟩
    obtain ⟨h0, o, ho, hall⟩ := mem_ready.1 hi
    have hilt := (Array.getElem?_eq_some_iff.1 ho).1
    have hij : i = j := by
      have h1 := hl i hilt
      have h2 : listed.getD i false = false := by
        simp [Array.getD_eq_getD_getElem?, Array.getElem?_eq_getElem (show i < listed.size by omega)] at h0 ⊢; exact h0
      rw [h2] at h1
      have hge : j ≤ i := by simpa using h1.symm
      by_cases e : i = j
      · exact e
      · exfalso
        have := ancs_listedM hk hcl i o ho hall j (tailOk ht hilt (by omega) (by omega))
        rw [hl j hjlt] at this
        simp at this
    subst hij
    rw [List.range'_succ, wpOps_cons] at h
    refine wpOp_mono (fun a' w' hh => ?_) h
    obtain ⟨hcl', hfun⟩ := closed_set ho hcl (by omega) hall
    refine ih (i + 1) fuel _ a' w' (by omega) (by omega) (by simp [hsz]) (by omega) (fun x hx => ?_) hcl' hh
    have hx2 : (listed.setIfInBounds i true).getD x false = (x == i || listed.getD x false) := congrFun hfun x
    show (listed.setIfInBounds i true).getD x false = decide (x < i + 1)
    rw [hx2, hl x hx, Bool.eq_iff_iff]
    simp
    omega
theorem held_uptoM {a0 : Act} {pre : List (List (Nat × Nat))} {I : Γ → World → Prop} {R : Nat → Value → Γ → World → Prop} {F : Nat → Γ → Prop} {all : List (Nat × Nat)} {m0 : Nat} (hk : RgOkM ops m0 pre) {m : Nat} (hall : allChkM ops m all = true)
    {L : Nat → Bool} {vs : Nat → Value} {g : Γ} {a : Act} {w : World} (h : Held ops a0 pre I R F L vs g a w) (hL : ∀ i, i < ops.size → L i = decide (i < m)) : a = fill a0 vs all := by
  have hlt : ∀ {i : Nat} {o : Oper}, ops[i]? = some o → i < ops.size := fun {i o} ho => (Array.getElem?_eq_some_iff.1 ho).1
  unfold allChkM at hall
  rw [Bool.and_eq_true] at hall
  have hin : ∀ (i : Nat) (o : Oper) (t : Nat), ops[i]? = some o → o.dst = some t → i < m → (t, i) ∈ all := fun i o t ho hd him => by
    have := List.all_eq_true.1 hall.1 i (List.mem_range.2 him)
    rw [ho] at this
    simp only [hd] at this
    simpa using this
  have hall2 : ∀ p ∈ all, p.2 < m ∧ ∃ o, ops[p.2]? = some o ∧ o.dst = some p.1 := fun p hp => by
    have := List.all_eq_true.1 hall.2 p hp
    rw [Bool.and_eq_true, Nat.blt_eq] at this
    refine ⟨this.1, ?_⟩
    cases hq : ops[p.2]? with
    | none => rw [hq] at this; cases this.2
    | some q => rw [hq] at this; exact ⟨q, rfl, by simpa using this.2⟩
  have e : a.tmps = (fill a0 vs all).tmps := by
    refine Array.ext_getElem? fun t => ?_
    by_cases hw : ∃ (j : Nat) (q : Oper), ops[j]? = some q ∧ q.dst = some t ∧ j < m
    · obtain ⟨j, q, hq, hd, hjm⟩ := hw
      by_cases hts : t < a0.tmps.size
      · rw [h.slot t j q hq hd (by rw [hL j (hlt hq)]; simp [hjm]) hts, fill_in a0 vs _ t j (hin j q t hq hd hjm) (fun p hp he => by
          obtain ⟨_, q', hq', hd'⟩ := hall2 p hp
          exact hk.one hq hq' hd (by rw [hd', he])) hts]
      · rw [Array.getElem?_eq_none (by rw [h.size]; omega), Array.getElem?_eq_none (by rw [fill_size]; omega)]
    · rw [h.rest t (fun j q hq hd => by
        rw [hL j (hlt hq)]
        simp only [decide_eq_false_iff_not]
        exact fun hjm => hw ⟨j, q, hq, hd, hjm⟩), fill_out a0 vs _ t (fun p hp he => by
        obtain ⟨hpm, q', hq', hd'⟩ := hall2 p hp
        exact hw ⟨_, q', hq', by rw [hd', he], hpm⟩)]
  have ed : a.defers = (fill a0 vs all).defers := by rw [fill_defers]; exact h.defers
  cases a
  cases hf : fill a0 vs all
  rw [hf] at e ed
  simp only at e ed
  rw [e, ed]
theorem tail_planM {a0 : Act} {g0 : Γ} {w0 : World} (m : Nat) (pre : List (List (Nat × Nat))) (all : List (Nat × Nat)) (chk : rgChkM ops m pre = true) (chk2 : allChkM ops m all = true) (chk3 : tailChk ops m = true) (hmn : m ≤ ops.size)
    (I : Γ → World → Prop) (R : Nat → Value → Γ → World → Prop) (G : Nat → Γ → World → Γ → World → Prop) (F : Nat → Γ → Prop)
    (st : ∀ i j v g w g' w', i ≠ j → i < ops.size → R i v g w → G j g w g' w' → R i v g' w') (stF : ∀ i j g w g' w', i ≠ j → F i g → G j g w g' w' → F i g') (start : I g0 w0) (startF : ∀ i, F i g0)
    (steps : StepsL P ops Q a0 pre I R G F (ops.toList.take m) 0)
    (fin : ∀ vs g w, I g w → (∀ i, i < m → R i (vs i) g w) → wpOps P ops (NoPanic Q) (List.range' m (ops.size - m)) (fill a0 vs all) w) :
    wpAny P .any ops (NoPanic Q) ops.size (Array.replicate ops.size false) a0 w0 := by
  have hk := rgOkM chk
  have stepAt : ∀ {i : Nat} {o : Oper}, ops[i]? = some o → i < m → StepAt P ops Q a0 pre I R G F o i := fun {i o} ho him => by
    have := stepsL_at steps (i := i) (o := o) (by rw [List.getElem?_take, if_pos him]; simpa using ho)
    rwa [Nat.zero_add] at this
  have key : ∀ (fuel : Nat) (listed : Array Bool) (vs : Nat → Value) (g : Γ) (a : Act) (w : World), listed.size = ops.size → cntF ops.size (fun i => listed.getD i false) ≤ fuel → Closed ops (fun i => listed.getD i false) → (∀ i, m ≤ i → listed.getD i false = false) →
      Held ops a0 pre I R F (fun i => listed.getD i false) vs g a w → wpAny P .any ops (NoPanic Q) fuel listed a w := by
    intro fuel
    induction fuel with
    | zero =>
      intro listed vs g a w hsz hc hcl htl h
      have hall := cntF_zero (Nat.le_zero.1 hc)
      have hme : m = ops.size := by
        by_cases e : m < ops.size
        · have := hall m e; rw [htl m (Nat.le_refl _)] at this; cases this
        · omega
      have hL : ∀ i, i < ops.size → listed.getD i false = decide (i < m) := fun i hi => by rw [hall i hi]; simp; omega
      have := fin vs g w h.inv fun i hi => h.fact i (by omega) (hall i (by omega))
      rw [← held_uptoM hk chk2 h hL] at this
      exact tail_anyM hk chk3 0 m 0 listed a w (by omega) (Nat.le_refl _) hsz (Nat.le_refl _) hL hcl (by rw [hme, Nat.sub_self] at this; rw [hme]; exact this)
    | succ fuel ih =>
      intro listed vs g a w hsz hc hcl htl h
      by_cases hfull : ∀ i, i < m → listed.getD i false = true
      · have hL : ∀ i, i < ops.size → listed.getD i false = decide (i < m) := fun i hi => by
          by_cases e : i < m
          · rw [hfull i e]; simp [e]
          · rw [htl i (by omega)]; simp; omega
        have := fin vs g w h.inv fun i hi => h.fact i (by omega) (hfull i hi)
        rw [← held_uptoM hk chk2 h hL] at this
        refine tail_anyM hk chk3 (ops.size - m) m (fuel + 1) listed a w (by omega) (Nat.le_refl _) hsz ?_ hL hcl this
        refine Nat.le_trans ?_ hc
        unfold cntF
        rw [show List.range ops.size = List.range' 0 m ++ List.range' m (ops.size - m) by have e := @List.range'_append_1 0 m (ops.size - m); rw [Nat.zero_add] at e; rw [List.range_eq_range', e]; congr 1; omega, List.countP_append]
        have : (List.range' m (ops.size - m)).countP (fun i => !(fun i => listed.getD i false) i) = ops.size - m := by
          rw [List.countP_eq_length.2 (fun i hi => by
            have := List.mem_range'_1.1 hi
            simp [htl i this.1])]
          simp
        omega
      · refine ⟨fun hr => ?_, fun i hi => ?_⟩
        · exfalso
          refine hfull fun i => ?_
          induction i using Nat.strongRecOn with
          | ind i ih' =>
            intro him
            cases hl : listed.getD i false with
            | true => rfl
            | false =>
              have hilt : i < ops.size := by omega
              have ho : ops[i]? = some ops[i] := Array.getElem?_eq_getElem hilt
              have hm : i ∈ Region.ready .any ops listed := mem_ready.2 ⟨by
                simp [Array.getD_eq_getD_getElem?, Array.getElem?_eq_getElem (show i < listed.size by omega)] at hl ⊢; exact hl, ops[i], ho, fun e he hb => by
                have hd := hk.down ho e he hb
                exact ih' e.on hd (by omega)⟩
              rw [hr] at hm; cases hm
        · obtain ⟨h0, o, ho, hall⟩ := mem_ready.1 hi
          have hlt : i < listed.size := by rw [hsz]; exact (Array.getElem?_eq_some_iff.1 ho).1
          have h0' : listed.getD i false = false := by
            simp [Array.getD_eq_getD_getElem?, Array.getElem?_eq_getElem hlt] at h0 ⊢; exact h0
          have him : i < m := by
            by_cases e : i < m
            · exact e
            · exfalso
              refine hfull fun x hx => ?_
              exact ancs_listedM hk hcl i o ho hall x (tailOk chk3 (by omega) (by omega) (by omega))
          refine wpOp_mono (fun a' w' hh => ?_) (held_stepM hk st stF ho (stepAt ho him) h h0' hall him htl)
          obtain ⟨vs', g', hh⟩ := hh
          obtain ⟨hcl', hfun⟩ := closed_set ho hcl hlt hall
          refine ih _ vs' g' a' w' (by simp [hsz]) ?_ hcl' (fun x hx => ?_) (by rw [hfun]; exact hh)
          · rw [hfun]
            have := cntF_step (n := ops.size) (i := i) (L := fun j => listed.getD j false) (by omega) h0'
            omega
          · have hx2 : (listed.setIfInBounds i true).getD x false = (x == i || listed.getD x false) := congrFun hfun x
            show (listed.setIfInBounds i true).getD x false = false
            rw [hx2, htl x hx]
            simp; omega
  refine key ops.size (Array.replicate ops.size false) (fun _ => undef) g0 a0 _ (by simp) ?_ (fun j o ho hl => ?_) (fun i _ => ?_) ⟨start, fun i _ h => ?_, fun i _ => startF i, fun i h => ?_, rfl, rfl, fun t i o _ _ h => ?_, fun _ _ => rfl⟩
  · exact Nat.le_trans List.countP_le_length (by simp)
  all_goals
    have hz : ∀ i, (Array.replicate ops.size false).getD i false = false := fun i => by
      by_cases h : i < ops.size <;> simp [Array.getD_eq_getD_getElem?, h]
  · simp only [hz] at hl; cases hl
  · exact hz i
  · simp only [hz] at h; cases h
  · simp only [hz] at h; cases h
  · simp only [hz] at h; cases h
end
end Go.Proofs.YthmkllpdkcmccaaGreatDoor
namespace Go.Proofs.YthmkllpdkcmccaaGreatDoor
open Go.RowKit
set_option maxRecDepth 100000
set_option linter.unusedVariables false
set_option linter.unusedSimpArgs false

section
variable {P : Program} {ops : Array Oper} {Q : Exit → Act → World → Prop}
def updG (g : Nat → Bool) (i : Nat) : Nat → Bool := fun j => if j = i then true else g j
/-- What holds all the time: g says which operations have come up. -/
structure InvP (T : Nat → Prop) (W : World) (p : Nat) (must : List Nat) (g : Nat → Bool) (w : World) : Prop where
  must : g p = true → ∀ i ∈ must, g i = true
  moved : Moved T W w
  below : g p = false → Below W.heap.size W w
structure FactP (p : Nat) (Vs : List (Value → Prop)) (Ws : List (Value → World → Prop)) (Post : Value → World → Prop) (i : Nat) (v : Value) (g : Nat → Bool) (w : World) : Prop where
  up : g i = true
  val : Vs.getD i (fun _ => True) v
  raw : g p = false → Ws.getD i (fun _ _ => True) v w
  post : i = p → Post v w
structure StepP (p j : Nat) (g : Nat → Bool) (w : World) (g' : Nat → Bool) (w' : World) : Prop where
  up : g' = updG g j
  below : j ≠ p → Below w.heap.size w w'
theorem updG_same (g : Nat → Bool) (i : Nat) : updG g i i = true := by unfold updG; simp
theorem updG_ne (g : Nat → Bool) {i j : Nat} (h : j ≠ i) : updG g i j = g j := by unfold updG; rw [if_neg h]
/-- An operation other than p comes up. -/
theorem InvP.step {T : Nat → Prop} {W : World} {p : Nat} {must : List Nat} {g : Nat → Bool} {w w' : World} (h : InvP T W p must g w) {i : Nat} (hi : i ≠ p) (hb : Below w.heap.size w w') : InvP T W p must (updG g i) w' :=
  ⟨fun e j hj => by
      rw [updG_ne g (fun e => hi e.symm)] at e
      have := h.must e j hj
      unfold updG; split
      · rfl
      · exact this,
    h.moved.trans (.of_below hb), fun e => by
      rw [updG_ne g (fun e => hi e.symm)] at e
      exact (h.below e).trans (hb.mono h.moved.size)⟩
theorem InvP.off {T : Nat → Prop} {W : World} {p : Nat} {must : List Nat} {g : Nat → Bool} {w : World} (h : InvP T W p must g w) {i : Nat} (hi : g i = false) (hm : i ∈ must) : g p = false := by
  cases e : g p with
  | false => rfl
  | true => have := h.must e i hm; rw [hi] at this; cases this
theorem InvP.end_ {T : Nat → Prop} {W : World} {p : Nat} {must : List Nat} {g : Nat → Bool} {w w' : World} (h : InvP T W p must g w) (hm : ∀ i ∈ must, g i = true) (hb : Moved T W w') : InvP T W p must (updG g p) w' :=
  ⟨fun _ j hj => by unfold updG; split; rfl; exact hm j hj, hb, fun e => by rw [updG_same] at e; cases e⟩
theorem dirP_any {a0 : Act} {W : World} (T : Nat → Prop) (p : Nat) (must : List Nat) (m : Nat) (pre : List (List (Nat × Nat))) (all : List (Nat × Nat)) (Vs : List (Value → Prop)) (Ws : List (Value → World → Prop)) (Post : Value → World → Prop) (chk : rgChkM ops m pre = true) (chk2 : allChkM ops m all = true) (chk3 : tailChk ops m = true) (hmn : m ≤ ops.size) (hst : DStabL Ws) (hpo : DStab Post)
    (steps : StepsL P ops Q a0 pre (InvP T W p must) (FactP p Vs Ws Post) (StepP p) (fun i g => g i = false) (ops.toList.take m) 0) (hp : p < m)
    (fin : ∀ vs w, Moved T W w → Post (vs p) w → (∀ i, i < m → Vs.getD i (fun _ => True) (vs i)) → wpOps P ops (NoPanic Q) (List.range' m (ops.size - m)) (fill a0 vs all) w) :
    wpAny P .any ops (NoPanic Q) ops.size (Array.replicate ops.size false) a0 W.drew :=
  tail_planM (Γ := Nat → Bool) (g0 := fun _ => false) m pre all chk chk2 chk3 hmn (InvP T W p must) (FactP p Vs Ws Post) (StepP p) (fun i g => g i = false)
    (fun i j v g w g' w' hij _ h hG => by
      obtain ⟨rfl, hb⟩ := hG
      refine ⟨by rw [updG_ne g hij]; exact h.up, h.val, fun e => ?_, fun e => ?_⟩
      · by_cases ejp : j = p
        · subst ejp; rw [updG_same] at e; cases e
        · rw [updG_ne g (fun e => ejp e.symm)] at e
          exact dstabL_at hst i v w w' (h.raw e) (hb ejp)
      · exact hpo v w w' (h.post e) (hb (fun e2 => hij (e.trans e2.symm))))
    (fun i j g w g' w' hij h hG => by obtain ⟨rfl, _⟩ := hG; exact (updG_ne g hij).trans h)
    ⟨fun e => (by cases e), .of_below (below_drewN' (Below.refl _ _) 1), fun _ => below_drewN' (Below.refl _ _) 1⟩ (fun _ => rfl) steps (fun vs g w h hr => fin vs w h.moved ((hr p hp).post rfl) fun i hi => (hr i hi).val)
theorem dirP_plain {id : Nat} {a0 : Act} {W : World} (hm : P.follows .mixedOrders = true) (T : Nat → Prop) (p : Nat) (must : List Nat) (m : Nat) (pre : List (List (Nat × Nat))) (all : List (Nat × Nat)) (Vs : List (Value → Prop)) (Ws : List (Value → World → Prop)) (Post : Value → World → Prop) (chk : rgChkM ops m pre = true) (chk2 : allChkM ops m all = true) (chk3 : tailChk ops m = true) (hmn : m ≤ ops.size) (hst : DStabL Ws) (hpo : DStab Post)
    (steps : StepsL P ops Q a0 pre (InvP T W p must) (FactP p Vs Ws Post) (StepP p) (fun i g => g i = false) (ops.toList.take m) 0) (hp : p < m)
    (fin : ∀ vs w, Moved T W w → Post (vs p) w → (∀ i, i < m → Vs.getD i (fun _ => True) (vs i)) → wpOps P ops (NoPanic Q) (List.range' m (ops.size - m)) (fill a0 vs all) w) :
    (Code.region id ops true).wp P Q a0 W := wp_region_noPanic (wp_region_any hm (dirP_any T p must m pre all Vs Ws Post chk chk2 chk3 hmn hst hpo steps hp fin))
end
end Go.Proofs.YthmkllpdkcmccaaGreatDoor
namespace Go.Proofs.YthmkllpdkcmccaaGreatDoor
open Go.RowKit
set_option maxRecDepth 100000
set_option linter.unusedVariables false
set_option linter.unusedSimpArgs false

def byC (d : Int) : List Value := [.int .u8 d]
theorem byC_len (d : Int) : (byC d).length = 1 := rfl
theorem byC_flat (l : List Int) : l.flatMap byC = l.map (Value.int .u8) := by
  induction l with
  | nil => rfl
  | cons d l ih => rw [List.flatMap_cons, ih]; rfl
theorem elemB : ElemT Tryz.prog 56 5 1 byC := by
  obtain ⟨i0, hi, hz0, hz1, hz2⟩ := info_parts infoB
  exact ⟨Tryz.underlying56, ⟨i0, _, hi, hz0, hz1, by rw [hz2]; decide, rfl⟩, by decide, fun _ => rfl, fun x u hu => by simp [byC] at hu; subst hu; rfl⟩
/-- A row v of one's own has become v', with the bytes l. -/
structure Grew (w : World) (base : Nat) (v : Value) (l : List Int) (v' : Value) (w' : World) : Prop where
  row : OwnK w' base 5 .u8 v' l
  moved : Moved (fun b => v.ownBlock = some b) w w'
  own : ∀ b, v'.ownBlock = some b → v.ownBlock = some b ∨ w.heap.size ≤ b
theorem Grew.refl {w : World} {base : Nat} {v : Value} {l : List Int} (h : OwnK w base 5 .u8 v l) : Grew w base v l v w := ⟨h, Moved.refl _ _, fun b hb => .inl hb⟩
theorem Grew.trans {w w1 w2 : World} {base : Nat} {v v1 v2 : Value} {l1 l2 : List Int} (h : Grew w base v l1 v1 w1) (k : Grew w1 base v1 l2 v2 w2) : Grew w base v l2 v2 w2 :=
  ⟨k.row, ⟨k.moved.os.trans h.moved.os, k.moved.tape.trans h.moved.tape, k.moved.output.trans h.moved.output, Nat.le_trans h.moved.size k.moved.size, fun b hb hn => (k.moved.block b (Nat.lt_of_lt_of_le hb h.moved.size) (fun e => (h.own b e).elim hn (fun e2 => by omega))).trans (h.moved.block b hb hn)⟩,
    fun b hb => (k.own b hb).elim (h.own b) (fun e => .inr (Nat.le_trans h.moved.size e))⟩
/-- Fresh memory ahead of the growing. -/
theorem Grew.ahead {w w1 w2 : World} {base : Nat} {v v2 : Value} {l : List Int} (h : Below w.heap.size w w1) (k : Grew w1 base v l v2 w2) : Grew w base v l v2 w2 :=
  ⟨k.row, ⟨k.moved.os.trans h.os, k.moved.tape.trans h.tape, k.moved.output.trans h.output, Nat.le_trans h.size k.moved.size, fun b hb hn => (k.moved.block b (Nat.lt_of_lt_of_le hb h.size) hn).trans (h.block b hb)⟩,
    fun b hb => (k.own b hb).imp id (fun e => Nat.le_trans h.size e)⟩
theorem OwnK.nextB {w w' : World} {base : Nat} {v : Value} {l : List Int} (h : OwnK w base 5 .u8 v l) (hb : Below w.heap.size w w') : OwnK w' base 5 .u8 v l := h.keep_ fun g hg => hb.block g (World.ownsRow.lt h g hg).2
theorem Grew.behind {w w1 w2 : World} {base : Nat} {v v1 : Value} {l : List Int} (h : Grew w base v l v1 w1) (k : Below w1.heap.size w1 w2) : Grew w base v l v1 w2 :=
  ⟨h.row.nextB k, h.moved.trans (.of_below k), h.own⟩
theorem Grew.below {w w' : World} {base B : Nat} {v v' : Value} {l : List Int} (h : Grew w base v l v' w') (hv : ∀ b, v.ownBlock = some b → B ≤ b) (hB : B ≤ w.heap.size) : Below B w w' :=
  ⟨h.moved.os, h.moved.tape, h.moved.output, h.moved.size, fun k hk => h.moved.block k (by omega) (fun e => by have := hv k e; omega)⟩
theorem Grew.dst {w : World} {base : Nat} {v : Value} {l : List Int} : DStab (fun v' w' => Grew w base v l v' w') := fun v' w1 w2 h hb => h.behind hb
theorem grown_moved {w w' : World} {v : Value} (h : w.grownBy w' v.ownBlock) : Moved (fun b => v.ownBlock = some b) w w' :=
  ⟨h.os, h.tape, h.output, h.size, fun g hg hn => h.block g hg (fun e => hn e.symm)⟩
/-- append of literal bytes. -/
theorem wp_grow_lit {ops : Array Oper} {rest : List Oper} {o : Oper} {a : Act} {Q : Exit → Act → World → Prop} {w : World} (hgd : o.guard = none) (s x : Operand)
    (ho : o.op = .call { callee := .builtin .append, args := #[s, x], argTypes := #[56, 56] }) (base : Nat) (v : Value) (ys : List Int) (hs : a.eval s = v) (hown : OwnK w base 5 .u8 v ys)
    (xs : List Int) (n c : Nat) (hx : a.eval x = .slice (some ⟨w.heap.size, 0, none⟩) n c) (hn : n = xs.length) (h1 : ys.length + xs.length ≤ 1000000) (hbase : base ≤ w.heap.size)
    (h : ∀ v' w', Grew w base v (ys ++ xs) v' w' → wpList Tryz.prog ops Q rest (a.put o.dst v') w') : wpList Tryz.prog ops Q (o :: rest) a (w.alloc (.cells (xs.map (Value.int .u8)).toArray 5)) := by
  have hb : Below w.heap.size w (w.alloc (.cells (xs.map (Value.int .u8)).toArray 5)) := (Below.refl _ _).alloc (Nat.le_refl _) _
  have hrow := row_lit (C := byC) (w := w) (t := 5) byC_len xs
  rw [byC_flat] at hrow
  refine wp_app_row elemB hgd s x ho base v ys.length (ys.map (Value.int .u8)) hs (World.ownsRow.alloc hown _) (some ⟨w.heap.size, 0, none⟩) c n xs (fun g => w.heap.size ≤ g) hx hn hrow (fun h => by cases h) (by omega) (by simp; omega) fun v' w' k1 k2 k3 => h v' w' ?_
  rw [byC_flat, ← List.map_append, hn, ← List.length_append] at k1
  refine Grew.ahead hb ⟨k1, grown_moved k2, fun b hb => ?_⟩
  rcases k3 with k3 | k3
  · rw [k3] at hb; exact .inl hb
  · rw [k3] at hb; injection hb with hb; exact .inr (by omega)
end Go.Proofs.YthmkllpdkcmccaaGreatDoor
