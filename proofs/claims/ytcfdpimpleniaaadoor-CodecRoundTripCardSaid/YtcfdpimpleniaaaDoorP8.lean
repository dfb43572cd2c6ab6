/-
  Packed texts: CodV, CodC2, GrewC, RowS, HdrD, Copy, ScopeFwd, HdrO.
-/
import Derived.BigQuiet
import Derived.Deep.QuietTactic
import Derived.WalkSpells
import Derived.Lib.Overlaps
import Derived.Lib.AppendZerosOnto
import Derived.Laws.IdiomCopy
import Derived.Laws.NewBlocks
import Derived.Laws.Externs
import Derived.OwnWalk
import Derived.ScopeJumps
import Derived.Test.YtcfdpimpleniaaaDoorP7
namespace Go.Proofs.YtcfdpimpleniaaaDoor
open Go.RowKit
set_option maxRecDepth 100000
set_option linter.unusedVariables false
set_option linter.unusedSimpArgs false

theorem u_bv {a : Int} (h : U a) : ∃ x : BitVec 64, a = (x.toNat : Int) := by
  refine ⟨BitVec.ofNat 64 a.toNat, ?_⟩
  have := h.1
  have := h.2
  rw [BitVec.toNat_ofNat, Nat.mod_eq_of_lt (by omega)]
  omega
theorem bv_zero {x : BitVec 64} : (x.toNat : Int) = 0 ↔ x = 0#64 := by
  constructor
  · intro h; exact BitVec.eq_of_toNat_eq (by simpa using Int.ofNat.inj h)
  · rintro rfl; rfl
theorem or_none {a b : Int} (ha : U a) (hb : U b) : bits .or .u64 a b = 0 ↔ a = 0 ∧ b = 0 := by
  obtain ⟨x, rfl⟩ := u_bv ha
  obtain ⟨y, rfl⟩ := u_bv hb
  rw [or_w, bv_zero, bv_zero, bv_zero]
  exact BitVec.or_eq_zero_iff
theorem xor_none {a b : Int} (ha : U a) (hb : U b) : bits .xor .u64 a b = 0 ↔ a = b := by
  have := xor_zero ha hb
  simpa using this
theorem and_none {a : Int} (ha : U a) : bits .and .u64 a 0 = 0 := by
  obtain ⟨x, rfl⟩ := u_bv ha
  have := and_w x 0#64
  simpa using this
theorem and_full {a : Int} (ha : U a) : bits .and .u64 a 18446744073709551615 = a := by
  obtain ⟨x, rfl⟩ := u_bv ha
  have := and_w x (BitVec.allOnes 64)
  rw [BitVec.and_allOnes] at this
  exact this
/-- A record's part of the deviation. -/
theorem dev_step {lv mv X Y Z dv E n : Int} {k : Nat} {x : Rc} (hx : U x.live ∧ U x.id) (hd : U dv) (hl : lv = if (k : Int) < n then 1 else 0) (hm : IntKind.u64.wrap (lv - 1) = mv) (h1 : bits .xor .u64 x.live lv = X) (h2 : bits .and .u64 x.id mv = Y) (h3 : bits .or .u64 X Y = Z) (h4 : bits .or .u64 dv Z = E) :
    U E ∧ (E = 0 ↔ dv = 0 ∧ recOk n k x) := by
  have hlU : U lv := by rw [hl]; unfold U; split <;> omega
  have hmU : U mv := by rw [← hm]; exact U_wrap _
  have hXU : U X := by rw [← h1]; exact U_xor hx.1 hlU
  have hYU : U Y := by rw [← h2]; exact U_and hx.2 hmU
  have hZU : U Z := by rw [← h3]; exact U_or hXU hYU
  refine ⟨by rw [← h4]; exact U_or hd hZU, ?_⟩
  rw [← h4, or_none hd hZU, ← h3, or_none hXU hYU, ← h1, xor_none hx.1 hlU, ← h2]
  unfold recOk
  by_cases e : (k : Int) < n
  · rw [if_pos e] at hl
    subst hl
    have : mv = 0 := by rw [← hm, wrap_u]; rfl
    rw [this, and_none hx.2]
    exact ⟨fun h => ⟨h.1, fun _ => h.2.1, fun e2 => absurd e e2⟩, fun h => ⟨h.1, h.2.1 e, rfl⟩⟩
  · rw [if_neg e] at hl
    subst hl
    have : mv = 18446744073709551615 := by rw [← hm, wrap_u]; rfl
    rw [this, and_full hx.2]
    exact ⟨fun h => ⟨h.1, fun e2 => absurd e2 e, fun _ => h.2⟩, fun h => ⟨h.1, h.2.2 e⟩⟩
theorem live_bit {n : Int} {k : Nat} (hn : 0 ≤ n ∧ n ≤ 100000) (hk : k ≤ 100000) : ∃ Q R : Int, IntKind.i64.wrap ((k : Int) - n) = Q ∧ IntKind.u64.wrap Q = R ∧ R / 9223372036854775808 = (if (k : Int) < n then 1 else 0) := by
  refine ⟨(k : Int) - n, _, wrap_i64' (by omega) (by omega), rfl, ?_⟩
  rw [wrap_u]
  split <;> omega
def DvRel (W : World) (n : Int) (l : List Rc) (d t lv i : Value) (wr : World) : Prop :=
  ∃ (k : Nat) (dv : Int), i = .int .i64 k ∧ k ≤ l.length ∧ d = .int .u64 dv ∧ U dv ∧ (dv = 0 ↔ ∀ (j : Nat) (h : j < l.length), j < k → recOk n j l[j]) ∧ Below W.heap.size W wr
set_option maxHeartbeats 4000000 in
theorem deviation_any (v n : Int) (B : Option Addr) (m d : Nat) (l : List Rc) (T : Nat → Prop) (r : Bool) (w : World) (hl : RowR w T 2 rcC B l) (hm : m = l.length) (hml : m ≤ 100000) (hU : UsR l) (hn : 0 ≤ n ∧ n ≤ 100000) (hr : recsA n l = r) :
    Calls Tryd.prog 75 #[.agg #[.int .i64 v, .int .i64 n, .slice B m d]] w fun e w' => ∃ dv : Int, e = .returned (.int .u64 dv) ∧ (dv == 0) = r ∧ Below w.heap.size w w' := by
  obtain ⟨W, hW⟩ : ∃ W, W = w.alloc (.cells #[.int .i64 v, .int .i64 n, .slice B m d] 53) := ⟨_, rfl⟩
  obtain ⟨b, hb⟩ : ∃ b, b = w.heap.size := ⟨_, rfl⟩
  have h0 : Below w.heap.size w W := by rw [hW]; exact (Below.refl _ _).alloc (Nat.le_refl _) _
  have a1 : W.cell? ⟨b, 1, none⟩ = some (.int .i64 n) := by rw [hW, hb]; simp [go_sem]
  have a2 : W.cell? ⟨b, 2, none⟩ = some (.slice B m d) := by rw [hW, hb]; simp [go_sem]
  have HRow := Lib.hid (hl.next h0)
  have HW := Lib.hid hW
  have HB := Lib.hid hb
  have HM := Lib.hid hm
  have HR := Lib.hid hr
  clear hW hb hl hm hr
  go_enter Tryd.func75, Tryd.ntmps75
  go_upto_region 1 with (fail)
  rw [← HW.out, ← HB.out]
  go_wp2
  go_loopw [3, 4, 6, 10] (fun d t lv i wr => DvRel W n l d t lv i wr) (fun _ _ _ i _ => m - (intOf i).toNat)
  case atStart => exact ⟨0, 0, rfl, Nat.zero_le _, rfl, ⟨by omega, by omega⟩, ⟨fun _ j _ h => absurd h (Nat.not_lt_zero j), fun _ => rfl⟩, Below.refl _ _⟩
  case round =>
    obtain ⟨k, dv, rfl, hk, rfl, hdU, hd, hbr⟩ := hrel
    have a1 := (hbr.cell (lt_of_cell a1)).trans a1
    have a2 := (hbr.cell (lt_of_cell a2)).trans a2
    have HD := Lib.hid hd
    clear hd
    by_cases hgo : k < l.length
    · obtain ⟨pb, po, rfl, hTq, hcq⟩ := (HRow.out.next hbr).at_ hgo
      have p0 : wr.cell? ⟨pb, po + k * 2, none⟩ = some (.int .u64 (l[k]).live) := hcq 0 _ rfl
      have p1 : wr.cell? ⟨pb, po + k * 2 + 1, none⟩ = some (.int .u64 (l[k]).id) := hcq 1 _ rfl
      have HX := Lib.hid (hU _ (List.getElem_mem hgo))
      have HS := Lib.hid (show (∀ (j : Nat) (h : j < l.length), j < k + 1 → recOk n j l[j]) ↔ (∀ (j : Nat) (h : j < l.length), j < k → recOk n j l[j]) ∧ recOk n k l[k] from
        ⟨fun h => ⟨fun j h1 h2 => h j h1 (by omega), h k hgo (by omega)⟩, fun h j h1 h2 => by
          rcases Nat.lt_or_eq_of_le (Nat.le_of_lt_succ h2) with h3 | rfl
          · exact h.1 j h1 h3
          · exact h.2⟩)
      generalize l[k] = x at p0 p1 HX HS
      have hkm : (k : Int) < m := by have := HM.out; omega
      obtain ⟨Q, R, eQ, eR, eL⟩ := live_bit (k := k) hn (by have := HM.out; omega)
      obtain ⟨lv, hlv⟩ : ∃ lv : Int, lv = if (k : Int) < n then 1 else 0 := ⟨_, rfl⟩
      rw [← hlv] at eL
      obtain ⟨mv, eM⟩ : ∃ mv, IntKind.u64.wrap (lv - 1) = mv := ⟨_, rfl⟩
      obtain ⟨X, eX⟩ : ∃ X, bits .xor .u64 x.live lv = X := ⟨_, rfl⟩
      obtain ⟨Y, eY⟩ : ∃ Y, bits .and .u64 x.id mv = Y := ⟨_, rfl⟩
      obtain ⟨Z, eZ⟩ : ∃ Z, bits .or .u64 X Y = Z := ⟨_, rfl⟩
      obtain ⟨E, eE⟩ : ∃ E, bits .or .u64 dv Z = E := ⟨_, rfl⟩
      have HE := Lib.hid (dev_step HX.out hdU hlv eM eX eY eZ eE)
      obtain ⟨W3, hW3⟩ : ∃ W3, W3 = wr.alloc (.cells #[.int .u64 x.live, .int .u64 x.id] 101) := ⟨_, rfl⟩
      have h3 : Below wr.heap.size wr W3 := by rw [hW3]; exact (Below.refl _ _).alloc (Nat.le_refl _) _
      obtain ⟨bl, hbl⟩ : ∃ b, b = wr.heap.size := ⟨_, rfl⟩
      have i0 : W3.cell? ⟨bl, 0, none⟩ = some (.int .u64 x.live) := by rw [hW3, hbl]; simp [go_sem]
      have i1 : W3.cell? ⟨bl, 1, none⟩ = some (.int .u64 x.id) := by rw [hW3, hbl]; simp [go_sem]
      have b1 := (h3.cell (lt_of_cell a1)).trans a1
      have hbf := hbr.trans (h3.mono hbr.size)
      have HW3 := Lib.hid hW3
      have HBL := Lib.hid hbl
      clear hcq hlv hdU h3 hbr hW3 hbl
      go_upto_region 5 with (fail)
      rw [← HW3.out, ← HBL.out]
      clear p0 p1
      go_wp2
      go_roundw
      case rel => exact ⟨k + 1, E, by go_num, hgo, rfl, HE.out.1, HE.out.2.trans ((and_congr_left' HD.out).trans HS.out.symm), hbf⟩
      case measure => simp [intOf]; omega
    · have hkl : k = l.length := by omega
      subst hkl
      have hkm : ¬ ((l.length : Int) < m) := by have := HM.out; omega
      have HX := Lib.hid (show (dv == 0) = r by
        rw [← HR.out, Bool.eq_iff_iff, beq_iff_eq, HD.out, recsA_iff]
        exact ⟨fun h i hi => h i hi hi, fun h i hi _ => h i hi⟩)
      obtain ⟨L, hL⟩ : ∃ L, L = l.length := ⟨_, rfl⟩
      rw [← hL] at hkm ⊢
      clear hL
      go_wp2
      go_ret
      exact ⟨_, rfl, HX.out, h0.trans (hbr.mono h0.size)⟩
set_option maxHeartbeats 8000000 in
theorem isAnswer_any (op vx pts : Int) (sl : Value) (ks : List (Bool × Int)) (v n : Int) (B : Option Addr) (m d : Nat) (l : List Rc) (T : Nat → Prop) (r : Bool) (w : World) (hw : Wts w) (hk : Okh ⟨op, vx, ks, pts⟩) (hl : RowR w T 2 rcC B l) (hm : m = l.length) (hml : m ≤ 9223372036854775807) (hU : UsR l) (hr : isA ⟨op, vx, ks, pts⟩ ⟨v, n, l⟩ = r) :
    Calls Tryd.prog 52 #[.agg #[.int .i64 op, .int .i64 vx, sl, .int .i64 pts], .agg #[.int .i64 v, .int .i64 n, .slice B m d]] w fun e w' => e = .returned (.bool r) ∧ Below w.heap.size w w' := by
  obtain ⟨W, hW⟩ : ∃ W, W = (w.alloc (.cells #[.int .i64 op, .int .i64 vx, sl, .int .i64 pts] 24)).alloc (.cells #[.int .i64 v, .int .i64 n, .slice B m d] 53) := ⟨_, rfl⟩
  obtain ⟨b, hb⟩ : ∃ b, b = w.heap.size := ⟨_, rfl⟩
  have h0 : Below w.heap.size w W := by rw [hW]; exact ((Below.refl _ _).alloc (Nat.le_refl _) _).alloc (by simp) _
  have g0 : W.cell? ⟨b, 0, none⟩ = some (.int .i64 op) := by rw [hW, hb]; simp [go_sem]
  have g3 : W.cell? ⟨b, 3, none⟩ = some (.int .i64 pts) := by rw [hW, hb]; simp [go_sem]
  have a0 : W.cell? ⟨b + 1, 0, none⟩ = some (.int .i64 v) := by rw [hW, hb]; simp [go_sem]
  have a1 : W.cell? ⟨b + 1, 1, none⟩ = some (.int .i64 n) := by rw [hW, hb]; simp [go_sem]
  have a2 : W.cell? ⟨b + 1, 2, none⟩ = some (.slice B m d) := by rw [hW, hb]; simp [go_sem]
  obtain ⟨t2, t3, t4, t5, t6, t7, t8, t9, t10, t11⟩ := pres_h (hw.below h0)
  clear t2 t4 t6 t8 t10
  have hop := hk.op
  have hp5 := hk.pts5
  have hp0 := hk.pts0
  simp only at hop hp5 hp0
  have hpb : 0 ≤ pts ∧ pts ≤ 4096 := by
    by_cases e5 : op = 5
    · have := hp5 e5; omega
    · have := hp0 e5; omega
  have HP1 := Lib.hid (show op = 5 ∨ pts = 0 by by_cases e5 : op = 5; exact .inl e5; exact .inr (hp0 e5))
  have HRow := Lib.hid (hl.next h0)
  have HW := Lib.hid hW
  have HB := Lib.hid hb
  have HM := Lib.hid hm
  have HR := Lib.hid hr
  clear hW hb hl hm hr hp5 hp0 hk hw
  obtain ⟨mo, hmo⟩ : ∃ mo, mostA op = mo := ⟨_, rfl⟩
  have hmo3 : mo ≤ 3 := by rw [← hmo]; unfold mostA; split <;> (try split) <;> omega
  have HMO := Lib.hid hmo
  have HO := Lib.hid (show op = 5 → mo = 1 from fun e => by rw [← hmo, e]; rfl)
  rcases (show op = 1 ∨ op = 2 ∨ op = 3 ∨ op = 4 ∨ op = 5 by omega) with rfl | rfl | rfl | rfl | rfl
  · obtain rfl : 2 = mo := hmo
    clear hop hmo3 t5 t7 t9 t11
    by_cases c0 : v < 0
    · have d0 : decide (v < 0) = true := decide_eq_true c0
      have HX := Lib.hid (show r = false by rw [← HR.out]; refine isA_head ?_; simp only; rw [HMO.out]; have := HP1.out; have := HM.out; have := HO.out; intro hh; omega)
      clear c0
      go_enter Tryd.func52, Tryd.ntmps52
      go_upto_region 1 with (fail)
      rw [← HW.out, ← HB.out]
      go_quiet (fail)
      go_wp2
      go_ret
      exact ⟨by rw [HX.out]; rfl, below_drewN' h0 _⟩
    have d0 : decide (v < 0) = false := decide_eq_false c0
    by_cases c1 : 2 < v
    · have d1 : decide (2 < v) = true := decide_eq_true c1
      have HX := Lib.hid (show r = false by rw [← HR.out]; refine isA_head ?_; simp only; rw [HMO.out]; have := HP1.out; have := HM.out; have := HO.out; intro hh; omega)
      clear c0 c1
      go_enter Tryd.func52, Tryd.ntmps52
      go_upto_region 1 with (fail)
      rw [← HW.out, ← HB.out]
      go_quiet (fail)
      go_wp2
      go_ret
      exact ⟨by rw [HX.out]; rfl, below_drewN' h0 _⟩
    have d1 : decide (2 < v) = false := decide_eq_false c1
    obtain ⟨q, hq⟩ : ∃ q, v * pts = q := ⟨_, rfl⟩
    have hvs : v = 0 ∨ v = 1 ∨ v = 2 ∨ v = 3 := by omega
    have hqb : 0 ≤ q ∧ q ≤ 12288 ∧ (v = 0 → q = 0) ∧ (v = 1 → q = pts) ∧ (pts = 0 → q = 0) := by rcases hvs with rfl | rfl | rfl | rfl <;> omega
    have eq : IntKind.i64.wrap (v * pts) = q := by rw [hq]; exact wrap_i64' (by omega) (by omega)
    have HQ := Lib.hid hqb
    have hqn : q ≤ 12288 := hqb.2.1
    clear hqb hq
    by_cases c2 : n < 0
    · have d2 : decide (n < 0) = true := decide_eq_true c2
      have HX := Lib.hid (show r = false by rw [← HR.out]; refine isA_head ?_; simp only; rw [HMO.out]; have := HP1.out; have := HM.out; have := HO.out; intro hh; omega)
      clear c0 c1 c2 hvs
      go_enter Tryd.func52, Tryd.ntmps52
      go_upto_region 1 with (fail)
      rw [← HW.out, ← HB.out]
      go_quiet (fail)
      go_wp2
      go_ret
      exact ⟨by rw [HX.out]; rfl, below_drewN' h0 _⟩
    have d2 : decide (n < 0) = false := decide_eq_false c2
    by_cases c3 : q < n
    · have d3 : decide (q < n) = true := decide_eq_true c3
      have HX := Lib.hid (show r = false by rw [← HR.out]; refine isA_head ?_; simp only; rw [HMO.out]; have := HP1.out; have := HM.out; have := HO.out; intro hh; (have := HQ.out; omega))
      clear c0 c1 c2 c3 hvs
      go_enter Tryd.func52, Tryd.ntmps52
      go_upto_region 1 with (fail)
      rw [← HW.out, ← HB.out]
      go_quiet (fail)
      go_wp2
      go_ret
      exact ⟨by rw [HX.out]; rfl, below_drewN' h0 _⟩
    have d3 : decide (q < n) = false := decide_eq_false c3
    by_cases c4 : (m : Int) = pts
    · have d4 : ((m : Int) != pts) = false := by rw [bne_eq_false_iff_eq]; exact c4
      have HH := Lib.hid (show headA ⟨1, vx, ks, pts⟩ ⟨v, n, l⟩ = true from headA_iff.2 (by simp only; rw [HMO.out]; have := HQ.out; have := HM.out; have := HP1.out; have := HO.out; omega))
      have HC := Lib.hid (show recsA n l = r by rw [← HR.out]; unfold isA; rw [HH.out, Bool.true_and])
      have hnb : 0 ≤ n ∧ n ≤ 100000 := by omega
      have hm1 : m ≤ 100000 := by omega
      clear c0 c1 c2 c3 c4 hvs
      go_enter Tryd.func52, Tryd.ntmps52
      go_upto_region 1 with (fail)
      rw [← HW.out, ← HB.out]
      go_quiet (fail)
      go_wp2_with (fail)
      refine (deviation_any v n B m d l T r _ (HRow.out.next (below_drewN' (Below.refl _ _) _)) HM.out hm1 hU hnb HC.out).mono ?_
      rintro e w2 ⟨dv, rfl, hdv, hb2⟩
      go_wp2
      go_ret
      exact ⟨rfl, (below_drewN' h0 _).trans (hb2.mono (below_drewN' h0 _).size)⟩
    · have d4 : ((m : Int) != pts) = true := by rw [bne_iff_ne]; exact c4
      have HX := Lib.hid (show r = false by rw [← HR.out]; refine isA_head ?_; simp only; rw [HMO.out]; have := HP1.out; have := HM.out; have := HO.out; intro hh; omega)
      clear c0 c1 c2 c3 c4 hvs
      go_enter Tryd.func52, Tryd.ntmps52
      go_upto_region 1 with (fail)
      rw [← HW.out, ← HB.out]
      go_quiet (fail)
      go_wp2
      go_ret
      exact ⟨by rw [HX.out]; rfl, below_drewN' h0 _⟩
  · obtain rfl : 2 = mo := hmo
    clear hop hmo3 t3 t7 t9 t11
    by_cases c0 : v < 0
    · have d0 : decide (v < 0) = true := decide_eq_true c0
      have HX := Lib.hid (show r = false by rw [← HR.out]; refine isA_head ?_; simp only; rw [HMO.out]; have := HP1.out; have := HM.out; have := HO.out; intro hh; omega)
      clear c0
      go_enter Tryd.func52, Tryd.ntmps52
      go_upto_region 1 with (fail)
      rw [← HW.out, ← HB.out]
      go_quiet (fail)
      go_wp2
      go_ret
      exact ⟨by rw [HX.out]; rfl, below_drewN' h0 _⟩
    have d0 : decide (v < 0) = false := decide_eq_false c0
    by_cases c1 : 2 < v
    · have d1 : decide (2 < v) = true := decide_eq_true c1
      have HX := Lib.hid (show r = false by rw [← HR.out]; refine isA_head ?_; simp only; rw [HMO.out]; have := HP1.out; have := HM.out; have := HO.out; intro hh; omega)
      clear c0 c1
      go_enter Tryd.func52, Tryd.ntmps52
      go_upto_region 1 with (fail)
      rw [← HW.out, ← HB.out]
      go_quiet (fail)
      go_wp2
      go_ret
      exact ⟨by rw [HX.out]; rfl, below_drewN' h0 _⟩
    have d1 : decide (2 < v) = false := decide_eq_false c1
    obtain ⟨q, hq⟩ : ∃ q, v * pts = q := ⟨_, rfl⟩
    have hvs : v = 0 ∨ v = 1 ∨ v = 2 ∨ v = 3 := by omega
    have hqb : 0 ≤ q ∧ q ≤ 12288 ∧ (v = 0 → q = 0) ∧ (v = 1 → q = pts) ∧ (pts = 0 → q = 0) := by rcases hvs with rfl | rfl | rfl | rfl <;> omega
    have eq : IntKind.i64.wrap (v * pts) = q := by rw [hq]; exact wrap_i64' (by omega) (by omega)
    have HQ := Lib.hid hqb
    have hqn : q ≤ 12288 := hqb.2.1
    clear hqb hq
    by_cases c2 : n < 0
    · have d2 : decide (n < 0) = true := decide_eq_true c2
      have HX := Lib.hid (show r = false by rw [← HR.out]; refine isA_head ?_; simp only; rw [HMO.out]; have := HP1.out; have := HM.out; have := HO.out; intro hh; omega)
      clear c0 c1 c2 hvs
      go_enter Tryd.func52, Tryd.ntmps52
      go_upto_region 1 with (fail)
      rw [← HW.out, ← HB.out]
      go_quiet (fail)
      go_wp2
      go_ret
      exact ⟨by rw [HX.out]; rfl, below_drewN' h0 _⟩
    have d2 : decide (n < 0) = false := decide_eq_false c2
    by_cases c3 : q < n
    · have d3 : decide (q < n) = true := decide_eq_true c3
      have HX := Lib.hid (show r = false by rw [← HR.out]; refine isA_head ?_; simp only; rw [HMO.out]; have := HP1.out; have := HM.out; have := HO.out; intro hh; (have := HQ.out; omega))
      clear c0 c1 c2 c3 hvs
      go_enter Tryd.func52, Tryd.ntmps52
      go_upto_region 1 with (fail)
      rw [← HW.out, ← HB.out]
      go_quiet (fail)
      go_wp2
      go_ret
      exact ⟨by rw [HX.out]; rfl, below_drewN' h0 _⟩
    have d3 : decide (q < n) = false := decide_eq_false c3
    by_cases c4 : (m : Int) = pts
    · have d4 : ((m : Int) != pts) = false := by rw [bne_eq_false_iff_eq]; exact c4
      have HH := Lib.hid (show headA ⟨2, vx, ks, pts⟩ ⟨v, n, l⟩ = true from headA_iff.2 (by simp only; rw [HMO.out]; have := HQ.out; have := HM.out; have := HP1.out; have := HO.out; omega))
      have HC := Lib.hid (show recsA n l = r by rw [← HR.out]; unfold isA; rw [HH.out, Bool.true_and])
      have hnb : 0 ≤ n ∧ n ≤ 100000 := by omega
      have hm1 : m ≤ 100000 := by omega
      clear c0 c1 c2 c3 c4 hvs
      go_enter Tryd.func52, Tryd.ntmps52
      go_upto_region 1 with (fail)
      rw [← HW.out, ← HB.out]
      go_quiet (fail)
      go_wp2_with (fail)
      refine (deviation_any v n B m d l T r _ (HRow.out.next (below_drewN' (Below.refl _ _) _)) HM.out hm1 hU hnb HC.out).mono ?_
      rintro e w2 ⟨dv, rfl, hdv, hb2⟩
      go_wp2
      go_ret
      exact ⟨rfl, (below_drewN' h0 _).trans (hb2.mono (below_drewN' h0 _).size)⟩
    · have d4 : ((m : Int) != pts) = true := by rw [bne_iff_ne]; exact c4
      have HX := Lib.hid (show r = false by rw [← HR.out]; refine isA_head ?_; simp only; rw [HMO.out]; have := HP1.out; have := HM.out; have := HO.out; intro hh; omega)
      clear c0 c1 c2 c3 c4 hvs
      go_enter Tryd.func52, Tryd.ntmps52
      go_upto_region 1 with (fail)
      rw [← HW.out, ← HB.out]
      go_quiet (fail)
      go_wp2
      go_ret
      exact ⟨by rw [HX.out]; rfl, below_drewN' h0 _⟩
  · obtain rfl : 3 = mo := hmo
    clear hop hmo3 t3 t5 t9 t11
    by_cases c0 : v < 0
    · have d0 : decide (v < 0) = true := decide_eq_true c0
      have HX := Lib.hid (show r = false by rw [← HR.out]; refine isA_head ?_; simp only; rw [HMO.out]; have := HP1.out; have := HM.out; have := HO.out; intro hh; omega)
      clear c0
      go_enter Tryd.func52, Tryd.ntmps52
      go_upto_region 1 with (fail)
      rw [← HW.out, ← HB.out]
      go_quiet (fail)
      go_wp2
      go_ret
      exact ⟨by rw [HX.out]; rfl, below_drewN' h0 _⟩
    have d0 : decide (v < 0) = false := decide_eq_false c0
    by_cases c1 : 3 < v
    · have d1 : decide (3 < v) = true := decide_eq_true c1
      have HX := Lib.hid (show r = false by rw [← HR.out]; refine isA_head ?_; simp only; rw [HMO.out]; have := HP1.out; have := HM.out; have := HO.out; intro hh; omega)
      clear c0 c1
      go_enter Tryd.func52, Tryd.ntmps52
      go_upto_region 1 with (fail)
      rw [← HW.out, ← HB.out]
      go_quiet (fail)
      go_wp2
      go_ret
      exact ⟨by rw [HX.out]; rfl, below_drewN' h0 _⟩
    have d1 : decide (3 < v) = false := decide_eq_false c1
    obtain ⟨q, hq⟩ : ∃ q, v * pts = q := ⟨_, rfl⟩
    have hvs : v = 0 ∨ v = 1 ∨ v = 2 ∨ v = 3 := by omega
    have hqb : 0 ≤ q ∧ q ≤ 12288 ∧ (v = 0 → q = 0) ∧ (v = 1 → q = pts) ∧ (pts = 0 → q = 0) := by rcases hvs with rfl | rfl | rfl | rfl <;> omega
    have eq : IntKind.i64.wrap (v * pts) = q := by rw [hq]; exact wrap_i64' (by omega) (by omega)
    have HQ := Lib.hid hqb
    have hqn : q ≤ 12288 := hqb.2.1
    clear hqb hq
    by_cases c2 : n < 0
    · have d2 : decide (n < 0) = true := decide_eq_true c2
      have HX := Lib.hid (show r = false by rw [← HR.out]; refine isA_head ?_; simp only; rw [HMO.out]; have := HP1.out; have := HM.out; have := HO.out; intro hh; omega)
      clear c0 c1 c2 hvs
      go_enter Tryd.func52, Tryd.ntmps52
      go_upto_region 1 with (fail)
      rw [← HW.out, ← HB.out]
      go_quiet (fail)
      go_wp2
      go_ret
      exact ⟨by rw [HX.out]; rfl, below_drewN' h0 _⟩
    have d2 : decide (n < 0) = false := decide_eq_false c2
    by_cases c3 : q < n
    · have d3 : decide (q < n) = true := decide_eq_true c3
      have HX := Lib.hid (show r = false by rw [← HR.out]; refine isA_head ?_; simp only; rw [HMO.out]; have := HP1.out; have := HM.out; have := HO.out; intro hh; (have := HQ.out; omega))
      clear c0 c1 c2 c3 hvs
      go_enter Tryd.func52, Tryd.ntmps52
      go_upto_region 1 with (fail)
      rw [← HW.out, ← HB.out]
      go_quiet (fail)
      go_wp2
      go_ret
      exact ⟨by rw [HX.out]; rfl, below_drewN' h0 _⟩
    have d3 : decide (q < n) = false := decide_eq_false c3
    by_cases c4 : (m : Int) = pts
    · have d4 : ((m : Int) != pts) = false := by rw [bne_eq_false_iff_eq]; exact c4
      have HH := Lib.hid (show headA ⟨3, vx, ks, pts⟩ ⟨v, n, l⟩ = true from headA_iff.2 (by simp only; rw [HMO.out]; have := HQ.out; have := HM.out; have := HP1.out; have := HO.out; omega))
      have HC := Lib.hid (show recsA n l = r by rw [← HR.out]; unfold isA; rw [HH.out, Bool.true_and])
      have hnb : 0 ≤ n ∧ n ≤ 100000 := by omega
      have hm1 : m ≤ 100000 := by omega
      clear c0 c1 c2 c3 c4 hvs
      go_enter Tryd.func52, Tryd.ntmps52
      go_upto_region 1 with (fail)
      rw [← HW.out, ← HB.out]
      go_quiet (fail)
      go_wp2_with (fail)
      refine (deviation_any v n B m d l T r _ (HRow.out.next (below_drewN' (Below.refl _ _) _)) HM.out hm1 hU hnb HC.out).mono ?_
      rintro e w2 ⟨dv, rfl, hdv, hb2⟩
      go_wp2
      go_ret
      exact ⟨rfl, (below_drewN' h0 _).trans (hb2.mono (below_drewN' h0 _).size)⟩
    · have d4 : ((m : Int) != pts) = true := by rw [bne_iff_ne]; exact c4
      have HX := Lib.hid (show r = false by rw [← HR.out]; refine isA_head ?_; simp only; rw [HMO.out]; have := HP1.out; have := HM.out; have := HO.out; intro hh; omega)
      clear c0 c1 c2 c3 c4 hvs
      go_enter Tryd.func52, Tryd.ntmps52
      go_upto_region 1 with (fail)
      rw [← HW.out, ← HB.out]
      go_quiet (fail)
      go_wp2
      go_ret
      exact ⟨by rw [HX.out]; rfl, below_drewN' h0 _⟩
  · obtain rfl : 2 = mo := hmo
    clear hop hmo3 t3 t5 t7 t11
    by_cases c0 : v < 0
    · have d0 : decide (v < 0) = true := decide_eq_true c0
      have HX := Lib.hid (show r = false by rw [← HR.out]; refine isA_head ?_; simp only; rw [HMO.out]; have := HP1.out; have := HM.out; have := HO.out; intro hh; omega)
      clear c0
      go_enter Tryd.func52, Tryd.ntmps52
      go_upto_region 1 with (fail)
      rw [← HW.out, ← HB.out]
      go_quiet (fail)
      go_wp2
      go_ret
      exact ⟨by rw [HX.out]; rfl, below_drewN' h0 _⟩
    have d0 : decide (v < 0) = false := decide_eq_false c0
    by_cases c1 : 2 < v
    · have d1 : decide (2 < v) = true := decide_eq_true c1
      have HX := Lib.hid (show r = false by rw [← HR.out]; refine isA_head ?_; simp only; rw [HMO.out]; have := HP1.out; have := HM.out; have := HO.out; intro hh; omega)
      clear c0 c1
      go_enter Tryd.func52, Tryd.ntmps52
      go_upto_region 1 with (fail)
      rw [← HW.out, ← HB.out]
      go_quiet (fail)
      go_wp2
      go_ret
      exact ⟨by rw [HX.out]; rfl, below_drewN' h0 _⟩
    have d1 : decide (2 < v) = false := decide_eq_false c1
    obtain ⟨q, hq⟩ : ∃ q, v * pts = q := ⟨_, rfl⟩
    have hvs : v = 0 ∨ v = 1 ∨ v = 2 ∨ v = 3 := by omega
    have hqb : 0 ≤ q ∧ q ≤ 12288 ∧ (v = 0 → q = 0) ∧ (v = 1 → q = pts) ∧ (pts = 0 → q = 0) := by rcases hvs with rfl | rfl | rfl | rfl <;> omega
    have eq : IntKind.i64.wrap (v * pts) = q := by rw [hq]; exact wrap_i64' (by omega) (by omega)
    have HQ := Lib.hid hqb
    have hqn : q ≤ 12288 := hqb.2.1
    clear hqb hq
    by_cases c2 : n < 0
    · have d2 : decide (n < 0) = true := decide_eq_true c2
      have HX := Lib.hid (show r = false by rw [← HR.out]; refine isA_head ?_; simp only; rw [HMO.out]; have := HP1.out; have := HM.out; have := HO.out; intro hh; omega)
      clear c0 c1 c2 hvs
      go_enter Tryd.func52, Tryd.ntmps52
      go_upto_region 1 with (fail)
      rw [← HW.out, ← HB.out]
      go_quiet (fail)
      go_wp2
      go_ret
      exact ⟨by rw [HX.out]; rfl, below_drewN' h0 _⟩
    have d2 : decide (n < 0) = false := decide_eq_false c2
    by_cases c3 : q < n
    · have d3 : decide (q < n) = true := decide_eq_true c3
      have HX := Lib.hid (show r = false by rw [← HR.out]; refine isA_head ?_; simp only; rw [HMO.out]; have := HP1.out; have := HM.out; have := HO.out; intro hh; (have := HQ.out; omega))
      clear c0 c1 c2 c3 hvs
      go_enter Tryd.func52, Tryd.ntmps52
      go_upto_region 1 with (fail)
      rw [← HW.out, ← HB.out]
      go_quiet (fail)
      go_wp2
      go_ret
      exact ⟨by rw [HX.out]; rfl, below_drewN' h0 _⟩
    have d3 : decide (q < n) = false := decide_eq_false c3
    by_cases c4 : (m : Int) = pts
    · have d4 : ((m : Int) != pts) = false := by rw [bne_eq_false_iff_eq]; exact c4
      have HH := Lib.hid (show headA ⟨4, vx, ks, pts⟩ ⟨v, n, l⟩ = true from headA_iff.2 (by simp only; rw [HMO.out]; have := HQ.out; have := HM.out; have := HP1.out; have := HO.out; omega))
      have HC := Lib.hid (show recsA n l = r by rw [← HR.out]; unfold isA; rw [HH.out, Bool.true_and])
      have hnb : 0 ≤ n ∧ n ≤ 100000 := by omega
      have hm1 : m ≤ 100000 := by omega
      clear c0 c1 c2 c3 c4 hvs
      go_enter Tryd.func52, Tryd.ntmps52
      go_upto_region 1 with (fail)
      rw [← HW.out, ← HB.out]
      go_quiet (fail)
      go_wp2_with (fail)
      refine (deviation_any v n B m d l T r _ (HRow.out.next (below_drewN' (Below.refl _ _) _)) HM.out hm1 hU hnb HC.out).mono ?_
      rintro e w2 ⟨dv, rfl, hdv, hb2⟩
      go_wp2
      go_ret
      exact ⟨rfl, (below_drewN' h0 _).trans (hb2.mono (below_drewN' h0 _).size)⟩
    · have d4 : ((m : Int) != pts) = true := by rw [bne_iff_ne]; exact c4
      have HX := Lib.hid (show r = false by rw [← HR.out]; refine isA_head ?_; simp only; rw [HMO.out]; have := HP1.out; have := HM.out; have := HO.out; intro hh; omega)
      clear c0 c1 c2 c3 c4 hvs
      go_enter Tryd.func52, Tryd.ntmps52
      go_upto_region 1 with (fail)
      rw [← HW.out, ← HB.out]
      go_quiet (fail)
      go_wp2
      go_ret
      exact ⟨by rw [HX.out]; rfl, below_drewN' h0 _⟩
  · obtain rfl : 1 = mo := hmo
    clear hop hmo3 t3 t5 t7 t9
    by_cases c0 : v < 0
    · have d0 : decide (v < 0) = true := decide_eq_true c0
      have HX := Lib.hid (show r = false by rw [← HR.out]; refine isA_head ?_; simp only; rw [HMO.out]; have := HP1.out; have := HM.out; have := HO.out; intro hh; omega)
      clear c0
      go_enter Tryd.func52, Tryd.ntmps52
      go_upto_region 1 with (fail)
      rw [← HW.out, ← HB.out]
      go_quiet (fail)
      go_wp2
      go_ret
      exact ⟨by rw [HX.out]; rfl, below_drewN' h0 _⟩
    have d0 : decide (v < 0) = false := decide_eq_false c0
    by_cases c1 : 1 < v
    · have d1 : decide (1 < v) = true := decide_eq_true c1
      have HX := Lib.hid (show r = false by rw [← HR.out]; refine isA_head ?_; simp only; rw [HMO.out]; have := HP1.out; have := HM.out; have := HO.out; intro hh; omega)
      clear c0 c1
      go_enter Tryd.func52, Tryd.ntmps52
      go_upto_region 1 with (fail)
      rw [← HW.out, ← HB.out]
      go_quiet (fail)
      go_wp2
      go_ret
      exact ⟨by rw [HX.out]; rfl, below_drewN' h0 _⟩
    have d1 : decide (1 < v) = false := decide_eq_false c1
    obtain ⟨q, hq⟩ : ∃ q, v * pts = q := ⟨_, rfl⟩
    have hvs : v = 0 ∨ v = 1 ∨ v = 2 ∨ v = 3 := by omega
    have hqb : 0 ≤ q ∧ q ≤ 12288 ∧ (v = 0 → q = 0) ∧ (v = 1 → q = pts) ∧ (pts = 0 → q = 0) := by rcases hvs with rfl | rfl | rfl | rfl <;> omega
    have eq : IntKind.i64.wrap (v * pts) = q := by rw [hq]; exact wrap_i64' (by omega) (by omega)
    have HQ := Lib.hid hqb
    have hqn : q ≤ 12288 := hqb.2.1
    clear hqb hq
    by_cases c2 : n < 0
    · have d2 : decide (n < 0) = true := decide_eq_true c2
      have HX := Lib.hid (show r = false by rw [← HR.out]; refine isA_head ?_; simp only; rw [HMO.out]; have := HP1.out; have := HM.out; have := HO.out; intro hh; omega)
      clear c0 c1 c2 hvs
      go_enter Tryd.func52, Tryd.ntmps52
      go_upto_region 1 with (fail)
      rw [← HW.out, ← HB.out]
      go_quiet (fail)
      go_wp2
      go_ret
      exact ⟨by rw [HX.out]; rfl, below_drewN' h0 _⟩
    have d2 : decide (n < 0) = false := decide_eq_false c2
    by_cases c3 : q < n
    · have d3 : decide (q < n) = true := decide_eq_true c3
      have HX := Lib.hid (show r = false by rw [← HR.out]; refine isA_head ?_; simp only; rw [HMO.out]; have := HP1.out; have := HM.out; have := HO.out; intro hh; (have := HQ.out; omega))
      clear c0 c1 c2 c3 hvs
      go_enter Tryd.func52, Tryd.ntmps52
      go_upto_region 1 with (fail)
      rw [← HW.out, ← HB.out]
      go_quiet (fail)
      go_wp2
      go_ret
      exact ⟨by rw [HX.out]; rfl, below_drewN' h0 _⟩
    have d3 : decide (q < n) = false := decide_eq_false c3
    by_cases c4 : (m : Int) = pts
    · have d4 : ((m : Int) != pts) = false := by rw [bne_eq_false_iff_eq]; exact c4
      have HH := Lib.hid (show headA ⟨5, vx, ks, pts⟩ ⟨v, n, l⟩ = true from headA_iff.2 (by simp only; rw [HMO.out]; have := HQ.out; have := HM.out; have := HP1.out; have := HO.out; omega))
      have HC := Lib.hid (show recsA n l = r by rw [← HR.out]; unfold isA; rw [HH.out, Bool.true_and])
      have hnb : 0 ≤ n ∧ n ≤ 100000 := by omega
      have hm1 : m ≤ 100000 := by omega
      clear c0 c1 c2 c3 c4 hvs
      go_enter Tryd.func52, Tryd.ntmps52
      go_upto_region 1 with (fail)
      rw [← HW.out, ← HB.out]
      go_quiet (fail)
      go_wp2_with (fail)
      refine (deviation_any v n B m d l T r _ (HRow.out.next (below_drewN' (Below.refl _ _) _)) HM.out hm1 hU hnb HC.out).mono ?_
      rintro e w2 ⟨dv, rfl, hdv, hb2⟩
      go_wp2
      go_ret
      exact ⟨rfl, (below_drewN' h0 _).trans (hb2.mono (below_drewN' h0 _).size)⟩
    · have d4 : ((m : Int) != pts) = true := by rw [bne_iff_ne]; exact c4
      have HX := Lib.hid (show r = false by rw [← HR.out]; refine isA_head ?_; simp only; rw [HMO.out]; have := HP1.out; have := HM.out; have := HO.out; intro hh; omega)
      clear c0 c1 c2 c3 c4 hvs
      go_enter Tryd.func52, Tryd.ntmps52
      go_upto_region 1 with (fail)
      rw [← HW.out, ← HB.out]
      go_quiet (fail)
      go_wp2
      go_ret
      exact ⟨by rw [HX.out]; rfl, below_drewN' h0 _⟩
theorem errorOf_any (x : Int) (r : Int) (w : World) (hx : 0 ≤ x ∧ x ≤ 255) (hr : (if 4 ≤ x ∧ x ≤ 8 then x else 10) = r) :
    Calls Tryd.prog 57 #[.int .u8 x] w fun e w' => e = .returned (.int .i64 r) ∧ w' = w := by
  have e0 : IntKind.i64.wrap x = x := wrap_i64' (by omega) (by omega)
  by_cases c4 : x = 4
  · have HR := Lib.hid (show r = 4 by rw [← hr, c4]; rfl)
    subst c4
    clear e0 hr
    go_enter Tryd.func57, Tryd.ntmps57
    go_wp2
    go_ret
    exact ⟨by rw [HR.out]; rfl, rfl⟩
  have d4 : (x == 4) = false := by rw [beq_eq_false_iff_ne]; exact c4
  by_cases c5 : x = 5
  · have HR := Lib.hid (show r = 5 by rw [← hr, c5]; rfl)
    subst c5
    clear e0 hr
    go_enter Tryd.func57, Tryd.ntmps57
    go_wp2
    go_ret
    exact ⟨by rw [HR.out]; rfl, rfl⟩
  have d5 : (x == 5) = false := by rw [beq_eq_false_iff_ne]; exact c5
  by_cases c6 : x = 6
  · have HR := Lib.hid (show r = 6 by rw [← hr, c6]; rfl)
    subst c6
    clear e0 hr
    go_enter Tryd.func57, Tryd.ntmps57
    go_wp2
    go_ret
    exact ⟨by rw [HR.out]; rfl, rfl⟩
  have d6 : (x == 6) = false := by rw [beq_eq_false_iff_ne]; exact c6
  by_cases c7 : x = 7
  · have HR := Lib.hid (show r = 7 by rw [← hr, c7]; rfl)
    subst c7
    clear e0 hr
    go_enter Tryd.func57, Tryd.ntmps57
    go_wp2
    go_ret
    exact ⟨by rw [HR.out]; rfl, rfl⟩
  have d7 : (x == 7) = false := by rw [beq_eq_false_iff_ne]; exact c7
  by_cases c8 : x = 8
  · have HR := Lib.hid (show r = 8 by rw [← hr, c8]; rfl)
    subst c8
    clear e0 hr
    go_enter Tryd.func57, Tryd.ntmps57
    go_wp2
    go_ret
    exact ⟨by rw [HR.out]; rfl, rfl⟩
  have d8 : (x == 8) = false := by rw [beq_eq_false_iff_ne]; exact c8
  have HR := Lib.hid (show r = 10 by rw [← hr, if_neg (by omega)])
  clear hr c4 c5 c6 c7 c8
  go_enter Tryd.func57, Tryd.ntmps57
  go_wp2
  go_ret
  exact ⟨by rw [HR.out]; rfl, rfl⟩
end Go.Proofs.YtcfdpimpleniaaaDoor
namespace Go.Proofs.YtcfdpimpleniaaaDoor
open Go.RowKit
set_option maxRecDepth 100000
set_option linter.unusedVariables false
set_option linter.unusedSimpArgs false

theorem isA_split {h : Hq} {a : An} (e : isA h a = true) : (0 ≤ a.v ∧ a.v ≤ mostA h.op ∧ (a.l.length : Int) = h.pts ∧ 0 ≤ a.n ∧ a.n ≤ h.pts ∧ (a.v = 0 → a.n ≤ 0)) ∧ ∀ x ∈ a.l, x.live = 0 ∨ x.live = 1 := by
  unfold isA at e
  rw [Bool.and_eq_true] at e
  exact ⟨headA_iff.1 e.1, recsA_live e.2⟩
set_option maxHeartbeats 4000000 in
theorem codRespond_c (op vx pts : Int) (hA : Option Addr) (hn hc : Nat) (hrs : List Rg) (v k : Int) (B : Option Addr) (m d : Nat) (l : List Rc) (er : Int) (bs : List Int) (w : World) (hw : Wts w)
    (hh : RowR w (fun g => g < w.heap.size) 3 rgC hA hrs) (hhn : hn = hrs.length) (hhl : hn ≤ 9223372036854775807) (hS : S op ∧ S vx ∧ S pts) (hv : ∀ r ∈ hrs, S r.v)
    (hl : RowR w (fun g => g < w.heap.size) 2 rcC B l) (hm : m = l.length) (hml : m ≤ 9223372036854775807) (hU : UsR l) (hS2 : S v ∧ S k)
    (he : rspE ⟨op, vx, hrs.map rgK, pts⟩ (rgP hrs) ⟨v, k, l⟩ = er) (hb : (if er = 0 then rspB ⟨op, vx, hrs.map rgK, pts⟩ ⟨v, k, l⟩ else []) = bs) :
    Calls Tryd.prog 19 #[.agg #[.int .i64 op, .int .i64 vx, .slice hA hn hc, .int .i64 pts], .agg #[.int .i64 v, .int .i64 k, .slice B m d]] w (GivesB w er bs) := by
  obtain ⟨W, hW⟩ : ∃ W, W = (w.alloc (.cells #[.int .i64 op, .int .i64 vx, .slice hA hn hc, .int .i64 pts] 24)).alloc (.cells #[.int .i64 v, .int .i64 k, .slice B m d] 53) := ⟨_, rfl⟩
  obtain ⟨b, hb0⟩ : ∃ b, b = w.heap.size := ⟨_, rfl⟩
  have h0 : Below w.heap.size w W := by rw [hW]; exact ((Below.refl _ _).alloc (Nat.le_refl _) _).alloc (by simp) _
  have g0 : W.cell? ⟨b, 0, none⟩ = some (.int .i64 op) := by rw [hW, hb0]; simp [go_sem]
  have g1 : W.cell? ⟨b, 1, none⟩ = some (.int .i64 vx) := by rw [hW, hb0]; simp [go_sem]
  have g2 : W.cell? ⟨b, 2, none⟩ = some (.slice hA hn hc) := by rw [hW, hb0]; simp [go_sem]
  have g3 : W.cell? ⟨b, 3, none⟩ = some (.int .i64 pts) := by rw [hW, hb0]; simp [go_sem]
  have a0 : W.cell? ⟨b + 1, 0, none⟩ = some (.int .i64 v) := by rw [hW, hb0]; simp [go_sem]
  have a1 : W.cell? ⟨b + 1, 1, none⟩ = some (.int .i64 k) := by rw [hW, hb0]; simp [go_sem]
  have a2 : W.cell? ⟨b + 1, 2, none⟩ = some (.slice B m d) := by rw [hW, hb0]; simp [go_sem]
  obtain ⟨fe, hfe⟩ : ∃ fe, formErr ⟨op, vx, hrs.map rgK, pts⟩ (rgP hrs) = fe := ⟨_, rfl⟩
  have HFE := Lib.hid hfe
  have HHN := Lib.hid hhn
  have HM := Lib.hid hm
  have HE := Lib.hid he
  have HBB := Lib.hid hb
  have HHW := Lib.hid (hh.next h0)
  have HRow := Lib.hid (hl.next h0)
  have HWT := Lib.hid (hw.below h0)
  have HSZ := Lib.hid h0.size
  have HW := Lib.hid hW
  have HB := Lib.hid hb0
  have HCL := Lib.hid (fun (w' : World) (hb : Below W.heap.size W w') => show (w'.cell? ⟨b, 0, none⟩ = some (.int .i64 op) ∧ w'.cell? ⟨b, 1, none⟩ = some (.int .i64 vx) ∧ w'.cell? ⟨b, 2, none⟩ = some (.slice hA hn hc) ∧ w'.cell? ⟨b, 3, none⟩ = some (.int .i64 pts)) ∧ w'.cell? ⟨b + 1, 0, none⟩ = some (.int .i64 v) ∧ w'.cell? ⟨b + 1, 1, none⟩ = some (.int .i64 k) ∧ w'.cell? ⟨b + 1, 2, none⟩ = some (.slice B m d) from
    ⟨⟨(hb.cell (lt_of_cell g0)).trans g0, (hb.cell (lt_of_cell g1)).trans g1, (hb.cell (lt_of_cell g2)).trans g2, (hb.cell (lt_of_cell g3)).trans g3⟩, (hb.cell (lt_of_cell a0)).trans a0, (hb.cell (lt_of_cell a1)).trans a1, (hb.cell (lt_of_cell a2)).trans a2⟩)
  clear hW hb0 hh hl hfe he hb hhn hm hw
  go_enter Tryd.func19, Tryd.ntmps19
  go_upto_region 1 with (fail)
  rw [← HW.out, ← HB.out]
  go_wp2_with (fail)
  refine (hdrFormat_cl op vx pts hA hn hc hrs fe _ W HWT.out (HHW.out.imp fun g hg => Nat.lt_of_lt_of_le hg HSZ.out) HHN.out hhl hS hv HFE.out rfl).mono ?_
  rintro e w1 ⟨v1, rfl, hown1, hb1⟩
  clear hown1 g0 g1 g2 g3 a0 a1 a2
  by_cases hf : fe = 0
  · subst hf
    obtain ⟨hk, hpf⟩ := formErr_ok.1 HFE.out
    have HK := Lib.hid hk
    obtain ⟨q, hq⟩ : ∃ q, isA ⟨op, vx, hrs.map rgK, pts⟩ ⟨v, k, l⟩ = q := ⟨_, rfl⟩
    have HQ := Lib.hid hq
    obtain ⟨⟨j0, j1, j2, j3⟩, j4, j5, j6⟩ := HCL.out _ hb1
    clear hq hk hpf
    go_wp2_with (fail)
    refine (isAnswer_any op vx pts (.slice hA hn hc) (hrs.map rgK) v k B m d l _ q w1 (HWT.out.below hb1) HK.out (HRow.out.next hb1) HM.out hml hU HQ.out).mono ?_
    rintro e w2 ⟨rfl, hb2⟩
    have hbw2 := hb1.trans (hb2.mono hb1.size)
    clear j0 j1 j2 j3 j4 j5 j6 hb2 hb1
    have HEV := Lib.hid (show rspE ⟨op, vx, hrs.map rgK, pts⟩ (rgP hrs) ⟨v, k, l⟩ = if q then 0 else 10 by unfold rspE; rw [HFE.out, if_neg (by simp), HQ.out])
    cases q with
    | false =>
      have HX := Lib.hid (show er = 10 ∧ bs = [] by
        have h1 : er = 10 := by rw [← HE.out, HEV.out]; rfl
        exact ⟨h1, by rw [← HBB.out, if_neg (by omega)]⟩)
      go_wp2
      exact bodyPost_ret (v := .tuple #[.slice none 0 0, .int .i64 10]) (by simp [results, Tryd.results19, go_sem]) rfl (by rw [HX.out.1]; exact givesB_bad (by decide) HX.out.2 (h0.trans (hbw2.mono h0.size)))
    | true =>
      have HXE := Lib.hid (show er = 0 by rw [← HE.out, HEV.out]; rfl)
      obtain ⟨⟨p1, p2, p3, p4, p5, p6⟩, plive⟩ := isA_split HQ.out
      simp only at p1 p2 p3 p4 p5 p6 plive
      have hmo : mostA op ≤ 3 := by unfold mostA; split <;> (try split) <;> omega
      have hv3 : 0 ≤ v ∧ v ≤ 3 := by omega
      have hp4096 : pts ≤ 4096 := by
        by_cases e5 : op = 5
        · exact (HK.out.pts5 e5).2
        · have := HK.out.pts0 e5; simp only at this; omega
      have hl4096 : l.length ≤ 4096 := by omega
      have hkb : 0 ≤ k ∧ k ≤ 4096 := by omega
      have HLV := Lib.hid (show ∀ r ∈ l, (r.live = 0 ∨ r.live = 1) ∧ U r.id from fun r hr => ⟨plive r hr, (hU r hr).2⟩)
      have HP3 := Lib.hid p3
      have e1 : IntKind.u64.wrap v = v := wrap_u64' (by omega) (by omega)
      have hvU : U v := ⟨by omega, by omega⟩
      have HD1 := Lib.hid (show digs 1 v = [v] by show [v % 256] = [v]; rw [show v % 256 = v by omega])
      obtain ⟨⟨j0, j1, j2, j3⟩, j4, j5, j6⟩ := HCL.out _ hbw2
      obtain ⟨w3, hw3⟩ : ∃ w3, w3 = w2.alloc (.cells #[.int .u8 0] 5) := ⟨_, rfl⟩
      obtain ⟨bl, hbl⟩ : ∃ bl, bl = w2.heap.size := ⟨_, rfl⟩
      have hb3 : Below w2.heap.size w2 w3 := by rw [hw3]; exact (Below.refl _ _).alloc (Nat.le_refl _) _
      have hi3 : EncI W (.slice (some ⟨bl, 0, none⟩) 1 1) [0] w3 := by
        refine ⟨?_, hbw2.trans (hb3.mono hbw2.size)⟩
        rw [hw3, hbl]
        exact own_lit [0] (by simp) W.heap.size hbw2.size
      have j4' : (w2.alloc (.cells #[.int .u8 0] 5)).cell? ⟨b + 1, 0, none⟩ = some (.int .i64 v) := by rw [← hw3]; exact (hb3.cell (lt_of_cell j4)).trans j4
      have HW3 := Lib.hid hw3
      have HBL := Lib.hid hbl
      clear p1 p2 p3 p4 p5 p6 plive hmo hw3 hbl hb3
      go_wp2_with (fail)
      rw [← HW3.out, ← HBL.out]
      refine (appNumber_any W.heap.size _ [0] v 1 _ w3 hi3.row (by simp) hi3.below.size hvU (by omega) rfl).mono ?_
      rintro e w4 ⟨v4, rfl, hg4⟩
      rw [HD1.out] at hg4
      have hi4 := hi3.grow hg4
      clear j0 j1 j2 j3 j4 j5 j6 j4' hg4 hi3
      obtain ⟨⟨j0, j1, j2, j3⟩, j4, j5, j6⟩ := HCL.out _ hi4.below
      by_cases h5 : op = 5
      · subst h5
        have HFS := Lib.hid (show rspB ⟨5, vx, hrs.map rgK, pts⟩ ⟨v, k, l⟩ = [0] ++ [v] ++ [k % 256, k / 256] ++ l.flatMap rcB by unfold rspB; rw [if_pos rfl]; simp)
        have e2 : IntKind.u64.wrap k = k := wrap_u64' (by omega) (by omega)
        have hkU : U k := ⟨by omega, by omega⟩
        have HD2 := Lib.hid (show digs 2 k = [k % 256, k / 256] by show [k % 256, k / 256 % 256] = _; rw [show k / 256 % 256 = k / 256 by omega])
        obtain ⟨xs, hxs⟩ : ∃ xs : List Int, xs = [0] ++ [v] := ⟨_, rfl⟩
        rw [← hxs] at hi4 HFS
        have hxl : xs.length ≤ 2 := by rw [hxs]; simp
        clear hxs
        go_wp2_with (fail)
        refine (appNumber_any W.heap.size _ xs k 2 _ w4 hi4.row (by omega) hi4.below.size hkU (by omega) rfl).mono ?_
        rintro e w5 ⟨v5, rfl, hg5⟩
        rw [HD2.out] at hg5
        have hi5 := hi4.grow hg5
        clear j0 j1 j2 j3 j4 j5 j6 hg5 hi4
        obtain ⟨⟨j0, j1, j2, j3⟩, j4, j5, j6⟩ := HCL.out _ hi5.below
        obtain ⟨ys, hys⟩ : ∃ ys : List Int, ys = xs ++ [k % 256, k / 256] := ⟨_, rfl⟩
        rw [← hys] at hi5 HFS
        have hyl : ys.length + 9 * l.length ≤ 700000 := by rw [hys, List.length_append]; simp; omega
        clear hys
        go_wp2_with (fail)
        refine (appRecords_any W.heap.size _ ys B m d l w5 hi5.row hyl hi5.below.size ((HRow.out.imp fun g hg => Nat.lt_of_lt_of_le hg HSZ.out).next hi5.below) HM.out HLV.out).mono ?_
        rintro e w6 ⟨v6, rfl, hg6⟩
        have hi6 := hi5.grow hg6
        have HX := Lib.hid (show bs = ys ++ l.flatMap rcB by rw [← HBB.out, if_pos HXE.out, HFS.out])
        clear j0 j1 j2 j3 j4 j5 j6 hg6 hi5
        go_wp2
        exact bodyPost_ret (v := .tuple #[v6, .int .i64 0]) (by simp [results, Tryd.results19, go_sem]) rfl (by rw [HXE.out, HX.out]; exact EncI.gives h0 hi6 rfl)
      · have hle : l = [] := by
          have h1 := HK.out.pts0 h5
          simp only at h1
          have h2 := HP3.out
          exact List.eq_nil_of_length_eq_zero (by omega)
        have HX := Lib.hid (show bs = [0] ++ [v] by
          rw [← HBB.out, if_pos HXE.out]
          unfold rspB
          rw [if_neg (by simpa using h5), hle]
          rfl)
        have d5 : (op == 5) = false := by rw [beq_eq_false_iff_ne]; exact h5
        clear h5 hle
        go_wp2
        exact bodyPost_ret (v := .tuple #[v4, .int .i64 0]) (by simp [results, Tryd.results19, go_sem]) rfl (by rw [HXE.out, HX.out]; exact EncI.gives h0 hi4 rfl)
  · have HX := Lib.hid (show er = fe ∧ bs = [] by
      have h1 : er = fe := by rw [← HE.out]; unfold rspE; rw [HFE.out, if_pos hf]
      exact ⟨h1, by rw [← HBB.out, if_neg (by omega)]⟩)
    have d1 : (fe != 0) = true := by rw [bne_iff_ne]; exact hf
    have HF := Lib.hid hf
    clear hf
    go_wp2
    exact bodyPost_ret (v := .tuple #[.slice none 0 0, .int .i64 fe]) (by simp [results, Tryd.results19, go_sem]) rfl (by rw [HX.out.1]; exact givesB_bad HF.out HX.out.2 (h0.trans (hb1.mono h0.size)))
end Go.Proofs.YtcfdpimpleniaaaDoor
namespace Go.Proofs.YtcfdpimpleniaaaDoor
open Go.RowKit
set_option maxRecDepth 100000
set_option linter.unusedVariables false
set_option linter.unusedSimpArgs false

section
variable {α : Type} {C : α → List Value} {k : Nat} {te : TypeId}
/-- A row v of one's own has become v', with the elements l. -/
structure GrewC (te : TypeId) (k : Nat) (C : α → List Value) (w : World) (base : Nat) (v : Value) (l : List α) (v' : Value) (w' : World) : Prop where
  row : w'.ownsRow base te k v' l.length (l.flatMap C)
  moved : Moved (fun b => v.ownBlock = some b) w w'
  own : ∀ b, v'.ownBlock = some b → v.ownBlock = some b ∨ w.heap.size ≤ b
theorem GrewC.ahead {w w1 w2 : World} {base : Nat} {v v2 : Value} {l : List α} (h : Below w.heap.size w w1) (g : GrewC te k C w1 base v l v2 w2) : GrewC te k C w base v l v2 w2 :=
  ⟨g.row, ⟨g.moved.os.trans h.os, g.moved.tape.trans h.tape, g.moved.output.trans h.output, Nat.le_trans h.size g.moved.size, fun b hb hn => (g.moved.block b (Nat.lt_of_lt_of_le hb h.size) hn).trans (h.block b hb)⟩,
    fun b hb => (g.own b hb).imp id (fun e => Nat.le_trans h.size e)⟩
theorem GrewC.behind {w w1 w2 : World} {base : Nat} {v v1 : Value} {l : List α} (h : GrewC te k C w base v l v1 w1) (g : Below w1.heap.size w1 w2) : GrewC te k C w base v l v1 w2 :=
  ⟨row_keep h.row fun b hb => g.block b (World.ownsRow.lt h.row b hb).2, h.moved.trans (.of_below g), h.own⟩
theorem GrewC.below {w w' : World} {base B : Nat} {v v' : Value} {l : List α} (h : GrewC te k C w base v l v' w') (hv : ∀ b, v.ownBlock = some b → B ≤ b) (hB : B ≤ w.heap.size) : Below B w w' :=
  ⟨h.moved.os, h.moved.tape, h.moved.output, h.moved.size, fun k hk => h.moved.block k (by omega) (fun e => by have := hv k e; omega)⟩
theorem GrewC.dst {w : World} {base : Nat} {v : Value} {l : List α} : DStab (fun v' w' => GrewC te k C w base v l v' w') := fun v' w1 w2 h hb => h.behind hb
/-- append of one literal element. -/
theorem op_grow {P : Program} {t : TypeId} (E : ElemT P t te k C) {o : Oper} {a : Act} {K : Act → World → Prop} {Q : Exit → Act → World → Prop} {w : World} (s x : Operand)
    (ho : o.op = .call { callee := .builtin .append, args := #[s, x], argTypes := #[t, t] }) (base : Nat) (v : Value) (ys : List α) (hs : a.eval s = v) (hown : w.ownsRow base te k v ys.length (ys.flatMap C))
    (ad : Addr) (y : α) (T : Nat → Prop) (hx : a.eval x = .slice (some ad) 1 1) (hl : RowR w T k C (some ad) [y]) (h1 : ys.length + 1 ≤ 1000000) (hbase : base ≤ w.heap.size)
    (h : ∀ v' w', GrewC te k C w base v (ys ++ [y]) v' w' → K (a.put o.dst v') w') : o.wp P a w K Q :=
  op_app_row E s x ho base v ys.length (ys.flatMap C) hs hown (some ad) 1 1 [y] T hx rfl hl (fun h => by cases h) h1 hbase fun v' w' h2 h3 h4 =>
    h v' w' ⟨by rw [List.length_append, List.flatMap_append]; exact h2, ⟨h3.os, h3.tape, h3.output, h3.size, fun g hg hn => h3.block g hg (fun e => hn e.symm)⟩, fun b hb => by
      rcases h4 with h4 | h4
      · exact .inl (h4 ▸ hb)
      · rw [h4] at hb; injection hb with hb; exact .inr (by omega)⟩
end
/-- A block of three cells. -/
def BoxT (w : World) (b : Nat) (x y z : Value) (t : TypeId) : Prop := w.heap[b]? = some (.cells #[x, y, z] t (0, 0))
theorem BoxT.at_ {w : World} {b : Nat} {x y z : Value} {t : TypeId} (h : BoxT w b x y z t) : (w.cell? ⟨b, 0, none⟩ = some x ∧ w.cell? ⟨b, 1, none⟩ = some y ∧ w.cell? ⟨b, 2, none⟩ = some z) ∧
    (w.frozen? ⟨b, 0, none⟩ = false ∧ w.frozen? ⟨b, 1, none⟩ = false ∧ w.frozen? ⟨b, 2, none⟩ = false) := by
  unfold BoxT at h
  refine ⟨⟨?_, ?_, ?_⟩, ?_, ?_, ?_⟩ <;> simp [World.cell?, World.frozen?, h]
theorem BoxT.lt {w : World} {b : Nat} {x y z : Value} {t : TypeId} (h : BoxT w b x y z t) : b < w.heap.size := (Array.getElem?_eq_some_iff.1 h).1
theorem BoxT.same {w w' : World} {b : Nat} {x y z : Value} {t : TypeId} (h : BoxT w b x y z t) (e : w'.heap[b]? = w.heap[b]?) : BoxT w' b x y z t := e.trans h
theorem BoxT.set {w : World} {b : Nat} {x y z : Value} {t : TypeId} (h : BoxT w b x y z t) (v : Value) :
    BoxT (w.setCell ⟨b, 0, none⟩ v) b v y z t ∧ BoxT (w.setCell ⟨b, 1, none⟩ v) b x v z t ∧ BoxT (w.setCell ⟨b, 2, none⟩ v) b x y v t := by
  unfold BoxT at h ⊢
  refine ⟨?_, ?_, ?_⟩ <;> (show (w.heap.modify b _)[b]? = _; rw [Array.getElem?_modify, if_pos rfl, h]; rfl)
theorem moved_one {W : World} {b o : Nat} {v : Value} : Moved (fun g => g = b) W (W.setCell ⟨b, o, none⟩ v) :=
  ⟨rfl, rfl, rfl, by simp, fun g _ hS => Below.heap_setCell _ _ _ _ hS⟩
theorem BoxT.put3 {w Wf : World} {b : Nat} {x y z x0 y0 z0 : Value} {t : TypeId} (h : BoxT w b x0 y0 z0 t) (hWf : ((w.setCell ⟨b, 0, none⟩ x).setCell ⟨b, 1, none⟩ y).setCell ⟨b, 2, none⟩ z = Wf) : BoxT Wf b x y z t ∧ Moved (fun g => g = b) w Wf := by
  have h3 := (((h.set x).1.set y).2.1.set z).2.2
  rw [hWf] at h3
  exact ⟨h3, hWf ▸ (moved_one.trans moved_one).trans moved_one⟩
theorem BoxT.dst {b : Nat} {x y z : Value} {t : TypeId} : DStab (fun (_ : Value) w => BoxT w b x y z t) := fun _ w w' h hb => h.same (hb.block b h.lt)
theorem moved_rows {w W W' : World} {b : Nat} {v : Value} (h : Moved (fun g => g = b) w W) (k : Moved (fun g => v.ownBlock = some g) W W') (hv : ∀ g, v.ownBlock = some g → w.heap.size ≤ g) : Moved (fun g => g = b) w W' :=
  ⟨k.os.trans h.os, k.tape.trans h.tape, k.output.trans h.output, Nat.le_trans h.size k.size, fun g hg hn => (k.block g (Nat.lt_of_lt_of_le hg h.size) (fun e => by have := hv g e; omega)).trans (h.block g hg hn)⟩
/-- All three cells are stored. -/
theorem fin3 {w W Wf : World} {b B : Nat} {x y z x0 y0 z0 : Value} {t : TypeId} (h : BoxT W b x0 y0 z0 t) (hb : Below B w W) (hB : B ≤ b)
    (hWf : ((W.setCell ⟨b, 0, none⟩ x).setCell ⟨b, 1, none⟩ y).setCell ⟨b, 2, none⟩ z = Wf) :
    Below B w Wf ∧ (∀ g, g ≠ b → Wf.heap[g]? = W.heap[g]?) ∧ Wf.cell? ⟨b, 0, none⟩ = some x ∧ Wf.cell? ⟨b, 1, none⟩ = some y ∧ Wf.cell? ⟨b, 2, none⟩ = some z := by
  have h3 := (((h.set x).1.set y).2.1.set z).2.2
  rw [hWf] at h3
  refine ⟨?_, fun g hg => ?_, h3.at_.1⟩
  · subst hWf
    exact ((hb.setCell (p := ⟨b, 0, none⟩) hB x).setCell (p := ⟨b, 1, none⟩) hB y).setCell (p := ⟨b, 2, none⟩) hB z
  · subst hWf
    rw [Below.heap_setCell _ _ _ _ hg, Below.heap_setCell _ _ _ _ hg, Below.heap_setCell _ _ _ _ hg]
end Go.Proofs.YtcfdpimpleniaaaDoor
namespace Go.Proofs.YtcfdpimpleniaaaDoor
open Go.RowKit
set_option maxRecDepth 100000
set_option linter.unusedVariables false
set_option linter.unusedSimpArgs false

section
variable {α : Type} {C : α → List Value}
theorem flat_set2 {f g : α → Value} (hC : ∀ x, C x = [f x, g x]) (x : α) : ∀ (l : List α) (k : Nat), (l.set k x).flatMap C = ((l.flatMap C).set (k * 2) (f x)).set (k * 2 + 1) (g x)
  | [], k => by simp
  | y :: l, 0 => by simp [hC]
  | y :: l, k + 1 => by
    rw [List.set_cons_succ, List.flatMap_cons, flat_set2 hC x l k, List.flatMap_cons, show (k + 1) * 2 = k * 2 + 2 by omega]
    simp [hC]
theorem flat_set3 {f g h : α → Value} (hC : ∀ x, C x = [f x, g x, h x]) (x : α) : ∀ (l : List α) (k : Nat), (l.set k x).flatMap C = (((l.flatMap C).set (k * 3) (f x)).set (k * 3 + 1) (g x)).set (k * 3 + 2) (h x)
  | [], k => by simp
  | y :: l, 0 => by simp [hC]
  | y :: l, k + 1 => by
    rw [List.set_cons_succ, List.flatMap_cons, flat_set3 hC x l k, List.flatMap_cons, show (k + 1) * 3 = k * 3 + 3 by omega]
    simp [hC]
theorem own_st2 {t : TypeId} {f g : α → Value} (hC : ∀ x, C x = [f x, g x]) {w : World} {base b c n : Nat} {l : List α} (h : w.ownsRow base t 2 (.slice (some ⟨b, 0, none⟩) n c) n (l.flatMap C)) (k : Nat) (x : α) :
    ((w.setCell ⟨b, k * 2, none⟩ (f x)).setCell ⟨b, k * 2 + 1, none⟩ (g x)).ownsRow base t 2 (.slice (some ⟨b, 0, none⟩) n c) n ((l.set k x).flatMap C) := by
  rw [flat_set2 hC]
  exact (World.ownsRow.stored (World.ownsRow.stored h _ _).1 _ _).1
theorem own_st3 {t : TypeId} {f g h' : α → Value} (hC : ∀ x, C x = [f x, g x, h' x]) {w : World} {base b c n : Nat} {l : List α} (h : w.ownsRow base t 3 (.slice (some ⟨b, 0, none⟩) n c) n (l.flatMap C)) (k : Nat) (x : α) :
    (((w.setCell ⟨b, k * 3, none⟩ (f x)).setCell ⟨b, k * 3 + 1, none⟩ (g x)).setCell ⟨b, k * 3 + 2, none⟩ (h' x)).ownsRow base t 3 (.slice (some ⟨b, 0, none⟩) n c) n ((l.set k x).flatMap C) := by
  rw [flat_set3 hC]
  exact (World.ownsRow.stored (World.ownsRow.stored (World.ownsRow.stored h _ _).1 _ _).1 _ _).1
theorem own_cell {t : TypeId} {s : Nat} (hC : ∀ x, (C x).length = s) {w : World} {base b c n : Nat} {l : List α} (hn : l.length = n) (h : w.ownsRow base t s (.slice (some ⟨b, 0, none⟩) n c) n (l.flatMap C)) {k q : Nat} (hk : k < n) (hq : q < s) :
    ∃ u, w.cell? ⟨b, k * s + q, none⟩ = some u ∧ w.frozen? ⟨b, k * s + q, none⟩ = false := by
  have hkl : k < l.length := by omega
  have hlt : k * s + q < n * s := by
    have := Nat.mul_le_mul_right s (show k + 1 ≤ n by omega)
    rw [Nat.succ_mul] at this
    omega
  have h1 := flatC_at (C := C) (k := s) hC l k _ (List.getElem?_eq_getElem hkl) q hq
  have hql : q < (C l[k]).length := by rw [hC]; exact hq
  rw [List.getElem?_eq_getElem hql] at h1
  exact ⟨_, (World.ownsRow.cellAt h _ hlt).trans h1, World.ownsRow.frozenAt h _⟩
theorem made_three (hC : ∀ x, (C x).length = 3) (z0 : α) (u v t : Value) (hz : C z0 = [u, v, t]) (N : Nat) : (madeCells #[u, v, t] (N * 3)).toList = (List.replicate N z0).flatMap C := by
  apply List.ext_getElem?
  intro j
  have hl : ((List.replicate N z0).flatMap C).length = N * 3 := by rw [flatC_len hC, List.length_replicate]
  by_cases hj : j < N * 3
  · have hr := flatC_at hC (List.replicate N z0) (j / 3) z0 (by rw [List.getElem?_replicate, if_pos (by omega)]) (j % 3) (Nat.mod_lt _ (by decide))
    rw [show j / 3 * 3 + j % 3 = j by omega, hz] at hr
    rw [hr]
    have h2 : j % 3 = 0 ∨ j % 3 = 1 ∨ j % 3 = 2 := by omega
    rcases h2 with h2 | h2 | h2 <;> simp [madeCells, hj, h2]
  · rw [List.getElem?_eq_none (by simp [madeCells]; omega), List.getElem?_eq_none (by omega)]
theorem made_pair (hC : ∀ x, (C x).length = 2) (z0 : α) (u v : Value) (hz : C z0 = [u, v]) (N : Nat) : (madeCells #[u, v] (N * 2)).toList = (List.replicate N z0).flatMap C := by
  apply List.ext_getElem?
  intro j
  have hl : ((List.replicate N z0).flatMap C).length = N * 2 := by rw [flatC_len hC, List.length_replicate]
  by_cases hj : j < N * 2
  · have hr := flatC_at hC (List.replicate N z0) (j / 2) z0 (by rw [List.getElem?_replicate, if_pos (by omega)]) (j % 2) (Nat.mod_lt _ (by decide))
    rw [show j / 2 * 2 + j % 2 = j by omega, hz] at hr
    rw [hr]
    have h2 : j % 2 = 0 ∨ j % 2 = 1 := by omega
    rcases h2 with h2 | h2 <;> simp [madeCells, hj, h2]
  · rw [List.getElem?_eq_none (by simp [madeCells]; omega), List.getElem?_eq_none (by omega)]
theorem own_rowAt {t : TypeId} {s : Nat} (hC : ∀ x, (C x).length = s) {w : World} {base b c n : Nat} {l : List α} (hn : n = l.length) (h : w.ownsRow base t s (.slice (some ⟨b, 0, none⟩) n c) n (l.flatMap C)) : RowR w (fun q => q = b) s C (some ⟨b, 0, none⟩) l := by
  subst hn
  obtain ⟨A, c', e, _, _, h2, _⟩ := own_rowR hC h
  injection e with e
  rw [← e] at h2
  exact h2.imp fun q hq => by simp [Value.ownBlock] at hq; exact hq.symm
/-- What a loop has made of a row after k rounds. -/
def mixL (f : Nat → α) (s n k : Nat) (z : α) : List α := listAt f 0 k s ++ List.replicate (n - k) z
theorem mixL_len {f : Nat → α} {s n k : Nat} {z : α} (h : k ≤ n) : (mixL f s n k z).length = n := by unfold mixL; rw [List.length_append, listAt_len, List.length_replicate]; omega
theorem mixL_step {f : Nat → α} {s n k : Nat} {z : α} (h : k < n) : (mixL f s n k z).set k (f (k * s)) = mixL f s n (k + 1) z := by
  unfold mixL
  have hl := listAt_len f 0 k s
  rw [List.set_append_right _ _ (by omega), hl, Nat.sub_self, show n - k = n - (k + 1) + 1 by omega, List.replicate_succ, List.set_cons_zero, listAt_succ, Nat.zero_add]
  simp
theorem mixL_zero {f : Nat → α} {s n : Nat} {z : α} : mixL f s n 0 z = List.replicate n z := by unfold mixL; rfl
theorem mixL_all {f : Nat → α} {s n : Nat} {z : α} : mixL f s n n z = listAt f 0 n s := by unfold mixL; simp
end
theorem moved_self {T : Nat → Prop} {w W W' : World} {g : Nat} (h : Moved T w W) (k : Moved (fun b => b = g) W W') (hg : w.heap.size ≤ g) : Moved T w W' :=
  ⟨k.os.trans h.os, k.tape.trans h.tape, k.output.trans h.output, Nat.le_trans h.size k.size, fun b hb hn => (k.block b (Nat.lt_of_lt_of_le hb h.size) (fun e => by omega)).trans (h.block b hb hn)⟩
theorem moved_at {W : World} {b o : Nat} {v : Value} : Moved (fun g => g = b) W (W.setCell ⟨b, o, none⟩ v) :=
  ⟨rfl, rfl, rfl, by simp, fun g _ hS => Below.heap_setCell _ _ _ _ hS⟩
end Go.Proofs.YtcfdpimpleniaaaDoor
namespace Go.Proofs.YtcfdpimpleniaaaDoor
open Go.RowKit Go.Maps
set_option maxRecDepth 100000
set_option linter.unusedVariables false
set_option linter.unusedSimpArgs false

theorem lens_h {w : World} (hw : Wts w) : w.cell? ⟨1, 2, none⟩ = some (.int .i64 3) ∧ w.cell? ⟨1, 3, none⟩ = some (.int .i64 2) ∧ w.cell? ⟨1, 4, none⟩ = some (.int .i64 4) ∧ w.cell? ⟨1, 5, none⟩ = some (.int .i64 2) ∧ w.cell? ⟨1, 6, none⟩ = some (.int .i64 1) ∧ w.cell? ⟨1, 7, none⟩ = some (.int .i64 2) ∧ w.cell? ⟨1, 8, none⟩ = some (.int .i64 1) ∧ w.cell? ⟨1, 9, none⟩ = some (.int .i64 2) ∧ w.cell? ⟨1, 10, none⟩ = some (.int .i64 0) ∧ w.cell? ⟨1, 11, none⟩ = some (.int .i64 4) := by
  have h := hw.2 (1, [.int .i64 0, .int .i64 0, .int .i64 3, .int .i64 2, .int .i64 4, .int .i64 2, .int .i64 1, .int .i64 2, .int .i64 1, .int .i64 2, .int .i64 0, .int .i64 4]) (by simp [seatTabs])
  exact ⟨h 2 _ rfl, h 3 _ rfl, h 4 _ rfl, h 5 _ rfl, h 6 _ rfl, h 7 _ rfl, h 8 _ rfl, h 9 _ rfl, h 10 _ rfl, h 11 _ rfl⟩
set_option maxHeartbeats 1000000 in
theorem hdrResponse_cl (op vs pts : Int) (A : Option Addr) (n c : Nat) (rs : List Rg) (r : Int) (w : World) (hw : Wts w) (ha : RowR w (fun g => g < w.heap.size) 3 rgC A rs) (hn : n = rs.length) (hl : n ≤ 9223372036854775807) (hS : S op ∧ S vs ∧ S pts) (hv : ∀ r ∈ rs, S r.v) (hr : (if formErr ⟨op, vs, rs.map rgK, pts⟩ (rgP rs) = 0 then rspL ⟨op, vs, rs.map rgK, pts⟩ else 0) = r) :
    Calls Tryd.prog 58 #[.agg #[.int .i64 op, .int .i64 vs, .slice A n c, .int .i64 pts]] w fun e w' => e = .returned (.int .i64 r) ∧ Below w.heap.size w w' := by
  obtain ⟨W0, hW0⟩ : ∃ W, W = w.alloc (.cells #[.int .i64 op, .int .i64 vs, .slice A n c, .int .i64 pts] 24) := ⟨_, rfl⟩
  obtain ⟨q0, _, g0, g1, g2, g3⟩ := box4 hW0
  obtain ⟨bg, hbg⟩ : ∃ b, b = w.heap.size := ⟨_, rfl⟩
  rw [← hbg] at g0 g1 g2 g3
  have HW0 := Lib.hid hW0
  have Hbg := Lib.hid hbg
  have HN := Lib.hid hn
  have ha0 := ha.next q0
  have hw0 := hw.below q0
  obtain ⟨er, her⟩ : ∃ er, formErr ⟨op, vs, rs.map rgK, pts⟩ (rgP rs) = er := ⟨_, rfl⟩
  rw [her] at hr
  have HR := Lib.hid hr
  have HE0 := Lib.hid her
  clear hW0 hbg hr hn ha her hw
  go_enter Tryd.func58, Tryd.ntmps58
  go_upto_region 1 with (fail)
  rw [← HW0.out, ← Hbg.out]
  go_wp2_with (fail)
  refine (check_h op vs pts A n c rs er _ _ ha0 hv HN.out hl HE0.out).mono ?_
  rintro e w1 ⟨rfl, h1⟩
  have k0 := (h1.cell (p := ⟨bg, 0, none⟩) (lt_of_cell g0)).trans g0
  have k1 := (h1.cell (p := ⟨bg, 1, none⟩) (lt_of_cell g1)).trans g1
  have k2 := (h1.cell (p := ⟨bg, 2, none⟩) (lt_of_cell g2)).trans g2
  have k3 := (h1.cell (p := ⟨bg, 3, none⟩) (lt_of_cell g3)).trans g3
  have q1 := q0.trans (h1.mono q0.size)
  have ha1 := ha0.next h1
  have hw1 := hw0.below h1
  clear g0 g1 g2 g3 ha0 hw0
  by_cases e0 : er = 0
  · subst e0
    obtain ⟨hk, _⟩ := formErr_ok.1 HE0.out
    have hop := hk.op
    simp only at hop
    have HK := Lib.hid hk
    have hop2 : op = 1 ∨ op = 2 ∨ op = 3 ∨ op = 4 ∨ op = 5 := by omega
    replace HR := Lib.hid (show rspL ⟨op, vs, rs.map rgK, pts⟩ = r by rw [← HR.out, if_pos rfl])
    clear hk
    obtain ⟨t2, t3, t4, t5, t6, t7, t8, t9, t10, t11⟩ := lens_h hw1
    rcases hop2 with rfl | rfl | rfl | rfl | rfl
    · obtain rfl : pts = 0 := HK.out.pts0 (show ¬ ((1 : Int) = 5) by decide)
      have HX := Lib.hid (show r = 2 by rw [← HR.out]; rfl)
      clear ha1
      go_wp2
      go_quiet (fail)
      go_wp2
      go_ret
      exact ⟨by rw [HX.out]; rfl, below_drewN' q1 _⟩
    · obtain rfl : pts = 0 := HK.out.pts0 (show ¬ ((2 : Int) = 5) by decide)
      have HX := Lib.hid (show r = 2 by rw [← HR.out]; rfl)
      clear ha1
      go_wp2
      go_quiet (fail)
      go_wp2
      go_ret
      exact ⟨by rw [HX.out]; rfl, below_drewN' q1 _⟩
    · obtain rfl : pts = 0 := HK.out.pts0 (show ¬ ((3 : Int) = 5) by decide)
      have HX := Lib.hid (show r = 2 by rw [← HR.out]; rfl)
      clear ha1
      go_wp2
      go_quiet (fail)
      go_wp2
      go_ret
      exact ⟨by rw [HX.out]; rfl, below_drewN' q1 _⟩
    · obtain rfl : pts = 0 := HK.out.pts0 (show ¬ ((4 : Int) = 5) by decide)
      have HX := Lib.hid (show r = 2 by rw [← HR.out]; rfl)
      clear ha1
      go_wp2
      go_quiet (fail)
      go_wp2
      go_ret
      exact ⟨by rw [HX.out]; rfl, below_drewN' q1 _⟩
    · have hp := HK.out.pts5 rfl
      simp only at hp
      have HX := Lib.hid (show r = 4 + pts * 9 by rw [← HR.out]; unfold rspL; rw [if_pos rfl]; show 4 + 9 * pts = _; omega)
      clear ha1
      go_wp2
      go_quiet (fail)
      go_wp2
      go_ret
      exact ⟨by rw [HX.out]; rfl, below_drewN' q1 _⟩
  · have HX := Lib.hid (show r = 0 by rw [← HR.out, if_neg e0])
    have d0 : (er != 0) = true := by rw [bne_iff_ne]; exact e0
    clear e0
    go_wp2
    go_ret
    exact ⟨by rw [HX.out]; rfl, q1⟩
/-- The loop of Payload. -/
def PayRel (w W : World) (x0 : Int) (rs : List Rg) (m i : Value) (wr : World) : Prop := ∃ k : Nat, i = .int .i64 k ∧ k ≤ rs.length ∧ m = .int .i64 (x0 + ptsK ((rs.take k).map rgK)) ∧ Below W.heap.size W wr
set_option maxHeartbeats 4000000 in
theorem hdrPayload_cl (op vs pts : Int) (A : Option Addr) (n c : Nat) (rs : List Rg) (r : Int) (w : World) (hw : Wts w) (ha : RowR w (fun g => g < w.heap.size) 3 rgC A rs) (hn : n = rs.length) (hl : n ≤ 9223372036854775807) (hS : S op ∧ S vs ∧ S pts) (hv : ∀ r ∈ rs, S r.v) (hr : (if formErr ⟨op, vs, rs.map rgK, pts⟩ (rgP rs) = 0 then payL ⟨op, vs, rs.map rgK, pts⟩ else 0) = r) :
    Calls Tryd.prog 66 #[.agg #[.int .i64 op, .int .i64 vs, .slice A n c, .int .i64 pts]] w fun e w' => e = .returned (.int .i64 r) ∧ Below w.heap.size w w' := by
  obtain ⟨W0, hW0⟩ : ∃ W, W = w.alloc (.cells #[.int .i64 op, .int .i64 vs, .slice A n c, .int .i64 pts] 24) := ⟨_, rfl⟩
  obtain ⟨q0, _, g0, g1, g2, g3⟩ := box4 hW0
  obtain ⟨bg, hbg⟩ : ∃ b, b = w.heap.size := ⟨_, rfl⟩
  rw [← hbg] at g0 g1 g2 g3
  have HW0 := Lib.hid hW0
  have Hbg := Lib.hid hbg
  have HN := Lib.hid hn
  have ha0 := ha.next q0
  have hw0 := hw.below q0
  obtain ⟨er, her⟩ : ∃ er, formErr ⟨op, vs, rs.map rgK, pts⟩ (rgP rs) = er := ⟨_, rfl⟩
  rw [her] at hr
  have HR := Lib.hid hr
  have HE0 := Lib.hid her
  clear hW0 hbg hr hn ha her hw
  go_enter Tryd.func66, Tryd.ntmps66
  go_upto_region 1 with (fail)
  rw [← HW0.out, ← Hbg.out]
  go_wp2_with (fail)
  refine (check_h op vs pts A n c rs er _ _ ha0 hv HN.out hl HE0.out).mono ?_
  rintro e w1 ⟨rfl, h1⟩
  have k0 := (h1.cell (p := ⟨bg, 0, none⟩) (lt_of_cell g0)).trans g0
  have k1 := (h1.cell (p := ⟨bg, 1, none⟩) (lt_of_cell g1)).trans g1
  have k2 := (h1.cell (p := ⟨bg, 2, none⟩) (lt_of_cell g2)).trans g2
  have k3 := (h1.cell (p := ⟨bg, 3, none⟩) (lt_of_cell g3)).trans g3
  have q1 := q0.trans (h1.mono q0.size)
  have ha1 := ha0.next h1
  have hw1 := hw0.below h1
  clear g0 g1 g2 g3 ha0 hw0
  by_cases e0 : er = 0
  · subst e0
    obtain ⟨hk, _⟩ := formErr_ok.1 HE0.out
    have hop := hk.op
    simp only at hop
    have HK := Lib.hid hk
    have hop2 : op = 1 ∨ op = 2 ∨ op = 3 ∨ op = 4 ∨ op = 5 := by omega
    replace HR := Lib.hid (show payL ⟨op, vs, rs.map rgK, pts⟩ = r by rw [← HR.out, if_pos rfl])
    clear hk
    obtain ⟨t2, t3, t4, t5, t6, t7, t8, t9, t10, t11⟩ := lens_h hw1
    rcases hop2 with rfl | rfl | rfl | rfl | rfl
    · have hrs : rs = [] := by have := HK.out.len0 (show (1 : Int) < 4 by decide); simpa using this
      obtain rfl := hrs
      obtain rfl : n = 0 := HN.out
      obtain rfl : vs = 0 := HK.out.vs0 (show ¬ ((1 : Int) = 3) by decide)
      obtain rfl : pts = 0 := HK.out.pts0 (show ¬ ((1 : Int) = 5) by decide)
      have HX := Lib.hid (show r = 48 by rw [← HR.out]; unfold payL; rfl)
      go_wp2
      go_quiet (fail)
      obtain ⟨W2, hW2⟩ : ∃ W2, W2 = w1.drewN nq := ⟨_, rfl⟩
      have q2 : Below w.heap.size w W2 := by rw [hW2]; exact below_drewN' q1 _
      have ha2 : RowR W2 (fun g => g < w.heap.size) 3 rgC A ([] : List Rg) := by rw [hW2]; exact ha1
      have k2 : W2.cell? ⟨bg, 2, none⟩ = some (.slice A 0 c) := by rw [hW2]; exact k2
      have k3 : W2.cell? ⟨bg, 3, none⟩ = some (.int .i64 0) := by rw [hW2]; exact k3
      rw [← hW2]
      have HW2 := Lib.hid hW2
      clear hW2 ha1
      have ha2 := ha2.now (fun _ => Nat.succ_pos 2)
      go_wp2
      go_loopw [3, 20] (fun m i wr => PayRel w W2 3 [] m i wr) (fun _ i _ => 0 - (intOf i).toNat)
      case atStart => exact ⟨0, rfl, Nat.zero_le _, by show _ = Value.int _ (_ + ptsK []); simp [ptsK], Below.refl _ _⟩
      case round =>
        obtain ⟨k, rfl, hkk, rfl, hb⟩ := hrel
        rw [← HN.out] at hkk
        have k3 := (hb.cell (p := ⟨bg, 3, none⟩) (lt_of_cell k3)).trans k3
        have hgo : ¬ k < 0 := by omega
        have hE : ptsK (([] : List Rg).take k |>.map rgK) = 0 := by simp [ptsK]
        rw [hE]
        clear hE ha2
        go_wp2
        go_ret
        exact ⟨by rw [HX.out]; rfl, q2.trans (hb.mono q2.size)⟩
    · have hrs : rs = [] := by have := HK.out.len0 (show (2 : Int) < 4 by decide); simpa using this
      obtain rfl := hrs
      obtain rfl : n = 0 := HN.out
      obtain rfl : vs = 0 := HK.out.vs0 (show ¬ ((2 : Int) = 3) by decide)
      obtain rfl : pts = 0 := HK.out.pts0 (show ¬ ((2 : Int) = 5) by decide)
      have HX := Lib.hid (show r = 64 by rw [← HR.out]; unfold payL; rfl)
      go_wp2
      go_quiet (fail)
      obtain ⟨W2, hW2⟩ : ∃ W2, W2 = w1.drewN nq := ⟨_, rfl⟩
      have q2 : Below w.heap.size w W2 := by rw [hW2]; exact below_drewN' q1 _
      have ha2 : RowR W2 (fun g => g < w.heap.size) 3 rgC A ([] : List Rg) := by rw [hW2]; exact ha1
      have k2 : W2.cell? ⟨bg, 2, none⟩ = some (.slice A 0 c) := by rw [hW2]; exact k2
      have k3 : W2.cell? ⟨bg, 3, none⟩ = some (.int .i64 0) := by rw [hW2]; exact k3
      rw [← hW2]
      have HW2 := Lib.hid hW2
      clear hW2 ha1
      have ha2 := ha2.now (fun _ => Nat.succ_pos 2)
      go_wp2
      go_loopw [3, 20] (fun m i wr => PayRel w W2 4 [] m i wr) (fun _ i _ => 0 - (intOf i).toNat)
      case atStart => exact ⟨0, rfl, Nat.zero_le _, by show _ = Value.int _ (_ + ptsK []); simp [ptsK], Below.refl _ _⟩
      case round =>
        obtain ⟨k, rfl, hkk, rfl, hb⟩ := hrel
        rw [← HN.out] at hkk
        have k3 := (hb.cell (p := ⟨bg, 3, none⟩) (lt_of_cell k3)).trans k3
        have hgo : ¬ k < 0 := by omega
        have hE : ptsK (([] : List Rg).take k |>.map rgK) = 0 := by simp [ptsK]
        rw [hE]
        clear hE ha2
        go_wp2
        go_ret
        exact ⟨by rw [HX.out]; rfl, q2.trans (hb.mono q2.size)⟩
    · have hrs : rs = [] := by have := HK.out.len0 (show (3 : Int) < 4 by decide); simpa using this
      obtain rfl := hrs
      obtain rfl : n = 0 := HN.out
      have hv3 := HK.out.vs3 rfl
      simp only at hv3
      obtain rfl : pts = 0 := HK.out.pts0 (show ¬ ((3 : Int) = 5) by decide)
      have HX := Lib.hid (show r = (1 + vs) * 16 by rw [← HR.out]; unfold payL; simp only [show ¬ ((3 : Int) = 1) by decide, show ¬ ((3 : Int) = 2) by decide, if_false, if_true]; omega)
      go_wp2
      go_quiet (fail)
      obtain ⟨W2, hW2⟩ : ∃ W2, W2 = w1.drewN nq := ⟨_, rfl⟩
      have q2 : Below w.heap.size w W2 := by rw [hW2]; exact below_drewN' q1 _
      have ha2 : RowR W2 (fun g => g < w.heap.size) 3 rgC A ([] : List Rg) := by rw [hW2]; exact ha1
      have k2 : W2.cell? ⟨bg, 2, none⟩ = some (.slice A 0 c) := by rw [hW2]; exact k2
      have k3 : W2.cell? ⟨bg, 3, none⟩ = some (.int .i64 0) := by rw [hW2]; exact k3
      rw [← hW2]
      have HW2 := Lib.hid hW2
      clear hW2 ha1
      have ha2 := ha2.now (fun _ => Nat.succ_pos 2)
      go_wp2
      go_loopw [3, 20] (fun m i wr => PayRel w W2 (1 + vs) [] m i wr) (fun _ i _ => 0 - (intOf i).toNat)
      case atStart => exact ⟨0, rfl, Nat.zero_le _, by show _ = Value.int _ (_ + ptsK []); simp [ptsK], Below.refl _ _⟩
      case round =>
        obtain ⟨k, rfl, hkk, rfl, hb⟩ := hrel
        rw [← HN.out] at hkk
        have k3 := (hb.cell (p := ⟨bg, 3, none⟩) (lt_of_cell k3)).trans k3
        have hgo : ¬ k < 0 := by omega
        have hE : ptsK (([] : List Rg).take k |>.map rgK) = 0 := by simp [ptsK]
        rw [hE]
        clear hE ha2
        go_wp2
        go_ret
        exact ⟨by rw [HX.out]; rfl, q2.trans (hb.mono q2.size)⟩
    · have hn64 : n ≤ 64 := by have := (HK.out.len (show (4 : Int) ≤ 4 by decide)).2; rw [HN.out]; simpa using this
      obtain rfl : vs = 0 := HK.out.vs0 (show ¬ ((4 : Int) = 3) by decide)
      obtain rfl : pts = 0 := HK.out.pts0 (show ¬ ((4 : Int) = 5) by decide)
      have HX := Lib.hid (show r = (1 + ptsK (rs.map rgK)) * 16 by rw [← HR.out]; unfold payL; simp only [show ¬ ((4 : Int) = 1) by decide, show ¬ ((4 : Int) = 2) by decide, show ¬ ((4 : Int) = 3) by decide, if_false, if_true]; omega)
      go_wp2
      go_quiet (fail)
      obtain ⟨W2, hW2⟩ : ∃ W2, W2 = w1.drewN nq := ⟨_, rfl⟩
      have q2 : Below w.heap.size w W2 := by rw [hW2]; exact below_drewN' q1 _
      have ha2 : RowR W2 (fun g => g < w.heap.size) 3 rgC A rs := by rw [hW2]; exact ha1
      have k2 : W2.cell? ⟨bg, 2, none⟩ = some (.slice A n c) := by rw [hW2]; exact k2
      have k3 : W2.cell? ⟨bg, 3, none⟩ = some (.int .i64 0) := by rw [hW2]; exact k3
      rw [← hW2]
      have HW2 := Lib.hid hW2
      clear hW2 ha1
      have ha2 := ha2.now (fun _ => Nat.succ_pos 2)
      go_wp2
      go_loopw [3, 20] (fun m i wr => PayRel w W2 1 rs m i wr) (fun _ i _ => n - (intOf i).toNat)
      case atStart => exact ⟨0, rfl, Nat.zero_le _, by show _ = Value.int _ (_ + ptsK []); simp [ptsK], Below.refl _ _⟩
      case round =>
        obtain ⟨k, rfl, hkk, rfl, hb⟩ := hrel
        rw [← HN.out] at hkk
        have k3 := (hb.cell (p := ⟨bg, 3, none⟩) (lt_of_cell k3)).trans k3
        by_cases hgo : k < n
        · have hgo2 : k < rs.length := by rw [← HN.out]; exact hgo
          have HPk := Lib.hid (ptsK_take hgo2)
          have hbd := ptsK_bd ((rs.take k).map rgK)
          have hbl : ((rs.take k).map rgK).length ≤ 64 := by simp; omega
          obtain ⟨xk, hxk⟩ : ∃ xk, xk = ptsK ((rs.take k).map rgK) := ⟨_, rfl⟩
          rw [← hxk] at hbd HPk
          simp only [← hxk]
          clear hxk
          obtain ⟨b, o, rfl, ⟨hSb, hbl⟩, c0, c1, c2⟩ := ha2.rg2 hgo2
          have c0 := (hb.cell (p := ⟨b, o + k * 3, none⟩) hbl).trans c0
          have c1 := (hb.cell (p := ⟨b, o + k * 3 + 1, none⟩) hbl).trans c1
          have c2 := (hb.cell (p := ⟨b, o + k * 3 + 2, none⟩) hbl).trans c2
          have HSv := Lib.hid (hv _ (List.getElem_mem hgo2))
          obtain ⟨z, hz⟩ : ∃ z, sizeF (rs[k]'hgo2).v = z := ⟨_, rfl⟩
          have hzb := sizeF_bd (rs[k]'hgo2).v
          rw [hz] at HPk hzb
          have HZs := Lib.hid hz
          clear hz
          generalize rs[k]'hgo2 = g at *
          obtain ⟨d, v, A2, cp, l⟩ := g
          have hSv2 := HSv.out
          simp only at c0 c1 c2 hSv2
          obtain ⟨m, hm⟩ : ∃ m, m = l.length := ⟨_, rfl⟩
          rw [← hm] at c2
          obtain ⟨W, hW⟩ : ∃ W, W = wr.alloc (.cells #[.bool d, .int .i64 v, .slice A2 m cp] 63) := ⟨_, rfl⟩
          obtain ⟨B, hB⟩ : ∃ B, B = wr.heap.size := ⟨_, rfl⟩
          have h0 : Below wr.heap.size wr W := by rw [hW]; exact (Below.refl _ _).alloc (Nat.le_refl _) _
          have k0 : W.cell? ⟨B, 0, none⟩ = some (.bool d) := by rw [hW, hB]; simp [go_sem]
          have k1 : W.cell? ⟨B, 1, none⟩ = some (.int .i64 v) := by rw [hW, hB]; simp [go_sem]
          have k2 : W.cell? ⟨B, 2, none⟩ = some (.slice A2 m cp) := by rw [hW, hB]; simp [go_sem]
          have hbW := hb.trans (h0.mono hb.size)
          have HW := Lib.hid hW
          have HB := Lib.hid hB
          clear hW hB hm hgo2 ha2
          go_wp2_with (fail)
          rw [← HW.out, ← HB.out]
          refine (fenceSize_c d v (.slice A2 m cp) z W hSv2 HZs.out).mono ?_
          rintro e w3 ⟨rfl, h3⟩
          have h2 := hbW.trans (h3.mono hbW.size)
          clear c0 c1 c2 k0 k1 k2
          go_wp2
          go_roundw
          case rel => exact ⟨k + 1, by go_num, by rw [← HN.out]; omega, by rw [HPk.out]; congr 1; omega, h2⟩
          case measure => simp [intOf]; omega
        · have HXX := Lib.hid (show ptsK (rs.map rgK) = ptsK ((rs.take k).map rgK) by rw [List.take_of_length_le (by rw [← HN.out]; omega)])
          have hbd := ptsK_bd ((rs.take k).map rgK)
          have hbl : ((rs.take k).map rgK).length ≤ 64 := by simp; omega
          obtain ⟨xk, hxk⟩ : ∃ xk, xk = ptsK ((rs.take k).map rgK) := ⟨_, rfl⟩
          rw [← hxk] at hbd HXX
          simp only [← hxk]
          clear hxk ha2
          go_wp2
          go_ret
          exact ⟨by rw [HX.out, HXX.out]; rfl, q2.trans (hb.mono q2.size)⟩
    · have hn64 : n ≤ 64 := by have := (HK.out.len (show (4 : Int) ≤ 5 by decide)).2; rw [HN.out]; simpa using this
      obtain rfl : vs = 0 := HK.out.vs0 (show ¬ ((5 : Int) = 3) by decide)
      have hp5 := HK.out.pts5 rfl
      simp only at hp5
      have HX := Lib.hid (show r = ptsK (rs.map rgK) * 16 + pts * 24 by rw [← HR.out]; unfold payL; simp only [show ¬ ((5 : Int) = 1) by decide, show ¬ ((5 : Int) = 2) by decide, show ¬ ((5 : Int) = 3) by decide, show ¬ ((5 : Int) = 4) by decide, if_false]; omega)
      go_wp2
      go_quiet (fail)
      obtain ⟨W2, hW2⟩ : ∃ W2, W2 = w1.drewN nq := ⟨_, rfl⟩
      have q2 : Below w.heap.size w W2 := by rw [hW2]; exact below_drewN' q1 _
      have ha2 : RowR W2 (fun g => g < w.heap.size) 3 rgC A rs := by rw [hW2]; exact ha1
      have k2 : W2.cell? ⟨bg, 2, none⟩ = some (.slice A n c) := by rw [hW2]; exact k2
      have k3 : W2.cell? ⟨bg, 3, none⟩ = some (.int .i64 pts) := by rw [hW2]; exact k3
      rw [← hW2]
      have HW2 := Lib.hid hW2
      clear hW2 ha1
      have ha2 := ha2.now (fun _ => Nat.succ_pos 2)
      go_wp2
      go_loopw [3, 20] (fun m i wr => PayRel w W2 0 rs m i wr) (fun _ i _ => n - (intOf i).toNat)
      case atStart => exact ⟨0, rfl, Nat.zero_le _, by show _ = Value.int _ (_ + ptsK []); simp [ptsK], Below.refl _ _⟩
      case round =>
        obtain ⟨k, rfl, hkk, rfl, hb⟩ := hrel
        rw [← HN.out] at hkk
        have k3 := (hb.cell (p := ⟨bg, 3, none⟩) (lt_of_cell k3)).trans k3
        by_cases hgo : k < n
        · have hgo2 : k < rs.length := by rw [← HN.out]; exact hgo
          have HPk := Lib.hid (ptsK_take hgo2)
          have hbd := ptsK_bd ((rs.take k).map rgK)
          have hbl : ((rs.take k).map rgK).length ≤ 64 := by simp; omega
          obtain ⟨xk, hxk⟩ : ∃ xk, xk = ptsK ((rs.take k).map rgK) := ⟨_, rfl⟩
          rw [← hxk] at hbd HPk
          simp only [← hxk]
          clear hxk
          obtain ⟨b, o, rfl, ⟨hSb, hbl⟩, c0, c1, c2⟩ := ha2.rg2 hgo2
          have c0 := (hb.cell (p := ⟨b, o + k * 3, none⟩) hbl).trans c0
          have c1 := (hb.cell (p := ⟨b, o + k * 3 + 1, none⟩) hbl).trans c1
          have c2 := (hb.cell (p := ⟨b, o + k * 3 + 2, none⟩) hbl).trans c2
          have HSv := Lib.hid (hv _ (List.getElem_mem hgo2))
          obtain ⟨z, hz⟩ : ∃ z, sizeF (rs[k]'hgo2).v = z := ⟨_, rfl⟩
          have hzb := sizeF_bd (rs[k]'hgo2).v
          rw [hz] at HPk hzb
          have HZs := Lib.hid hz
          clear hz
          generalize rs[k]'hgo2 = g at *
          obtain ⟨d, v, A2, cp, l⟩ := g
          have hSv2 := HSv.out
          simp only at c0 c1 c2 hSv2
          obtain ⟨m, hm⟩ : ∃ m, m = l.length := ⟨_, rfl⟩
          rw [← hm] at c2
          obtain ⟨W, hW⟩ : ∃ W, W = wr.alloc (.cells #[.bool d, .int .i64 v, .slice A2 m cp] 63) := ⟨_, rfl⟩
          obtain ⟨B, hB⟩ : ∃ B, B = wr.heap.size := ⟨_, rfl⟩
          have h0 : Below wr.heap.size wr W := by rw [hW]; exact (Below.refl _ _).alloc (Nat.le_refl _) _
          have k0 : W.cell? ⟨B, 0, none⟩ = some (.bool d) := by rw [hW, hB]; simp [go_sem]
          have k1 : W.cell? ⟨B, 1, none⟩ = some (.int .i64 v) := by rw [hW, hB]; simp [go_sem]
          have k2 : W.cell? ⟨B, 2, none⟩ = some (.slice A2 m cp) := by rw [hW, hB]; simp [go_sem]
          have hbW := hb.trans (h0.mono hb.size)
          have HW := Lib.hid hW
          have HB := Lib.hid hB
          clear hW hB hm hgo2 ha2
          go_wp2_with (fail)
          rw [← HW.out, ← HB.out]
          refine (fenceSize_c d v (.slice A2 m cp) z W hSv2 HZs.out).mono ?_
          rintro e w3 ⟨rfl, h3⟩
          have h2 := hbW.trans (h3.mono hbW.size)
          clear c0 c1 c2 k0 k1 k2
          go_wp2
          go_roundw
          case rel => exact ⟨k + 1, by go_num, by rw [← HN.out]; omega, by rw [HPk.out]; congr 1; omega, h2⟩
          case measure => simp [intOf]; omega
        · have HXX := Lib.hid (show ptsK (rs.map rgK) = ptsK ((rs.take k).map rgK) by rw [List.take_of_length_le (by rw [← HN.out]; omega)])
          have hbd := ptsK_bd ((rs.take k).map rgK)
          have hbl : ((rs.take k).map rgK).length ≤ 64 := by simp; omega
          obtain ⟨xk, hxk⟩ : ∃ xk, xk = ptsK ((rs.take k).map rgK) := ⟨_, rfl⟩
          rw [← hxk] at hbd HXX
          simp only [← hxk]
          clear hxk ha2
          go_wp2
          go_ret
          exact ⟨by rw [HX.out, HXX.out]; rfl, q2.trans (hb.mono q2.size)⟩
  · have HX := Lib.hid (show r = 0 by rw [← HR.out, if_neg e0])
    have d0 : (er != 0) = true := by rw [bne_iff_ne]; exact e0
    clear e0
    go_wp2
    go_ret
    exact ⟨by rw [HX.out]; rfl, q1⟩
theorem hdrPayload_c (op vs pts : Int) (A : Option Addr) (n c : Nat) (rs : List Rg) (r : Int) (w : World) (hw : Wts w) (ha : RowR w (fun g => g < w.heap.size) 3 rgC A rs) (hn : n = rs.length) (hl : n ≤ 1000000) (hS : S op ∧ S vs ∧ S pts) (hv : ∀ r ∈ rs, S r.v) (hr : (if formErr ⟨op, vs, rs.map rgK, pts⟩ (rgP rs) = 0 then payL ⟨op, vs, rs.map rgK, pts⟩ else 0) = r) :
    Calls Tryd.prog 66 #[.agg #[.int .i64 op, .int .i64 vs, .slice A n c, .int .i64 pts]] w fun e w' => e = .returned (.int .i64 r) ∧ Below w.heap.size w w' :=
  hdrPayload_cl op vs pts A n c rs r w hw ha hn (by omega) hS hv hr
end Go.Proofs.YtcfdpimpleniaaaDoor
namespace Go.Proofs.YtcfdpimpleniaaaDoor
open Go.RowKit Go.Lib
set_option maxRecDepth 100000
set_option linter.unusedVariables false
set_option linter.unusedSimpArgs false

/-- A list with other values from a place on. -/
def over {α : Type} : List α → Nat → List α → List α
  | l, _, [] => l
  | l, o, v :: r => over (l.set o v) (o + 1) r
end Go.Proofs.YtcfdpimpleniaaaDoor
namespace Go.Proofs.YtcfdpimpleniaaaDoor
open Go

theorem wp_scope_fwd {P : Program} {a : Act} {w : World} {Q : Exit → Act → World → Prop} {c rest : Code} (l : Nat) (hf : findLabel c l = some rest)
    (first : ∀ J : Act → World → Prop, (∀ a w, rest.wp P (Exit.noGoto Q) a w → J a w) → c.wp P (Exit.jump l J Q) a w) : (Code.scope c).wp P Q a w :=
  wp_scope_jumps l (fun a w => rest.wp P (Exit.noGoto Q) a w) (fun _ _ => 0) hf (first _ fun _ _ h => h) fun _ _ h =>
    wp_mono h fun e _ _ q => by cases e <;> first | exact q | exact q.elim
end Go.Proofs.YtcfdpimpleniaaaDoor
namespace Go.Proofs.YtcfdpimpleniaaaDoor
open Go.RowKit Go.Maps
set_option maxRecDepth 100000
set_option linter.unusedVariables false
set_option linter.unusedSimpArgs false

theorem flat_setG (x : Rg) : ∀ (l : List Rg) (k : Nat), (l.set k x).flatMap rgC = (((l.flatMap rgC).set (k * 3) (.bool x.d)).set (k * 3 + 1) (.int .i64 x.v)).set (k * 3 + 2) (.slice x.A x.l.length x.c)
  | [], k => by simp
  | y :: l, 0 => by simp [rgC]
  | y :: l, k + 1 => by
    rw [List.set_cons_succ, List.flatMap_cons, flat_setG x l k, List.flatMap_cons, show (k + 1) * 3 = k * 3 + 3 by omega]
    simp [rgC]
theorem own_setG {w : World} {base g c n : Nat} {l : List Rg} (h : w.ownsRow base 63 3 (.slice (some ⟨g, 0, none⟩) n c) n (l.flatMap rgC)) (k : Nat) (x : Rg) :
    (((w.setCell ⟨g, k * 3, none⟩ (.bool x.d)).setCell ⟨g, k * 3 + 1, none⟩ (.int .i64 x.v)).setCell ⟨g, k * 3 + 2, none⟩ (.slice x.A x.l.length x.c)).ownsRow base 63 3 (.slice (some ⟨g, 0, none⟩) n c) n ((l.set k x).flatMap rgC) := by
  rw [flat_setG]
  exact (World.ownsRow.stored (World.ownsRow.stored (World.ownsRow.stored h _ _).1 _ _).1 _ _).1
theorem own_rg3 {w : World} {base g c n : Nat} {l : List Rg} (hn : l.length = n) (h : w.ownsRow base 63 3 (.slice (some ⟨g, 0, none⟩) n c) n (l.flatMap rgC)) {k : Nat} (hk : k < l.length) :
    w.cell? ⟨g, k * 3, none⟩ = some (.bool (l[k]'hk).d) ∧ w.cell? ⟨g, k * 3 + 1, none⟩ = some (.int .i64 (l[k]'hk).v) ∧ w.cell? ⟨g, k * 3 + 2, none⟩ = some (.slice (l[k]'hk).A (l[k]'hk).l.length (l[k]'hk).c) := by
  have h1 := flatC_at (C := rgC) (k := 3) (fun _ => rfl) l k _ (List.getElem?_eq_getElem hk)
  exact ⟨(World.ownsRow.cellAt h (k * 3) (by omega)).trans (h1 0 (by decide)), (World.ownsRow.cellAt h (k * 3 + 1) (by omega)).trans (h1 1 (by decide)), (World.ownsRow.cellAt h (k * 3 + 2) (by omega)).trans (h1 2 (by decide))⟩
theorem made_rg (N : Nat) : (madeCells #[Value.bool false, .int .i64 0, .slice none 0 0] (N * 3)).toList = (List.replicate N (rg0 (false, 0))).flatMap rgC := by
  apply List.ext_getElem?
  intro j
  have hl : ((List.replicate N (rg0 (false, 0))).flatMap rgC).length = N * 3 := by rw [flatC_len (C := rgC) (k := 3) (fun _ => rfl), List.length_replicate]
  by_cases hj : j < N * 3
  · have hr := flatC_at (C := rgC) (k := 3) (fun _ => rfl) (List.replicate N (rg0 (false, 0))) (j / 3) (rg0 (false, 0)) (by rw [List.getElem?_replicate, if_pos (by omega)]) (j % 3) (Nat.mod_lt _ (by decide))
    rw [show j / 3 * 3 + j % 3 = j by omega] at hr
    rw [hr]
    have h2 : j % 3 = 0 ∨ j % 3 = 1 ∨ j % 3 = 2 := by omega
    rcases h2 with h2 | h2 | h2 <;> simp [madeCells, hj, h2, rgC, rg0]
  · rw [List.getElem?_eq_none (by simp [madeCells]; omega), List.getElem?_eq_none (by omega)]
theorem SlR.sub_ {w : World} {S : Nat → Prop} {k : IntKind} {b o : Nat} {ds : List Int} (h : SlR w S k (some ⟨b, o, none⟩) ds) (i m : Nat) (hm : i + m ≤ ds.length) : SlR w S k (some ⟨b, o + i, none⟩) ((ds.drop i).take m) := by
  intro hl
  rw [List.length_take] at hl
  obtain ⟨b', o', e, hS, hc⟩ := h (by omega)
  injection e with e
  injection e with e1 e2
  subst e1 e2
  refine ⟨b, o + i, rfl, hS, fun j d hd => ?_⟩
  rw [Nat.add_assoc]
  refine hc (i + j) d ?_
  rw [← hd, List.getElem?_take]
  split
  · rw [List.getElem?_drop]
  · rename_i hj
    rw [List.getElem?_take, if_neg hj] at hd
    cases hd
/-- What regionsOf has made after k rounds. -/
def mixG (bs : List Int) (k : Nat) : List Rg := ((bs.take k).map fun x => rg0 (rgOf x)) ++ List.replicate (bs.length - k) (rg0 (false, 0))
theorem mixG_len {bs : List Int} {k : Nat} (h : k ≤ bs.length) : (mixG bs k).length = bs.length := by unfold mixG; simp; omega
theorem mixG_step {bs : List Int} {k : Nat} (h : k < bs.length) : (mixG bs k).set k (rg0 (rgOf (dgt bs k))) = mixG bs (k + 1) := by
  unfold mixG
  have hl : ((bs.take k).map fun x => rg0 (rgOf x)).length = k := by simp; omega
  rw [List.set_append_right _ _ (by omega), hl, Nat.sub_self, show bs.length - k = bs.length - (k + 1) + 1 by omega, List.replicate_succ, List.set_cons_zero, List.take_succ_eq_append_getElem h, List.map_append, dgt_lt h]
  simp
theorem mixG_all (bs : List Int) : mixG bs bs.length = (bs.map rgOf).map rg0 := by unfold mixG; simp
def RgRelH (w : World) (g n : Nat) (bs : List Int) (i : Value) (wr : World) : Prop :=
  ∃ k : Nat, i = .int .i64 k ∧ k ≤ n ∧ wr.ownsRow w.heap.size 63 3 (.slice (some ⟨g, 0, none⟩) n n) n ((mixG bs k).flatMap rgC) ∧ Below w.heap.size w wr
set_option maxHeartbeats 1000000 in
theorem regionsOf_h (A : Option Addr) (n c : Nat) (bs : List Int) (T : Nat → Prop) (w : World) (hb : SlR w T .u8 A bs) (hn : n = bs.length) (hU : UB bs) (hl : n ≤ 64) :
    Calls Tryd.prog 70 #[.slice A n c] w fun e w' => ∃ g, e = .returned (.slice (some ⟨g, 0, none⟩) n n) ∧ w'.ownsRow w.heap.size 63 3 (.slice (some ⟨g, 0, none⟩) n n) n (((bs.map rgOf).map rg0).flatMap rgC) ∧ Below w.heap.size w w' := by
  obtain ⟨i0, hi, hz0, hz1, hz2⟩ := info_parts infoRg
  have HN := Lib.hid hn
  have HM0 := Lib.hid (show (List.replicate n (rg0 (false, 0))).flatMap rgC = (mixG bs 0).flatMap rgC by unfold mixG; rw [hn]; simp)
  clear hn
  go_enter Tryd.func70, Tryd.ntmps70
  go_wp2_with (first
    | (at_make; refine wpList_make_full _ rfl _ _ 22 rfl w.heap.size 63 i0 _ 3 Tryd.underlying22 hi hz0 hz1 .i64 .i64 n n n rfl rfl rfl rfl (by rw [hz2]; omega) (by unfold maxLen; omega) (Nat.le_refl _) ?_
       intro w1 hrow1 hgr1
       have hb1 : Below w.heap.size w w1 := (Below.refl _ _).grown hgr1 (Nat.le_refl _) (fun k e => by cases e)
       rw [show (madeCells (Value.agg #[.bool false, .int .i64 0, .slice none 0 0]).cells (n * 3)).toList = (List.replicate n (rg0 (false, 0))).flatMap rgC from made_rg n, HM0.out] at hrow1))
  go_loopw [11] (fun i wr => RgRelH w w.heap.size n bs i wr) (fun i _ => n - (intOf i).toNat)
  case atStart => exact ⟨0, rfl, Nat.zero_le _, hrow1, hb1⟩
  case round =>
    clear hrow1 hgr1 hb1
    obtain ⟨k, rfl, hk, hrow, hbr⟩ := hrel
    by_cases hgo : k < n
    · have hkb : k < bs.length := by rw [← HN.out]; exact hgo
      obtain ⟨b, o, rfl, cx⟩ := sl_at (hb.next hbr) hkb
      obtain ⟨hy0, hy1⟩ := hU.at_ k
      have HS1 := Lib.hid (mixG_step hkb)
      obtain ⟨c0, c1, c2⟩ := own_rg3 ((mixG_len (Nat.le_of_lt hkb)).trans HN.out.symm) hrow (k := k) (by rw [mixG_len (Nat.le_of_lt hkb)]; exact hkb)
      generalize (mixG bs k)[k]'(by rw [mixG_len (Nat.le_of_lt hkb)]; exact hkb) = z0 at c0 c1 c2
      have f0 : wr.frozen? ⟨w.heap.size, k * 3, none⟩ = false := World.ownsRow.frozenAt hrow _
      have f1 : wr.frozen? ⟨w.heap.size, k * 3 + 1, none⟩ = false := World.ownsRow.frozenAt hrow _
      have f2 : wr.frozen? ⟨w.heap.size, k * 3 + 2, none⟩ = false := World.ownsRow.frozenAt hrow _
      generalize dgt bs k = y at *
      have hrow2 := own_setG hrow k (rg0 (rgOf y))
      rw [HS1.out] at hrow2
      have hb2 := ((hbr.setCell (p := ⟨w.heap.size, k * 3, none⟩) (Nat.le_refl _) (.bool (rg0 (rgOf y)).d)).setCell (p := ⟨w.heap.size, k * 3 + 1, none⟩) (Nat.le_refl _) (.int .i64 (rg0 (rgOf y)).v)).setCell (p := ⟨w.heap.size, k * 3 + 2, none⟩) (Nat.le_refl _) (.slice none 0 0)
      have hy2 : 0 ≤ y % 128 ∧ y % 128 < 128 := by omega
      clear hkb
      by_cases hd : 128 ≤ y
      · have hd1 : decide (128 ≤ y) = true := by simpa using hd
        rw [show (rg0 (rgOf y)).d = true from hd1] at hrow2 hb2
        rw [show (rg0 (rgOf y)).v = y % 128 from rfl] at hrow2 hb2
        go_wp2
        go_roundw
        case rel => exact ⟨k + 1, by go_num, hgo, hrow2, hb2⟩
        case measure => simp [intOf]; omega
      · have hd1 : decide (128 ≤ y) = false := by simpa using hd
        rw [show (rg0 (rgOf y)).d = false from hd1] at hrow2 hb2
        rw [show (rg0 (rgOf y)).v = y % 128 from rfl] at hrow2 hb2
        go_wp2
        go_roundw
        case rel => exact ⟨k + 1, by go_num, hgo, hrow2, hb2⟩
        case measure => simp [intOf]; omega
    · have hke : k = n := by omega
      subst hke
      have HA2 := Lib.hid (show mixG bs k = (bs.map rgOf).map rg0 by rw [← mixG_all bs, HN.out])
      rw [HA2.out] at hrow
      go_wp2
      go_ret
      exact ⟨_, rfl, hrow, hbr⟩
end Go.Proofs.YtcfdpimpleniaaaDoor
