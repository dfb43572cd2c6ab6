/-
  The reference of layer 3, from its subtraction on.
-/
import Derived.Test.YtehnpmkolabiaaaDoorRef03b
import Derived.Test.YtehnpmkolabiaaaDoorBase
import Derived.Deep.DeepCutAuto
import Derived.Deep.CutRange
import Derived.Lib.MinMax
/- Contracts of the reference of layer 3, third part: difference, product, conversions. -/
namespace Go.Proofs.YtehnpmkolabiaaaDoor
open Go.RowKit
set_option maxRecDepth 100000
set_option linter.unusedVariables false
set_option linter.unusedSimpArgs false

set_option maxHeartbeats 1000000 in
theorem r3sub_any (va vb : Value) (x y : Int) (L M : Nat) (S : Nat → Prop) (w : World) (ha : NumR w S L va x) (hb : NumR w S M vb y) (hL : L ≤ 900000) (hM : M ≤ 900000) (hS : ∀ b, w.heap.size ≤ b → S b) :
    Calls Tryd.prog 34 #[va, vb] w (GivesNum w S (max L M + 1) (x - y)) := by
  have ha' := ha.lt.imp (T := fun b => b ≠ w.heap.size + 1 + 1 ∧ S b) (fun b h => ⟨by omega, h.1⟩)
  have hb' := hb.lt.imp (T := fun b => b ≠ w.heap.size + 1 + 1 ∧ S b) (fun b h => ⟨by omega, h.1⟩)
  obtain ⟨A, c, da, rfl, hc, hs, hn, he, hl⟩ := ha
  obtain ⟨B, d, db, rfl, hd, hs2, hn2, he2, hl2⟩ := hb
  have hb3 := box3_below w x.sign A da.length c y.sign B db.length d
  have HSS := Lib.hid hS
  have HXY := Lib.hid (Int.sub_eq_add_neg (a := x) (b := y))
  clear hS he he2 hs hs2 hn hn2
  go_enter Tryd.func34, Tryd.ntmps34
  go_wp2_with (fail)
  go_region_law (first
    | (go_simp; go_at_call 46; refine (r3neg_any _ y M (fun b => b ≠ w.heap.size + 1 + 1 ∧ S b) _ (hb'.next (by first | exact hb3 | exact hb3.drew | exact below_drewN' hb3 _))).mono ?_; rintro e w1 ⟨v1, rfl, hn1, hb1⟩; obtain ⟨hcc, hff⟩ := cell_below hb1; have hz1 : w.heap.size + 1 + 1 < w1.heap.size := by (have := hb1.size; simp at this; omega))
    | (go_simp; go_at_call 33; refine (r3add_any _ v1 x (-y) L M (fun b => b ≠ w.heap.size + 1 + 1 ∧ S b) _ ((ha'.next hb3.drew).next hb1) hn1 hL hM (fun b hb => ⟨by omega, HSS.out b (by omega)⟩)).mono ?_; rintro e w2 ⟨_, rfl, ⟨A2, c2, ds2, rfl, hc2, hs3, hn3, he3, hl3⟩, hb2⟩; obtain ⟨hcd, hfd⟩ := cell_below hb2; have HV2 := Lib.hid he3; clear he3; have hz2 : w.heap.size + 1 + 1 < w2.heap.size := by (have := hb2.size; omega)))
  all_goals go_wp2
  all_goals
    have hbw2 : Below w.heap.size w w2 := (Below.trans hb3.drew (Below.mono hb1 (by simp; omega))).trans (hb2.mono (by omega))
    have R := num_stored (fun b h => h) hc2 hs3 hn3 HV2.out hl3 (Nat.le_refl _) hbw2 (.int .i64 (x + -y).sign) (.slice A2 ds2.length c2)
    rw [HXY.out]
    clear HSS HV2 HXY
    refine bodyPost_ret (v := .agg #[.int .i64 (x + -y).sign, .slice A2 ds2.length c2]) (by simp [results, Tryd.results34, go_sem, hcd, hcc, hz1]) rfl ⟨_, rfl, R.1, R.2⟩
/-- The digits that the conversion of a word has gathered. -/
def WordRel (W : World) (n : Int) (u o : Value) (wr : World) : Prop :=
  ∃ (os : List Int) (m : Int), u = .int .u64 m ∧ OwnK wr (W.heap.size + 1) 3 .i64 o os ∧ Dg os ∧ 0 ≤ m ∧ os.length ≤ 4 ∧ m < 65536 ^ (4 - os.length) ∧ ev os + 65536 ^ os.length * m = n ∧ Below (W.heap.size + 1) (Res1 W) wr
theorem word_step {os : List Int} {m n : Int} (h0 : 0 < m) (hl : os.length ≤ 4) (hm : m < 65536 ^ (4 - os.length)) (he : ev os + 65536 ^ os.length * m = n) :
    os.length < 4 ∧ m / 65536 < 65536 ^ (4 - (os.length + 1)) ∧ ev (os ++ [m % 65536]) + 65536 ^ (os.length + 1) * (m / 65536) = n := by
  have hl4 : os.length < 4 := by
    rcases Nat.lt_or_ge os.length 4 with h | h
    · exact h
    · rw [show 4 - os.length = 0 by omega] at hm; simp at hm; omega
  refine ⟨hl4, ?_, ?_⟩
  · rw [show 4 - os.length = (4 - (os.length + 1)) + 1 by omega, Int.pow_succ] at hm
    generalize (65536 : Int) ^ (4 - (os.length + 1)) = q at hm ⊢
    omega
  · rw [ev_snoc, Int.pow_succ, Int.mul_assoc]
    have : 65536 ^ os.length * (m % 65536) + 65536 ^ os.length * (65536 * (m / 65536)) = 65536 ^ os.length * m := by rw [← Int.mul_add]; congr 1; omega
    omega
theorem r3int_any (x : Int) (T : Nat → Prop) (w : World) (hS : ∀ b, w.heap.size ≤ b → T b) (hx : S x) :
    Calls Tryd.prog 58 #[.int .i64 x] w (GivesNum w T 4 x) := by
  obtain ⟨i0, hi0, hz0, hz1, hz2⟩ := info_parts infoInt
  have HM1 := Lib.hid (show (x.natAbs : Int) < 65536 ^ (4 - ([] : List Int).length) by unfold S at hx; simp; omega)
  by_cases h : x < 0
  rotate_left
  have h1 : 0 ≤ x := by omega
  have H0 := Lib.hid (show IntKind.u64.wrap x = (x.natAbs : Int) by rw [nonneg_wrap hx h1]; omega)
  have HS := Lib.hid (show x ≠ 0 → 1 = x.sign from fun hne => (sign_pos (by omega)).symm)
  have h5 : decide (x < 0) = false := decide_eq_false h
  clear h h1
  rotate_left
  have H0 := Lib.hid (show IntKind.u64.wrap (-IntKind.u64.wrap x) = (x.natAbs : Int) by rw [abs_wrap hx h]; omega)
  have HS := Lib.hid (show x ≠ 0 → -1 = x.sign from fun _ => (sign_neg h).symm)
  all_goals
    go_enter Tryd.func58, Tryd.ntmps58
    go_wp2
    go_loopw [3, 5] (fun u o wr => WordRel w (x.natAbs : Int) u o wr) (fun u _ _ => (intOf u).toNat)
    case atStart => exact ⟨[], _, rfl, OwnK.nil_ _ _ _ _, Dg.nil_, by rw [H0.out]; omega, by decide, by rw [H0.out]; exact HM1.out, by rw [H0.out]; simp [ev], Below.refl _ _⟩
    case round =>
      obtain ⟨os, m, rfl, hown, hdo, h0, hl4, hlt, hev, hbl⟩ := hrel
      have HO := Lib.hid hown
      have HE := Lib.hid hev
      have HD := Lib.hid hdo
      have HL := Lib.hid hlt
      obtain ⟨c0, c1, f0, f1, hbw, hsz⟩ := res1_kept hbl
      have hlen : os.length ≤ 1000000000 := by omega
      have hm64 : m ≤ 18446744073709551615 := by
        have : (65536 : Int) ^ (4 - os.length) ≤ 65536 ^ 4 := pow_le_pow (by omega)
        have e : (65536 : Int) ^ 4 = 18446744073709551616 := by decide
        omega
      by_cases hgo : 0 < m
      · obtain ⟨k1, k2, k3⟩ := word_step hgo hl4 hlt hev
        have K2 := Lib.hid k2
        have K3 := Lib.hid k3
        have hdv : m / 65536 < m := by omega
        clear hown hev hdo hlt k2 k3
        go_wp2_with (at_builtin; refine wp_app1 rfl (.tmp 14) (.tmp 18) 60 rfl (w.heap.size + 1) 3 .i64 i0 _ Tryd.underlying60 hi0 hz0 hz1 hz2 rfl _ os _ rfl HO.out rfl hlen (by omega) ?_; intro v' w1 hown1 hb1)
        go_roundw
        case rel => exact ⟨os ++ [m % 65536], m / 65536, rfl, hown1, HD.out.snoc (by omega) (by omega), by omega, by simp; omega, by rw [List.length_append]; exact K2.out, by rw [List.length_append]; exact K3.out, hbl.trans hb1⟩
        case measure => simp [intOf]; omega
      · have hm : m = 0 := by omega
        subst hm
        obtain ⟨A', c', rfl, hcap, _, hsl⟩ := hown.form
        have HV := Lib.hid (show ev os = (x.natAbs : Int) by omega)
        clear hown hev hdo hlt HE HL HO
        go_wp2_with (fail)
        refine (r3make16_any _ A' c' os x (fun b => w.heap.size + 1 ≤ b) _ hsl (by omega) hcap HD.out HV.out HS.out).mono ?_
        rintro e w2 ⟨_, rfl, ⟨A2, c2, ds2, rfl, hc2, hs2, hn2, he2, hl2⟩, hb2⟩
        have HV2 := Lib.hid he2
        clear he2
        obtain ⟨hcd, hfd⟩ := cell_below hb2
        go_wp2
        have R := num_stored_at (S := T) (L := 4) (Nat.le_refl w.heap.size) (fun b hb => ⟨by omega, hS b (by omega)⟩) hc2 hs2 hn2 HV2.out (by omega) (Nat.le_refl _) (hbw.trans (hb2.mono (by omega))) (.int .i64 x.sign) (.slice A2 ds2.length c2)
        clear HV2 HV HS
        exact bodyPost_ret (v := .agg #[.int .i64 x.sign, .slice A2 ds2.length c2]) (by simp [results, Tryd.results58, go_sem, hcd, hsz, c0, c1]) rfl ⟨_, rfl, R.1, R.2⟩
end Go.Proofs.YtehnpmkolabiaaaDoor
/- Contracts of the reference of layer 3, fourth part: the value of an integer. -/
namespace Go.Proofs.YtehnpmkolabiaaaDoor
open Go.RowKit
set_option maxRecDepth 100000
set_option linter.unusedVariables false
set_option linter.unusedSimpArgs false

def ValRel (W : World) (ls : List Int) (o i : Value) (wr : World) : Prop :=
  ∃ (k : Nat) (os : List Int), i = .int .i64 k ∧ k ≤ ls.length ∧ OwnK wr (W.heap.size + 1) 3 .i64 o os ∧ Dg os ∧ os.length = 4 * k ∧ ev os = uv (ls.take k) ∧ Below (W.heap.size + 1) (Res1 W) wr
def ValRel2 (W : World) (ls : List Int) (k : Nat) (o u j : Value) (wr : World) : Prop :=
  ∃ (t : Nat) (os : List Int) (m : Int), j = .int .i64 t ∧ t ≤ 4 ∧ u = .int .u64 m ∧ OwnK wr (W.heap.size + 1) 3 .i64 o os ∧ Dg os ∧ os.length = 4 * k + t ∧ 0 ≤ m ∧ m < 65536 ^ (4 - t) ∧
    ev os + 65536 ^ os.length * m = uv (ls.take (k + 1)) ∧ Below (W.heap.size + 1) (Res1 W) wr
theorem val_step {os : List Int} {m n : Int} {t : Nat} (ht : t < 4) (hm : m < 65536 ^ (4 - t)) (he : ev os + 65536 ^ os.length * m = n) :
    m / 65536 < 65536 ^ (4 - (t + 1)) ∧ ev (os ++ [m % 65536]) + 65536 ^ (os.length + 1) * (m / 65536) = n := by
  refine ⟨?_, ?_⟩
  · rw [show 4 - t = (4 - (t + 1)) + 1 by omega, Int.pow_succ] at hm
    generalize (65536 : Int) ^ (4 - (t + 1)) = q at hm ⊢
    omega
  · rw [ev_snoc, Int.pow_succ, Int.mul_assoc]
    have : 65536 ^ os.length * (m % 65536) + 65536 ^ os.length * (65536 * (m / 65536)) = 65536 ^ os.length * m := by rw [← Int.mul_add]; congr 1; omega
    omega
theorem val_in {os : List Int} {k : Nat} {ls : List Int} (hk : k < ls.length) (hl : os.length = 4 * k) (he : ev os = uv (ls.take k)) : ev os + 65536 ^ os.length * ls[k] = uv (ls.take (k + 1)) := by
  rw [uv_take_succ hk, hl, ← M_digits, he]
theorem u_lt (m : Int) (h : U m) : m < 65536 ^ (4 - 0) := by unfold U at h; simp; omega
end Go.Proofs.YtehnpmkolabiaaaDoor
/- Contracts of the reference of layer 3, fifth part: the product. -/
namespace Go.Proofs.YtehnpmkolabiaaaDoor
open Go.RowKit
set_option maxRecDepth 100000
set_option linter.unusedVariables false
set_option linter.unusedSimpArgs false

theorem box3_kept {w wr : World} {sx sy : Int} {A B : Option Addr} {n c m d : Nat} (h : Below (w.heap.size + 1 + 1 + 1) (Box3 w sx A n c sy B m d) wr) :
    (wr.cell? ⟨w.heap.size, 0, none⟩ = some (.int .i64 sx) ∧ wr.cell? ⟨w.heap.size, 1, none⟩ = some (.slice A n c)) ∧ (wr.cell? ⟨w.heap.size + 1, 0, none⟩ = some (.int .i64 sy) ∧ wr.cell? ⟨w.heap.size + 1, 1, none⟩ = some (.slice B m d)) ∧
    (wr.cell? ⟨w.heap.size + 1 + 1, 0, none⟩ = some (.int .i64 0) ∧ wr.cell? ⟨w.heap.size + 1 + 1, 1, none⟩ = some (.slice none 0 0)) ∧
    (wr.frozen? ⟨w.heap.size + 1 + 1, 0, none⟩ = false ∧ wr.frozen? ⟨w.heap.size + 1 + 1, 1, none⟩ = false) ∧ Below w.heap.size w wr ∧ w.heap.size + 1 + 1 + 1 ≤ wr.heap.size := by
  have hs := h.size
  simp at hs
  exact ⟨⟨(h.cell (p := ⟨w.heap.size, 0, none⟩) (by show w.heap.size < _; omega)).trans (by simp [go_sem]), (h.cell (p := ⟨w.heap.size, 1, none⟩) (by show w.heap.size < _; omega)).trans (by simp [go_sem])⟩,
    ⟨(h.cell (p := ⟨w.heap.size + 1, 0, none⟩) (by show w.heap.size + 1 < _; omega)).trans (by simp [go_sem]), (h.cell (p := ⟨w.heap.size + 1, 1, none⟩) (by show w.heap.size + 1 < _; omega)).trans (by simp [go_sem])⟩,
    ⟨(h.cell (p := ⟨w.heap.size + 1 + 1, 0, none⟩) (by show w.heap.size + 1 + 1 < _; omega)).trans (by simp [go_sem]), (h.cell (p := ⟨w.heap.size + 1 + 1, 1, none⟩) (by show w.heap.size + 1 + 1 < _; omega)).trans (by simp [go_sem])⟩,
    ⟨(h.frozen (p := ⟨w.heap.size + 1 + 1, 0, none⟩) (by show w.heap.size + 1 + 1 < _; omega)).trans (by simp [go_sem]), (h.frozen (p := ⟨w.heap.size + 1 + 1, 1, none⟩) (by show w.heap.size + 1 + 1 < _; omega)).trans (by simp [go_sem])⟩,
    (box3_below w sx A n c sy B m d).trans (h.mono (by omega)), hs⟩
def MulRel (W : World) (Bx : World) (v : Value) (da db : List Int) (i : Value) (wr : World) : Prop :=
  ∃ (k : Nat) (os : List Int), i = .int .i64 k ∧ k ≤ da.length ∧ OwnK wr (W.heap.size + 1 + 1 + 1) 3 .i64 v os ∧ os.length = da.length + db.length ∧ Dg os ∧ ev os = ev (da.take k) * ev db ∧
    (∀ t, k + db.length ≤ t → dgt os t = 0) ∧ Below (W.heap.size + 1 + 1 + 1) Bx wr
def MulRel2 (W : World) (Bx : World) (v : Value) (da db : List Int) (k : Nat) (cr j : Value) (wr : World) : Prop :=
  ∃ (t : Nat) (os : List Int) (c : Int), j = .int .i64 t ∧ cr = .int .i64 c ∧ t ≤ db.length ∧ OwnK wr (W.heap.size + 1 + 1 + 1) 3 .i64 v os ∧ os.length = da.length + db.length ∧ Dg os ∧ 0 ≤ c ∧ c < 65536 ∧
    ev os + 65536 ^ (k + t) * c = ev (da.take k) * ev db + 65536 ^ k * (dgt da k * ev (db.take t)) ∧ (∀ t, k + db.length ≤ t → dgt os t = 0) ∧ Below (W.heap.size + 1 + 1 + 1) Bx wr
set_option maxHeartbeats 4000000 in
theorem r3mul_raw (sx sy : Int) (A B : Option Addr) (c d : Nat) (da db : List Int) (z : Int) (S SA SB : Nat → Prop) (w : World) (ha : SlR w SA .i64 A da) (hb : SlR w SB .i64 B db)
    (hla : da.length ≤ 10000) (hlb : db.length ≤ 10000) (hda : Dg da) (hdb : Dg db) (he : ev da * ev db = (z.natAbs : Int)) (hs : sx * sy = z.sign) (hS : ∀ b, w.heap.size ≤ b → S b) :
    Calls Tryd.prog 39 #[.agg #[.int .i64 sx, .slice A da.length c], .agg #[.int .i64 sy, .slice B db.length d]] w (GivesNum w S (da.length + db.length) z) := by
  obtain ⟨i0, hi0, hz0, hz1, hz2⟩ := info_parts infoInt
  have HE := Lib.hid he
  have HS := Lib.hid hs
  have HSS := Lib.hid hS
  clear he hs hS
  go_enter Tryd.func39, Tryd.ntmps39
  go_wp2
  go_loopw [5, 6] (fun o i wr => ∃ j : Nat, j ≤ da.length + db.length ∧ i = .int .i64 j ∧ OwnK wr (w.heap.size + 1 + 1 + 1) 3 .i64 o (List.replicate j 0) ∧ Below (w.heap.size + 1 + 1 + 1) (Box3 w sx A da.length c sy B db.length d) wr) (fun _ i _ => da.length + db.length - (intOf i).toNat)
  case atStart => exact ⟨0, Nat.zero_le _, rfl, OwnK.nil_ _ _ _ _, Below.refl _ _⟩
  case round =>
    obtain ⟨j, hj, rfl, hown, hbl⟩ := hrel
    have HO := Lib.hid hown
    have hlen : (List.replicate j (0 : Int)).length ≤ 1000000000 := by rw [List.length_replicate]; omega
    obtain ⟨⟨c0, c1⟩, ⟨c2, c3⟩, ⟨c4, c5⟩, ⟨f4, f5⟩, hbw, hsz⟩ := box3_kept hbl
    clear hown
    by_cases hgo : j < da.length + db.length
    · have hgo' : decide ((j : Int) < (da.length : Int) + (db.length : Int)) = true := decide_eq_true (by omega)
      go_wp2_with (at_builtin; refine wp_app1 rfl (.tmp 22) (.tmp 23) 60 rfl (w.heap.size + 1 + 1 + 1) 3 .i64 i0 _ Tryd.underlying60 hi0 hz0 hz1 hz2 rfl _ _ _ rfl HO.out rfl hlen hsz ?_; intro v' w1 hown1 hb1)
      go_roundw
      case rel => exact ⟨j + 1, hgo, by go_num, by rw [List.replicate_succ']; exact hown1, hbl.trans hb1⟩
      case measure => simp [intOf]; omega
    · have hgo' : decide ((j : Int) < (da.length : Int) + (db.length : Int)) = false := decide_eq_false (by omega)
      obtain ⟨V, cv, rfl, hcv, hV⟩ := HO.out.slice_ (n := da.length + db.length) (by rw [List.length_replicate]; omega)
      have hjn : j = da.length + db.length := by omega
      go_wp2
      clear hgo hgo' hj c0 c1 c2 c3 c4 c5 f4 f5
      go_loopw [7, 8, 9, 10] (fun i _ _ _ wr => MulRel w (Box3 w sx A da.length c sy B db.length d) (.slice V (da.length + db.length) cv) da db i wr) (fun i _ _ _ _ => da.length - (intOf i).toNat)
      case atStart => exact ⟨0, _, rfl, Nat.zero_le _, HO.out, by rw [List.length_replicate, hjn], zeros_dg _, by rw [zeros_ev]; simp [ev], fun t _ => by unfold dgt; simp [List.getElem?_replicate]; split <;> rfl, hbl⟩
      case round =>
        clear hbl hbw hsz hlen HO
        obtain ⟨k, os, rfl, hk, hown, hlo, hdo, hev, hz, hbl⟩ := hrel
        have HO := Lib.hid hown
        have HD := Lib.hid hdo
        have HL := Lib.hid hlo
        have HV := Lib.hid hev
        have HZ := Lib.hid hz
        obtain ⟨⟨c0, c1⟩, ⟨c2, c3⟩, ⟨c4, c5⟩, ⟨f4, f5⟩, hbw, hsz⟩ := box3_kept hbl
        clear hown hdo hlo hev hz
        by_cases hgo : k < da.length
        · obtain ⟨g, rfl, hg⟩ := hV (by omega)
          go_wp2
          go_loopw [8, 9, 10] (fun cr j _ wr => MulRel2 w (Box3 w sx A da.length c sy B db.length d) (.slice (some ⟨g, 0, none⟩) (da.length + db.length) cv) da db k cr j wr) (fun _ j _ _ => db.length - (intOf j).toNat)
          case atStart => exact ⟨0, os, 0, rfl, rfl, Nat.zero_le _, HO.out, HL.out, HD.out, by decide, by decide, by rw [HV.out]; simp [ev], HZ.out, hbl⟩
          case round =>
            clear hbl hbw hsz c0 c1 c2 c3 c4 c5 f4 f5 HO HD HL HV HZ
            obtain ⟨t, os2, cr, rfl, rfl, ht, hown, hlo, hdo, h0, h1, hev, hz, hbl⟩ := hrel
            have HO := Lib.hid hown
            have HD := Lib.hid hdo
            have HL := Lib.hid hlo
            have HV := Lib.hid hev
            have HZ := Lib.hid hz
            obtain ⟨⟨c0, c1⟩, ⟨c2, c3⟩, ⟨c4, c5⟩, ⟨f4, f5⟩, hbw, hsz⟩ := box3_kept hbl
            have HA := Lib.hid hda
            have HB := Lib.hid hdb
            by_cases hgo2 : t < db.length
            · obtain ⟨b1, off1, rfl, _, hca⟩ := (ha.next hbw).at_ hgo
              obtain ⟨b2, off2, rfl, _, hcb⟩ := (hb.next hbw).at_ hgo2
              rw [← dgt_lt hgo] at hca
              rw [← dgt_lt hgo2] at hcb
              have hco := hown.cell_ hlo (show k + t < da.length + db.length by omega)
              have hfo := hown.frozen_ hlo (k + t)
              have hpd := prod_digits (hda.dgt k) (hdb.dgt t) (hdo.dgt (k + t)) ⟨h0, h1⟩
              obtain ⟨p0, p1, p2, p3⟩ := hpd
              have hdd := hdo.dgt (k + t)
              obtain ⟨q0, q1⟩ := hdd
              have e1 : IntKind.i64.wrap ((k : Int) + (t : Int)) = (k : Int) + (t : Int) := i64_small (by omega) (by omega)
              have e2 : ((k : Int) + (t : Int)).toNat = k + t := by omega
              have e3 : (0 : Int) ≤ (k : Int) + (t : Int) := by omega
              have e4 : IntKind.i64.wrap (dgt da k * dgt db t) = dgt da k * dgt db t := i64_small (by omega) (by omega)
              have e5 : IntKind.i64.wrap (dgt os2 (k + t) + dgt da k * dgt db t) = dgt os2 (k + t) + dgt da k * dgt db t := i64_small (by omega) (by omega)
              have e6 : IntKind.i64.wrap (dgt os2 (k + t) + dgt da k * dgt db t + cr) = dgt os2 (k + t) + dgt da k * dgt db t + cr := i64_small (by omega) (by omega)
              have e7 : (k : Int) + (t : Int) < (da.length : Int) + (db.length : Int) := by omega
              clear hown hlo hdo hev hz ha hb hda hdb
              go_wp2_with (fail)
              go_quiet (fail)
              go_wp2_with (fail)
              clear e1 e2 e3 e4 e5 e6 e7
              go_roundw
              case rel =>
                have hp : k + t < os2.length := by rw [HL.out]; omega
                exact ⟨t + 1, os2.set (k + t) ((dgt os2 (k + t) + dgt da k * dgt db t + cr) % 65536), _, by go_num, rfl, hgo2, (OwnK.set_ (os := os2) (by exact HO.out) HL.out (k + t) _).1, by rw [List.length_set]; exact HL.out, HD.out.set_ _ (by omega) (by omega), by omega, by omega, mul_step hp rfl HV.out,
                  fun i hi => by rw [dgt_set _ hp, if_neg (by omega)]; exact HZ.out i hi, (below_drewN' hbl _).setCell (p := ⟨g, k + t, none⟩) hg _⟩
              case measure => simp [intOf]; omega
            · have htl : t = db.length := by omega
              subst htl
              have hco := hown.cell_ hlo (show k + db.length < da.length + db.length by omega)
              have hfo := hown.frozen_ hlo (k + db.length)
              have hz0' : dgt os2 (k + db.length) = 0 := hz _ (Nat.le_refl _)
              rw [hz0'] at hco
              have HZ0 := Lib.hid hz0'
              have e7 : (k : Int) + (db.length : Int) < (da.length : Int) + (db.length : Int) := by omega
              clear hown hlo hdo hev hz ha hb hda hdb hz0'
              go_wp2_with (fail)
              go_roundw
              case rel =>
                have hp : k + db.length < os2.length := by rw [HL.out]; omega
                have hset := OwnK.set_ HO.out HL.out (k + db.length) cr
                exact ⟨k + 1, _, by go_num, hgo, hset.1, hset.2, HD.out.set_ _ h0 h1, mul_row hp HZ0.out HV.out,
                  fun i hi => by rw [dgt_set _ hp, if_neg (by omega)]; exact HZ.out i (by omega), hbl.setCell (p := ⟨g, k + db.length, none⟩) hg _⟩
              case measure => simp [intOf]; omega
        · have hkl : da.length ≤ k := by omega
          have HEV := Lib.hid (show ev os = (z.natAbs : Int) by rw [HV.out, List.take_of_length_le hkl, HE.out])
          obtain ⟨A1, c1', hv, hcap, _, hsl⟩ := HO.out.form
          injection hv with ev1 ev2 ev3
          subst ev1
          subst ev3
          have hlen2 : os.length ≤ 1000000 := by rw [HL.out]; omega
          have hmk := r3make16_any (sx * sy) V cv os z (fun b => w.heap.size + 1 + 1 < b) wr (hsl.imp fun b hb => by omega) hlen2 hcap HD.out HEV.out (fun _ => HS.out)
          rw [HL.out] at hmk
          have HMK := Lib.hid hmk
          have e8 : IntKind.i64.wrap (sx * sy) = sx * sy := by
            have h1 := sign_bd z
            have h2 := HS.out
            exact i64_small (by omega) (by omega)
          have HSS' := Lib.hid (show ∀ b, w.heap.size + 1 + 1 < b → b ≠ w.heap.size + 1 + 1 ∧ S b from fun b hb => ⟨by omega, HSS.out b (by omega)⟩)
          clear hmk hsl ha hb hda hdb HEV HE HV HZ HD HO HS HSS hgo hV ev2
          go_wp2_with (fail)
          refine HMK.out.mono ?_
          rintro e w2 ⟨_, rfl, ⟨A2, c2', ds2, rfl, hc2, hs2, hn2, he2, hl2⟩, hb2⟩
          have HV2 := Lib.hid he2
          clear he2
          have g4 : w2.cell? ⟨w.heap.size + 1 + 1, 0, none⟩ = some (.int .i64 0) := (hb2.cell (p := ⟨w.heap.size + 1 + 1, 0, none⟩) (by show w.heap.size + 1 + 1 < _; omega)).trans c4
          have g5 : w2.cell? ⟨w.heap.size + 1 + 1, 1, none⟩ = some (.slice none 0 0) := (hb2.cell (p := ⟨w.heap.size + 1 + 1, 1, none⟩) (by show w.heap.size + 1 + 1 < _; omega)).trans c5
          have k4 : w2.frozen? ⟨w.heap.size + 1 + 1, 0, none⟩ = false := (hb2.frozen (p := ⟨w.heap.size + 1 + 1, 0, none⟩) (by show w.heap.size + 1 + 1 < _; omega)).trans f4
          have k5 : w2.frozen? ⟨w.heap.size + 1 + 1, 1, none⟩ = false := (hb2.frozen (p := ⟨w.heap.size + 1 + 1, 1, none⟩) (by show w.heap.size + 1 + 1 < _; omega)).trans f5
          go_wp2
          have R := num_stored (S := S) (M := da.length + db.length) HSS'.out hc2 hs2 hn2 HV2.out hl2 (Nat.le_refl _) (hbw.trans (hb2.mono (by omega))) (.int .i64 z.sign) (.slice A2 ds2.length c2')
          clear HSS' HV2 HMK
          exact bodyPost_ret (v := .agg #[.int .i64 z.sign, .slice A2 ds2.length c2']) (by simp [results, Tryd.results39, go_sem, g4, g5]) rfl ⟨_, rfl, R.1, R.2⟩
theorem r3mul_any (va vb : Value) (x y : Int) (L M : Nat) (S : Nat → Prop) (w : World) (ha : NumR w S L va x) (hb : NumR w S M vb y) (hL : L ≤ 10000) (hM : M ≤ 10000) (hS : ∀ b, w.heap.size ≤ b → S b) :
    Calls Tryd.prog 39 #[va, vb] w (GivesNum w S (L + M) (x * y)) := by
  obtain ⟨A, c, da, rfl, hc, hs, hn, he, hl⟩ := ha
  obtain ⟨B, d, db, rfl, hd, hs2, hn2, he2, hl2⟩ := hb
  exact (r3mul_raw x.sign y.sign A B c d da db (x * y) S S S w hs hs2 (by omega) (by omega) hn.1 hn2.1 (by rw [he, he2, Int.natAbs_mul]; exact (Int.natCast_mul _ _).symm) (Int.sign_mul x y).symm hS).mono fun _ _ h => h.le (by omega)
end Go.Proofs.YtehnpmkolabiaaaDoor
/- Contracts of the reference of layer 3, sixth part: the limbs of a number. -/
namespace Go.Proofs.YtehnpmkolabiaaaDoor
open Go.RowKit
set_option maxRecDepth 100000
set_option linter.unusedVariables false
set_option linter.unusedSimpArgs false

/-- The value is a slice of words, in memory of the call's own. -/
def GivesU (w : World) (ls : List Int) (e : Ending) (w' : World) : Prop :=
  ∃ A c, e = .returned (.slice A ls.length c) ∧ ls.length ≤ c ∧ SlR w' (fun b => w.heap.size ≤ b) .u64 A ls ∧ Below w.heap.size w w'
theorem infoU : (Tryd.prog.info? 26).map (fun i => (i.zero, i.size, i.bytes)) = some (some (.int .u64 0), 1, 8) := by kernel_rfl
theorem r3digit_c (z : Int) (A : Option Addr) (c : Nat) (ds : List Int) (i : Nat) (S : Nat → Prop) (w : World) (h : SlR w S .i64 A ds) (hz : z = (i : Int)) :
    Calls Tryd.prog 61 #[.slice A ds.length c, .int .i64 z] w fun e w' => e = .returned (.int .i64 (dgt ds i)) ∧ w' = w := by
  subst hz; exact r3digit_any A c ds i S w h
theorem own_made (w : World) (n : Nat) (hn : n ≤ 1000) : OwnK (w.alloc (.cells (madeCells #[.int .u64 0] n) 26)) w.heap.size 26 .u64 (.slice (some ⟨w.heap.size, 0, none⟩) n n) (List.replicate n 0) := by
  have h := World.ownsRow_lit (e := 26) (size := 1) w (madeCells #[.int .u64 0] n) n (Nat.le_refl _) (by unfold maxLen; omega) (size_madeCells _ _ |>.trans (by simp))
  rw [toList_madeCells_one] at h
  unfold OwnK
  rw [List.length_replicate, List.map_replicate]
  exact h
def LimbRel (wc : World) (n : Nat) (dy : List Int) (i : Value) (wr : World) : Prop :=
  ∃ (q r : Nat) (os : List Int), i = .int .i64 (4 * (q : Int) + (r : Int)) ∧ r < 4 ∧ 4 * q + r ≤ 4 * n ∧ OwnK wr wc.heap.size 26 .u64 (.slice (some ⟨wc.heap.size, 0, none⟩) n n) os ∧ os.length = n ∧ Us os ∧
    uv os = ev (dy.take (4 * q + r)) ∧ Below wc.heap.size wc wr
def UnitRel (r : Nat) (u k : Value) : Prop := ∃ (t : Nat) (m : Int), k = .int .i64 t ∧ u = .int .u64 m ∧ t ≤ r ∧ m = 65536 ^ t
theorem limbRel_step {wc w2 : World} {n q r : Nat} {dy os : List Int} {v : Int} (hO : OwnK w2 wc.heap.size 26 .u64 (.slice (some ⟨wc.heap.size, 0, none⟩) n n) (os.set q v)) (hl : os.length = n) (hu : Us os) (hv : U v) (hr : r < 4) (hq : 4 * q + r < 4 * n)
    (huv : uv (os.set q v) = ev (dy.take (4 * q + r + 1))) (hb : Below wc.heap.size wc w2) : LimbRel wc n dy (.int .i64 (4 * (q : Int) + (r : Int) + 1)) w2 := by
  rcases Nat.lt_or_ge r 3 with h | h
  · exact ⟨q, r + 1, os.set q v, by go_num, by omega, by omega, hO, by rw [List.length_set]; exact hl, hu.set_ _ hv, huv, hb⟩
  · exact ⟨q + 1, 0, os.set q v, (by have : 4 * (q : Int) + (r : Int) + 1 = 4 * ((q + 1 : Nat) : Int) + ((0 : Nat) : Int) := (by omega); rw [this]), by omega, by omega, hO, by rw [List.length_set]; exact hl, hu.set_ _ hv, by rw [huv, show 4 * q + r + 1 = 4 * (q + 1) + 0 by omega], hb⟩
theorem pow3 {t : Nat} (h : t ≤ 3) : (1 : Int) ≤ 65536 ^ t ∧ (65536 : Int) ^ t ≤ 281474976710656 := by
  match t, h with
  | 0, _ => decide
  | 1, _ => decide
  | 2, _ => decide
  | 3, _ => decide
/-- The number whose limbs are taken lies in the second box. -/
def LimbsAt (w : World) (x : Int) (n : Nat) (wx : World) : Prop :=
  ∃ A c dy, wx.cell? ⟨w.heap.size + 1, 1, none⟩ = some (.slice A dy.length c) ∧ SlR wx (fun _ => True) .i64 A dy ∧ Dg dy ∧ ev dy % M n = x % M n ∧ Below w.heap.size w wx ∧ w.heap.size + 1 < wx.heap.size ∧ dy.length ≤ 1000000
end Go.Proofs.YtehnpmkolabiaaaDoor
/- Contracts of the reference of layer 3, last part: Is, Same, Fits. -/
namespace Go.Proofs.YtehnpmkolabiaaaDoor
open Go.RowKit
set_option maxRecDepth 100000
set_option linter.unusedVariables false
set_option linter.unusedSimpArgs false

/-- Whether two lists are equal. -/
def sameB (xs ys : List Int) : Bool := decide (xs = ys)
theorem sameB_self (xs : List Int) : sameB xs xs = true := decide_eq_true rfl
theorem sameB_ne {xs ys : List Int} (h : xs ≠ ys) : sameB xs ys = false := decide_eq_false h
theorem rbool {a b : Bool} (h : a = b) : Ending.returned (.bool a) = .returned (.bool b) := by rw [h]
def SameRel (W : World) (xs ys : List Int) (i : Value) (wr : World) : Prop := (∃ n, wr = W.drewN n) ∧ ∃ k : Nat, i = .int .i64 k ∧ k ≤ xs.length ∧ xs.take k = ys.take k
theorem take_step {xs ys : List Int} {k : Nat} (h1 : k < xs.length) (h2 : k < ys.length) (h : xs.take k = ys.take k) (he : dgt xs k = dgt ys k) : xs.take (k + 1) = ys.take (k + 1) := by
  rw [List.take_succ_eq_append_getElem h1, List.take_succ_eq_append_getElem h2, h, ← dgt_lt h1, ← dgt_lt h2, he]
/-- Whether the value of the n limbs of x is x. -/
def fitsB (x : Int) (n : Nat) : Bool := decide (sv (limbs n x) = x)
theorem cmp_c (A B : Option Addr) (c d : Nat) (da db : List Int) (v : Int) (SA SB : Nat → Prop) (w : World) (ha : SlR w SA .i64 A da) (hb : SlR w SB .i64 B db) (hla : da.length ≤ 1000000) (hda : Nf da) (hdb : Nf db) (hv : (ev da - ev db).sign = v) :
    Calls Tryd.prog 44 #[.slice A da.length c, .slice B db.length d] w fun e w' => e = .returned (.int .i64 v) ∧ ∃ n, w' = w.drewN n := by
  subst hv; exact r3compareDigits_any A B c d da db w SA SB ha hb hla hda hdb
end Go.Proofs.YtehnpmkolabiaaaDoor
