/-
  Packed texts: Ref03c, LimbM, Gen3, Ref06, Tail.
-/
import Derived.Deep.DeepCutAuto
import Derived.Deep.CutRange
import Derived.Lib.MinMax
import Derived.RangeFuncCalls
import Derived.OrdersIn
import Derived.TacticsIn
import Derived.Deep.QuietTactic
import Derived.BigQuiet
import Derived.Test.YthmkllpdkcmccaaGreatDoorP3
/- Contracts of the reference of layer 3, third part: difference, product, conversions. -/
namespace Go.Proofs.YthmkllpdkcmccaaGreatDoor
open Go.RowKit
set_option maxRecDepth 100000
set_option linter.unusedVariables false
set_option linter.unusedSimpArgs false

set_option maxHeartbeats 1000000 in
theorem r3sub_any (va vb : Value) (x y : Int) (L M : Nat) (S : Nat → Prop) (w : World) (ha : NumR w S L va x) (hb : NumR w S M vb y) (hL : L ≤ 900000) (hM : M ≤ 900000) (hS : ∀ b, w.heap.size ≤ b → S b) :
    Calls Tryz.prog 107 #[va, vb] w (GivesNum w S (max L M + 1) (x - y)) := by
  have ha' := ha.lt.imp (T := fun b => b ≠ w.heap.size + 1 + 1 ∧ S b) (fun b h => ⟨by omega, h.1⟩)
  have hb' := hb.lt.imp (T := fun b => b ≠ w.heap.size + 1 + 1 ∧ S b) (fun b h => ⟨by omega, h.1⟩)
  obtain ⟨A, c, da, rfl, hc, hs, hn, he, hl⟩ := ha
  obtain ⟨B, d, db, rfl, hd, hs2, hn2, he2, hl2⟩ := hb
  have hb3 := box3_below w x.sign A da.length c y.sign B db.length d
  have HSS := Lib.hid hS
  have HXY := Lib.hid (Int.sub_eq_add_neg (a := x) (b := y))
  clear hS he he2 hs hs2 hn hn2
  go_enter Tryz.func107, Tryz.ntmps107
  go_wp2_with (fail)
  go_region_law (first
    | (go_simp; go_at_call 122; refine (r3neg_any _ y M (fun b => b ≠ w.heap.size + 1 + 1 ∧ S b) _ (hb'.next (by first | exact hb3 | exact hb3.drew | exact below_drewN' hb3 _))).mono ?_; rintro e w1 ⟨v1, rfl, hn1, hb1⟩; obtain ⟨hcc, hff⟩ := cell_below hb1; have hz1 : w.heap.size + 1 + 1 < w1.heap.size := by (have := hb1.size; simp at this; omega))
    | (go_simp; go_at_call 106; refine (r3add_any _ v1 x (-y) L M (fun b => b ≠ w.heap.size + 1 + 1 ∧ S b) _ ((ha'.next hb3.drew).next hb1) hn1 hL hM (fun b hb => ⟨by omega, HSS.out b (by omega)⟩)).mono ?_; rintro e w2 ⟨_, rfl, ⟨A2, c2, ds2, rfl, hc2, hs3, hn3, he3, hl3⟩, hb2⟩; obtain ⟨hcd, hfd⟩ := cell_below hb2; have HV2 := Lib.hid he3; clear he3; have hz2 : w.heap.size + 1 + 1 < w2.heap.size := by (have := hb2.size; omega)))
  all_goals go_wp2
  all_goals
    have hbw2 : Below w.heap.size w w2 := (Below.trans hb3.drew (Below.mono hb1 (by simp; omega))).trans (hb2.mono (by omega))
    have R := num_stored (fun b h => h) hc2 hs3 hn3 HV2.out hl3 (Nat.le_refl _) hbw2 (.int .i64 (x + -y).sign) (.slice A2 ds2.length c2)
    rw [HXY.out]
    clear HSS HV2 HXY
    refine bodyPost_ret (v := .agg #[.int .i64 (x + -y).sign, .slice A2 ds2.length c2]) (by simp [results, Tryz.results107, go_sem, hcd, hcc, hz1]) rfl ⟨_, rfl, R.1, R.2⟩
/-- The digits that the conversion of a word has gathered. -/
def WordRel (W : World) (n : Int) (u o : Value) (wr : World) : Prop :=
  ∃ (os : List Int) (m : Int), u = .int .u64 m ∧ OwnK wr (W.heap.size + 1) 3 .i64 o os ∧ Dg os ∧ 0 ≤ m ∧ os.length ≤ 4 ∧ m < 65536 ^ (4 - os.length) ∧ ev os + 65536 ^ os.length * m = n ∧ Below (W.heap.size + 1) (Res1 W) wr
theorem word_step {os : List Int} {m n : Int} (h0 : 0 < m) (hl : os.length ≤ 4) (hm : m < 65536 ^ (4 - os.length)) (he : ev os + 65536 ^ os.length * m = n) :
    os.length < 4 ∧ m / 65536 < 65536 ^ (4 - (os.length + 1)) ∧ ev (os ++ [m % 65536]) + 65536 ^ (os.length + 1) * (m / 65536) = n := by
  have hl4 : os.length < 4 := by
    rcases Nat.lt_or_ge os.length 4 with h | h
    · exact h
    · rw [show 4 - os.length = 0 by omega] at hm; simp at hm; omega
  refine ⟨hl4, ?_, ?_⟩
  · rw [show 4 - os.length = (4 - (os.length + 1)) + 1 by omega, Int.pow_succ] at hm
    generalize (65536 : Int) ^ (4 - (os.length + 1)) = q at hm ⊢
    omega
  · rw [ev_snoc, Int.pow_succ, Int.mul_assoc]
    have : 65536 ^ os.length * (m % 65536) + 65536 ^ os.length * (65536 * (m / 65536)) = 65536 ^ os.length * m := by rw [← Int.mul_add]; congr 1; omega
    omega
theorem r3int_any (x : Int) (T : Nat → Prop) (w : World) (hS : ∀ b, w.heap.size ≤ b → T b) (hx : S x) :
    Calls Tryz.prog 132 #[.int .i64 x] w (GivesNum w T 4 x) := by
  obtain ⟨i0, hi0, hz0, hz1, hz2⟩ := info_parts infoInt
  have HM1 := Lib.hid (show (x.natAbs : Int) < 65536 ^ (4 - ([] : List Int).length) by unfold S at hx; simp; omega)
  by_cases h : x < 0
  rotate_left
  have h1 : 0 ≤ x := by omega
  have H0 := Lib.hid (show IntKind.u64.wrap x = (x.natAbs : Int) by rw [nonneg_wrap hx h1]; omega)
  have HS := Lib.hid (show x ≠ 0 → 1 = x.sign from fun hne => (sign_pos (by omega)).symm)
  have h5 : decide (x < 0) = false := decide_eq_false h
  clear h h1
  rotate_left
  have H0 := Lib.hid (show IntKind.u64.wrap (-IntKind.u64.wrap x) = (x.natAbs : Int) by rw [abs_wrap hx h]; omega)
  have HS := Lib.hid (show x ≠ 0 → -1 = x.sign from fun _ => (sign_neg h).symm)
  all_goals
    go_enter Tryz.func132, Tryz.ntmps132
    go_wp2
    go_loopw [3, 5] (fun u o wr => WordRel w (x.natAbs : Int) u o wr) (fun u _ _ => (intOf u).toNat)
    case atStart => exact ⟨[], _, rfl, OwnK.nil_ _ _ _ _, Dg.nil_, by rw [H0.out]; omega, by decide, by rw [H0.out]; exact HM1.out, by rw [H0.out]; simp [ev], Below.refl _ _⟩
    case round =>
      obtain ⟨os, m, rfl, hown, hdo, h0, hl4, hlt, hev, hbl⟩ := hrel
      have HO := Lib.hid hown
      have HE := Lib.hid hev
      have HD := Lib.hid hdo
      have HL := Lib.hid hlt
      obtain ⟨c0, c1, f0, f1, hbw, hsz⟩ := res1_kept hbl
      have hlen : os.length ≤ 1000000000 := by omega
      have hm64 : m ≤ 18446744073709551615 := by
        have : (65536 : Int) ^ (4 - os.length) ≤ 65536 ^ 4 := pow_le_pow (by omega)
        have e : (65536 : Int) ^ 4 = 18446744073709551616 := by decide
        omega
      by_cases hgo : 0 < m
      · obtain ⟨k1, k2, k3⟩ := word_step hgo hl4 hlt hev
        have K2 := Lib.hid k2
        have K3 := Lib.hid k3
        have hdv : m / 65536 < m := by omega
        clear hown hev hdo hlt k2 k3
        go_wp2_with (at_builtin; refine wp_app1 rfl (.tmp 14) (.tmp 18) 146 rfl (w.heap.size + 1) 3 .i64 i0 _ Tryz.underlying146 hi0 hz0 hz1 hz2 rfl _ os _ rfl HO.out rfl hlen (by omega) ?_; intro v' w1 hown1 hb1)
        go_roundw
        case rel => exact ⟨os ++ [m % 65536], m / 65536, rfl, hown1, HD.out.snoc (by omega) (by omega), by omega, by simp; omega, by rw [List.length_append]; exact K2.out, by rw [List.length_append]; exact K3.out, hbl.trans hb1⟩
        case measure => simp [intOf]; omega
      · have hm : m = 0 := by omega
        subst hm
        obtain ⟨A', c', rfl, hcap, _, hsl⟩ := hown.form
        have HV := Lib.hid (show ev os = (x.natAbs : Int) by omega)
        clear hown hev hdo hlt HE HL HO
        go_wp2_with (fail)
        refine (r3make16_any _ A' c' os x (fun b => w.heap.size + 1 ≤ b) _ hsl (by omega) hcap HD.out HV.out HS.out).mono ?_
        rintro e w2 ⟨_, rfl, ⟨A2, c2, ds2, rfl, hc2, hs2, hn2, he2, hl2⟩, hb2⟩
        have HV2 := Lib.hid he2
        clear he2
        obtain ⟨hcd, hfd⟩ := cell_below hb2
        go_wp2
        have R := num_stored_at (S := T) (L := 4) (Nat.le_refl w.heap.size) (fun b hb => ⟨by omega, hS b (by omega)⟩) hc2 hs2 hn2 HV2.out (by omega) (Nat.le_refl _) (hbw.trans (hb2.mono (by omega))) (.int .i64 x.sign) (.slice A2 ds2.length c2)
        clear HV2 HV HS
        exact bodyPost_ret (v := .agg #[.int .i64 x.sign, .slice A2 ds2.length c2]) (by simp [results, Tryz.results132, go_sem, hcd, hsz, c0, c1]) rfl ⟨_, rfl, R.1, R.2⟩
end Go.Proofs.YthmkllpdkcmccaaGreatDoor
/- Contracts of the reference of layer 3, fourth part: the value of an integer. -/
namespace Go.Proofs.YthmkllpdkcmccaaGreatDoor
open Go.RowKit
set_option maxRecDepth 100000
set_option linter.unusedVariables false
set_option linter.unusedSimpArgs false

end Go.Proofs.YthmkllpdkcmccaaGreatDoor
/- Contracts of the reference of layer 3, fifth part: the product. -/
namespace Go.Proofs.YthmkllpdkcmccaaGreatDoor
open Go.RowKit
set_option maxRecDepth 100000
set_option linter.unusedVariables false
set_option linter.unusedSimpArgs false

theorem box3_kept {w wr : World} {sx sy : Int} {A B : Option Addr} {n c m d : Nat} (h : Below (w.heap.size + 1 + 1 + 1) (Box3 w sx A n c sy B m d) wr) :
    (wr.cell? ⟨w.heap.size, 0, none⟩ = some (.int .i64 sx) ∧ wr.cell? ⟨w.heap.size, 1, none⟩ = some (.slice A n c)) ∧ (wr.cell? ⟨w.heap.size + 1, 0, none⟩ = some (.int .i64 sy) ∧ wr.cell? ⟨w.heap.size + 1, 1, none⟩ = some (.slice B m d)) ∧
    (wr.cell? ⟨w.heap.size + 1 + 1, 0, none⟩ = some (.int .i64 0) ∧ wr.cell? ⟨w.heap.size + 1 + 1, 1, none⟩ = some (.slice none 0 0)) ∧
    (wr.frozen? ⟨w.heap.size + 1 + 1, 0, none⟩ = false ∧ wr.frozen? ⟨w.heap.size + 1 + 1, 1, none⟩ = false) ∧ Below w.heap.size w wr ∧ w.heap.size + 1 + 1 + 1 ≤ wr.heap.size := by
  have hs := h.size
  simp at hs
  exact ⟨⟨(h.cell (p := ⟨w.heap.size, 0, none⟩) (by show w.heap.size < _; omega)).trans (by simp [go_sem]), (h.cell (p := ⟨w.heap.size, 1, none⟩) (by show w.heap.size < _; omega)).trans (by simp [go_sem])⟩,
    ⟨(h.cell (p := ⟨w.heap.size + 1, 0, none⟩) (by show w.heap.size + 1 < _; omega)).trans (by simp [go_sem]), (h.cell (p := ⟨w.heap.size + 1, 1, none⟩) (by show w.heap.size + 1 < _; omega)).trans (by simp [go_sem])⟩,
    ⟨(h.cell (p := ⟨w.heap.size + 1 + 1, 0, none⟩) (by show w.heap.size + 1 + 1 < _; omega)).trans (by simp [go_sem]), (h.cell (p := ⟨w.heap.size + 1 + 1, 1, none⟩) (by show w.heap.size + 1 + 1 < _; omega)).trans (by simp [go_sem])⟩,
    ⟨(h.frozen (p := ⟨w.heap.size + 1 + 1, 0, none⟩) (by show w.heap.size + 1 + 1 < _; omega)).trans (by simp [go_sem]), (h.frozen (p := ⟨w.heap.size + 1 + 1, 1, none⟩) (by show w.heap.size + 1 + 1 < _; omega)).trans (by simp [go_sem])⟩,
    (box3_below w sx A n c sy B m d).trans (h.mono (by omega)), hs⟩
def MulRel (W : World) (Bx : World) (v : Value) (da db : List Int) (i : Value) (wr : World) : Prop :=
  ∃ (k : Nat) (os : List Int), i = .int .i64 k ∧ k ≤ da.length ∧ OwnK wr (W.heap.size + 1 + 1 + 1) 3 .i64 v os ∧ os.length = da.length + db.length ∧ Dg os ∧ ev os = ev (da.take k) * ev db ∧
    (∀ t, k + db.length ≤ t → dgt os t = 0) ∧ Below (W.heap.size + 1 + 1 + 1) Bx wr
def MulRel2 (W : World) (Bx : World) (v : Value) (da db : List Int) (k : Nat) (cr j : Value) (wr : World) : Prop :=
  ∃ (t : Nat) (os : List Int) (c : Int), j = .int .i64 t ∧ cr = .int .i64 c ∧ t ≤ db.length ∧ OwnK wr (W.heap.size + 1 + 1 + 1) 3 .i64 v os ∧ os.length = da.length + db.length ∧ Dg os ∧ 0 ≤ c ∧ c < 65536 ∧
    ev os + 65536 ^ (k + t) * c = ev (da.take k) * ev db + 65536 ^ k * (dgt da k * ev (db.take t)) ∧ (∀ t, k + db.length ≤ t → dgt os t = 0) ∧ Below (W.heap.size + 1 + 1 + 1) Bx wr
set_option maxHeartbeats 4000000 in
theorem r3mul_raw (sx sy : Int) (A B : Option Addr) (c d : Nat) (da db : List Int) (z : Int) (S SA SB : Nat → Prop) (w : World) (ha : SlR w SA .i64 A da) (hb : SlR w SB .i64 B db)
    (hla : da.length ≤ 10000) (hlb : db.length ≤ 10000) (hda : Dg da) (hdb : Dg db) (he : ev da * ev db = (z.natAbs : Int)) (hs : sx * sy = z.sign) (hS : ∀ b, w.heap.size ≤ b → S b) :
    Calls Tryz.prog 131 #[.agg #[.int .i64 sx, .slice A da.length c], .agg #[.int .i64 sy, .slice B db.length d]] w (GivesNum w S (da.length + db.length) z) := by
  obtain ⟨i0, hi0, hz0, hz1, hz2⟩ := info_parts infoInt
  have HE := Lib.hid he
  have HS := Lib.hid hs
  have HSS := Lib.hid hS
  clear he hs hS
  go_enter Tryz.func131, Tryz.ntmps131
  go_wp2
  go_loopw [5, 6] (fun o i wr => ∃ j : Nat, j ≤ da.length + db.length ∧ i = .int .i64 j ∧ OwnK wr (w.heap.size + 1 + 1 + 1) 3 .i64 o (List.replicate j 0) ∧ Below (w.heap.size + 1 + 1 + 1) (Box3 w sx A da.length c sy B db.length d) wr) (fun _ i _ => da.length + db.length - (intOf i).toNat)
  case atStart => exact ⟨0, Nat.zero_le _, rfl, OwnK.nil_ _ _ _ _, Below.refl _ _⟩
  case round =>
    obtain ⟨j, hj, rfl, hown, hbl⟩ := hrel
    have HO := Lib.hid hown
    have hlen : (List.replicate j (0 : Int)).length ≤ 1000000000 := by rw [List.length_replicate]; omega
    obtain ⟨⟨c0, c1⟩, ⟨c2, c3⟩, ⟨c4, c5⟩, ⟨f4, f5⟩, hbw, hsz⟩ := box3_kept hbl
    clear hown
    by_cases hgo : j < da.length + db.length
    · have hgo' : decide ((j : Int) < (da.length : Int) + (db.length : Int)) = true := decide_eq_true (by omega)
      go_wp2_with (at_builtin; refine wp_app1 rfl (.tmp 22) (.tmp 23) 146 rfl (w.heap.size + 1 + 1 + 1) 3 .i64 i0 _ Tryz.underlying146 hi0 hz0 hz1 hz2 rfl _ _ _ rfl HO.out rfl hlen hsz ?_; intro v' w1 hown1 hb1)
      go_roundw
      case rel => exact ⟨j + 1, hgo, by go_num, by rw [List.replicate_succ']; exact hown1, hbl.trans hb1⟩
      case measure => simp [intOf]; omega
    · have hgo' : decide ((j : Int) < (da.length : Int) + (db.length : Int)) = false := decide_eq_false (by omega)
      obtain ⟨V, cv, rfl, hcv, hV⟩ := HO.out.slice_ (n := da.length + db.length) (by rw [List.length_replicate]; omega)
      have hjn : j = da.length + db.length := by omega
      go_wp2
      clear hgo hgo' hj c0 c1 c2 c3 c4 c5 f4 f5
      go_loopw [7, 8, 9, 10] (fun i _ _ _ wr => MulRel w (Box3 w sx A da.length c sy B db.length d) (.slice V (da.length + db.length) cv) da db i wr) (fun i _ _ _ _ => da.length - (intOf i).toNat)
      case atStart => exact ⟨0, _, rfl, Nat.zero_le _, HO.out, by rw [List.length_replicate, hjn], zeros_dg _, by rw [zeros_ev]; simp [ev], fun t _ => by unfold dgt; simp [List.getElem?_replicate]; split <;> rfl, hbl⟩
      case round =>
        clear hbl hbw hsz hlen HO
        obtain ⟨k, os, rfl, hk, hown, hlo, hdo, hev, hz, hbl⟩ := hrel
        have HO := Lib.hid hown
        have HD := Lib.hid hdo
        have HL := Lib.hid hlo
        have HV := Lib.hid hev
        have HZ := Lib.hid hz
        obtain ⟨⟨c0, c1⟩, ⟨c2, c3⟩, ⟨c4, c5⟩, ⟨f4, f5⟩, hbw, hsz⟩ := box3_kept hbl
        clear hown hdo hlo hev hz
        by_cases hgo : k < da.length
        · obtain ⟨g, rfl, hg⟩ := hV (by omega)
          go_wp2
          go_loopw [8, 9, 10] (fun cr j _ wr => MulRel2 w (Box3 w sx A da.length c sy B db.length d) (.slice (some ⟨g, 0, none⟩) (da.length + db.length) cv) da db k cr j wr) (fun _ j _ _ => db.length - (intOf j).toNat)
          case atStart => exact ⟨0, os, 0, rfl, rfl, Nat.zero_le _, HO.out, HL.out, HD.out, by decide, by decide, by rw [HV.out]; simp [ev], HZ.out, hbl⟩
          case round =>
            clear hbl hbw hsz c0 c1 c2 c3 c4 c5 f4 f5 HO HD HL HV HZ
            obtain ⟨t, os2, cr, rfl, rfl, ht, hown, hlo, hdo, h0, h1, hev, hz, hbl⟩ := hrel
            have HO := Lib.hid hown
            have HD := Lib.hid hdo
            have HL := Lib.hid hlo
            have HV := Lib.hid hev
            have HZ := Lib.hid hz
            obtain ⟨⟨c0, c1⟩, ⟨c2, c3⟩, ⟨c4, c5⟩, ⟨f4, f5⟩, hbw, hsz⟩ := box3_kept hbl
            have HA := Lib.hid hda
            have HB := Lib.hid hdb
            by_cases hgo2 : t < db.length
            · obtain ⟨b1, off1, rfl, _, hca⟩ := (ha.next hbw).at_ hgo
              obtain ⟨b2, off2, rfl, _, hcb⟩ := (hb.next hbw).at_ hgo2
              rw [← dgt_lt hgo] at hca
              rw [← dgt_lt hgo2] at hcb
              have hco := hown.cell_ hlo (show k + t < da.length + db.length by omega)
              have hfo := hown.frozen_ hlo (k + t)
              have hpd := prod_digits (hda.dgt k) (hdb.dgt t) (hdo.dgt (k + t)) ⟨h0, h1⟩
              obtain ⟨p0, p1, p2, p3⟩ := hpd
              have hdd := hdo.dgt (k + t)
              obtain ⟨q0, q1⟩ := hdd
              have e1 : IntKind.i64.wrap ((k : Int) + (t : Int)) = (k : Int) + (t : Int) := i64_small (by omega) (by omega)
              have e2 : ((k : Int) + (t : Int)).toNat = k + t := by omega
              have e3 : (0 : Int) ≤ (k : Int) + (t : Int) := by omega
              have e4 : IntKind.i64.wrap (dgt da k * dgt db t) = dgt da k * dgt db t := i64_small (by omega) (by omega)
              have e5 : IntKind.i64.wrap (dgt os2 (k + t) + dgt da k * dgt db t) = dgt os2 (k + t) + dgt da k * dgt db t := i64_small (by omega) (by omega)
              have e6 : IntKind.i64.wrap (dgt os2 (k + t) + dgt da k * dgt db t + cr) = dgt os2 (k + t) + dgt da k * dgt db t + cr := i64_small (by omega) (by omega)
              have e7 : (k : Int) + (t : Int) < (da.length : Int) + (db.length : Int) := by omega
              clear hown hlo hdo hev hz ha hb hda hdb
              go_wp2_with (fail)
              go_quiet (fail)
              go_wp2_with (fail)
              clear e1 e2 e3 e4 e5 e6 e7
              go_roundw
              case rel =>
                have hp : k + t < os2.length := by rw [HL.out]; omega
                exact ⟨t + 1, os2.set (k + t) ((dgt os2 (k + t) + dgt da k * dgt db t + cr) % 65536), _, by go_num, rfl, hgo2, (OwnK.set_ (os := os2) (by exact HO.out) HL.out (k + t) _).1, by rw [List.length_set]; exact HL.out, HD.out.set_ _ (by omega) (by omega), by omega, by omega, mul_step hp rfl HV.out,
                  fun i hi => by rw [dgt_set _ hp, if_neg (by omega)]; exact HZ.out i hi, (below_drewN' hbl _).setCell (p := ⟨g, k + t, none⟩) hg _⟩
              case measure => simp [intOf]; omega
            · have htl : t = db.length := by omega
              subst htl
              have hco := hown.cell_ hlo (show k + db.length < da.length + db.length by omega)
              have hfo := hown.frozen_ hlo (k + db.length)
              have hz0' : dgt os2 (k + db.length) = 0 := hz _ (Nat.le_refl _)
              rw [hz0'] at hco
              have HZ0 := Lib.hid hz0'
              have e7 : (k : Int) + (db.length : Int) < (da.length : Int) + (db.length : Int) := by omega
              clear hown hlo hdo hev hz ha hb hda hdb hz0'
              go_wp2_with (fail)
              go_roundw
              case rel =>
                have hp : k + db.length < os2.length := by rw [HL.out]; omega
                have hset := OwnK.set_ HO.out HL.out (k + db.length) cr
                exact ⟨k + 1, _, by go_num, hgo, hset.1, hset.2, HD.out.set_ _ h0 h1, mul_row hp HZ0.out HV.out,
                  fun i hi => by rw [dgt_set _ hp, if_neg (by omega)]; exact HZ.out i (by omega), hbl.setCell (p := ⟨g, k + db.length, none⟩) hg _⟩
              case measure => simp [intOf]; omega
        · have hkl : da.length ≤ k := by omega
          have HEV := Lib.hid (show ev os = (z.natAbs : Int) by rw [HV.out, List.take_of_length_le hkl, HE.out])
          obtain ⟨A1, c1', hv, hcap, _, hsl⟩ := HO.out.form
          injection hv with ev1 ev2 ev3
          subst ev1
          subst ev3
          have hlen2 : os.length ≤ 1000000 := by rw [HL.out]; omega
          have hmk := r3make16_any (sx * sy) V cv os z (fun b => w.heap.size + 1 + 1 < b) wr (hsl.imp fun b hb => by omega) hlen2 hcap HD.out HEV.out (fun _ => HS.out)
          rw [HL.out] at hmk
          have HMK := Lib.hid hmk
          have e8 : IntKind.i64.wrap (sx * sy) = sx * sy := by
            have h1 := sign_bd z
            have h2 := HS.out
            exact i64_small (by omega) (by omega)
          have HSS' := Lib.hid (show ∀ b, w.heap.size + 1 + 1 < b → b ≠ w.heap.size + 1 + 1 ∧ S b from fun b hb => ⟨by omega, HSS.out b (by omega)⟩)
          clear hmk hsl ha hb hda hdb HEV HE HV HZ HD HO HS HSS hgo hV ev2
          go_wp2_with (fail)
          refine HMK.out.mono ?_
          rintro e w2 ⟨_, rfl, ⟨A2, c2', ds2, rfl, hc2, hs2, hn2, he2, hl2⟩, hb2⟩
          have HV2 := Lib.hid he2
          clear he2
          have g4 : w2.cell? ⟨w.heap.size + 1 + 1, 0, none⟩ = some (.int .i64 0) := (hb2.cell (p := ⟨w.heap.size + 1 + 1, 0, none⟩) (by show w.heap.size + 1 + 1 < _; omega)).trans c4
          have g5 : w2.cell? ⟨w.heap.size + 1 + 1, 1, none⟩ = some (.slice none 0 0) := (hb2.cell (p := ⟨w.heap.size + 1 + 1, 1, none⟩) (by show w.heap.size + 1 + 1 < _; omega)).trans c5
          have k4 : w2.frozen? ⟨w.heap.size + 1 + 1, 0, none⟩ = false := (hb2.frozen (p := ⟨w.heap.size + 1 + 1, 0, none⟩) (by show w.heap.size + 1 + 1 < _; omega)).trans f4
          have k5 : w2.frozen? ⟨w.heap.size + 1 + 1, 1, none⟩ = false := (hb2.frozen (p := ⟨w.heap.size + 1 + 1, 1, none⟩) (by show w.heap.size + 1 + 1 < _; omega)).trans f5
          go_wp2
          have R := num_stored (S := S) (M := da.length + db.length) HSS'.out hc2 hs2 hn2 HV2.out hl2 (Nat.le_refl _) (hbw.trans (hb2.mono (by omega))) (.int .i64 z.sign) (.slice A2 ds2.length c2')
          clear HSS' HV2 HMK
          exact bodyPost_ret (v := .agg #[.int .i64 z.sign, .slice A2 ds2.length c2']) (by simp [results, Tryz.results131, go_sem, g4, g5]) rfl ⟨_, rfl, R.1, R.2⟩
theorem r3mul_any (va vb : Value) (x y : Int) (L M : Nat) (S : Nat → Prop) (w : World) (ha : NumR w S L va x) (hb : NumR w S M vb y) (hL : L ≤ 10000) (hM : M ≤ 10000) (hS : ∀ b, w.heap.size ≤ b → S b) :
    Calls Tryz.prog 131 #[va, vb] w (GivesNum w S (L + M) (x * y)) := by
  obtain ⟨A, c, da, rfl, hc, hs, hn, he, hl⟩ := ha
  obtain ⟨B, d, db, rfl, hd, hs2, hn2, he2, hl2⟩ := hb
  exact (r3mul_raw x.sign y.sign A B c d da db (x * y) S S S w hs hs2 (by omega) (by omega) hn.1 hn2.1 (by rw [he, he2, Int.natAbs_mul]; exact (Int.natCast_mul _ _).symm) (Int.sign_mul x y).symm hS).mono fun _ _ h => h.le (by omega)
end Go.Proofs.YthmkllpdkcmccaaGreatDoor
/- Contracts of the reference of layer 3, sixth part: the limbs of a number. -/
namespace Go.Proofs.YthmkllpdkcmccaaGreatDoor
open Go.RowKit
set_option maxRecDepth 100000
set_option linter.unusedVariables false
set_option linter.unusedSimpArgs false

/-- The value is a slice of words, in memory of the call's own. -/
def GivesU (w : World) (ls : List Int) (e : Ending) (w' : World) : Prop :=
  ∃ A c, e = .returned (.slice A ls.length c) ∧ ls.length ≤ c ∧ SlR w' (fun b => w.heap.size ≤ b) .u64 A ls ∧ Below w.heap.size w w'
theorem infoU : (Tryz.prog.info? 64).map (fun i => (i.zero, i.size, i.bytes)) = some (some (.int .u64 0), 1, 8) := by kernel_rfl
theorem own_made (w : World) (n : Nat) (hn : n ≤ 1000) : OwnK (w.alloc (.cells (madeCells #[.int .u64 0] n) 64)) w.heap.size 64 .u64 (.slice (some ⟨w.heap.size, 0, none⟩) n n) (List.replicate n 0) := by
  have h := World.ownsRow_lit (e := 64) (size := 1) w (madeCells #[.int .u64 0] n) n (Nat.le_refl _) (by unfold maxLen; omega) (size_madeCells _ _ |>.trans (by simp))
  rw [toList_madeCells_one] at h
  unfold OwnK
  rw [List.length_replicate, List.map_replicate]
  exact h
end Go.Proofs.YthmkllpdkcmccaaGreatDoor
/- Contracts of the reference of layer 3, last part: Is, Same, Fits. -/
namespace Go.Proofs.YthmkllpdkcmccaaGreatDoor
open Go.RowKit
set_option maxRecDepth 100000
set_option linter.unusedVariables false
set_option linter.unusedSimpArgs false

end Go.Proofs.YthmkllpdkcmccaaGreatDoor
namespace Go.Proofs.YthmkllpdkcmccaaGreatDoor

/-- Whether the value is negative. -/
def neg (l : List Int) : Bool := decide (sv l < 0)
/-- One or zero. -/
def b1 (c : Bool) : Int := if c then 1 else 0
theorem b1_true : b1 true = 1 := rfl
theorem b1_false : b1 false = 0 := rfl
theorem neg_top {l : List Int} (h : Us l) (h0 : 0 < l.length) : decide (9223372036854775808 ≤ l[l.length - 1]) = neg l := by
  have e := sv_top h h0
  have h1 := uv_nonneg h
  have h2 := uv_lt h
  rw [M_digits] at h2
  unfold neg
  rw [decide_eq_decide, e]
  split <;> omega
theorem sv_b1 {l : List Int} (h : Us l) : sv l = uv l - M l.length * b1 (neg l) := by
  have h1 := uv_nonneg h
  have h2 := uv_lt h
  have hp := M_pos l.length
  by_cases hn : sv l < 0
  · have e : neg l = true := decide_eq_true hn
    rw [e, b1_true, Int.mul_one]
    unfold sv at hn ⊢
    split at hn
    · omega
    · rename_i h3; rw [if_neg h3]
  · have e : neg l = false := decide_eq_false hn
    rw [e, b1_false, Int.mul_zero, Int.sub_zero]
    unfold sv at hn ⊢
    split at hn
    · rename_i h3; rw [if_pos h3]
    · omega
theorem uv_take_dgt (l : List Int) (k : Nat) : uv (l.take (k + 1)) = uv (l.take k) + M k * dgt l k := by
  rcases Nat.lt_or_ge k l.length with h | h
  · rw [uv_take_succ h, dgt_lt h]
  · rw [List.take_of_length_le (by omega), List.take_of_length_le h, dgt_ge h]; omega
theorem uv_take_mod {l : List Int} (h : Us l) {k : Nat} (hk : k ≤ l.length) : uv (l.take k) = uv l % M k := by
  have h0 := uv_nonneg (h.take k)
  have h1 := uv_lt (h.take k)
  have e := uv_append (l.take k) (l.drop k)
  rw [List.take_append_drop, List.length_take, Nat.min_eq_left hk] at e
  rw [List.length_take, Nat.min_eq_left hk] at h1
  rw [e, Int.add_mul_emod_self_left]
  exact (Int.emod_eq_of_lt h0 h1).symm
theorem mod_mod_le {m n : Nat} (h : m ≤ n) (x : Int) : x % M n % M m = x % M m := by
  obtain ⟨k, rfl⟩ := Nat.exists_eq_add_of_le h
  exact Int.emod_emod_of_dvd x ⟨M k, M_add m k⟩
/-- Lists by their digits. -/
theorem ext_dgt {xs ys : List Int} (hl : xs.length = ys.length) (h : ∀ t, t < xs.length → dgt xs t = dgt ys t) : xs = ys :=
  List.ext_getElem hl fun t h1 h2 => by rw [← dgt_lt h1, ← dgt_lt h2]; exact h t h1
theorem dgt_replicate (n t : Nat) (x : Int) : dgt (List.replicate n x) t = if t < n then x else 0 := by
  unfold dgt
  rw [List.getD_eq_getElem?_getD, List.getElem?_replicate]
  split <;> rfl
theorem dgt_append (xs ys : List Int) (t : Nat) : dgt (xs ++ ys) t = if t < xs.length then dgt xs t else dgt ys (t - xs.length) := by
  unfold dgt
  rw [List.getD_eq_getElem?_getD, List.getD_eq_getElem?_getD, List.getD_eq_getElem?_getD, List.getElem?_append]
  split <;> rfl
theorem dgt_take (xs : List Int) (n t : Nat) : dgt (xs.take n) t = if t < n then dgt xs t else 0 := by
  unfold dgt
  rw [List.getD_eq_getElem?_getD, List.getD_eq_getElem?_getD, List.getElem?_take]
  split <;> rfl
/-- An integer brought to n limbs. -/
def ext (l : List Int) (n : Nat) : List Int := l.take n ++ List.replicate (n - l.length) (mk (neg l))
theorem ext_length (l : List Int) (n : Nat) : (ext l n).length = n := by unfold ext; simp; omega
theorem ext_dgt_at (l : List Int) {n t : Nat} (h : t < n) : dgt (ext l n) t = if t < l.length then dgt l t else mk (neg l) := by
  unfold ext
  rw [dgt_append, List.length_take, dgt_take, dgt_replicate]
  by_cases h1 : t < l.length
  · rw [if_pos (by omega), if_pos h, if_pos h1]
  · rw [if_neg (by omega), if_neg h1, if_pos (by omega)]
theorem uv_fill (r : Nat) (c : Bool) : uv (List.replicate r (mk c)) = (M r - 1) * b1 c := by
  induction r with
  | zero => simp [uv, M_zero]
  | succ r ih =>
    rw [List.replicate_succ]
    simp only [uv, ih, M_succ]
    cases c
    · simp [mk, b1]
    · simp only [mk_true, b1_true]; omega
theorem fill_us (r : Nat) (c : Bool) : Us (List.replicate r (mk c)) := fun d hd => by rw [List.eq_of_mem_replicate hd]; exact U_mk c
theorem ext_us {l : List Int} (h : Us l) (n : Nat) : Us (ext l n) := fun d hd => by
  unfold ext at hd
  rcases List.mem_append.1 hd with h' | h'
  · exact h.take n d h'
  · exact fill_us _ _ d h'
theorem ext_limbs {l : List Int} (h : Us l) (n : Nat) : ext l n = limbs n (sv l) := by
  refine limbs_unique (ext_length l n) (ext_us h n) ?_
  unfold ext
  rcases Nat.lt_or_ge l.length n with hn | hn
  case inr => rw [show n - l.length = 0 by omega, List.replicate_zero, List.append_nil, uv_take_mod h hn, ← sv_mod l h, mod_mod_le hn]
  case inl =>
    rw [List.take_of_length_le (by omega), uv_append, uv_fill, sv_b1 h]
    obtain ⟨k, rfl⟩ := Nat.exists_eq_add_of_le (Nat.le_of_lt hn)
    rw [show l.length + k - l.length = k by omega, M_add]
    have h1 := uv_nonneg h
    have h2 := uv_lt h
    have hk := M_pos k
    have hl := M_pos l.length
    have hle : M l.length ≤ M l.length * M k := by
      have := Int.mul_le_mul_of_nonneg_left (show (1 : Int) ≤ M k by omega) (Int.le_of_lt hl)
      omega
    cases hneg : neg l
    · simp only [b1_false, Int.mul_zero, Int.add_zero, Int.sub_zero]
      exact (Int.emod_eq_of_lt h1 (by omega)).symm
    · simp only [b1_true, Int.mul_one]
      have hr := sv_range h
      have hs := sv_b1 h
      rw [hneg, b1_true, Int.mul_one] at hs
      have e : uv l + M l.length * (M k - 1) = (uv l - M l.length) + M l.length * M k := by rw [Int.mul_sub]; omega
      rw [e]
      have : (uv l - M l.length) % (M l.length * M k) = ((uv l - M l.length) + M l.length * M k) % (M l.length * M k) := by rw [Int.add_emod_right]
      rw [this]
      exact (Int.emod_eq_of_lt (by omega) (by omega)).symm
/-- Sums, limb by limb. -/
theorem uadd_step {os la lb : List Int} {k : Nat} {c s : Int} (hk : k < os.length) (h0 : dgt os k = 0) (hs : s = dgt la k + dgt lb k + c)
    (h : uv os + M k * c = uv (la.take k) + uv (lb.take k)) : uv (os.set k (lo s)) + M (k + 1) * hi s = uv (la.take (k + 1)) + uv (lb.take (k + 1)) := by
  rw [uv_set _ hk, h0, Int.sub_zero, M_succ, Int.mul_assoc, uv_take_dgt la, uv_take_dgt lb]
  have e : M k * lo s + M k * (18446744073709551616 * hi s) = M k * s := by rw [← Int.mul_add]; congr 1; have := lo_hi s; omega
  have e2 : M k * s = M k * dgt la k + M k * dgt lb k + M k * c := by rw [hs, Int.mul_add, Int.mul_add]
  omega
theorem uadd_end {os la lb : List Int} {c : Int} (hl : os.length = la.length) (hla : Us la) (hlb : Us lb) (hu : Us os) (hab : la.length = lb.length) (h : uv os + M os.length * c = uv la + uv lb) :
    os = limbs la.length (sv la + sv lb) := by
  refine limbs_unique hl hu ?_
  have h1 := uv_nonneg hu
  have h2 := uv_lt hu
  rw [sv_b1 hla, sv_b1 hlb, ← hab]
  rw [hl] at h h2
  have e : uv la - M la.length * b1 (neg la) + (uv lb - M la.length * b1 (neg lb)) = uv os + M la.length * (c - b1 (neg la) - b1 (neg lb)) := by
    rw [Int.mul_sub, Int.mul_sub]; omega
  rw [e, Int.add_mul_emod_self_left]
  exact (Int.emod_eq_of_lt h1 h2).symm
theorem lo_bo (n : Int) : lo n - bo n * 18446744073709551616 = n := by unfold lo bo; omega
theorem usub_step {os la lb : List Int} {k : Nat} {c s : Int} (hk : k < os.length) (h0 : dgt os k = 0) (hs : s = dgt la k - dgt lb k - c)
    (h : uv os - M k * c = uv (la.take k) - uv (lb.take k)) : uv (os.set k (lo s)) - M (k + 1) * bo s = uv (la.take (k + 1)) - uv (lb.take (k + 1)) := by
  rw [uv_set _ hk, h0, Int.sub_zero, M_succ, Int.mul_assoc, uv_take_dgt la, uv_take_dgt lb]
  have e : M k * lo s - M k * (18446744073709551616 * bo s) = M k * s := by rw [← Int.mul_sub]; congr 1; have := lo_bo s; omega
  have e2 : M k * s = M k * dgt la k - M k * dgt lb k - M k * c := by rw [hs, Int.mul_sub, Int.mul_sub]
  omega
theorem usub_end {os la lb : List Int} {c : Int} (hl : os.length = la.length) (hla : Us la) (hlb : Us lb) (hu : Us os) (hab : la.length = lb.length) (h : uv os - M os.length * c = uv la - uv lb) :
    os = limbs la.length (sv la - sv lb) := by
  refine limbs_unique hl hu ?_
  have h1 := uv_nonneg hu
  have h2 := uv_lt hu
  rw [sv_b1 hla, sv_b1 hlb, ← hab]
  rw [hl] at h h2
  have e : uv la - M la.length * b1 (neg la) - (uv lb - M la.length * b1 (neg lb)) = uv os + M la.length * (b1 (neg lb) - c - b1 (neg la)) := by
    rw [Int.mul_sub, Int.mul_sub]; omega
  rw [e, Int.add_mul_emod_self_left]
  exact (Int.emod_eq_of_lt h1 h2).symm
theorem sign_val {la : List Int} (h : Us la) : sgn3 (mk (neg la)) (mk (decide (uv la = 0))) = (sv la).sign := by
  have ha := sv_b1 h
  have h0 := uv_nonneg h
  have h1 := uv_lt h
  by_cases hn : sv la < 0
  · rw [show neg la = true from decide_eq_true hn, sign_neg hn]; simp [sgn3, mk_true]
  · rw [show neg la = false from decide_eq_false hn] at ha ⊢
    rw [b1_false, Int.mul_zero, Int.sub_zero] at ha
    rw [ha]
    by_cases h5 : uv la = 0
    · rw [h5]; rfl
    · rw [decide_eq_false h5, sign_pos (by omega)]; rfl
theorem or_zero {a b : Int} (ha : U a) (hb : U b) : bits .or .u64 a b = 0 ↔ a = 0 ∧ b = 0 := by
  obtain ⟨x, rfl⟩ := U_word ha
  obtain ⟨y, rfl⟩ := U_word hb
  rw [or_w]
  have e : ∀ z : BitVec 64, ((z.toNat : Int) = 0 ↔ z = 0#64) := fun z => by
    constructor
    · intro h; exact BitVec.eq_of_toNat_eq (by simpa using (by omega : z.toNat = 0))
    · intro h; subst h; rfl
  rw [e, e, e, BitVec.or_eq_zero_iff]
/-- Products, row by row. -/
theorem umul_step {os la lb : List Int} {i j : Nat} {c s P : Int} (hp : i + j < os.length) (hs : s = dgt la i * dgt lb j + dgt os (i + j) + c)
    (h : uv os + M (i + j) * c = P + M i * (dgt la i * uv (lb.take j))) :
    uv (os.set (i + j) (lo s)) + M (i + (j + 1)) * hi s = P + M i * (dgt la i * uv (lb.take (j + 1))) := by
  rw [uv_set _ hp, uv_take_dgt, Int.mul_add, Int.mul_add, ← Int.add_assoc P, ← h, ← Nat.add_assoc, M_succ, Int.mul_assoc, Int.mul_sub]
  have e1 : M (i + j) * lo s + M (i + j) * (18446744073709551616 * hi s) = M (i + j) * s := by rw [← Int.mul_add]; congr 1; have := lo_hi s; omega
  have e2 : M i * (dgt la i * (M j * dgt lb j)) = M (i + j) * (dgt la i * dgt lb j) := by
    rw [M_add, ← Int.mul_assoc (dgt la i), Int.mul_comm (dgt la i) (M j)]
    simp only [Int.mul_assoc]
  have e3 : M (i + j) * s = M (i + j) * (dgt la i * dgt lb j) + M (i + j) * dgt os (i + j) + M (i + j) * c := by rw [hs, Int.mul_add, Int.mul_add]
  omega
theorem umul_row {os la lb : List Int} {i : Nat} {c : Int} (hp : i + lb.length < os.length) (h0 : dgt os (i + lb.length) = 0)
    (h : uv os + M (i + lb.length) * c = uv (la.take i) * uv lb + M i * (dgt la i * uv (lb.take lb.length))) :
    uv (os.set (i + lb.length) c) = uv (la.take (i + 1)) * uv lb := by
  rw [uv_set _ hp, h0, Int.sub_zero, h, List.take_length, uv_take_dgt, Int.add_mul, Int.mul_assoc]
/-- The correction of the product's upper part: what it is modulo the whole. -/
theorem usubw_step {os lb : List Int} {off k : Nat} {c s P : Int} {m : Bool} (hk : off + k < os.length) (hs : s = dgt os (off + k) - (if m then dgt lb k else 0) - c)
    (h : uv os - M (off + k) * c = P - M off * (b1 m * uv (lb.take k))) :
    uv (os.set (off + k) (lo s)) - M (off + (k + 1)) * bo s = P - M off * (b1 m * uv (lb.take (k + 1))) := by
  rw [uv_set _ hk, uv_take_dgt, Int.mul_add, Int.mul_add, ← Int.sub_sub P, ← h, ← Nat.add_assoc, M_succ, Int.mul_assoc, Int.mul_sub]
  have e1 : M (off + k) * lo s - M (off + k) * (18446744073709551616 * bo s) = M (off + k) * s := by rw [← Int.mul_sub]; congr 1; have := lo_bo s; omega
  have e2 : M off * (b1 m * (M k * dgt lb k)) = M (off + k) * (if m then dgt lb k else 0) := by
    rw [M_add]
    cases m
    · simp [b1]
    · simp only [b1_true, Int.one_mul, if_true]; rw [Int.mul_assoc]
  have e3 : M (off + k) * s = M (off + k) * dgt os (off + k) - M (off + k) * (if m then dgt lb k else 0) - M (off + k) * c := by rw [hs, Int.mul_sub, Int.mul_sub]
  omega
theorem mul_end {os la lb : List Int} {c d : Int} (hl : os.length = la.length + lb.length) (hla : Us la) (hlb : Us lb) (hu : Us os)
    (h : uv os = uv la * uv lb - M la.length * (b1 (neg la) * uv lb) + M (la.length + lb.length) * c - M lb.length * (b1 (neg lb) * uv la) + M (la.length + lb.length) * d) :
    os = limbs (la.length + lb.length) (sv la * sv lb) := by
  refine limbs_unique hl hu ?_
  have h1 := uv_nonneg hu
  have h2 := uv_lt hu
  rw [hl] at h2
  rw [sv_b1 hla, sv_b1 hlb, Int.sub_mul, Int.mul_sub, Int.mul_sub]
  have e : uv la * uv lb - uv la * (M lb.length * b1 (neg lb)) - (M la.length * b1 (neg la) * uv lb - M la.length * b1 (neg la) * (M lb.length * b1 (neg lb)))
      = uv os + M (la.length + lb.length) * (b1 (neg la) * b1 (neg lb) - c - d) := by
    rw [h, Int.mul_sub, Int.mul_sub, M_add]
    have e1 : uv la * (M lb.length * b1 (neg lb)) = M lb.length * (b1 (neg lb) * uv la) := by rw [Int.mul_comm (uv la), Int.mul_assoc]
    have e2 : M la.length * b1 (neg la) * (M lb.length * b1 (neg lb)) = M la.length * M lb.length * (b1 (neg la) * b1 (neg lb)) := by
      rw [Int.mul_assoc, Int.mul_assoc]; congr 1
      rw [← Int.mul_assoc, ← Int.mul_assoc, Int.mul_comm (b1 (neg la)) (M lb.length)]
    rw [e1, e2, Int.mul_assoc (M la.length) (b1 (neg la)) (uv lb)]
    omega
  rw [e, Int.add_mul_emod_self_left]
  exact (Int.emod_eq_of_lt h1 h2).symm
end Go.Proofs.YthmkllpdkcmccaaGreatDoor
namespace Go.Proofs.YthmkllpdkcmccaaGreatDoor
open Go.RowKit
set_option maxRecDepth 100000
set_option linter.unusedVariables false
set_option linter.unusedSimpArgs false

/-- A vector of numbers. -/
def VecR (w : World) (T : Nat → Prop) (L : Nat) (v : Value) (x y : Int) : Prop :=
  ∃ A n c B m d, v = .agg #[.int .i64 x.sign, .slice A n c, .int .i64 y.sign, .slice B m d] ∧ NumR w T L (.agg #[.int .i64 x.sign, .slice A n c]) x ∧ NumR w T L (.agg #[.int .i64 y.sign, .slice B m d]) y
theorem VecR.next {w w' : World} {T : Nat → Prop} {L : Nat} {v : Value} {x y : Int} (h : VecR w T L v x y) (hb : Below w.heap.size w w') : VecR w' T L v x y := by
  obtain ⟨A, n, c, B, m, d, rfl, h1, h2⟩ := h
  exact ⟨A, n, c, B, m, d, rfl, h1.next hb, h2.next hb⟩
theorem VecR.imp {w : World} {T T' : Nat → Prop} {L : Nat} {v : Value} {x y : Int} (h : VecR w T L v x y) (hT : ∀ b, T b → T' b) : VecR w T' L v x y := by
  obtain ⟨A, n, c, B, m, d, rfl, h1, h2⟩ := h
  exact ⟨A, n, c, B, m, d, rfl, h1.imp hT, h2.imp hT⟩
/-- A whole number of n limbs. -/
def LimR (n : Nat) (x : Int) (v : Value) (g : Gh) (w : World) : Prop := ∃ A c, v = .slice A n c ∧ n ≤ c ∧ SlR w (Off g) .u64 A (limbs n x)
/-- A vector of two limbs each. -/
def VecL (x y : Int) (v : Value) (g : Gh) (w : World) : Prop :=
  ∃ A c B d, v = .agg #[.slice A 2 c, .slice B 2 d] ∧ 2 ≤ c ∧ 2 ≤ d ∧ SlR w (Off g) .u64 A (limbs 2 x) ∧ SlR w (Off g) .u64 B (limbs 2 y)
/-- A number of the reference. -/
def NumG (L : Nat) (x : Int) (v : Value) (g : Gh) (w : World) : Prop := NumR w (Off g) L v x
theorem limR_firm (n : Nat) (x : Int) : Firm (LimR n x) := fun v g w g' w' h hk => by
  obtain ⟨A, c, e, hc, hs⟩ := h
  exact ⟨A, c, e, hc, hs.keeps hk⟩
theorem vecL_firm (x y : Int) : Firm (VecL x y) := fun v g w g' w' h hk => by
  obtain ⟨A, c, B, d, e, hc, hd, h1, h2⟩ := h
  exact ⟨A, c, B, d, e, hc, hd, h1.keeps hk, h2.keeps hk⟩
theorem numG_firm (L : Nat) (x : Int) : Firm (NumG L x) := fun v g w g' w' h hk => by
  obtain ⟨A, c, ds, e, hc, hs, rest⟩ := h
  exact ⟨A, c, ds, e, hc, hs.keeps hk, rest⟩
/-- The sign of a number. -/
def SignR (x : Int) (v : Value) (_g : Gh) (_w : World) : Prop := ∃ s, v = .int .i64 s ∧ s = x.sign
theorem signR_firm (x : Int) : Firm (SignR x) := fun _ _ _ _ _ h _ => h
theorem signR_open {x : Int} {v : Value} {g : Gh} {w : World} (h : SignR x v g w) : ∃ s, v = .int .i64 s ∧ s = x.sign := h
theorem numG_open {L : Nat} {x : Int} {v : Value} {g : Gh} {w : World} (h : NumG L x v g w) : ∃ s A n c, v = .agg #[.int .i64 s, .slice A n c] ∧ SignR x (.int .i64 s) g w := by
  obtain ⟨A, c, ds, e, _⟩ := h
  exact ⟨_, A, _, c, e, _, rfl, rfl⟩
theorem vecL_open {x y : Int} {v : Value} {g : Gh} {w : World} (h : VecL x y v g w) : ∃ A c B d, v = .agg #[.slice A 2 c, .slice B 2 d] := by
  obtain ⟨A, c, B, d, e, _⟩ := h
  exact ⟨A, c, B, d, e⟩
theorem limR_open {n : Nat} {x : Int} {v : Value} {g : Gh} {w : World} (h : LimR n x v g w) : ∃ A c, v = .slice A n c := by
  obtain ⟨A, c, e, _⟩ := h
  exact ⟨A, c, e⟩
theorem numG_sign {L : Nat} {x s : Int} {b : Value} {g : Gh} {w : World} (h : NumG L x (.agg #[.int .i64 s, b]) g w) : SignR x (.int .i64 s) g w := by
  obtain ⟨A, c, ds, e, _⟩ := h
  injection e with e
  have e1 := congrArg (fun s : Array Value => s[0]?) e
  simp at e1
  exact ⟨_, rfl, e1⟩
theorem sign_bd' (x : Int) : -1 ≤ x.sign ∧ x.sign ≤ 1 := by
  rcases Int.lt_trichotomy x 0 with h | h | h
  · rw [Int.sign_eq_neg_one_of_neg h]; omega
  · subst h; decide
  · rw [Int.sign_eq_one_of_pos h]; omega
theorem signR_mul {x y s t : Int} {g g' : Gh} {w w' : World} (h : SignR x (.int .i64 s) g w) (k : SignR y (.int .i64 t) g' w') : IntKind.i64.wrap (s * t) = s * t ∧ SignR (x * y) (.int .i64 (s * t)) g w := by
  obtain ⟨s', e1, rfl⟩ := h
  obtain ⟨t', e2, rfl⟩ := k
  injection e1 with _ e1
  injection e2 with _ e2
  subst e1 e2
  rw [← Int.sign_mul]
  have := sign_bd' (x * y)
  exact ⟨i64_small (by omega) (by omega), _, rfl, rfl⟩
theorem vecL_x {x y : Int} {a b : Value} {g : Gh} {w : World} (h : VecL x y (.agg #[a, b]) g w) : LimR 2 x a g w := by
  obtain ⟨A, c, B, d, e, hc, _, h1, _⟩ := h
  injection e with e
  have e1 := congrArg (fun s : Array Value => s[0]?) e
  simp at e1
  exact ⟨A, c, e1, hc, h1⟩
theorem vecL_y {x y : Int} {a b : Value} {g : Gh} {w : World} (h : VecL x y (.agg #[a, b]) g w) : LimR 2 y b g w := by
  obtain ⟨A, c, B, d, e, _, hd, _, h2⟩ := h
  injection e with e
  have e1 := congrArg (fun s : Array Value => s[1]?) e
  simp at e1
  exact ⟨B, d, e1, hd, h2⟩
theorem gAdd {c : Ctx} {g : Gh} {w : World} {va vb : Value} {L M : Nat} {x y : Int} (hI : RInv c g w) (ha : NumG L x va g w) (hb : NumG M y vb g w) (hL : L ≤ 900000) (hM : M ≤ 900000) :
    Calls Tryz.prog 106 #[va, vb] w (Gives (NumG (max L M + 1) (x + y)) g w) := r3add_any va vb x y L M (Off g) w ha hb hL hM hI.offs
theorem gSub {c : Ctx} {g : Gh} {w : World} {va vb : Value} {L M : Nat} {x y : Int} (hI : RInv c g w) (ha : NumG L x va g w) (hb : NumG M y vb g w) (hL : L ≤ 900000) (hM : M ≤ 900000) :
    Calls Tryz.prog 107 #[va, vb] w (Gives (NumG (max L M + 1) (x - y)) g w) := r3sub_any va vb x y L M (Off g) w ha hb hL hM hI.offs
theorem gMul {c : Ctx} {g : Gh} {w : World} {va vb : Value} {L M : Nat} {x y : Int} (hI : RInv c g w) (ha : NumG L x va g w) (hb : NumG M y vb g w) (hL : L ≤ 10000) (hM : M ≤ 10000) :
    Calls Tryz.prog 131 #[va, vb] w (Gives (NumG (L + M) (x * y)) g w) := r3mul_any va vb x y L M (Off g) w ha hb hL hM hI.offs
/-- A number fits n limbs, and so does its opposite. -/
def Fit (n : Nat) (x : Int) : Prop := -M n < 2 * x ∧ 2 * x < M n
theorem Fit.neg {n : Nat} {x : Int} (h : Fit n x) : Fit n (-x) := by unfold Fit at *; omega
theorem Fit.sv {n : Nat} {x : Int} (h : Fit n x) : sv (limbs n x) = x := sv_limbs (by have := h.1; omega) h.2
theorem prod_fit {a b : Int} (ha : Fit 2 a) (hb : Fit 2 b) : -28948022309329048855892746252171976962977213799489202546401021394546514198529 ≤ a * b ∧ a * b ≤ 28948022309329048855892746252171976962977213799489202546401021394546514198529 := by
  unfold Fit at ha hb
  have e : M 2 = 340282366920938463463374607431768211456 := rfl
  have h1 : a.natAbs ≤ 170141183460469231731687303715884105727 := by omega
  have h2 : b.natAbs ≤ 170141183460469231731687303715884105727 := by omega
  have h3 := Nat.mul_le_mul h1 h2
  rw [← Int.natAbs_mul] at h3
  omega
theorem fit4_sub {a b c d : Int} (ha : Fit 2 a) (hb : Fit 2 b) (hc : Fit 2 c) (hd : Fit 2 d) : Fit 4 (a * b - c * d) := by
  have h1 := prod_fit ha hb
  have h2 := prod_fit hc hd
  have e : M 4 = 115792089237316195423570985008687907853269984665640564039457584007913129639936 := rfl
  unfold Fit
  omega
theorem fit4_add {a b c d : Int} (ha : Fit 2 a) (hb : Fit 2 b) (hc : Fit 2 c) (hd : Fit 2 d) : Fit 4 (a * b + c * d) := by
  have h1 := prod_fit ha hb
  have h2 := prod_fit hc hd
  have e : M 4 = 115792089237316195423570985008687907853269984665640564039457584007913129639936 := rfl
  unfold Fit
  omega
theorem S.diff {a b : Int} (ha : S a) (hb : S b) : Fit 2 (a - b) := by
  unfold S at ha hb
  unfold Fit
  have : M 2 = 340282366920938463463374607431768211456 := rfl
  omega
theorem gInt {c : Ctx} {g : Gh} {w : World} {x : Int} (hI : RInv c g w) (hx : S x) : Calls Tryz.prog 132 #[.int .i64 x] w (Gives (NumG 4 x) g w) := r3int_any x (Off g) w hI.offs hx
end Go.Proofs.YthmkllpdkcmccaaGreatDoor
namespace Go.Proofs.YthmkllpdkcmccaaGreatDoor
open Go.RowKit
set_option maxRecDepth 100000
set_option linter.unusedVariables false
set_option linter.unusedSimpArgs false

set_option maxRecDepth 100000 in
set_option maxHeartbeats 4000000 in
theorem gRef6product {c0 : Ctx} {g0 : Gh} {w : World} {a b : Int} (hI0 : RInv c0 g0 w) (sa : S a) (sb : S b) :
    Calls Tryz.prog 123 #[.int .i64 a, .int .i64 b] w (Gives (NumG 8 (a * b)) g0 w) := by
  obtain ⟨W, hW⟩ : ∃ W, W = w.alloc (.cells #[.int .i64 0, .slice none 0 0] 148) := ⟨_, rfl⟩
  have hb0 : Below w.heap.size w W := by rw [hW]; exact ((Below.refl _ _).alloc (Nat.le_refl _) _)
  have HOK := Ctx.ok_lift (k := w.heap.size) hI0 hb0 (by omega) (by rw [hW]; simp; try omega)
  have HBX := Lib.hid (show HasBox W (w.heap.size) 2 by rw [hW]; have := box2' (w) (.int .i64 0) (.slice none 0 0) 148; simpa using this)
  have HW := Lib.hid hW
  clear hW
  go_enter Tryz.func123, Tryz.ntmps123
  go_upto_region 1 with (fail)
  rw [← HW.out]
  refine box_plan0 (c := ⟨w, W, (lift g0 (w.heap.size))⟩) HOK [[], [(5, 0)], [], [(7, 2)], [(6, 1), (8, 3)], [(9, 4)]] [(5, 0), (6, 1), (7, 2), (8, 3), (9, 4)] [
      (fun v _ _ => v = .int .i64 a),
      NumG 4 a,
      (fun v _ _ => v = .int .i64 b),
      NumG 4 b,
      NumG 8 (a * b),
      (fun _ g w => BoxR 1000 (NumG 8 (a * b)) g w)
    ] (fun i => match i with | 1000 => some 5 | _ => none) (by kernel_rfl) (by kernel_rfl) ⟨stab_eq, stab_firm (numG_firm _ _), stab_eq, stab_firm (numG_firm _ _), stab_firm (numG_firm _ _), stab_box (numG_firm _ _) rfl, trivial⟩ ?steps ?fin
  case steps =>
    refine ⟨?_, ?_, ?_, ?_, ?_, ?_, trivial⟩
    · intro vs g w2 hI hF hR K hK
      simp only [Facts, fill, Act.put, z1, z2, z3, z4, z5, Nat.reduceAdd] at hF hR hK ⊢
      go_simp
      exact hK _ _ _ hI (Step.refl hI) rfl
    · intro vs g w2 hI hF hR K hK
      simp only [Facts, fill, Act.put, z1, z2, z3, z4, z5, Nat.reduceAdd] at hF hR hK ⊢
      obtain ⟨r0, -⟩ := hR
      generalize vs 0 = x0 at *
      subst r0
      go_simp
      refine (gInt hI (by first | assumption | (unfold S; decide))).mono ?_
      rintro e w3 ⟨v3, rfl, hv, hb⟩
      exact hK _ _ _ (hI.call hb) (Step.call hI hb) hv
    · intro vs g w2 hI hF hR K hK
      simp only [Facts, fill, Act.put, z1, z2, z3, z4, z5, Nat.reduceAdd] at hF hR hK ⊢
      go_simp
      exact hK _ _ _ hI (Step.refl hI) rfl
    · intro vs g w2 hI hF hR K hK
      simp only [Facts, fill, Act.put, z1, z2, z3, z4, z5, Nat.reduceAdd] at hF hR hK ⊢
      obtain ⟨r2, -⟩ := hR
      generalize vs 2 = x2 at *
      subst r2
      go_simp
      refine (gInt hI (by first | assumption | (unfold S; decide))).mono ?_
      rintro e w3 ⟨v3, rfl, hv, hb⟩
      exact hK _ _ _ (hI.call hb) (Step.call hI hb) hv
    · intro vs g w2 hI hF hR K hK
      simp only [Facts, fill, Act.put, z1, z2, z3, z4, z5, Nat.reduceAdd] at hF hR hK ⊢
      obtain ⟨r1, r3, -⟩ := hR
      generalize vs 1 = x1, vs 3 = x3 at *
      go_simp
      refine (gMul hI r1 r3 (by decide) (by decide)).mono ?_
      rintro e w3 ⟨v3, rfl, hv, hb⟩
      exact hK _ _ _ (hI.call hb) (Step.call hI hb) hv
    · intro vs g w2 hI hF hR K hK
      simp only [Facts, fill, Act.put, z1, z2, z3, z4, z5, Nat.reduceAdd] at hF hR hK ⊢
      obtain ⟨r4, -⟩ := hR
      generalize vs 4 = x4 at *
      have hk := hI.keep0 1000 _ (lift_at g0 (w.heap.size))
      have hbx := hI.box0 1000 _ 2 (lift_at g0 (w.heap.size)) HBX.out
      have qx := r4
      obtain ⟨s5, A5, n5, c5, rfl, hs5⟩ := numG_open r4
      obtain ⟨⟨u0, k0⟩, f0⟩ := hbx 0 (by decide)
      obtain ⟨⟨u1, k1⟩, f1⟩ := hbx 1 (by decide)
      go_simp
      have ht := (((Touch.refl w2 w.heap.size).set 0 (.int .i64 s5)).set 1 (.slice A5 n5 c5))
      exact hK undef _ _ (hI.store (by decide) hk ht) (Step.store hI rfl hk ht) ⟨w.heap.size, .agg #[.int .i64 s5, .slice A5 n5 c5], hk, by rw [ht.size]; exact hI.lt _ _ hk, cells2 k0 k1 (.int .i64 s5) (.slice A5 n5 c5), ((numG_firm _ _) _ _ _ _ _ qx (ht.keeps hk))⟩
  case fin =>
    intro vs g wR1 hI hR
    have r5 := hR 5 (by decide)
    simp only [fill, Act.put, z1, z2, z3, z4, z5] at r5 ⊢
    clear hR
    generalize vs 5 = x5 at *
    have hkR14 := hI.keep0 1000 _ (lift_at g0 (w.heap.size))
    obtain ⟨qR14, uR14, hqR14, -, hcR14, hrR14⟩ := r5
    rw [hkR14] at hqR14
    injection hqR14 with hqR14
    subst hqR14
    have qfR14 := hrR14
    obtain ⟨svR14, AvR14, nvR14, cvR14, rfl, hsvR14⟩ := numG_open hrR14
    have FR14_R1_0 := Lib.hid ((numG_firm _ _) _ _ _ _ _ qfR14 hI.back)
    clear qfR14
    have FR14_R1_1 := Lib.hid (numG_sign FR14_R1_0.out)
    have CR14_R1_0 := Lib.hid (hcR14 0 _ rfl)
    have CR14_R1_1 := Lib.hid (hcR14 1 _ rfl)
    clear hcR14 hkR14
    have hBR1 := hI.below
    have HCR1 := hI.next HOK
    clear hI
    go_wp2
    exact bodyPost_ret (v := .agg #[.int .i64 svR14, .slice AvR14 nvR14 cvR14]) (by simp [results, Tryz.results123, go_sem, CR14_R1_0.out, CR14_R1_1.out]) rfl ⟨_, rfl, (numG_firm _ _) _ _ _ _ _ FR14_R1_0.out keeps_out, hBR1⟩
set_option maxRecDepth 100000 in
set_option maxHeartbeats 4000000 in
theorem gRef6minor {c0 : Ctx} {g0 : Gh} {w : World} {xa ya xb yb : Int} (hI0 : RInv c0 g0 w) (sxa : S xa) (sya : S ya) (sxb : S xb) (syb : S yb) :
    Calls Tryz.prog 108 #[.agg #[.int .i64 xa, .int .i64 ya], .agg #[.int .i64 xb, .int .i64 yb]] w (Gives (NumG 9 (xa * yb - ya * xb)) g0 w) := by
  obtain ⟨W, hW⟩ : ∃ W, W = ((w.alloc (.cells #[.int .i64 xa, .int .i64 ya] 24)).alloc (.cells #[.int .i64 xb, .int .i64 yb] 24)).alloc (.cells #[.int .i64 0, .slice none 0 0] 148) := ⟨_, rfl⟩
  have hb0 : Below w.heap.size w W := by rw [hW]; exact ((((Below.refl _ _).alloc (Nat.le_refl _) _).alloc (by simp) _).alloc (by simp; omega) _)
  have HOK := Ctx.ok_lift (k := w.heap.size + 1 + 1) hI0 hb0 (by omega) (by rw [hW]; simp; try omega)
  have HBX := Lib.hid (show HasBox W (w.heap.size + 1 + 1) 2 by rw [hW]; have := box2' ((w.alloc (.cells #[.int .i64 xa, .int .i64 ya] 24)).alloc (.cells #[.int .i64 xb, .int .i64 yb] 24)) (.int .i64 0) (.slice none 0 0) 148; simpa using this)
  have C0_W_0 := Lib.hid (show W.cell? ⟨w.heap.size, 0, none⟩ = some (.int .i64 xa) by rw [hW]; simp [go_sem])
  have C0_W_1 := Lib.hid (show W.cell? ⟨w.heap.size, 1, none⟩ = some (.int .i64 ya) by rw [hW]; simp [go_sem])
  have HO0 : Off (lift g0 (w.heap.size + 1 + 1)) (w.heap.size) := lift_off (hI0.offs _ (by omega)) (by omega)
  have C1_W_0 := Lib.hid (show W.cell? ⟨w.heap.size + 1, 0, none⟩ = some (.int .i64 xb) by rw [hW]; simp [go_sem])
  have C1_W_1 := Lib.hid (show W.cell? ⟨w.heap.size + 1, 1, none⟩ = some (.int .i64 yb) by rw [hW]; simp [go_sem])
  have HO1 : Off (lift g0 (w.heap.size + 1 + 1)) (w.heap.size + 1) := lift_off (hI0.offs _ (by omega)) (by omega)
  have HW := Lib.hid hW
  clear hW
  go_enter Tryz.func108, Tryz.ntmps108
  go_upto_region 1 with (fail)
  rw [← HW.out]
  refine box_plan (c := ⟨w, W, (lift g0 (w.heap.size + 1 + 1))⟩) HOK (by kernel_rfl) [[], [(5, 0)], [], [(7, 2)], [(6, 1), (8, 3)], [], [(10, 5)], [], [(12, 7)], [(11, 6), (13, 8)], [(9, 4), (14, 9)], [(15, 10)]] [(5, 0), (6, 1), (7, 2), (8, 3), (9, 4), (10, 5), (11, 6), (12, 7), (13, 8), (14, 9), (15, 10)] [
      (fun v _ _ => v = .pointer (some ⟨w.heap.size, 0, none⟩)),
      (fun v _ _ => v = .int .i64 xa),
      (fun v _ _ => v = .pointer (some ⟨w.heap.size + 1, 1, none⟩)),
      (fun v _ _ => v = .int .i64 yb),
      NumG 8 (xa * yb),
      (fun v _ _ => v = .pointer (some ⟨w.heap.size, 1, none⟩)),
      (fun v _ _ => v = .int .i64 ya),
      (fun v _ _ => v = .pointer (some ⟨w.heap.size + 1, 0, none⟩)),
      (fun v _ _ => v = .int .i64 xb),
      NumG 8 (ya * xb),
      NumG 9 ((xa * yb) - (ya * xb)),
      (fun _ g w => BoxR 1000 (NumG 9 ((xa * yb) - (ya * xb))) g w)
    ] (fun i => match i with | 1000 => some 11 | _ => none) (by kernel_rfl) (by kernel_rfl) ⟨stab_eq, stab_eq, stab_eq, stab_eq, stab_firm (numG_firm _ _), stab_eq, stab_eq, stab_eq, stab_eq, stab_firm (numG_firm _ _), stab_firm (numG_firm _ _), stab_box (numG_firm _ _) rfl, trivial⟩ ?steps ?fin
  case steps =>
    refine ⟨?_, ?_, ?_, ?_, ?_, ?_, ?_, ?_, ?_, ?_, ?_, ?_, trivial⟩
    · intro vs g w2 hI hF hR K hK
      simp only [Facts, fill, Act.put, z1, z2, z3, z4, z5, Nat.reduceAdd] at hF hR hK ⊢
      go_simp
      exact hK _ _ _ hI (Step.refl hI) rfl
    · intro vs g w2 hI hF hR K hK
      simp only [Facts, fill, Act.put, z1, z2, z3, z4, z5, Nat.reduceAdd] at hF hR hK ⊢
      obtain ⟨r0, -⟩ := hR
      generalize vs 0 = x0 at *
      subst r0
      have k0 := hI.cell C0_W_0.out (by first | exact HO0 | exact HO1 | assumption)
      go_simp
      exact hK _ _ _ hI (Step.refl hI) rfl
    · intro vs g w2 hI hF hR K hK
      simp only [Facts, fill, Act.put, z1, z2, z3, z4, z5, Nat.reduceAdd] at hF hR hK ⊢
      go_simp
      exact hK _ _ _ hI (Step.refl hI) rfl
    · intro vs g w2 hI hF hR K hK
      simp only [Facts, fill, Act.put, z1, z2, z3, z4, z5, Nat.reduceAdd] at hF hR hK ⊢
      obtain ⟨r2, -⟩ := hR
      generalize vs 2 = x2 at *
      subst r2
      have k0 := hI.cell C1_W_1.out (by first | exact HO0 | exact HO1 | assumption)
      go_simp
      exact hK _ _ _ hI (Step.refl hI) rfl
    · intro vs g w2 hI hF hR K hK
      simp only [Facts, fill, Act.put, z1, z2, z3, z4, z5, Nat.reduceAdd] at hF hR hK ⊢
      obtain ⟨r1, r3, -⟩ := hR
      generalize vs 1 = x1, vs 3 = x3 at *
      subst r1 r3
      go_simp
      refine (gRef6product hI (by first | assumption | (unfold S; decide)) (by first | assumption | (unfold S; decide))).mono ?_
      rintro e w3 ⟨v3, rfl, hv, hb⟩
      exact hK _ _ _ (hI.call hb) (Step.call hI hb) hv
    · intro vs g w2 hI hF hR K hK
      simp only [Facts, fill, Act.put, z1, z2, z3, z4, z5, Nat.reduceAdd] at hF hR hK ⊢
      go_simp
      exact hK _ _ _ hI (Step.refl hI) rfl
    · intro vs g w2 hI hF hR K hK
      simp only [Facts, fill, Act.put, z1, z2, z3, z4, z5, Nat.reduceAdd] at hF hR hK ⊢
      obtain ⟨r5, -⟩ := hR
      generalize vs 5 = x5 at *
      subst r5
      have k0 := hI.cell C0_W_1.out (by first | exact HO0 | exact HO1 | assumption)
      go_simp
      exact hK _ _ _ hI (Step.refl hI) rfl
    · intro vs g w2 hI hF hR K hK
      simp only [Facts, fill, Act.put, z1, z2, z3, z4, z5, Nat.reduceAdd] at hF hR hK ⊢
      go_simp
      exact hK _ _ _ hI (Step.refl hI) rfl
    · intro vs g w2 hI hF hR K hK
      simp only [Facts, fill, Act.put, z1, z2, z3, z4, z5, Nat.reduceAdd] at hF hR hK ⊢
      obtain ⟨r7, -⟩ := hR
      generalize vs 7 = x7 at *
      subst r7
      have k0 := hI.cell C1_W_0.out (by first | exact HO0 | exact HO1 | assumption)
      go_simp
      exact hK _ _ _ hI (Step.refl hI) rfl
    · intro vs g w2 hI hF hR K hK
      simp only [Facts, fill, Act.put, z1, z2, z3, z4, z5, Nat.reduceAdd] at hF hR hK ⊢
      obtain ⟨r6, r8, -⟩ := hR
      generalize vs 6 = x6, vs 8 = x8 at *
      subst r6 r8
      go_simp
      refine (gRef6product hI (by first | assumption | (unfold S; decide)) (by first | assumption | (unfold S; decide))).mono ?_
      rintro e w3 ⟨v3, rfl, hv, hb⟩
      exact hK _ _ _ (hI.call hb) (Step.call hI hb) hv
    · intro vs g w2 hI hF hR K hK
      simp only [Facts, fill, Act.put, z1, z2, z3, z4, z5, Nat.reduceAdd] at hF hR hK ⊢
      obtain ⟨r4, r9, -⟩ := hR
      generalize vs 4 = x4, vs 9 = x9 at *
      go_simp
      refine (gSub hI r4 r9 (by decide) (by decide)).mono ?_
      rintro e w3 ⟨v3, rfl, hv, hb⟩
      exact hK _ _ _ (hI.call hb) (Step.call hI hb) hv
    · intro vs g w2 hI hF hR K hK
      simp only [Facts, fill, Act.put, z1, z2, z3, z4, z5, Nat.reduceAdd] at hF hR hK ⊢
      obtain ⟨r10, -⟩ := hR
      generalize vs 10 = x10 at *
      have hk := hI.keep0 1000 _ (lift_at g0 (w.heap.size + 1 + 1))
      have hbx := hI.box0 1000 _ 2 (lift_at g0 (w.heap.size + 1 + 1)) HBX.out
      have qx := r10
      obtain ⟨s11, A11, n11, c11, rfl, hs11⟩ := numG_open r10
      obtain ⟨⟨u0, k0⟩, f0⟩ := hbx 0 (by decide)
      obtain ⟨⟨u1, k1⟩, f1⟩ := hbx 1 (by decide)
      go_simp
      have ht := (((Touch.refl w2 (w.heap.size + 1 + 1)).set 0 (.int .i64 s11)).set 1 (.slice A11 n11 c11))
      exact hK undef _ _ (hI.store (by decide) hk ht) (Step.store hI rfl hk ht) ⟨(w.heap.size + 1 + 1), .agg #[.int .i64 s11, .slice A11 n11 c11], hk, by rw [ht.size]; exact hI.lt _ _ hk, cells2 k0 k1 (.int .i64 s11) (.slice A11 n11 c11), ((numG_firm _ _) _ _ _ _ _ qx (ht.keeps hk))⟩
  case fin =>
    intro vs g wR1 hI hR
    have r11 := hR 11 (by decide)
    simp only [fill, Act.put, z1, z2, z3, z4, z5] at r11 ⊢
    clear hR
    generalize vs 11 = x11 at *
    have C0_R1_0 := Lib.hid (hI.cell C0_W_0.out (by first | exact HO0 | exact HO1 | assumption))
    have C0_R1_1 := Lib.hid (hI.cell C0_W_1.out (by first | exact HO0 | exact HO1 | assumption))
    have C1_R1_0 := Lib.hid (hI.cell C1_W_0.out (by first | exact HO0 | exact HO1 | assumption))
    have C1_R1_1 := Lib.hid (hI.cell C1_W_1.out (by first | exact HO0 | exact HO1 | assumption))
    have hkR14 := hI.keep0 1000 _ (lift_at g0 (w.heap.size + 1 + 1))
    obtain ⟨qR14, uR14, hqR14, -, hcR14, hrR14⟩ := r11
    rw [hkR14] at hqR14
    injection hqR14 with hqR14
    subst hqR14
    have qfR14 := hrR14
    obtain ⟨svR14, AvR14, nvR14, cvR14, rfl, hsvR14⟩ := numG_open hrR14
    have FR14_R1_0 := Lib.hid ((numG_firm _ _) _ _ _ _ _ qfR14 hI.back)
    clear qfR14
    have FR14_R1_1 := Lib.hid (numG_sign FR14_R1_0.out)
    have CR14_R1_0 := Lib.hid (hcR14 0 _ rfl)
    have CR14_R1_1 := Lib.hid (hcR14 1 _ rfl)
    clear hcR14 hkR14
    have hBR1 := hI.below
    have HCR1 := hI.next HOK
    clear hI
    go_wp2
    exact bodyPost_ret (v := .agg #[.int .i64 svR14, .slice AvR14 nvR14 cvR14]) (by simp [results, Tryz.results108, go_sem, CR14_R1_0.out, CR14_R1_1.out]) rfl ⟨_, rfl, (numG_firm _ _) _ _ _ _ _ FR14_R1_0.out keeps_out, hBR1⟩
/-- The determinant of three points. -/
def det (xa ya xb yb xc yc : Int) : Int := (xb - xa) * (yc - ya) - (yb - ya) * (xc - xa)
set_option maxRecDepth 100000 in
set_option maxHeartbeats 4000000 in
theorem gRef6Value0 {c0 : Ctx} {g0 : Gh} {w : World} {xa ya xb yb xc yc : Int} (hI0 : RInv c0 g0 w) (sxa : S xa) (sya : S ya) (sxb : S xb) (syb : S yb) (sxc : S xc) (syc : S yc) :
    Calls Tryz.prog 92 #[.agg #[.int .i64 xa, .int .i64 ya], .agg #[.int .i64 xb, .int .i64 yb], .agg #[.int .i64 xc, .int .i64 yc]] w (Gives (NumG 11 (xb * yc - yb * xc - (xa * yc - ya * xc) + (xa * yb - ya * xb))) g0 w) := by
  obtain ⟨W, hW⟩ : ∃ W, W = (((w.alloc (.cells #[.int .i64 xa, .int .i64 ya] 24)).alloc (.cells #[.int .i64 xb, .int .i64 yb] 24)).alloc (.cells #[.int .i64 xc, .int .i64 yc] 24)).alloc (.cells #[.int .i64 0, .slice none 0 0] 148) := ⟨_, rfl⟩
  have hb0 : Below w.heap.size w W := by rw [hW]; exact (((((Below.refl _ _).alloc (Nat.le_refl _) _).alloc (by simp) _).alloc (by simp; omega) _).alloc (by simp; omega) _)
  have HOK := Ctx.ok_lift (k := w.heap.size + 1 + 1 + 1) hI0 hb0 (by omega) (by rw [hW]; simp; try omega)
  have HBX := Lib.hid (show HasBox W (w.heap.size + 1 + 1 + 1) 2 by rw [hW]; have := box2' (((w.alloc (.cells #[.int .i64 xa, .int .i64 ya] 24)).alloc (.cells #[.int .i64 xb, .int .i64 yb] 24)).alloc (.cells #[.int .i64 xc, .int .i64 yc] 24)) (.int .i64 0) (.slice none 0 0) 148; simpa using this)
  have C0_W_0 := Lib.hid (show W.cell? ⟨w.heap.size, 0, none⟩ = some (.int .i64 xa) by rw [hW]; simp [go_sem])
  have C0_W_1 := Lib.hid (show W.cell? ⟨w.heap.size, 1, none⟩ = some (.int .i64 ya) by rw [hW]; simp [go_sem])
  have HO0 : Off (lift g0 (w.heap.size + 1 + 1 + 1)) (w.heap.size) := lift_off (hI0.offs _ (by omega)) (by omega)
  have C1_W_0 := Lib.hid (show W.cell? ⟨w.heap.size + 1, 0, none⟩ = some (.int .i64 xb) by rw [hW]; simp [go_sem])
  have C1_W_1 := Lib.hid (show W.cell? ⟨w.heap.size + 1, 1, none⟩ = some (.int .i64 yb) by rw [hW]; simp [go_sem])
  have HO1 : Off (lift g0 (w.heap.size + 1 + 1 + 1)) (w.heap.size + 1) := lift_off (hI0.offs _ (by omega)) (by omega)
  have C2_W_0 := Lib.hid (show W.cell? ⟨w.heap.size + 1 + 1, 0, none⟩ = some (.int .i64 xc) by rw [hW]; simp [go_sem])
  have C2_W_1 := Lib.hid (show W.cell? ⟨w.heap.size + 1 + 1, 1, none⟩ = some (.int .i64 yc) by rw [hW]; simp [go_sem])
  have HO2 : Off (lift g0 (w.heap.size + 1 + 1 + 1)) (w.heap.size + 1 + 1) := lift_off (hI0.offs _ (by omega)) (by omega)
  have HW := Lib.hid hW
  clear hW
  go_enter Tryz.func92, Tryz.ntmps92
  go_upto_region 1 with (fail)
  rw [← HW.out]
  refine box_plan (c := ⟨w, W, (lift g0 (w.heap.size + 1 + 1 + 1))⟩) HOK (by kernel_rfl) [[], [], [(7, 0), (8, 1)], [], [], [(10, 3), (11, 4)], [(9, 2), (12, 5)], [], [], [(14, 7), (15, 8)], [(13, 6), (16, 9)], [(17, 10)]] [(7, 0), (8, 1), (9, 2), (10, 3), (11, 4), (12, 5), (13, 6), (14, 7), (15, 8), (16, 9), (17, 10)] [
      (fun v _ _ => v = .agg #[.int .i64 xb, .int .i64 yb]),
      (fun v _ _ => v = .agg #[.int .i64 xc, .int .i64 yc]),
      NumG 9 (xb * yc - yb * xc),
      (fun v _ _ => v = .agg #[.int .i64 xa, .int .i64 ya]),
      (fun v _ _ => v = .agg #[.int .i64 xc, .int .i64 yc]),
      NumG 9 (xa * yc - ya * xc),
      NumG 10 ((xb * yc - yb * xc) - (xa * yc - ya * xc)),
      (fun v _ _ => v = .agg #[.int .i64 xa, .int .i64 ya]),
      (fun v _ _ => v = .agg #[.int .i64 xb, .int .i64 yb]),
      NumG 9 (xa * yb - ya * xb),
      NumG 11 (((xb * yc - yb * xc) - (xa * yc - ya * xc)) + (xa * yb - ya * xb)),
      (fun _ g w => BoxR 1000 (NumG 11 (((xb * yc - yb * xc) - (xa * yc - ya * xc)) + (xa * yb - ya * xb))) g w)
    ] (fun i => match i with | 1000 => some 11 | _ => none) (by kernel_rfl) (by kernel_rfl) ⟨stab_eq, stab_eq, stab_firm (numG_firm _ _), stab_eq, stab_eq, stab_firm (numG_firm _ _), stab_firm (numG_firm _ _), stab_eq, stab_eq, stab_firm (numG_firm _ _), stab_firm (numG_firm _ _), stab_box (numG_firm _ _) rfl, trivial⟩ ?steps ?fin
  case steps =>
    refine ⟨?_, ?_, ?_, ?_, ?_, ?_, ?_, ?_, ?_, ?_, ?_, ?_, trivial⟩
    · intro vs g w2 hI hF hR K hK
      simp only [Facts, fill, Act.put, z1, z2, z3, z4, z5, Nat.reduceAdd] at hF hR hK ⊢
      have k0 := hI.cell C1_W_0.out (by first | exact HO0 | exact HO1 | exact HO2 | assumption)
      have k1 := hI.cell C1_W_1.out (by first | exact HO0 | exact HO1 | exact HO2 | assumption)
      go_simp
      exact hK _ _ _ hI (Step.refl hI) rfl
    · intro vs g w2 hI hF hR K hK
      simp only [Facts, fill, Act.put, z1, z2, z3, z4, z5, Nat.reduceAdd] at hF hR hK ⊢
      have k0 := hI.cell C2_W_0.out (by first | exact HO0 | exact HO1 | exact HO2 | assumption)
      have k1 := hI.cell C2_W_1.out (by first | exact HO0 | exact HO1 | exact HO2 | assumption)
      go_simp
      exact hK _ _ _ hI (Step.refl hI) rfl
    · intro vs g w2 hI hF hR K hK
      simp only [Facts, fill, Act.put, z1, z2, z3, z4, z5, Nat.reduceAdd] at hF hR hK ⊢
      obtain ⟨r0, r1, -⟩ := hR
      generalize vs 0 = x0, vs 1 = x1 at *
      subst r0 r1
      go_simp
      refine (gRef6minor hI (by first | assumption | (unfold S; decide)) (by first | assumption | (unfold S; decide)) (by first | assumption | (unfold S; decide)) (by first | assumption | (unfold S; decide))).mono ?_
      rintro e w3 ⟨v3, rfl, hv, hb⟩
      exact hK _ _ _ (hI.call hb) (Step.call hI hb) hv
    · intro vs g w2 hI hF hR K hK
      simp only [Facts, fill, Act.put, z1, z2, z3, z4, z5, Nat.reduceAdd] at hF hR hK ⊢
      have k0 := hI.cell C0_W_0.out (by first | exact HO0 | exact HO1 | exact HO2 | assumption)
      have k1 := hI.cell C0_W_1.out (by first | exact HO0 | exact HO1 | exact HO2 | assumption)
      go_simp
      exact hK _ _ _ hI (Step.refl hI) rfl
    · intro vs g w2 hI hF hR K hK
      simp only [Facts, fill, Act.put, z1, z2, z3, z4, z5, Nat.reduceAdd] at hF hR hK ⊢
      have k0 := hI.cell C2_W_0.out (by first | exact HO0 | exact HO1 | exact HO2 | assumption)
      have k1 := hI.cell C2_W_1.out (by first | exact HO0 | exact HO1 | exact HO2 | assumption)
      go_simp
      exact hK _ _ _ hI (Step.refl hI) rfl
    · intro vs g w2 hI hF hR K hK
      simp only [Facts, fill, Act.put, z1, z2, z3, z4, z5, Nat.reduceAdd] at hF hR hK ⊢
      obtain ⟨r3, r4, -⟩ := hR
      generalize vs 3 = x3, vs 4 = x4 at *
      subst r3 r4
      go_simp
      refine (gRef6minor hI (by first | assumption | (unfold S; decide)) (by first | assumption | (unfold S; decide)) (by first | assumption | (unfold S; decide)) (by first | assumption | (unfold S; decide))).mono ?_
      rintro e w3 ⟨v3, rfl, hv, hb⟩
      exact hK _ _ _ (hI.call hb) (Step.call hI hb) hv
    · intro vs g w2 hI hF hR K hK
      simp only [Facts, fill, Act.put, z1, z2, z3, z4, z5, Nat.reduceAdd] at hF hR hK ⊢
      obtain ⟨r2, r5, -⟩ := hR
      generalize vs 2 = x2, vs 5 = x5 at *
      go_simp
      refine (gSub hI r2 r5 (by decide) (by decide)).mono ?_
      rintro e w3 ⟨v3, rfl, hv, hb⟩
      exact hK _ _ _ (hI.call hb) (Step.call hI hb) hv
    · intro vs g w2 hI hF hR K hK
      simp only [Facts, fill, Act.put, z1, z2, z3, z4, z5, Nat.reduceAdd] at hF hR hK ⊢
      have k0 := hI.cell C0_W_0.out (by first | exact HO0 | exact HO1 | exact HO2 | assumption)
      have k1 := hI.cell C0_W_1.out (by first | exact HO0 | exact HO1 | exact HO2 | assumption)
      go_simp
      exact hK _ _ _ hI (Step.refl hI) rfl
    · intro vs g w2 hI hF hR K hK
      simp only [Facts, fill, Act.put, z1, z2, z3, z4, z5, Nat.reduceAdd] at hF hR hK ⊢
      have k0 := hI.cell C1_W_0.out (by first | exact HO0 | exact HO1 | exact HO2 | assumption)
      have k1 := hI.cell C1_W_1.out (by first | exact HO0 | exact HO1 | exact HO2 | assumption)
      go_simp
      exact hK _ _ _ hI (Step.refl hI) rfl
    · intro vs g w2 hI hF hR K hK
      simp only [Facts, fill, Act.put, z1, z2, z3, z4, z5, Nat.reduceAdd] at hF hR hK ⊢
      obtain ⟨r7, r8, -⟩ := hR
      generalize vs 7 = x7, vs 8 = x8 at *
      subst r7 r8
      go_simp
      refine (gRef6minor hI (by first | assumption | (unfold S; decide)) (by first | assumption | (unfold S; decide)) (by first | assumption | (unfold S; decide)) (by first | assumption | (unfold S; decide))).mono ?_
      rintro e w3 ⟨v3, rfl, hv, hb⟩
      exact hK _ _ _ (hI.call hb) (Step.call hI hb) hv
    · intro vs g w2 hI hF hR K hK
      simp only [Facts, fill, Act.put, z1, z2, z3, z4, z5, Nat.reduceAdd] at hF hR hK ⊢
      obtain ⟨r6, r9, -⟩ := hR
      generalize vs 6 = x6, vs 9 = x9 at *
      go_simp
      refine (gAdd hI r6 r9 (by decide) (by decide)).mono ?_
      rintro e w3 ⟨v3, rfl, hv, hb⟩
      exact hK _ _ _ (hI.call hb) (Step.call hI hb) hv
    · intro vs g w2 hI hF hR K hK
      simp only [Facts, fill, Act.put, z1, z2, z3, z4, z5, Nat.reduceAdd] at hF hR hK ⊢
      obtain ⟨r10, -⟩ := hR
      generalize vs 10 = x10 at *
      have hk := hI.keep0 1000 _ (lift_at g0 (w.heap.size + 1 + 1 + 1))
      have hbx := hI.box0 1000 _ 2 (lift_at g0 (w.heap.size + 1 + 1 + 1)) HBX.out
      have qx := r10
      obtain ⟨s11, A11, n11, c11, rfl, hs11⟩ := numG_open r10
      obtain ⟨⟨u0, k0⟩, f0⟩ := hbx 0 (by decide)
      obtain ⟨⟨u1, k1⟩, f1⟩ := hbx 1 (by decide)
      go_simp
      have ht := (((Touch.refl w2 (w.heap.size + 1 + 1 + 1)).set 0 (.int .i64 s11)).set 1 (.slice A11 n11 c11))
      exact hK undef _ _ (hI.store (by decide) hk ht) (Step.store hI rfl hk ht) ⟨(w.heap.size + 1 + 1 + 1), .agg #[.int .i64 s11, .slice A11 n11 c11], hk, by rw [ht.size]; exact hI.lt _ _ hk, cells2 k0 k1 (.int .i64 s11) (.slice A11 n11 c11), ((numG_firm _ _) _ _ _ _ _ qx (ht.keeps hk))⟩
  case fin =>
    intro vs g wR1 hI hR
    have r11 := hR 11 (by decide)
    simp only [fill, Act.put, z1, z2, z3, z4, z5] at r11 ⊢
    clear hR
    generalize vs 11 = x11 at *
    have C0_R1_0 := Lib.hid (hI.cell C0_W_0.out (by first | exact HO0 | exact HO1 | exact HO2 | assumption))
    have C0_R1_1 := Lib.hid (hI.cell C0_W_1.out (by first | exact HO0 | exact HO1 | exact HO2 | assumption))
    have C1_R1_0 := Lib.hid (hI.cell C1_W_0.out (by first | exact HO0 | exact HO1 | exact HO2 | assumption))
    have C1_R1_1 := Lib.hid (hI.cell C1_W_1.out (by first | exact HO0 | exact HO1 | exact HO2 | assumption))
    have C2_R1_0 := Lib.hid (hI.cell C2_W_0.out (by first | exact HO0 | exact HO1 | exact HO2 | assumption))
    have C2_R1_1 := Lib.hid (hI.cell C2_W_1.out (by first | exact HO0 | exact HO1 | exact HO2 | assumption))
    have hkR16 := hI.keep0 1000 _ (lift_at g0 (w.heap.size + 1 + 1 + 1))
    obtain ⟨qR16, uR16, hqR16, -, hcR16, hrR16⟩ := r11
    rw [hkR16] at hqR16
    injection hqR16 with hqR16
    subst hqR16
    have qfR16 := hrR16
    obtain ⟨svR16, AvR16, nvR16, cvR16, rfl, hsvR16⟩ := numG_open hrR16
    have FR16_R1_0 := Lib.hid ((numG_firm _ _) _ _ _ _ _ qfR16 hI.back)
    clear qfR16
    have FR16_R1_1 := Lib.hid (numG_sign FR16_R1_0.out)
    have CR16_R1_0 := Lib.hid (hcR16 0 _ rfl)
    have CR16_R1_1 := Lib.hid (hcR16 1 _ rfl)
    clear hcR16 hkR16
    have hBR1 := hI.below
    have HCR1 := hI.next HOK
    clear hI
    go_wp2
    exact bodyPost_ret (v := .agg #[.int .i64 svR16, .slice AvR16 nvR16 cvR16]) (by simp [results, Tryz.results92, go_sem, CR16_R1_0.out, CR16_R1_1.out]) rfl ⟨_, rfl, (numG_firm _ _) _ _ _ _ _ FR16_R1_0.out keeps_out, hBR1⟩
theorem gRef6Value {c0 : Ctx} {g0 : Gh} {w : World} {xa ya xb yb xc yc : Int} (hI0 : RInv c0 g0 w) (sxa : S xa) (sya : S ya) (sxb : S xb) (syb : S yb) (sxc : S xc) (syc : S yc) :
    Calls Tryz.prog 92 #[.agg #[.int .i64 xa, .int .i64 ya], .agg #[.int .i64 xb, .int .i64 yb], .agg #[.int .i64 xc, .int .i64 yc]] w (Gives (NumG 11 (det xa ya xb yb xc yc)) g0 w) := by
  have h := gRef6Value0 hI0 sxa sya sxb syb sxc syc
  have e : xb * yc - yb * xc - (xa * yc - ya * xc) + (xa * yb - ya * xb) = det xa ya xb yb xc yc := by unfold det; grind
  rwa [e] at h
set_option maxRecDepth 100000 in
set_option maxHeartbeats 4000000 in
theorem gRef6Sign {c0 : Ctx} {g0 : Gh} {w : World} {xa ya xb yb xc yc : Int} (hI0 : RInv c0 g0 w) (sxa : S xa) (sya : S ya) (sxb : S xb) (syb : S yb) (sxc : S xc) (syc : S yc) :
    Calls Tryz.prog 75 #[.agg #[.int .i64 xa, .int .i64 ya], .agg #[.int .i64 xb, .int .i64 yb], .agg #[.int .i64 xc, .int .i64 yc]] w (Gives (SignR (det xa ya xb yb xc yc)) g0 w) := by
  obtain ⟨W, hW⟩ : ∃ W, W = ((w.alloc (.cells #[.int .i64 xa, .int .i64 ya] 24)).alloc (.cells #[.int .i64 xb, .int .i64 yb] 24)).alloc (.cells #[.int .i64 xc, .int .i64 yc] 24) := ⟨_, rfl⟩
  have hb0 : Below w.heap.size w W := by rw [hW]; exact ((((Below.refl _ _).alloc (Nat.le_refl _) _).alloc (by simp) _).alloc (by simp; omega) _)
  have HOK := Ctx.ok_lift0 hI0 hb0
  have C0_W_0 := Lib.hid (show W.cell? ⟨w.heap.size, 0, none⟩ = some (.int .i64 xa) by rw [hW]; simp [go_sem])
  have C0_W_1 := Lib.hid (show W.cell? ⟨w.heap.size, 1, none⟩ = some (.int .i64 ya) by rw [hW]; simp [go_sem])
  have HO0 : Off (lift0 g0) (w.heap.size) := lift0_off (hI0.offs _ (by omega))
  have C1_W_0 := Lib.hid (show W.cell? ⟨w.heap.size + 1, 0, none⟩ = some (.int .i64 xb) by rw [hW]; simp [go_sem])
  have C1_W_1 := Lib.hid (show W.cell? ⟨w.heap.size + 1, 1, none⟩ = some (.int .i64 yb) by rw [hW]; simp [go_sem])
  have HO1 : Off (lift0 g0) (w.heap.size + 1) := lift0_off (hI0.offs _ (by omega))
  have C2_W_0 := Lib.hid (show W.cell? ⟨w.heap.size + 1 + 1, 0, none⟩ = some (.int .i64 xc) by rw [hW]; simp [go_sem])
  have C2_W_1 := Lib.hid (show W.cell? ⟨w.heap.size + 1 + 1, 1, none⟩ = some (.int .i64 yc) by rw [hW]; simp [go_sem])
  have HO2 : Off (lift0 g0) (w.heap.size + 1 + 1) := lift0_off (hI0.offs _ (by omega))
  have HW := Lib.hid hW
  clear hW
  go_enter Tryz.func75, Tryz.ntmps75
  go_upto_region 1 with (fail)
  rw [← HW.out]
  refine box_plan0 (c := ⟨w, W, (lift0 g0)⟩) HOK [[], [], [], [(7, 0), (8, 1), (9, 2)], [(10, 3)], [(11, 4)]] [(7, 0), (8, 1), (9, 2), (10, 3), (11, 4), (6, 5)] [
      (fun v _ _ => v = .agg #[.int .i64 xa, .int .i64 ya]),
      (fun v _ _ => v = .agg #[.int .i64 xb, .int .i64 yb]),
      (fun v _ _ => v = .agg #[.int .i64 xc, .int .i64 yc]),
      NumG 11 (det xa ya xb yb xc yc),
      SignR (det xa ya xb yb xc yc),
      SignR (det xa ya xb yb xc yc)
    ] (fun _ => none) (by kernel_rfl) (by kernel_rfl) ⟨stab_eq, stab_eq, stab_eq, stab_firm (numG_firm _ _), stab_firm (signR_firm _), stab_firm (signR_firm _), trivial⟩ ?steps ?fin
  case steps =>
    refine ⟨?_, ?_, ?_, ?_, ?_, ?_, trivial⟩
    · intro vs g w2 hI hF hR K hK
      simp only [Facts, fill, Act.put, z1, z2, z3, z4, z5, Nat.reduceAdd] at hF hR hK ⊢
      have k0 := hI.cell C0_W_0.out (by first | exact HO0 | exact HO1 | exact HO2 | assumption)
      have k1 := hI.cell C0_W_1.out (by first | exact HO0 | exact HO1 | exact HO2 | assumption)
      go_simp
      exact hK _ _ _ hI (Step.refl hI) rfl
    · intro vs g w2 hI hF hR K hK
      simp only [Facts, fill, Act.put, z1, z2, z3, z4, z5, Nat.reduceAdd] at hF hR hK ⊢
      have k0 := hI.cell C1_W_0.out (by first | exact HO0 | exact HO1 | exact HO2 | assumption)
      have k1 := hI.cell C1_W_1.out (by first | exact HO0 | exact HO1 | exact HO2 | assumption)
      go_simp
      exact hK _ _ _ hI (Step.refl hI) rfl
    · intro vs g w2 hI hF hR K hK
      simp only [Facts, fill, Act.put, z1, z2, z3, z4, z5, Nat.reduceAdd] at hF hR hK ⊢
      have k0 := hI.cell C2_W_0.out (by first | exact HO0 | exact HO1 | exact HO2 | assumption)
      have k1 := hI.cell C2_W_1.out (by first | exact HO0 | exact HO1 | exact HO2 | assumption)
      go_simp
      exact hK _ _ _ hI (Step.refl hI) rfl
    · intro vs g w2 hI hF hR K hK
      simp only [Facts, fill, Act.put, z1, z2, z3, z4, z5, Nat.reduceAdd] at hF hR hK ⊢
      obtain ⟨r0, r1, r2, -⟩ := hR
      generalize vs 0 = x0, vs 1 = x1, vs 2 = x2 at *
      subst r0 r1 r2
      go_simp
      refine (gRef6Value hI (by first | assumption | (unfold S; decide)) (by first | assumption | (unfold S; decide)) (by first | assumption | (unfold S; decide)) (by first | assumption | (unfold S; decide)) (by first | assumption | (unfold S; decide)) (by first | assumption | (unfold S; decide))).mono ?_
      rintro e w3 ⟨v3, rfl, hv, hb⟩
      exact hK _ _ _ (hI.call hb) (Step.call hI hb) hv
    · intro vs g w2 hI hF hR K hK
      simp only [Facts, fill, Act.put, z1, z2, z3, z4, z5, Nat.reduceAdd] at hF hR hK ⊢
      obtain ⟨r3, -⟩ := hR
      generalize vs 3 = x3 at *
      obtain ⟨s4, A4, n4, c4, rfl, hs4⟩ := numG_open r3
      go_simp
      exact hK _ _ _ hI (Step.refl hI) hs4
    · intro vs g w2 hI hF hR K hK
      simp only [Facts, fill, Act.put, z1, z2, z3, z4, z5, Nat.reduceAdd] at hF hR hK ⊢
      obtain ⟨r4, -⟩ := hR
      generalize vs 4 = x4 at *
      go_simp
      exact hK _ _ _ hI (Step.refl hI) r4
  case fin =>
    intro vs g wR1 hI hR
    have r5 := hR 5 (by decide)
    simp only [fill, Act.put, z1, z2, z3, z4, z5] at r5 ⊢
    clear hR
    generalize vs 5 = x5 at *
    have C0_R1_0 := Lib.hid (hI.cell C0_W_0.out (by first | exact HO0 | exact HO1 | exact HO2 | assumption))
    have C0_R1_1 := Lib.hid (hI.cell C0_W_1.out (by first | exact HO0 | exact HO1 | exact HO2 | assumption))
    have C1_R1_0 := Lib.hid (hI.cell C1_W_0.out (by first | exact HO0 | exact HO1 | exact HO2 | assumption))
    have C1_R1_1 := Lib.hid (hI.cell C1_W_1.out (by first | exact HO0 | exact HO1 | exact HO2 | assumption))
    have C2_R1_0 := Lib.hid (hI.cell C2_W_0.out (by first | exact HO0 | exact HO1 | exact HO2 | assumption))
    have C2_R1_1 := Lib.hid (hI.cell C2_W_1.out (by first | exact HO0 | exact HO1 | exact HO2 | assumption))
    have qfR16 := r5
    obtain ⟨svR16, rfl, -⟩ := signR_open r5
    have FR16_R1_0 := Lib.hid ((signR_firm _) _ _ _ _ _ qfR16 hI.back)
    clear qfR16
    have hBR1 := hI.below
    have HCR1 := hI.next HOK
    clear hI
    go_wp2
    go_ret
    exact ⟨_, rfl, (signR_firm _) _ _ _ _ _ FR16_R1_0.out keeps_out0, hBR1⟩
end Go.Proofs.YthmkllpdkcmccaaGreatDoor
namespace Go.Proofs.YthmkllpdkcmccaaGreatDoor
open Go.RowKit
set_option maxRecDepth 100000
set_option linter.unusedVariables false
set_option linter.unusedSimpArgs false

section
variable {P : Program} {ops : Array Oper} {Q : Exit → Act → World → Prop}
/-! ### Within a round -/
theorem oper_round {o : Oper} {a : Act} {w : World} {K : Act → World → Prop} {l n : Nat} (hd : ∀ c, o.op ≠ .defer c) (h : o.wp P a w K Q) : o.wpIn (Fence.wide.inRound l) n P a w K Q := by
  unfold Oper.wpIn
  refine ⟨fun _ _ => trivial, ?_⟩
  show o.uponIn _ n P a K Q ((o.semAt (some l) a.eval).run P w)
  rw [Oper.semAt_some l _ o hd]
  unfold Oper.wp at h
  generalize (execOp a.eval o).run P w = r at *
  cases r with
  | ok x w' =>
    cases x <;> simp only [Oper.uponIn, Oper.upon] at h ⊢
    case value => exact h
    case skip => exact h
    case defer => exact h
    case enter f args => exact ⟨fun h => by simp [Fence.inRound, Fence.wide] at h, callsIn_wide.2 h⟩
    case row row args => exact ⟨fun h => by simp [Fence.inRound, Fence.wide] at h, fun c cs _ => let ⟨v, w', r, s⟩ := h c cs; ⟨v, w', r, stepsIn_wide.2 s⟩⟩
  | halt x w' => cases x <;> simp only [Oper.uponIn, Oper.upon] at h ⊢ <;> exact h
def noDefer (ops : Array Oper) : Bool := ops.all fun o => match o.op with | .defer _ => false | _ => true
theorem wpOp_round {i : Nat} {K : Act → World → Prop} {a : Act} {w : World} {l n : Nat} (hd : noDefer ops = true) (hQ : ∀ a w, ¬ Q .outgrown a w) (h : wpOp P ops Q i K a w) : wpOpIn (Fence.wide.inRound l) n P ops Q i K a w := by
  unfold wpOp at h
  unfold wpOpIn
  cases ho : ops[i]? with
  | none => rw [ho] at h; exact h
  | some o =>
    rw [ho] at h
    simp only at h ⊢
    have hdo : ∀ c, o.op ≠ .defer c := fun c e => by
      have := Array.all_eq_true_iff_forall_mem.1 hd o (Array.mem_of_getElem? ho)
      rw [e] at this; cases this
    split
    · rename_i hw
      rw [if_pos hw] at h
      rcases h with h | ⟨_, a', w', h⟩
      · exact oper_round hdo h
      · exact absurd h (hQ _ _)
    · rename_i hw
      rw [if_neg hw] at h
      exact ⟨fun _ _ => trivial, h⟩
theorem wpAny_round {l n : Nat} (hd : noDefer ops = true) (hQ : ∀ a w, ¬ Q .outgrown a w) : ∀ (fuel : Nat) (listed : Array Bool) (a : Act) (w : World), wpAny P .any ops Q fuel listed a w → wpAnyIn (Fence.wide.inRound l) n P .any ops Q fuel listed a w
  | 0, listed, a, w, h => h
  | fuel + 1, listed, a, w, h => ⟨h.1, fun i hi => wpOpIn_mono (fun a w => wpAny_round hd hQ fuel _ a w) (wpOp_round hd hQ (h.2 i hi))⟩
/-- A region in whatever order, in a round. -/
theorem region_round {id l n : Nat} {a : Act} {w : World} (hm : P.follows .mixedOrders = true) (hd : noDefer ops = true) (hQ : ∀ a w, ¬ Q .outgrown a w)
    (h : wpAny P .any ops (NoPanic Q) ops.size (Array.replicate ops.size false) a w.drew) : (Code.region id ops true).wpIn (Fence.wide.inRound l) n P Q a w :=
  wpIn_mono (Q' := Q) (wpIn_region_any (Q := NoPanic Q) hm (wpAny_round (Q := NoPanic Q) hd (fun a w h => hQ a w h) _ _ _ _ h)) NoPanic.imp
/-! ### The last operations -/
/-- The ancestors of the first k operations. -/
def ancs (ops : Array Oper) : Nat → List (List Nat)
  | 0 => []
  | k + 1 => ancs ops k ++ [match ops[k]? with | some o => (o.after.toList.filter fun e => Region.binds .any e).flatMap fun e => e.on :: (ancs ops k).getD e.on [] | none => []]
theorem ancs_len (ops : Array Oper) : ∀ k, (ancs ops k).length = k
  | 0 => rfl
  | k + 1 => by unfold ancs; rw [List.length_append, ancs_len ops k]; rfl
theorem ancs_at (ops : Array Oper) : ∀ (n k : Nat), k < n → (ancs ops n).getD k [] = (match ops[k]? with | some o => (o.after.toList.filter fun e => Region.binds .any e).flatMap fun e => e.on :: (ancs ops k).getD e.on [] | none => [])
  | n + 1, k, h => by
    by_cases e : k = n
    · subst e
      rw [ancs, List.getD_eq_getElem?_getD, List.getElem?_append_right (by rw [ancs_len]; exact Nat.le_refl _), ancs_len, Nat.sub_self]; rfl
    · rw [ancs, List.getD_eq_getElem?_getD, List.getElem?_append_left (by rw [ancs_len]; omega), ← List.getD_eq_getElem?_getD]
      exact ancs_at ops n k (by omega)
theorem ancs_same (ops : Array Oper) {n m k : Nat} (h1 : k < n) (h2 : k < m) : (ancs ops n).getD k [] = (ancs ops m).getD k [] := by rw [ancs_at ops n k h1, ancs_at ops m k h2]
/-- Where each listed operation's own are listed, all ancestors are. -/
theorem ancs_listed {pre : List (List (Nat × Nat))} (hk : RgOk ops pre) {L : Nat → Bool} (hcl : ∀ j o, ops[j]? = some o → L j = true → ∀ e ∈ o.after, Region.binds .any e = true → L e.on = true) :
    ∀ (k : Nat) (o : Oper), ops[k]? = some o → (∀ e ∈ o.after, Region.binds .any e = true → L e.on = true) → ∀ x ∈ (ancs ops ops.size).getD k [], L x = true := by
  intro k
  induction k using Nat.strongRecOn with
  | ind k ih =>
    intro o ho hall x hx
    have hlt : k < ops.size := (Array.getElem?_eq_some_iff.1 ho).1
    rw [ancs_at ops ops.size k hlt, ho] at hx
    simp only [List.mem_flatMap, List.mem_filter, Array.mem_toList_iff] at hx
    obtain ⟨e, ⟨he, hb⟩, hx⟩ := hx
    have hon := hall e he hb
    have hdn := hk.down ho e he hb
    rcases List.mem_cons.1 hx with rfl | hx
    · exact hon
    · have hlt2 : e.on < ops.size := by omega
      have ho2 : ops[e.on]? = some ops[e.on] := Array.getElem?_eq_getElem hlt2
      rw [ancs_same ops hdn hlt2] at hx
      exact ih e.on hdn _ ho2 (fun e' he' hb' => hcl _ _ ho2 hon e' he' hb') x hx
/-- From m on each operation comes behind all that stand ahead of it. -/
def tailChk (ops : Array Oper) (m : Nat) : Bool := (List.range ops.size).all fun j => Nat.blt j m || (List.range j).all fun i => ((ancs ops ops.size).getD j []).contains i
theorem tailOk {m : Nat} (h : tailChk ops m = true) {i j : Nat} (hj : j < ops.size) (hm : m ≤ j) (hi : i < j) : i ∈ (ancs ops ops.size).getD j [] := by
  have := List.all_eq_true.1 h j (List.mem_range.2 hj)
  rw [Bool.or_eq_true] at this
  rcases this with h1 | h1
  · rw [Nat.blt_eq] at h1; omega
  · have := List.all_eq_true.1 h1 i (List.mem_range.2 hi)
    simpa using this
def Closed (ops : Array Oper) (L : Nat → Bool) : Prop := ∀ j o, ops[j]? = some o → L j = true → ∀ e ∈ o.after, Region.binds .any e = true → L e.on = true
theorem closed_set {listed : Array Bool} {i : Nat} {o : Oper} (ho : ops[i]? = some o) (h : Closed ops (fun j => listed.getD j false)) (hlt : i < listed.size) (hr : ∀ e ∈ o.after, Region.binds .any e = true → listed.getD e.on false = true) :
    Closed ops (fun j => (listed.setIfInBounds i true).getD j false) ∧ (fun j => (listed.setIfInBounds i true).getD j false) = fun j => j == i || listed.getD j false := by
  have hfun : (fun j => (listed.setIfInBounds i true).getD j false) = fun j => j == i || listed.getD j false := funext fun j => by
    by_cases e : j = i
    · subst e
      simp [Array.getD_eq_getD_getElem?, Array.getElem?_setIfInBounds_self_of_lt hlt]
    · rw [getD_set_ne false (Ne.symm e)]
      simp [e]
  refine ⟨?_, hfun⟩
  rw [hfun]
  intro j q hq hl e he hb
  by_cases ej : j = i
  · subst ej
    rw [ho] at hq
    injection hq with hq
    subst hq
    simp [hr e he hb]
  · have hl' : listed.getD j false = true := by simpa [ej] using hl
    have := h j q hq hl' e he hb
    simp [this]
/-- The tail, in the text's order. -/
theorem tail_any {pre : List (List (Nat × Nat))} (hk : RgOk ops pre) {m : Nat} (ht : tailChk ops m = true) : ∀ (d j fuel : Nat) (listed : Array Bool) (a : Act) (w : World), j + d = ops.size → m ≤ j → listed.size = ops.size → d ≤ fuel →
    (∀ i, i < ops.size → listed.getD i false = decide (i < j)) → Closed ops (fun j => listed.getD j false) → wpOps P ops (NoPanic Q) (List.range' j d) a w → wpAny P .any ops (NoPanic Q) fuel listed a w := by
  intro d
  induction d with
  | zero =>
    intro j fuel listed a w hj hm hsz hf hl hcl h
    have hnone : Region.ready .any ops listed = [] := by
      cases hr : Region.ready .any ops listed with
      | nil => rfl
      | cons x r =>
        obtain ⟨h0, o, ho, _⟩ := mem_ready.1 (show x ∈ Region.ready .any ops listed by rw [hr]; simp)
        have hx := (Array.getElem?_eq_some_iff.1 ho).1
        have := hl x hx
        simp [Array.getD_eq_getD_getElem?, Array.getElem?_eq_getElem (show x < listed.size by omega)] at h0 this
        rw [h0] at this
        simp at this
        omega
    cases fuel with
    | zero => exact ⟨hnone, h⟩
    | succ fuel => exact ⟨fun _ => h, fun i hi => by rw [hnone] at hi; cases hi⟩
  | succ d ih =>
    intro j fuel listed a w hj hm hsz hf hl hcl h
    obtain ⟨fuel, rfl⟩ : ∃ f, fuel = f + 1 := ⟨fuel - 1, by omega⟩
    have hjlt : j < ops.size := by omega
    have hoj : ops[j]? = some ops[j] := Array.getElem?_eq_getElem hjlt
    have hjr : j ∈ Region.ready .any ops listed := mem_ready.2 ⟨by
      have := hl j hjlt
      simp [Array.getD_eq_getD_getElem?, Array.getElem?_eq_getElem (show j < listed.size by omega)] at this ⊢; exact this, _, hoj, fun e he hb => by
      have hd := hk.down hoj e he hb
      rw [hl e.on (by omega)]; simp [hd]⟩
    refine ⟨fun hr => (by rw [hr] at hjr; cases hjr), fun i hi => ?_⟩
    obtain ⟨h0, o, ho, hall⟩ := mem_ready.1 hi
    have hilt := (Array.getElem?_eq_some_iff.1 ho).1
    have hij : i = j := by
      have h1 := hl i hilt
      have h2 : listed.getD i false = false := by
        simp [Array.getD_eq_getD_getElem?, Array.getElem?_eq_getElem (show i < listed.size by omega)] at h0 ⊢; exact h0
      rw [h2] at h1
      have hge : j ≤ i := by simpa using h1.symm
      by_cases e : i = j
      · exact e
      · exfalso
        have := ancs_listed hk hcl i o ho hall j (tailOk ht hilt (by omega) (by omega))
        rw [hl j hjlt] at this
        simp at this
    subst hij
    rw [List.range'_succ, wpOps_cons] at h
    refine wpOp_mono (fun a' w' hh => ?_) h
    obtain ⟨hcl', hfun⟩ := closed_set ho hcl (by omega) hall
    refine ih (i + 1) fuel _ a' w' (by omega) (by omega) (by simp [hsz]) (by omega) (fun x hx => ?_) hcl' hh
    have hx2 : (listed.setIfInBounds i true).getD x false = (x == i || listed.getD x false) := congrFun hfun x
    show (listed.setIfInBounds i true).getD x false = decide (x < i + 1)
    rw [hx2, hl x hx, Bool.eq_iff_iff]
    simp
    omega
/-- The slots that the first m operations write. -/
def allChkM (ops : Array Oper) (m : Nat) (all : List (Nat × Nat)) : Bool :=
  ((List.range m).all fun i => match ops[i]? with | some o => (match o.dst with | some t => all.contains (t, i) | none => true) | none => false) &&
  (all.all fun p => Nat.blt p.2 m && match ops[p.2]? with | some o => o.dst == some p.1 | none => false)
variable {Γ : Type}
theorem held_upto {a0 : Act} {pre : List (List (Nat × Nat))} {I : Γ → World → Prop} {R : Nat → Value → Γ → World → Prop} {F : Nat → Γ → Prop} {all : List (Nat × Nat)} (hk : RgOk ops pre) {m : Nat} (hall : allChkM ops m all = true)
    {L : Nat → Bool} {vs : Nat → Value} {g : Γ} {a : Act} {w : World} (h : Held ops a0 pre I R F L vs g a w) (hL : ∀ i, i < ops.size → L i = decide (i < m)) : a = fill a0 vs all := by
  have hlt : ∀ {i : Nat} {o : Oper}, ops[i]? = some o → i < ops.size := fun {i o} ho => (Array.getElem?_eq_some_iff.1 ho).1
  unfold allChkM at hall
  rw [Bool.and_eq_true] at hall
  have hin : ∀ (i : Nat) (o : Oper) (t : Nat), ops[i]? = some o → o.dst = some t → i < m → (t, i) ∈ all := fun i o t ho hd him => by
    have := List.all_eq_true.1 hall.1 i (List.mem_range.2 him)
    rw [ho] at this
    simp only [hd] at this
    simpa using this
  have hall2 : ∀ p ∈ all, p.2 < m ∧ ∃ o, ops[p.2]? = some o ∧ o.dst = some p.1 := fun p hp => by
    have := List.all_eq_true.1 hall.2 p hp
    rw [Bool.and_eq_true, Nat.blt_eq] at this
    refine ⟨this.1, ?_⟩
    cases hq : ops[p.2]? with
    | none => rw [hq] at this; cases this.2
    | some q => rw [hq] at this; exact ⟨q, rfl, by simpa using this.2⟩
  have e : a.tmps = (fill a0 vs all).tmps := by
    refine Array.ext_getElem? fun t => ?_
    by_cases hw : ∃ (j : Nat) (q : Oper), ops[j]? = some q ∧ q.dst = some t ∧ j < m
    · obtain ⟨j, q, hq, hd, hjm⟩ := hw
      by_cases hts : t < a0.tmps.size
      · rw [h.slot t j q hq hd (by rw [hL j (hlt hq)]; simp [hjm]) hts, fill_in a0 vs _ t j (hin j q t hq hd hjm) (fun p hp he => by
          obtain ⟨_, q', hq', hd'⟩ := hall2 p hp
          exact hk.one hq hq' hd (by rw [hd', he])) hts]
      · rw [Array.getElem?_eq_none (by rw [h.size]; omega), Array.getElem?_eq_none (by rw [fill_size]; omega)]
    · rw [h.rest t (fun j q hq hd => by
        rw [hL j (hlt hq)]
        simp only [decide_eq_false_iff_not]
        exact fun hjm => hw ⟨j, q, hq, hd, hjm⟩), fill_out a0 vs _ t (fun p hp he => by
        obtain ⟨hpm, q', hq', hd'⟩ := hall2 p hp
        exact hw ⟨_, q', hq', by rw [hd', he], hpm⟩)]
  have ed : a.defers = (fill a0 vs all).defers := by rw [fill_defers]; exact h.defers
  cases a
  cases hf : fill a0 vs all
  rw [hf] at e ed
  simp only at e ed
  rw [e, ed]
/-- All orders of the first m operations, then the others. -/
theorem tail_plan {a0 : Act} {g0 : Γ} {w0 : World} (m : Nat) (pre : List (List (Nat × Nat))) (all : List (Nat × Nat)) (chk : rgChk ops pre = true) (chk2 : allChkM ops m all = true) (chk3 : tailChk ops m = true) (hmn : m ≤ ops.size)
    (I : Γ → World → Prop) (R : Nat → Value → Γ → World → Prop) (G : Nat → Γ → World → Γ → World → Prop) (F : Nat → Γ → Prop)
    (st : ∀ i j v g w g' w', i ≠ j → i < ops.size → R i v g w → G j g w g' w' → R i v g' w') (stF : ∀ i j g w g' w', i ≠ j → F i g → G j g w g' w' → F i g') (start : I g0 w0) (startF : ∀ i, F i g0)
    (steps : StepsL P ops Q a0 pre I R G F (ops.toList.take m) 0)
    (fin : ∀ vs g w, I g w → (∀ i, i < m → R i (vs i) g w) → wpOps P ops (NoPanic Q) (List.range' m (ops.size - m)) (fill a0 vs all) w) :
    wpAny P .any ops (NoPanic Q) ops.size (Array.replicate ops.size false) a0 w0 := by
  have hk := rgOk chk
  have stepAt : ∀ {i : Nat} {o : Oper}, ops[i]? = some o → i < m → StepAt P ops Q a0 pre I R G F o i := fun {i o} ho him => by
    have := stepsL_at steps (i := i) (o := o) (by rw [List.getElem?_take, if_pos him]; simpa using ho)
    rwa [Nat.zero_add] at this
  have key : ∀ (fuel : Nat) (listed : Array Bool) (vs : Nat → Value) (g : Γ) (a : Act) (w : World), listed.size = ops.size → cntF ops.size (fun i => listed.getD i false) ≤ fuel → Closed ops (fun i => listed.getD i false) → (∀ i, m ≤ i → listed.getD i false = false) →
      Held ops a0 pre I R F (fun i => listed.getD i false) vs g a w → wpAny P .any ops (NoPanic Q) fuel listed a w := by
    intro fuel
    induction fuel with
    | zero =>
      intro listed vs g a w hsz hc hcl htl h
      have hall := cntF_zero (Nat.le_zero.1 hc)
      have hme : m = ops.size := by
        by_cases e : m < ops.size
        · have := hall m e; rw [htl m (Nat.le_refl _)] at this; cases this
        · omega
      have hL : ∀ i, i < ops.size → listed.getD i false = decide (i < m) := fun i hi => by rw [hall i hi]; simp; omega
      have := fin vs g w h.inv fun i hi => h.fact i (by omega) (hall i (by omega))
      rw [← held_upto hk chk2 h hL] at this
      exact tail_any hk chk3 0 m 0 listed a w (by omega) (Nat.le_refl _) hsz (Nat.le_refl _) hL hcl (by rw [hme, Nat.sub_self] at this; rw [hme]; exact this)
    | succ fuel ih =>
      intro listed vs g a w hsz hc hcl htl h
      by_cases hfull : ∀ i, i < m → listed.getD i false = true
      · have hL : ∀ i, i < ops.size → listed.getD i false = decide (i < m) := fun i hi => by
          by_cases e : i < m
          · rw [hfull i e]; simp [e]
          · rw [htl i (by omega)]; simp; omega
        have := fin vs g w h.inv fun i hi => h.fact i (by omega) (hfull i hi)
        rw [← held_upto hk chk2 h hL] at this
        refine tail_any hk chk3 (ops.size - m) m (fuel + 1) listed a w (by omega) (Nat.le_refl _) hsz ?_ hL hcl this
        refine Nat.le_trans ?_ hc
        unfold cntF
        rw [show List.range ops.size = List.range' 0 m ++ List.range' m (ops.size - m) by have e := @List.range'_append_1 0 m (ops.size - m); rw [Nat.zero_add] at e; rw [List.range_eq_range', e]; congr 1; omega, List.countP_append]
        have : (List.range' m (ops.size - m)).countP (fun i => !(fun i => listed.getD i false) i) = ops.size - m := by
          rw [List.countP_eq_length.2 (fun i hi => by
            have := List.mem_range'_1.1 hi
            simp [htl i this.1])]
          simp
        omega
      · refine ⟨fun hr => ?_, fun i hi => ?_⟩
        · exfalso
          refine hfull fun i => ?_
          induction i using Nat.strongRecOn with
          | ind i ih' =>
            intro him
            cases hl : listed.getD i false with
            | true => rfl
            | false =>
              have hilt : i < ops.size := by omega
              have ho : ops[i]? = some ops[i] := Array.getElem?_eq_getElem hilt
              have hm : i ∈ Region.ready .any ops listed := mem_ready.2 ⟨by
                simp [Array.getD_eq_getD_getElem?, Array.getElem?_eq_getElem (show i < listed.size by omega)] at hl ⊢; exact hl, ops[i], ho, fun e he hb => by
                have hd := hk.down ho e he hb
                exact ih' e.on hd (by omega)⟩
              rw [hr] at hm; cases hm
        · obtain ⟨h0, o, ho, hall⟩ := mem_ready.1 hi
          have hlt : i < listed.size := by rw [hsz]; exact (Array.getElem?_eq_some_iff.1 ho).1
          have h0' : listed.getD i false = false := by
            simp [Array.getD_eq_getD_getElem?, Array.getElem?_eq_getElem hlt] at h0 ⊢; exact h0
          have him : i < m := by
            by_cases e : i < m
            · exact e
            · exfalso
              refine hfull fun x hx => ?_
              exact ancs_listed hk hcl i o ho hall x (tailOk chk3 (by omega) (by omega) (by omega))
          refine wpOp_mono (fun a' w' hh => ?_) (held_step hk st stF ho (stepAt ho him) h h0' hall)
          obtain ⟨vs', g', hh⟩ := hh
          obtain ⟨hcl', hfun⟩ := closed_set ho hcl hlt hall
          refine ih _ vs' g' a' w' (by simp [hsz]) ?_ hcl' (fun x hx => ?_) (by rw [hfun]; exact hh)
          · rw [hfun]
            have := cntF_step (n := ops.size) (i := i) (L := fun j => listed.getD j false) (by omega) h0'
            omega
          · have hx2 : (listed.setIfInBounds i true).getD x false = (x == i || listed.getD x false) := congrFun hfun x
            show (listed.setIfInBounds i true).getD x false = false
            rw [hx2, htl x hx]
            simp; omega
  refine key ops.size (Array.replicate ops.size false) (fun _ => undef) g0 a0 _ (by simp) ?_ (fun j o ho hl => ?_) (fun i _ => ?_) ⟨start, fun i _ h => ?_, fun i _ => startF i, fun i h => ?_, rfl, rfl, fun t i o _ _ h => ?_, fun _ _ => rfl⟩
  · exact Nat.le_trans List.countP_le_length (by simp)
  all_goals
    have hz : ∀ i, (Array.replicate ops.size false).getD i false = false := fun i => by
      by_cases h : i < ops.size <;> simp [Array.getD_eq_getD_getElem?, h]
  · simp only [hz] at hl; cases hl
  · exact hz i
  · simp only [hz] at h; cases h
  · simp only [hz] at h; cases h
  · simp only [hz] at h; cases h
end
/-! ### In the direct style: old memory stays -/
section
variable {P : Program} {ops : Array Oper} {Q : Exit → Act → World → Prop}
/-- A fact that a call which makes memory leaves. -/
def DStab (R : Value → World → Prop) : Prop := ∀ v w w', R v w → Below w.heap.size w w' → R v w'
def DStabL : List (Value → World → Prop) → Prop
  | [] => True
  | R :: r => DStab R ∧ DStabL r
theorem dstab_eq {x : Value} : DStab (fun v _ => v = x) := fun _ _ _ h _ => h
theorem dstabL_at : ∀ {l : List (Value → World → Prop)}, DStabL l → ∀ i, DStab (l.getD i (fun _ _ => True))
  | [], _, i => fun _ _ _ _ _ => by simp
  | R :: r, h, 0 => h.1
  | R :: r, h, i + 1 => by rw [List.getD_cons_succ]; exact dstabL_at h.2 i
theorem dir_any {a0 : Act} {W : World} (m : Nat) (pre : List (List (Nat × Nat))) (all : List (Nat × Nat)) (Rs : List (Value → World → Prop)) (chk : rgChk ops pre = true) (chk2 : allChkM ops m all = true) (chk3 : tailChk ops m = true) (hmn : m ≤ ops.size) (hst : DStabL Rs)
    (steps : StepsL P ops Q a0 pre (fun (_ : Unit) w => Below W.heap.size W w) (fun i v _ w => Rs.getD i (fun _ _ => True) v w) (fun _ _ w _ w' => Below w.heap.size w w') (fun _ _ => True) (ops.toList.take m) 0)
    (fin : ∀ vs w, Below W.heap.size W w → (∀ i, i < m → Rs.getD i (fun _ _ => True) (vs i) w) → wpOps P ops (NoPanic Q) (List.range' m (ops.size - m)) (fill a0 vs all) w) :
    wpAny P .any ops (NoPanic Q) ops.size (Array.replicate ops.size false) a0 W.drew :=
  tail_plan (Γ := Unit) (g0 := ()) m pre all chk chk2 chk3 hmn (fun _ w => Below W.heap.size W w) (fun i v _ w => Rs.getD i (fun _ _ => True) v w) (fun _ _ w _ w' => Below w.heap.size w w') (fun _ _ => True)
    (fun i j v g w g' w' _ _ h hb => dstabL_at hst i v w w' h hb) (fun _ _ _ _ _ _ _ h _ => h) (below_drewN' (Below.refl _ _) 1) (fun _ => trivial) steps (fun vs g w h hr => fin vs w h hr)
/-- A region of whatever order, in a round. -/
theorem dir_round {id l n : Nat} {a0 : Act} {W : World} (hm : P.follows .mixedOrders = true) (hd : noDefer ops = true) (hQ : ∀ a w, ¬ Q .outgrown a w) (m : Nat) (pre : List (List (Nat × Nat))) (all : List (Nat × Nat)) (Rs : List (Value → World → Prop)) (chk : rgChk ops pre = true) (chk2 : allChkM ops m all = true) (chk3 : tailChk ops m = true) (hmn : m ≤ ops.size) (hst : DStabL Rs)
    (steps : StepsL P ops Q a0 pre (fun (_ : Unit) w => Below W.heap.size W w) (fun i v _ w => Rs.getD i (fun _ _ => True) v w) (fun _ _ w _ w' => Below w.heap.size w w') (fun _ _ => True) (ops.toList.take m) 0)
    (fin : ∀ vs w, Below W.heap.size W w → (∀ i, i < m → Rs.getD i (fun _ _ => True) (vs i) w) → wpOps P ops (NoPanic Q) (List.range' m (ops.size - m)) (fill a0 vs all) w) :
    (Code.region id ops true).wpIn (Fence.wide.inRound l) n P Q a0 W := region_round hm hd hQ (dir_any m pre all Rs chk chk2 chk3 hmn hst steps fin)
/-- A region of whatever order. -/
theorem dir_plain {id : Nat} {a0 : Act} {W : World} (hm : P.follows .mixedOrders = true) (m : Nat) (pre : List (List (Nat × Nat))) (all : List (Nat × Nat)) (Rs : List (Value → World → Prop)) (chk : rgChk ops pre = true) (chk2 : allChkM ops m all = true) (chk3 : tailChk ops m = true) (hmn : m ≤ ops.size) (hst : DStabL Rs)
    (steps : StepsL P ops Q a0 pre (fun (_ : Unit) w => Below W.heap.size W w) (fun i v _ w => Rs.getD i (fun _ _ => True) v w) (fun _ _ w _ w' => Below w.heap.size w w') (fun _ _ => True) (ops.toList.take m) 0)
    (fin : ∀ vs w, Below W.heap.size W w → (∀ i, i < m → Rs.getD i (fun _ _ => True) (vs i) w) → wpOps P ops (NoPanic Q) (List.range' m (ops.size - m)) (fill a0 vs all) w) :
    (Code.region id ops true).wp P Q a0 W := wp_region_noPanic (wp_region_any hm (dir_any m pre all Rs chk chk2 chk3 hmn hst steps fin))
theorem wpOps_step {i : Nat} {rest : List Nat} {o : Oper} {a : Act} {w : World} (ho : ops[i]? = some o) (hg : o.guard = none) (h : o.wp P a w (wpOps P ops Q rest) Q) : wpOps P ops Q (i :: rest) a w := by
  rw [wpOps_cons]
  unfold wpOp
  rw [ho]
  simp only [Region.wanted, hg, if_true]
  exact .inl h
end
end Go.Proofs.YthmkllpdkcmccaaGreatDoor
