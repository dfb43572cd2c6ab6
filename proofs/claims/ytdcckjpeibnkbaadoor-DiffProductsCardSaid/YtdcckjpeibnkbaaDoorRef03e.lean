/-
  Contracts of the reference of layer 3, fifth part: the product.
-/
import Derived.Test.YtdcckjpeibnkbaaDoorRef03c
import Derived.Test.YtdcckjpeibnkbaaDoorMem2
namespace Go.Proofs.YtdcckjpeibnkbaaDoor
open Go.RowKit

theorem box3_kept {w wr : World} {sx sy : Int} {A B : Option Addr} {n c m d : Nat} (h : Below (w.heap.size + 1 + 1 + 1) (Box3 w sx A n c sy B m d) wr) :
    (wr.cell? ⟨w.heap.size, 0, none⟩ = some (.int .i64 sx) ∧ wr.cell? ⟨w.heap.size, 1, none⟩ = some (.slice A n c)) ∧ (wr.cell? ⟨w.heap.size + 1, 0, none⟩ = some (.int .i64 sy) ∧ wr.cell? ⟨w.heap.size + 1, 1, none⟩ = some (.slice B m d)) ∧
    (wr.cell? ⟨w.heap.size + 1 + 1, 0, none⟩ = some (.int .i64 0) ∧ wr.cell? ⟨w.heap.size + 1 + 1, 1, none⟩ = some (.slice none 0 0)) ∧
    (wr.frozen? ⟨w.heap.size + 1 + 1, 0, none⟩ = false ∧ wr.frozen? ⟨w.heap.size + 1 + 1, 1, none⟩ = false) ∧ Below w.heap.size w wr ∧ w.heap.size + 1 + 1 + 1 ≤ wr.heap.size := by
  have hs := h.size
  simp at hs
  exact ⟨⟨(h.cell (p := ⟨w.heap.size, 0, none⟩) (by show w.heap.size < _; omega)).trans (by simp [go_sem]), (h.cell (p := ⟨w.heap.size, 1, none⟩) (by show w.heap.size < _; omega)).trans (by simp [go_sem])⟩,
    ⟨(h.cell (p := ⟨w.heap.size + 1, 0, none⟩) (by show w.heap.size + 1 < _; omega)).trans (by simp [go_sem]), (h.cell (p := ⟨w.heap.size + 1, 1, none⟩) (by show w.heap.size + 1 < _; omega)).trans (by simp [go_sem])⟩,
    ⟨(h.cell (p := ⟨w.heap.size + 1 + 1, 0, none⟩) (by show w.heap.size + 1 + 1 < _; omega)).trans (by simp [go_sem]), (h.cell (p := ⟨w.heap.size + 1 + 1, 1, none⟩) (by show w.heap.size + 1 + 1 < _; omega)).trans (by simp [go_sem])⟩,
    ⟨(h.frozen (p := ⟨w.heap.size + 1 + 1, 0, none⟩) (by show w.heap.size + 1 + 1 < _; omega)).trans (by simp [go_sem]), (h.frozen (p := ⟨w.heap.size + 1 + 1, 1, none⟩) (by show w.heap.size + 1 + 1 < _; omega)).trans (by simp [go_sem])⟩,
    (box3_below w sx A n c sy B m d).trans (h.mono (by omega)), hs⟩
def MulRel (W : World) (Bx : World) (v : Value) (da db : List Int) (i : Value) (wr : World) : Prop :=
  ∃ (k : Nat) (os : List Int), i = .int .i64 k ∧ k ≤ da.length ∧ OwnK wr (W.heap.size + 1 + 1 + 1) 3 .i64 v os ∧ os.length = da.length + db.length ∧ Dg os ∧ ev os = ev (da.take k) * ev db ∧
    (∀ t, k + db.length ≤ t → dgt os t = 0) ∧ Below (W.heap.size + 1 + 1 + 1) Bx wr
def MulRel2 (W : World) (Bx : World) (v : Value) (da db : List Int) (k : Nat) (cr j : Value) (wr : World) : Prop :=
  ∃ (t : Nat) (os : List Int) (c : Int), j = .int .i64 t ∧ cr = .int .i64 c ∧ t ≤ db.length ∧ OwnK wr (W.heap.size + 1 + 1 + 1) 3 .i64 v os ∧ os.length = da.length + db.length ∧ Dg os ∧ 0 ≤ c ∧ c < 65536 ∧
    ev os + 65536 ^ (k + t) * c = ev (da.take k) * ev db + 65536 ^ k * (dgt da k * ev (db.take t)) ∧ (∀ t, k + db.length ≤ t → dgt os t = 0) ∧ Below (W.heap.size + 1 + 1 + 1) Bx wr
set_option maxHeartbeats 4000000 in
theorem r3mul_raw (sx sy : Int) (A B : Option Addr) (c d : Nat) (da db : List Int) (z : Int) (S SA SB : Nat → Prop) (w : World) (ha : SlR w SA .i64 A da) (hb : SlR w SB .i64 B db)
    (hla : da.length ≤ 10000) (hlb : db.length ≤ 10000) (hda : Dg da) (hdb : Dg db) (he : ev da * ev db = (z.natAbs : Int)) (hs : sx * sy = z.sign) (hS : ∀ b, w.heap.size ≤ b → S b) :
    Calls Tryd.prog 27 #[.agg #[.int .i64 sx, .slice A da.length c], .agg #[.int .i64 sy, .slice B db.length d]] w (GivesNum w S (da.length + db.length) z) := by
  obtain ⟨i0, hi0, hz0, hz1, hz2⟩ := info_parts infoInt
  have HE := Lib.hid he
  have HS := Lib.hid hs
  have HSS := Lib.hid hS
  clear he hs hS
  go_enter Tryd.func27, Tryd.ntmps27
  go_wp2
  go_loopw [5, 6] (fun o i wr => ∃ j : Nat, j ≤ da.length + db.length ∧ i = .int .i64 j ∧ OwnK wr (w.heap.size + 1 + 1 + 1) 3 .i64 o (List.replicate j 0) ∧ Below (w.heap.size + 1 + 1 + 1) (Box3 w sx A da.length c sy B db.length d) wr) (fun _ i _ => da.length + db.length - (intOf i).toNat)
  case atStart => exact ⟨0, Nat.zero_le _, rfl, OwnK.nil_ _ _ _ _, Below.refl _ _⟩
  case round =>
    obtain ⟨j, hj, rfl, hown, hbl⟩ := hrel
    have HO := Lib.hid hown
    have hlen : (List.replicate j (0 : Int)).length ≤ 1000000000 := by rw [List.length_replicate]; omega
    obtain ⟨⟨c0, c1⟩, ⟨c2, c3⟩, ⟨c4, c5⟩, ⟨f4, f5⟩, hbw, hsz⟩ := box3_kept hbl
    clear hown
    by_cases hgo : j < da.length + db.length
    · have hgo' : decide ((j : Int) < (da.length : Int) + (db.length : Int)) = true := decide_eq_true (by omega)
      go_wp2_with (at_builtin; refine wp_app1 rfl (.tmp 22) (.tmp 23) 28 rfl (w.heap.size + 1 + 1 + 1) 3 .i64 i0 _ Tryd.underlying28 hi0 hz0 hz1 hz2 rfl _ _ _ rfl HO.out rfl hlen hsz ?_; intro v' w1 hown1 hb1)
      go_roundw
      case rel => exact ⟨j + 1, hgo, by go_num, by rw [List.replicate_succ']; exact hown1, hbl.trans hb1⟩
      case measure => simp [intOf]; omega
    · have hgo' : decide ((j : Int) < (da.length : Int) + (db.length : Int)) = false := decide_eq_false (by omega)
      obtain ⟨V, cv, rfl, hcv, hV⟩ := HO.out.slice_ (n := da.length + db.length) (by rw [List.length_replicate]; omega)
      have hjn : j = da.length + db.length := by omega
      go_wp2
      clear hgo hgo' hj c0 c1 c2 c3 c4 c5 f4 f5
      go_loopw [7, 8, 9, 10] (fun i _ _ _ wr => MulRel w (Box3 w sx A da.length c sy B db.length d) (.slice V (da.length + db.length) cv) da db i wr) (fun i _ _ _ _ => da.length - (intOf i).toNat)
      case atStart => exact ⟨0, _, rfl, Nat.zero_le _, HO.out, by rw [List.length_replicate, hjn], zeros_dg _, by rw [zeros_ev]; simp [ev], fun t _ => by unfold dgt; simp [List.getElem?_replicate]; split <;> rfl, hbl⟩
      case round =>
        clear hbl hbw hsz hlen HO
        obtain ⟨k, os, rfl, hk, hown, hlo, hdo, hev, hz, hbl⟩ := hrel
        have HO := Lib.hid hown
        have HD := Lib.hid hdo
        have HL := Lib.hid hlo
        have HV := Lib.hid hev
        have HZ := Lib.hid hz
        obtain ⟨⟨c0, c1⟩, ⟨c2, c3⟩, ⟨c4, c5⟩, ⟨f4, f5⟩, hbw, hsz⟩ := box3_kept hbl
        clear hown hdo hlo hev hz
        by_cases hgo : k < da.length
        · obtain ⟨g, rfl, hg⟩ := hV (by omega)
          go_wp2
          go_loopw [8, 9, 10] (fun cr j _ wr => MulRel2 w (Box3 w sx A da.length c sy B db.length d) (.slice (some ⟨g, 0, none⟩) (da.length + db.length) cv) da db k cr j wr) (fun _ j _ _ => db.length - (intOf j).toNat)
          case atStart => exact ⟨0, os, 0, rfl, rfl, Nat.zero_le _, HO.out, HL.out, HD.out, by decide, by decide, by rw [HV.out]; simp [ev], HZ.out, hbl⟩
          case round =>
            clear hbl hbw hsz c0 c1 c2 c3 c4 c5 f4 f5 HO HD HL HV HZ
            obtain ⟨t, os2, cr, rfl, rfl, ht, hown, hlo, hdo, h0, h1, hev, hz, hbl⟩ := hrel
            have HO := Lib.hid hown
            have HD := Lib.hid hdo
            have HL := Lib.hid hlo
            have HV := Lib.hid hev
            have HZ := Lib.hid hz
            obtain ⟨⟨c0, c1⟩, ⟨c2, c3⟩, ⟨c4, c5⟩, ⟨f4, f5⟩, hbw, hsz⟩ := box3_kept hbl
            have HA := Lib.hid hda
            have HB := Lib.hid hdb
            by_cases hgo2 : t < db.length
            · obtain ⟨b1, off1, rfl, _, hca⟩ := (ha.next hbw).at_ hgo
              obtain ⟨b2, off2, rfl, _, hcb⟩ := (hb.next hbw).at_ hgo2
              rw [← dgt_lt hgo] at hca
              rw [← dgt_lt hgo2] at hcb
              have hco := hown.cell_ hlo (show k + t < da.length + db.length by omega)
              have hfo := hown.frozen_ hlo (k + t)
              have hpd := prod_digits (hda.dgt k) (hdb.dgt t) (hdo.dgt (k + t)) ⟨h0, h1⟩
              obtain ⟨p0, p1, p2, p3⟩ := hpd
              have hdd := hdo.dgt (k + t)
              obtain ⟨q0, q1⟩ := hdd
              have e1 : IntKind.i64.wrap ((k : Int) + (t : Int)) = (k : Int) + (t : Int) := i64_small (by omega) (by omega)
              have e2 : ((k : Int) + (t : Int)).toNat = k + t := by omega
              have e3 : (0 : Int) ≤ (k : Int) + (t : Int) := by omega
              have e4 : IntKind.i64.wrap (dgt da k * dgt db t) = dgt da k * dgt db t := i64_small (by omega) (by omega)
              have e5 : IntKind.i64.wrap (dgt os2 (k + t) + dgt da k * dgt db t) = dgt os2 (k + t) + dgt da k * dgt db t := i64_small (by omega) (by omega)
              have e6 : IntKind.i64.wrap (dgt os2 (k + t) + dgt da k * dgt db t + cr) = dgt os2 (k + t) + dgt da k * dgt db t + cr := i64_small (by omega) (by omega)
              have e7 : (k : Int) + (t : Int) < (da.length : Int) + (db.length : Int) := by omega
              clear hown hlo hdo hev hz ha hb hda hdb
              go_wp2_with (fail)
              go_quiet (fail)
              go_wp2_with (fail)
              clear e1 e2 e3 e4 e5 e6 e7
              go_roundw
              case rel =>
                have hp : k + t < os2.length := by rw [HL.out]; omega
                exact ⟨t + 1, os2.set (k + t) ((dgt os2 (k + t) + dgt da k * dgt db t + cr) % 65536), _, by go_num, rfl, hgo2, (OwnK.set_ (os := os2) (by exact HO.out) HL.out (k + t) _).1, by rw [List.length_set]; exact HL.out, HD.out.set_ _ (by omega) (by omega), by omega, by omega, mul_step hp rfl HV.out,
                  fun i hi => by rw [dgt_set _ hp, if_neg (by omega)]; exact HZ.out i hi, (below_drewN' hbl _).setCell (p := ⟨g, k + t, none⟩) hg _⟩
              case measure => simp [intOf]; omega
            · have htl : t = db.length := by omega
              subst htl
              have hco := hown.cell_ hlo (show k + db.length < da.length + db.length by omega)
              have hfo := hown.frozen_ hlo (k + db.length)
              have hz0' : dgt os2 (k + db.length) = 0 := hz _ (Nat.le_refl _)
              rw [hz0'] at hco
              have HZ0 := Lib.hid hz0'
              have e7 : (k : Int) + (db.length : Int) < (da.length : Int) + (db.length : Int) := by omega
              clear hown hlo hdo hev hz ha hb hda hdb hz0'
              go_wp2_with (fail)
              go_roundw
              case rel =>
                have hp : k + db.length < os2.length := by rw [HL.out]; omega
                have hset := OwnK.set_ HO.out HL.out (k + db.length) cr
                exact ⟨k + 1, _, by go_num, hgo, hset.1, hset.2, HD.out.set_ _ h0 h1, mul_row hp HZ0.out HV.out,
                  fun i hi => by rw [dgt_set _ hp, if_neg (by omega)]; exact HZ.out i (by omega), hbl.setCell (p := ⟨g, k + db.length, none⟩) hg _⟩
              case measure => simp [intOf]; omega
        · have hkl : da.length ≤ k := by omega
          have HEV := Lib.hid (show ev os = (z.natAbs : Int) by rw [HV.out, List.take_of_length_le hkl, HE.out])
          obtain ⟨A1, c1', hv, hcap, _, hsl⟩ := HO.out.form
          injection hv with ev1 ev2 ev3
          subst ev1
          subst ev3
          have hlen2 : os.length ≤ 1000000 := by rw [HL.out]; omega
          have hmk := r3make16_any (sx * sy) V cv os z (fun b => w.heap.size + 1 + 1 < b) wr (hsl.imp fun b hb => by omega) hlen2 hcap HD.out HEV.out (fun _ => HS.out)
          rw [HL.out] at hmk
          have HMK := Lib.hid hmk
          have e8 : IntKind.i64.wrap (sx * sy) = sx * sy := by
            have h1 := sign_bd z
            have h2 := HS.out
            exact i64_small (by omega) (by omega)
          have HSS' := Lib.hid (show ∀ b, w.heap.size + 1 + 1 < b → b ≠ w.heap.size + 1 + 1 ∧ S b from fun b hb => ⟨by omega, HSS.out b (by omega)⟩)
          clear hmk hsl ha hb hda hdb HEV HE HV HZ HD HO HS HSS hgo hV ev2
          go_wp2_with (fail)
          refine HMK.out.mono ?_
          rintro e w2 ⟨_, rfl, ⟨A2, c2', ds2, rfl, hc2, hs2, hn2, he2, hl2⟩, hb2⟩
          have HV2 := Lib.hid he2
          clear he2
          have g4 : w2.cell? ⟨w.heap.size + 1 + 1, 0, none⟩ = some (.int .i64 0) := (hb2.cell (p := ⟨w.heap.size + 1 + 1, 0, none⟩) (by show w.heap.size + 1 + 1 < _; omega)).trans c4
          have g5 : w2.cell? ⟨w.heap.size + 1 + 1, 1, none⟩ = some (.slice none 0 0) := (hb2.cell (p := ⟨w.heap.size + 1 + 1, 1, none⟩) (by show w.heap.size + 1 + 1 < _; omega)).trans c5
          have k4 : w2.frozen? ⟨w.heap.size + 1 + 1, 0, none⟩ = false := (hb2.frozen (p := ⟨w.heap.size + 1 + 1, 0, none⟩) (by show w.heap.size + 1 + 1 < _; omega)).trans f4
          have k5 : w2.frozen? ⟨w.heap.size + 1 + 1, 1, none⟩ = false := (hb2.frozen (p := ⟨w.heap.size + 1 + 1, 1, none⟩) (by show w.heap.size + 1 + 1 < _; omega)).trans f5
          go_wp2
          have R := num_stored (S := S) (M := da.length + db.length) HSS'.out hc2 hs2 hn2 HV2.out hl2 (Nat.le_refl _) (hbw.trans (hb2.mono (by omega))) (.int .i64 z.sign) (.slice A2 ds2.length c2')
          clear HSS' HV2 HMK
          exact bodyPost_ret (v := .agg #[.int .i64 z.sign, .slice A2 ds2.length c2']) (by simp [results, Tryd.results27, go_sem, g4, g5]) rfl ⟨_, rfl, R.1, R.2⟩
theorem r3mul_any (va vb : Value) (x y : Int) (L M : Nat) (S : Nat → Prop) (w : World) (ha : NumR w S L va x) (hb : NumR w S M vb y) (hL : L ≤ 10000) (hM : M ≤ 10000) (hS : ∀ b, w.heap.size ≤ b → S b) :
    Calls Tryd.prog 27 #[va, vb] w (GivesNum w S (L + M) (x * y)) := by
  obtain ⟨A, c, da, rfl, hc, hs, hn, he, hl⟩ := ha
  obtain ⟨B, d, db, rfl, hd, hs2, hn2, he2, hl2⟩ := hb
  exact (r3mul_raw x.sign y.sign A B c d da db (x * y) S S S w hs hs2 (by omega) (by omega) hn.1 hn2.1 (by rw [he, he2, Int.natAbs_mul]; exact (Int.natCast_mul _ _).symm) (Int.sign_mul x y).symm hS).mono fun _ _ h => h.le (by omega)
end Go.Proofs.YtdcckjpeibnkbaaDoor
