/-
  Contracts of the reference of layer 3, sixth part: the limbs of a number.
-/
import Derived.Test.YtdcckjpeibnkbaaDoorRef03d
import Derived.Test.YtdcckjpeibnkbaaDoorMem2
import Derived.Deep.DeepCutAuto
import Derived.Deep.CutRange
import Derived.Lib.MinMax
namespace Go.Proofs.YtdcckjpeibnkbaaDoor
open Go.RowKit

/-- The value is a slice of words, in memory of the call's own. -/
def GivesU (w : World) (ls : List Int) (e : Ending) (w' : World) : Prop :=
  ∃ A c, e = .returned (.slice A ls.length c) ∧ ls.length ≤ c ∧ SlR w' (fun b => w.heap.size ≤ b) .u64 A ls ∧ Below w.heap.size w w'
theorem infoU : (Tryd.prog.info? 54).map (fun i => (i.zero, i.size, i.bytes)) = some (some (.int .u64 0), 1, 8) := by kernel_rfl
theorem r3power_c (kz : Int) (k : Nat) (S : Nat → Prop) (w : World) (hk : k ≤ 900000) (h : kz = (k : Int)) (hS : ∀ b, w.heap.size ≤ b → S b) :
    Calls Tryd.prog 40 #[.int .i64 kz] w (GivesNum w S (k + 1) (65536 ^ k)) := by
  subst h; exact r3power_any k S w hk hS
theorem r3digit_c (z : Int) (A : Option Addr) (c : Nat) (ds : List Int) (i : Nat) (S : Nat → Prop) (w : World) (h : SlR w S .i64 A ds) (hz : z = (i : Int)) :
    Calls Tryd.prog 44 #[.slice A ds.length c, .int .i64 z] w fun e w' => e = .returned (.int .i64 (dgt ds i)) ∧ w' = w := by
  subst hz; exact r3digit_any A c ds i S w h
theorem own_made (w : World) (n : Nat) (hn : n ≤ 1000) : OwnK (w.alloc (.cells (madeCells #[.int .u64 0] n) 54)) w.heap.size 54 .u64 (.slice (some ⟨w.heap.size, 0, none⟩) n n) (List.replicate n 0) := by
  have h := World.ownsRow_lit (e := 54) (size := 1) w (madeCells #[.int .u64 0] n) n (Nat.le_refl _) (by unfold maxLen; omega) (size_madeCells _ _ |>.trans (by simp))
  rw [toList_madeCells_one] at h
  unfold OwnK
  rw [List.length_replicate, List.map_replicate]
  exact h
def LimbRel (wc : World) (n : Nat) (dy : List Int) (i : Value) (wr : World) : Prop :=
  ∃ (q r : Nat) (os : List Int), i = .int .i64 (4 * (q : Int) + (r : Int)) ∧ r < 4 ∧ 4 * q + r ≤ 4 * n ∧ OwnK wr wc.heap.size 54 .u64 (.slice (some ⟨wc.heap.size, 0, none⟩) n n) os ∧ os.length = n ∧ Us os ∧
    uv os = ev (dy.take (4 * q + r)) ∧ Below wc.heap.size wc wr
def UnitRel (r : Nat) (u k : Value) : Prop := ∃ (t : Nat) (m : Int), k = .int .i64 t ∧ u = .int .u64 m ∧ t ≤ r ∧ m = 65536 ^ t
theorem limbRel_step {wc w2 : World} {n q r : Nat} {dy os : List Int} {v : Int} (hO : OwnK w2 wc.heap.size 54 .u64 (.slice (some ⟨wc.heap.size, 0, none⟩) n n) (os.set q v)) (hl : os.length = n) (hu : Us os) (hv : U v) (hr : r < 4) (hq : 4 * q + r < 4 * n)
    (huv : uv (os.set q v) = ev (dy.take (4 * q + r + 1))) (hb : Below wc.heap.size wc w2) : LimbRel wc n dy (.int .i64 (4 * (q : Int) + (r : Int) + 1)) w2 := by
  rcases Nat.lt_or_ge r 3 with h | h
  · exact ⟨q, r + 1, os.set q v, by go_num, by omega, by omega, hO, by rw [List.length_set]; exact hl, hu.set_ _ hv, huv, hb⟩
  · exact ⟨q + 1, 0, os.set q v, (by have : 4 * (q : Int) + (r : Int) + 1 = 4 * ((q + 1 : Nat) : Int) + ((0 : Nat) : Int) := (by omega); rw [this]), by omega, by omega, hO, by rw [List.length_set]; exact hl, hu.set_ _ hv, by rw [huv, show 4 * q + r + 1 = 4 * (q + 1) + 0 by omega], hb⟩
theorem pow3 {t : Nat} (h : t ≤ 3) : (1 : Int) ≤ 65536 ^ t ∧ (65536 : Int) ^ t ≤ 281474976710656 := by
  match t, h with
  | 0, _ => decide
  | 1, _ => decide
  | 2, _ => decide
  | 3, _ => decide
/-- The number whose limbs are taken lies in the second box. -/
def LimbsAt (w : World) (x : Int) (n : Nat) (wx : World) : Prop :=
  ∃ A c dy, wx.cell? ⟨w.heap.size + 1, 1, none⟩ = some (.slice A dy.length c) ∧ SlR wx (fun _ => True) .i64 A dy ∧ Dg dy ∧ ev dy % M n = x % M n ∧ Below w.heap.size w wx ∧ w.heap.size + 1 < wx.heap.size ∧ dy.length ≤ 1000000
set_option maxHeartbeats 4000000 in
theorem r3limbs_raw (A : Option Addr) (c : Nat) (da : List Int) (x : Int) (n : Nat) (S : Nat → Prop) (w : World) (ha : SlR w S .i64 A da) (hc : da.length ≤ c) (hda : Nf da) (he : ev da = (x.natAbs : Int)) (hl : da.length ≤ 100000) (hn : n ≤ 1000) :
    Calls Tryd.prog 29 #[.agg #[.int .i64 x.sign, .slice A da.length c], .int .i64 n] w (GivesU w (limbs n x)) := by
  have hnum : NumR w S 100000 (.agg #[.int .i64 x.sign, .slice A da.length c]) x := ⟨A, c, da, rfl, hc, ha, hda, he, hl⟩
  have hb2 : Below w.heap.size w ((w.alloc (.cells #[.int .i64 x.sign, .slice A da.length c] 30)).alloc (.cells #[.int .i64 x.sign, .slice A da.length c] 30)) :=
    ((Below.refl _ _).alloc (Nat.le_refl _) _).alloc (by simp) _
  have HN := Lib.hid hnum
  have HE := Lib.hid he
  have HD := Lib.hid hda
  clear hnum he hda
  go_enter Tryd.func29, Tryd.ntmps29
  go_upto_if 14 with (fail)
  go_cut [6] (fun s6 wx => LimbsAt w x n wx)
  case first =>
    rcases Int.lt_or_le x 0 with hx | hx
    · have hx2 : decide (x.sign < 0) = true := by rw [sign_neg hx]; decide
      have e4 : IntKind.i64.wrap (4 * (n : Int)) = 4 * (n : Int) := i64_small (by omega) (by omega)
      have HM := Lib.hid (mod_shift (x := x) (n := n) (k := max da.length (4 * n)) (by omega))
      have HP := Lib.hid (show 0 ≤ x + 65536 ^ (max da.length (4 * n)) by
        have h1 := ev_lt HD.out.1
        have h2 := pow_le_pow (show da.length ≤ max da.length (4 * n) by omega)
        have h3 := HE.out
        omega)
      go_wp2_with (fail)
      go_region_law (first
        | (go_simp; go_at_call 40; refine (r3power_c _ (max da.length (4 * n)) (fun b => b ≠ w.heap.size + 1) _ (by omega) (by omega) (by intro b hb; simp at hb; omega)).mono ?_; rintro e w3 ⟨v3, rfl, hn3, hb3⟩; obtain ⟨hce, hfe⟩ := cell_below hb3; have hz3 : w.heap.size + 1 < w3.heap.size := (by (have := hb3.size; simp at this; omega)))
        | (go_simp; go_at_call 26; refine (r3add_any _ v3 x (65536 ^ (max da.length (4 * n))) 100000 (max da.length (4 * n) + 1) (fun b => b ≠ w.heap.size + 1) _ (((HN.out.lt.imp (fun b h => by omega)).next hb2.drew).next hb3) hn3 (by omega) (by omega) (fun b hb => by omega)).mono ?_; rintro e w5 ⟨_, rfl, ⟨A5, c5, ds5, rfl, hc5, hs5, hn5, he5, hl5⟩, hb5⟩; obtain ⟨hcg, hfg⟩ := cell_below hb5; have HV5 := Lib.hid he5; clear he5; have hz5 : w.heap.size + 1 < w5.heap.size := (by (have := hb5.size; omega))))
      all_goals go_wp2_with (fail)
      all_goals go_meet
      all_goals
        have g0 : w5.cell? ⟨w.heap.size + 1, 0, none⟩ = some (.int .i64 x.sign) := by rw [hcg _ _ hz3, hce _ _ (by simp)]; simp [go_sem]
        have g1 : w5.cell? ⟨w.heap.size + 1, 1, none⟩ = some (.slice A da.length c) := by rw [hcg _ _ hz3, hce _ _ (by simp)]; simp [go_sem]
        have RC := two_cells g0 g1 (.int .i64 (x + 65536 ^ (max da.length (4 * n))).sign) (.slice A5 ds5.length c5)
        have hbw5 : Below w.heap.size w w5 := (hb2.drew.trans (Below.mono hb3 (by simp; omega))).trans (hb5.mono (by omega))
        have RB := (hbw5.setCell (p := ⟨w.heap.size + 1, 0, none⟩) (by simp) (.int .i64 (x + 65536 ^ (max da.length (4 * n))).sign)).setCell (p := ⟨w.heap.size + 1, 1, none⟩) (by simp) (.slice A5 ds5.length c5)
        have hev : ev ds5 = x + 65536 ^ (max da.length (4 * n)) := by have := HV5.out; have := HP.out; omega
        exact ⟨A5, c5, ds5, RC.2, ((hs5.set_ _ _ _ (fun h => h rfl)).set_ _ _ _ (fun h => h rfl)).imp fun _ _ => trivial, hn5.1, by rw [hev]; exact HM.out, RB, by simp; omega, by omega⟩
    · have hx2 : decide (x.sign < 0) = false := by
        rcases Int.lt_trichotomy x 0 with h | h | h
        · omega
        · rw [h]; decide
        · rw [sign_pos h]; decide
      go_wp2_with (fail)
      go_meet
      exact ⟨A, c, da, by simp [go_sem], (ha.next hb2).imp fun _ _ => trivial, HD.out.1, by rw [HE.out]; congr 1; omega, hb2, by simp, by omega⟩
  case rest =>
    obtain ⟨A', c', dy, k1, hs, hd, hm, hbl, hsz, hly⟩ := hcut
    have hmk := run_make_row' (P := Tryd.prog) 24 54 (.int .u64 0) 8 Tryd.underlying24 infoU rfl .i64 .i64 n (by omega) (by omega)
    have HS := Lib.hid hs
    have HDy := Lib.hid hd
    have HM := Lib.hid hm
    clear hs hd hm HN HE HD ha hb2
    have k2 : (wc.alloc (.cells (madeCells #[.int .u64 0] n) 54)).cell? ⟨w.heap.size + 1, 1, none⟩ = some (.slice A' dy.length c') := (World.cell?_alloc_lt wc _ ⟨w.heap.size + 1, 1, none⟩ hsz).trans k1
    go_wp2
    go_loopw [8, 9, 10] (fun i _ _ wr => LimbRel wc n dy i wr) (fun i _ _ _ => 4 * n - (intOf i).toNat)
    case atStart => exact ⟨0, 0, List.replicate n 0, rfl, by decide, by omega, own_made wc n hn, List.length_replicate .., zeros_us n, by rw [zeros_uv]; rfl, (Below.refl _ _).alloc (Nat.le_refl _) _⟩
    case round =>
      obtain ⟨q, r, os, rfl, hr, hqr, hown, hlo, hu, huv, hbw⟩ := hrel
      have HO := Lib.hid hown
      have HL := Lib.hid hlo
      have HU := Lib.hid hu
      have HUV := Lib.hid huv
      have hc1 : wr.cell? ⟨w.heap.size + 1, 1, none⟩ = some (.slice A' dy.length c') := (hbw.cell (p := ⟨w.heap.size + 1, 1, none⟩) hsz).trans k1
      have hsy := HS.out.next hbw
      have e4 : IntKind.i64.wrap (4 * (n : Int)) = 4 * (n : Int) := i64_small (by omega) (by omega)
      by_cases hgo : 4 * q + r < 4 * n
      · have hq : q < n := by omega
        have hg1 : decide (4 * (q : Int) + (r : Int) < 4 * (n : Int)) = true := decide_eq_true (by omega)
        have d1 : (4 * (q : Int) + (r : Int)) / 4 = q := by omega
        have d2 : (4 * (q : Int) + (r : Int)) % 4 = r := by omega
        have d3 : (4 * (q : Int) + (r : Int)).tdiv 4 = q := by rw [Int.tdiv_eq_ediv_of_nonneg (by omega)]; omega
        have d4 : (4 * (q : Int) + (r : Int)).tmod 4 = r := by rw [Int.tmod_eq_emod_of_nonneg (by omega)]; omega
        clear hown hlo hu huv hmk
        go_wp2
        go_loop [9, 10] (fun u k => UnitRel r u k) (fun _ k => r - (intOf k).toNat)
        case atStart => exact ⟨0, 1, rfl, rfl, Nat.zero_le _, rfl⟩
        case round =>
          obtain ⟨t, m, rfl, rfl, ht, hm⟩ := hrel
          have HMM := Lib.hid hm
          obtain ⟨m0, m1⟩ := pow3 (show t ≤ 3 by omega)
          rw [← hm] at m0 m1
          clear hm
          by_cases hgo2 : t < r
          · have hm2 : m ≤ 4294967296 := by
              have h2 := pow_le_pow (show t ≤ 2 by omega)
              have e : (65536 : Int) ^ 2 = 4294967296 := by decide
              have := HMM.out
              omega
            go_wp2
            go_round
            case rel => exact ⟨t + 1, m * 65536, by go_num, rfl, hgo2, by rw [Int.pow_succ, HMM.out]⟩
            case measure => simp [intOf]; omega
          · have htr : t = r := by omega
            subst htr
            have hst := limb_step (os := os) (dy := dy) (q := q) (r := t) (by rw [HL.out]; exact hq) HU.out HDy.out HUV.out
            rw [Int.pow_succ, ← HMM.out] at hst
            obtain ⟨a0, a1, a2, a3, a4⟩ := hst
            have A4 := Lib.hid a4
            have hdd := HDy.out.dgt (4 * q + t)
            obtain ⟨b0, b1⟩ := hdd
            have hcell := HO.out.cell_ HL.out hq
            have hfr := HO.out.frozen_ HL.out q
            have e5 : IntKind.u64.wrap (dgt dy (4 * q + t)) = dgt dy (4 * q + t) := by rw [wrap_u]; omega
            have e6 : IntKind.u64.wrap (dgt dy (4 * q + t) * m) = dgt dy (4 * q + t) * m := by rw [wrap_u]; exact Int.emod_eq_of_lt a2 (by omega)
            have e7 : IntKind.u64.wrap (dgt os q + dgt dy (4 * q + t) * m) = dgt os q + dgt dy (4 * q + t) * m := by rw [wrap_u]; exact Int.emod_eq_of_lt (by omega) (by omega)
            have hres : U (dgt os q + dgt dy (4 * q + t) * m) := by unfold U; omega
            have d5 : IntKind.i64.wrap (q : Int) = q := i64_small (by omega) (by omega)
            clear a4
            go_wp2_with (fail)
            go_region_law (first | (go_simp; go_at_call 44; refine (r3digit_c _ A' c' dy (4 * q + t) (fun _ => True) _ (by exact hsy) (by omega)).mono ?_; rintro e w' ⟨rfl, hw'⟩; obtain rfl := hw'.symm))
            all_goals go_wp2_with (fail)
            clear e4 e5 e6 e7 d1 d2 d3 d4 d5
            all_goals
              go_roundw
              case rel => exact limbRel_step (os := os) ((OwnK.set_ (by exact HO.out) HL.out q _).1) HL.out HU.out hres hr hgo A4.out (by first | exact Below.drew (hbw.setCell (p := ⟨wc.heap.size, q, none⟩) (Nat.le_refl _) _) | exact (Below.drew hbw).setCell (p := ⟨wc.heap.size, q, none⟩) (Nat.le_refl _) _)
              case measure => simp [intOf]; omega
      · have hq : q = n ∧ r = 0 := by omega
        have hg1 : decide (4 * (q : Int) + (r : Int) < 4 * (n : Int)) = false := decide_eq_false (by omega)
        have HLL := Lib.hid (show os = limbs n x from limbs_unique hlo hu (by rw [huv, hq.1, hq.2, Nat.add_zero, ev_take_mod HDy.out, ← M_digits, HM.out]))
        clear hown hlo hu huv hmk
        go_wp2
        go_ret
        have hS := (HO.out.form)
        obtain ⟨A1, c1', hv, hcap, _, hsl⟩ := hS
        rw [HL.out] at hv
        injection hv with ev1 ev2 ev3
        subst ev1
        subst ev3
        rw [HLL.out] at hsl
        exact ⟨_, n, by rw [limbs_length]; rfl, by rw [limbs_length]; exact Nat.le_refl _, hsl.imp fun b hb => by omega, hbl.trans (hbw.mono (by omega))⟩
theorem r3limbs_any (va : Value) (x : Int) (n L : Nat) (S : Nat → Prop) (w : World) (ha : NumR w S L va x) (hL : L ≤ 100000) (hn : n ≤ 1000) :
    Calls Tryd.prog 29 #[va, .int .i64 n] w (GivesU w (limbs n x)) := by
  obtain ⟨A, c, da, rfl, hc, hs, hd, he, hl⟩ := ha
  exact r3limbs_raw A c da x n S w hs hc hd he (by omega) hn
end Go.Proofs.YtdcckjpeibnkbaaDoor
