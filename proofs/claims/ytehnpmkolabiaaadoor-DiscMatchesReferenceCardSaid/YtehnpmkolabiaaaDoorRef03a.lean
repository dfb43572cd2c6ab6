/-
  Contracts of the reference of layer 3, first part: digits.
-/
import Derived.Test.YtehnpmkolabiaaaDoorBase
import Derived.Deep.QuietTactic
import Derived.BigQuiet
namespace Go.Proofs.YtehnpmkolabiaaaDoor
open Go.RowKit
set_option maxRecDepth 100000
set_option linter.unusedVariables false
set_option linter.unusedSimpArgs false

theorem rint {k : IntKind} {a b : Int} (h : a = b) : Ending.returned (.int k a) = .returned (.int k b) := by rw [h]
theorem r3digit_any (A : Option Addr) (c : Nat) (ds : List Int) (i : Nat) (S : Nat → Prop) (w : World) (h : SlR w S .i64 A ds) :
    Calls Tryd.prog 61 #[.slice A ds.length c, .int .i64 i] w fun e w' => e = .returned (.int .i64 (dgt ds i)) ∧ w' = w := by
  by_cases hi : i < ds.length
  · obtain ⟨b, off, rfl, _, hc⟩ := h.at_ hi
    have HD := Lib.hid (dgt_lt hi)
    clear h
    go_enter Tryd.func61, Tryd.ntmps61
    go_wp2
    go_ret
    exact ⟨rint HD.out.symm, rfl⟩
  · have HD := Lib.hid (dgt_ge (Nat.le_of_not_lt hi))
    go_enter Tryd.func61, Tryd.ntmps61
    go_wp2
    go_ret
    exact ⟨rint HD.out.symm, rfl⟩
theorem trim_stop {ds : List Int} {k : Nat} (hk : k ≤ ds.length) (h : 0 < k → ds.getD (k - 1) 0 ≠ 0) : trimL (ds.take k) = ds.take k := by
  match k, hk, h with
  | 0, _, _ => simp [trimL]
  | k + 1, hk, h =>
    rw [List.take_succ_eq_append_getElem (by omega)]
    refine trimL_snoc ?_ _
    have := h (by omega)
    simpa [show k < ds.length by omega] using this
theorem trim_go {ds : List Int} {k : Nat} (hk : k < ds.length) (h : ds[k] = 0) : trimL (ds.take (k + 1)) = trimL (ds.take k) := by
  rw [List.take_succ_eq_append_getElem hk, h, trimL_snoc_zero]
def sLen : Value → Nat
  | .slice _ n _ => n
  | _ => 0
def SliceIs (w : World) (A : Option Addr) (c : Nat) (ds : List Int) (e : Ending) (w' : World) : Prop := e = .returned (.slice A ds.length c) ∧ w' = w
theorem r3trim_any (A : Option Addr) (c : Nat) (ds : List Int) (S : Nat → Prop) (w : World) (h : SlR w S .i64 A ds) (hl : ds.length ≤ 1000000) (hc : ds.length ≤ c) :
    Calls Tryd.prog 60 #[.slice A ds.length c] w (SliceIs w A c (trimL ds)) := by
  go_enter Tryd.func60, Tryd.ntmps60
  go_wp2
  go_loop [0] (fun v => ∃ k : Nat, k ≤ ds.length ∧ v = .slice A k c ∧ trimL (ds.take k) = trimL ds) (fun v => sLen v)
  case atStart => exact ⟨ds.length, Nat.le_refl _, rfl, by rw [List.take_length]⟩
  case round =>
    obtain ⟨k, hk, rfl, ht⟩ := hrel
    match k, hk with
    | 0, hk =>
      have HT := Lib.hid (show trimL ds = [] by rw [← ht]; rfl)
      clear ht
      go_wp2
      go_ret
      exact ⟨by rw [HT.out]; rfl, rfl⟩
    | k + 1, hk =>
      have hkl : k < ds.length := hk
      obtain ⟨b, off, rfl, _, hcell⟩ := h.at_ hkl
      by_cases hz : ds[k] = 0
      · have HT := Lib.hid (show trimL (ds.take k) = trimL ds by rw [← ht, trim_go hkl hz])
        have hz' : (ds[k] == 0) = true := by rw [hz]; rfl
        clear ht hz h
        go_wp2
        go_round
        case rel => exact ⟨k, by omega, by rfl, HT.out⟩
        case measure => simp [sLen]
      · have HT := Lib.hid (show trimL ds = ds.take (k + 1) by rw [← ht, trim_stop hk (fun _ => by simpa [hkl] using hz)])
        have hz' : (ds[k] == 0) = false := by simpa using hz
        clear ht hz h
        go_wp2
        go_ret
        exact ⟨by rw [HT.out, List.length_take, Nat.min_eq_left hk]; rfl, rfl⟩
/-- The value v is the number x, with at most L digits. -/
def NumR (w : World) (S : Nat → Prop) (L : Nat) (v : Value) (x : Int) : Prop :=
  ∃ A c ds, v = .agg #[.int .i64 x.sign, .slice A ds.length c] ∧ ds.length ≤ c ∧ SlR w S .i64 A ds ∧ Nf ds ∧ ev ds = (x.natAbs : Int) ∧ ds.length ≤ L
theorem NumR.next {w w' : World} {S : Nat → Prop} {L : Nat} {v : Value} {x : Int} (h : NumR w S L v x) (hb : Below w.heap.size w w') : NumR w' S L v x := by
  obtain ⟨A, c, ds, e, hc, hs, hn, he, hl⟩ := h
  exact ⟨A, c, ds, e, hc, hs.next hb, hn, he, hl⟩
theorem NumR.le {w : World} {S : Nat → Prop} {L M : Nat} {v : Value} {x : Int} (h : NumR w S L v x) (hM : L ≤ M) : NumR w S M v x := by
  obtain ⟨A, c, ds, e, hc, hs, hn, he, hl⟩ := h
  exact ⟨A, c, ds, e, hc, hs, hn, he, Nat.le_trans hl hM⟩
theorem NumR.imp {w : World} {S T : Nat → Prop} {L : Nat} {v : Value} {x : Int} (h : NumR w S L v x) (hST : ∀ b, S b → T b) : NumR w T L v x := by
  obtain ⟨A, c, ds, e, hc, hs, hn, he, hl⟩ := h
  exact ⟨A, c, ds, e, hc, hs.imp hST, hn, he, hl⟩
theorem NumR.lt {w : World} {S : Nat → Prop} {L : Nat} {v : Value} {x : Int} (h : NumR w S L v x) : NumR w (fun b => S b ∧ b < w.heap.size) L v x := by
  obtain ⟨A, c, ds, e, hc, hs, hn, he, hl⟩ := h
  exact ⟨A, c, ds, e, hc, hs.lt, hn, he, hl⟩
def GivesNum (w : World) (S : Nat → Prop) (L : Nat) (x : Int) (e : Ending) (w' : World) : Prop := ∃ v, e = .returned v ∧ NumR w' S L v x ∧ Below w.heap.size w w'
theorem r3make16_any (s : Int) (A : Option Addr) (c : Nat) (ds : List Int) (x : Int) (S : Nat → Prop) (w : World) (h : SlR w S .i64 A ds) (hl : ds.length ≤ 1000000) (hc : ds.length ≤ c) (hd : Dg ds)
    (hx : ev ds = (x.natAbs : Int)) (hs : x ≠ 0 → s = x.sign) :
    Calls Tryd.prog 42 #[.int .i64 s, .slice A ds.length c] w (GivesNum w S ds.length x) := by
  have hnf := trimL_nf hd
  have hev := trimL_ev ds
  have hlen := trimL_length ds
  obtain ⟨n, hn, ht⟩ := trimL_take ds
  have hsl : SlR w S .i64 A (trimL ds) := by rw [ht]; exact h.take n
  by_cases h0 : trimL ds = []
  · have hx0 : x = 0 := by
      have : ev ds = 0 := by rw [← hev, h0]; rfl
      omega
    have H0 := Lib.hid h0
    have HX := Lib.hid hx0
    clear h0 hx0 ht hev hnf hlen hx hs hd hsl
    go_enter Tryd.func42, Tryd.ntmps42
    go_wp2_with (fail)
    refine (r3trim_any A c ds S _ (h.next (Below.alloc (Below.refl _ _) (Nat.le_refl _) _)) hl hc).mono ?_
    rintro e w' ⟨rfl, rfl⟩
    rw [H0.out]
    go_wp2
    exact bodyPost_ret (v := .agg #[.int .i64 0, .slice none 0 0]) (by simp [results, Tryd.results42, go_sem]) rfl
      ⟨_, rfl, ⟨none, 0, [], by rw [HX.out]; rfl, Nat.le_refl _, SlR.nil_ _ _ _ _, ⟨Dg.nil_, fun r d e => by simp at e⟩, by rw [HX.out]; rfl, Nat.zero_le _⟩, (Below.refl _ _).alloc (Nat.le_refl _) _⟩
  · have hx0 : x ≠ 0 := by
      intro hx0
      exact h0 (hnf.ev_zero (by rw [hev, hx, hx0]; rfl))
    have hp : 0 < (trimL ds).length := List.length_pos_iff.2 h0
    have hp' : (((trimL ds).length : Int) == 0) = false := by rw [beq_eq_false_iff_ne]; omega
    have HS := Lib.hid (hs hx0)
    have HV := Lib.hid (show ev (trimL ds) = (x.natAbs : Int) by rw [hev, hx])
    clear ht hev hx hs hx0 h0
    go_enter Tryd.func42, Tryd.ntmps42
    go_wp2_with (fail)
    refine (r3trim_any A c ds S _ (h.next (Below.alloc (Below.refl _ _) (Nat.le_refl _) _)) hl hc).mono ?_
    rintro e w' ⟨rfl, rfl⟩
    go_wp2
    have hb : Below w.heap.size w (w.alloc (.cells #[.int .i64 s, .slice A (trimL ds).length c] 62)) := (Below.refl _ _).alloc (Nat.le_refl _) _
    exact bodyPost_ret (v := .agg #[.int .i64 s, .slice A (trimL ds).length c]) (by simp [results, Tryd.results42, go_sem]) rfl
      ⟨_, rfl, ⟨A, c, trimL ds, by rw [HS.out], by omega, hsl.next hb, hnf, HV.out, hlen⟩, hb⟩
theorem infoInt : (Tryd.prog.info? 3).map (fun i => (i.zero, i.size, i.bytes)) = some (some (.int .i64 0), 1, 8) := by kernel_rfl
def AddRel (W : World) (da db : List Int) (o cr i : Value) (wr : World) : Prop :=
  ∃ (k : Nat) (os : List Int) (c : Int), i = .int .i64 k ∧ cr = .int .i64 c ∧ OwnK wr W.heap.size 3 .i64 o os ∧ os.length = k ∧ Dg os ∧ 0 ≤ c ∧ c ≤ 1 ∧ ev os + 65536 ^ k * c = ev (da.take k) + ev (db.take k) ∧
    Below W.heap.size W wr ∧ (k ≤ max da.length db.length ∨ (k = max da.length db.length + 1 ∧ c = 0))
theorem addRel_step {W wr w1 : World} {da db os : List Int} {v' : Value} {k : Nat} {cr : Int} (hl : os.length = k) (hev : ev os + 65536 ^ k * cr = ev (da.take k) + ev (db.take k)) (hdo : Dg os)
    (hda : Dg da) (hdb : Dg db) (h0 : 0 ≤ cr) (h1 : cr ≤ 1) (hbl : Below W.heap.size W wr) (hb : Below W.heap.size wr w1)
    (ho : OwnK w1 W.heap.size 3 .i64 v' (os ++ [(dgt da k + dgt db k + cr) % 65536])) (hk : k < max da.length db.length ∨ (k = max da.length db.length ∧ cr = 1)) :
    AddRel W da db v' (.int .i64 ((dgt da k + dgt db k + cr) / 65536)) (.int .i64 (↑k + 1)) w1 := by
  have a1 := hda.dgt k
  have b1 := hdb.dgt k
  refine ⟨k + 1, _, _, by go_num, rfl, ho, by simp [hl], hdo.snoc (by omega) (by omega), by omega, by omega, add_step hl hev rfl, hbl.trans hb, ?_⟩
  rcases hk with hk | ⟨hk, hc⟩
  · exact .inl (by omega)
  · refine .inr ⟨by omega, ?_⟩
    rw [dgt_ge (show da.length ≤ k by omega), dgt_ge (show db.length ≤ k by omega), hc]; decide
/-- The value is a slice of digits that write x. -/
def GivesDigits (w : World) (L : Nat) (x : Int) (e : Ending) (w' : World) : Prop :=
  ∃ A c os, e = .returned (.slice A os.length c) ∧ os.length ≤ c ∧ SlR w' (fun b => w.heap.size ≤ b) .i64 A os ∧ Dg os ∧ ev os = x ∧ os.length ≤ L ∧ Below w.heap.size w w'
set_option maxHeartbeats 1000000 in
theorem r3addDigits_any (A B : Option Addr) (c d : Nat) (da db : List Int) (w : World) (SA SB : Nat → Prop) (ha : SlR w SA .i64 A da) (hb : SlR w SB .i64 B db) (hla : da.length ≤ 1000000) (hlb : db.length ≤ 1000000) (hda : Dg da) (hdb : Dg db) :
    Calls Tryd.prog 43 #[.slice A da.length c, .slice B db.length d] w (GivesDigits w (max da.length db.length + 1) (ev da + ev db)) := by
  obtain ⟨i0, hi0, hz0, hz1, hz2⟩ := info_parts infoInt
  go_enter Tryd.func43, Tryd.ntmps43
  go_wp2
  go_loopw [5, 6, 7] (fun o cr i wr => AddRel w da db o cr i wr) (fun _ _ i _ => max da.length db.length + 1 - (intOf i).toNat)
  case atStart => exact ⟨0, [], 0, rfl, rfl, OwnK.nil_ _ _ _ _, rfl, Dg.nil_, by decide, by decide, by simp [ev], Below.refl _ _, .inl (Nat.zero_le _)⟩
  case round =>
    obtain ⟨k, os, cr, rfl, rfl, hown, hl, hdo, hc0, hc1, hev, hbl, hk⟩ := hrel
    have HE := Lib.hid hev
    have HL := Lib.hid hl
    have HD := Lib.hid hdo
    have HA := Lib.hid hda
    have HB := Lib.hid hdb
    have hda' := (hda.dgt k)
    have hdb' := (hdb.dgt k)
    obtain ⟨a0, a1⟩ := hda'
    obtain ⟨b0, b1⟩ := hdb'
    have ha' := ha.next hbl
    have hb' := hb.next hbl
    have HO := Lib.hid hown
    have hk' : k ≤ 1000001 := by omega
    by_cases hgo : k < max da.length db.length ∨ (k = max da.length db.length ∧ cr = 1)
    · have hlen : os.length ≤ 1000000000 := by rw [HL.out]; omega
      have HG := Lib.hid hgo
      have hms : max da.length db.length + 1 - (k + 1) < max da.length db.length + 1 - k := by omega
      have h3 : k < da.length ∨ k < db.length ∨ 0 < cr := by omega
      clear hev hl hown hdo hda hdb ha hb hk hgo
      by_cases h1 : k < da.length
      rotate_left
      by_cases h2 : k < db.length
      rotate_left
      have h4 : 0 < cr := by omega
      all_goals
        clear h3
        go_wp2_with (fail)
        refine (r3digit_any A c da k SA _ ha').mono ?_
        rintro e w' ⟨rfl, hw'⟩
        obtain rfl := hw'.symm
        go_wp2_with (fail)
        refine (r3digit_any B d db k SB _ hb').mono ?_
        rintro e w' ⟨rfl, hw'⟩
        obtain rfl := hw'.symm
        go_wp2_with (at_builtin; refine wp_app1 rfl (.tmp 34) (.tmp 37) 60 rfl w.heap.size 3 .i64 i0 _ Tryd.underlying60 hi0 hz0 hz1 hz2 rfl _ os _ rfl HO.out rfl hlen hbl.size ?_; intro v' w1 hown1 hb1)
        go_roundw
        case rel => exact addRel_step HL.out HE.out HD.out HA.out HB.out hc0 hc1 hbl hb1 hown1 HG.out
        case measure => simp [intOf]; omega
    · have h1 : da.length ≤ k := by omega
      have h2 : db.length ≤ k := by omega
      have h3 : cr ≤ 0 := by omega
      obtain ⟨A', c', rfl, hcap, _, hsl⟩ := hown.form
      have HF := Lib.hid (show ev os = ev da + ev db by
        have : cr = 0 := by omega
        rw [this, List.take_of_length_le h1, List.take_of_length_le h2] at hev
        omega)
      clear hev hl hown hdo hda hdb ha hb HO HE
      go_wp2
      go_ret
      exact ⟨A', c', os, rfl, hcap, hsl, HD.out, HF.out, by rw [HL.out]; omega, hbl⟩
def SubRel (W : World) (da db : List Int) (o cr i : Value) (wr : World) : Prop :=
  ∃ (k : Nat) (os : List Int) (c : Int), i = .int .i64 k ∧ cr = .int .i64 c ∧ OwnK wr W.heap.size 3 .i64 o os ∧ os.length = k ∧ Dg os ∧ 0 ≤ c ∧ c ≤ 1 ∧ ev os = ev (da.take k) - ev (db.take k) + 65536 ^ k * c ∧
    Below W.heap.size W wr ∧ k ≤ da.length
theorem i64_small {n : Int} (h0 : -1000000000000 ≤ n) (h1 : n ≤ 1000000000000) : IntKind.i64.wrap n = n := by simp [IntKind.wrap, IntKind.bits, IntKind.signed]; split <;> omega
theorem subRel_step {W wr w1 : World} {da db os : List Int} {v' : Value} {k : Nat} {c s d c' : Int} (hl : os.length = k) (hev : ev os = ev (da.take k) - ev (db.take k) + 65536 ^ k * c) (hdo : Dg os)
    (hbl : Below W.heap.size W wr) (hb : Below W.heap.size wr w1) (hs : s = dgt da k - dgt db k - c) (hd : d = s + 65536 * c') (d0 : 0 ≤ d) (d1 : d < 65536) (c0 : 0 ≤ c') (c1 : c' ≤ 1)
    (ho : OwnK w1 W.heap.size 3 .i64 v' (os ++ [d])) (hk : k < da.length) :
    SubRel W da db v' (.int .i64 c') (.int .i64 (↑k + 1)) w1 :=
  ⟨k + 1, _, _, by go_num, rfl, ho, by simp [hl], hdo.snoc d0 d1, c0, c1, sub_step hl hev hs hd, hbl.trans hb, hk⟩
set_option maxHeartbeats 1000000 in
theorem r3subDigits_any (A B : Option Addr) (c d : Nat) (da db : List Int) (w : World) (SA SB : Nat → Prop) (ha : SlR w SA .i64 A da) (hb : SlR w SB .i64 B db) (hla : da.length ≤ 1000000) (hda : Dg da) (hdb : Dg db)
    (hlen : db.length ≤ da.length) (hle : ev db ≤ ev da) :
    Calls Tryd.prog 45 #[.slice A da.length c, .slice B db.length d] w (GivesDigits w da.length (ev da - ev db)) := by
  obtain ⟨i0, hi0, hz0, hz1, hz2⟩ := info_parts infoInt
  have HLE := Lib.hid hle
  clear hle
  go_enter Tryd.func45, Tryd.ntmps45
  go_wp2
  go_loopw [5, 6, 7] (fun o cr i wr => SubRel w da db o cr i wr) (fun _ _ i _ => da.length - (intOf i).toNat)
  case atStart => exact ⟨0, [], 0, rfl, rfl, OwnK.nil_ _ _ _ _, rfl, Dg.nil_, by decide, by decide, by simp [ev], Below.refl _ _, Nat.zero_le _⟩
  case round =>
    obtain ⟨k, os, cr, rfl, rfl, hown, hl, hdo, hc0, hc1, hev, hbl, hk⟩ := hrel
    have HE := Lib.hid hev
    have HL := Lib.hid hl
    have HD := Lib.hid hdo
    have HO := Lib.hid hown
    by_cases hgo : k < da.length
    · have hda' := (hda.dgt k)
      have hdb' := (hdb.dgt k)
      obtain ⟨a0, a1⟩ := hda'
      obtain ⟨b0, b1⟩ := hdb'
      obtain ⟨b, off, rfl, _, hcell⟩ := (ha.next hbl).at_ hgo
      rw [← dgt_lt hgo] at hcell
      have hb' := hb.next hbl
      have hk' : k ≤ 1000000 := by omega
      have hlen' : os.length ≤ 1000000000 := by rw [HL.out]; omega
      clear hev hl hown hdo hda hdb ha hb
      by_cases hs : dgt da k - dgt db k - cr < 0
      · have hs' : decide (dgt da k - dgt db k - cr < 0) = true := decide_eq_true hs
        have e1 : IntKind.i64.wrap (dgt da k - dgt db k) = dgt da k - dgt db k := i64_small (by omega) (by omega)
        have e2 : IntKind.i64.wrap (dgt da k - dgt db k - cr) = dgt da k - dgt db k - cr := i64_small (by omega) (by omega)
        have e3 : IntKind.i64.wrap (dgt da k - dgt db k - cr + 65536) = dgt da k - dgt db k - cr + 65536 := i64_small (by omega) (by omega)
        go_wp2_with (fail)
        go_quiet ((go_at_call 61; exact Calls.quiet_of_same (r3digit_any B d db k SB _ hb')))
        go_wp2_with (at_builtin; refine wp_app1 rfl (.tmp 29) (.tmp 31) 60 rfl w.heap.size 3 .i64 i0 _ Tryd.underlying60 hi0 hz0 hz1 hz2 rfl _ os _ rfl HO.out rfl hlen' hbl.size ?_; intro v' w1 hown1 hb1)
        clear e1 e2 e3
        go_roundw
        case rel => exact subRel_step HL.out HE.out HD.out (below_drewN' hbl _) hb1 rfl (show _ = _ + 65536 * 1 by omega) (by omega) (by omega) (by decide) (by decide) hown1 hgo
        case measure => simp [intOf]; omega
      · have hs' : decide (dgt da k - dgt db k - cr < 0) = false := decide_eq_false hs
        have hs2 : 0 ≤ dgt da k - dgt db k - cr := by omega
        have e1 : IntKind.i64.wrap (dgt da k - dgt db k) = dgt da k - dgt db k := i64_small (by omega) (by omega)
        have e2 : IntKind.i64.wrap (dgt da k - dgt db k - cr) = dgt da k - dgt db k - cr := i64_small (by omega) (by omega)
        clear hs
        go_wp2_with (fail)
        go_quiet ((go_at_call 61; exact Calls.quiet_of_same (r3digit_any B d db k SB _ hb')))
        go_wp2_with (at_builtin; refine wp_app1 rfl (.tmp 29) (.tmp 31) 60 rfl w.heap.size 3 .i64 i0 _ Tryd.underlying60 hi0 hz0 hz1 hz2 rfl _ os _ rfl HO.out rfl hlen' hbl.size ?_; intro v' w1 hown1 hb1)
        clear e1 e2
        go_roundw
        case rel => exact subRel_step HL.out HE.out HD.out (below_drewN' hbl _) hb1 rfl (show _ = _ + 65536 * 0 by omega) (by omega) (by omega) (by decide) (by decide) hown1 hgo
        case measure => simp [intOf]; omega
    · obtain ⟨A', c', rfl, hcap, _, hsl⟩ := hown.form
      have hkl : da.length ≤ k := by omega
      have HF := Lib.hid (show ev os = ev da - ev db from sub_end (by omega) (by
        rw [List.take_of_length_le hkl, List.take_of_length_le (by omega)] at hev
        rw [hev, show k = da.length by omega]) hc0 hc1 hdo HLE.out)
      clear hev hl hown hdo hda hdb ha hb HO HE hgo
      go_wp2
      go_ret
      exact ⟨A', c', os, rfl, hcap, hsl, HD.out, HF.out, by rw [HL.out]; omega, hbl⟩
def CmpIs (w : World) (x : Int) (e : Ending) (w' : World) : Prop := e = .returned (.int .i64 x.sign) ∧ ∃ n, w' = w.drewN n
def CmpRel (W : World) (da db : List Int) (i : Value) (wr : World) : Prop :=
  (∃ n, wr = W.drewN n) ∧ ((i = .int .i64 (-1) ∧ da = db) ∨ ∃ j : Nat, i = .int .i64 j ∧ j < da.length ∧ da.drop (j + 1) = db.drop (j + 1))
theorem drop_step {da db : List Int} {j : Nat} (h1 : j < da.length) (h2 : j < db.length) (h : da.drop (j + 1) = db.drop (j + 1)) (he : dgt da j = dgt db j) : da.drop j = db.drop j := by
  rw [List.drop_eq_getElem_cons h1, List.drop_eq_getElem_cons h2, h, ← dgt_lt h1, ← dgt_lt h2, he]
set_option maxHeartbeats 1000000 in
theorem r3compareDigits_any (A B : Option Addr) (c d : Nat) (da db : List Int) (w : World) (SA SB : Nat → Prop) (ha : SlR w SA .i64 A da) (hb : SlR w SB .i64 B db) (hla : da.length ≤ 1000000) (hda : Nf da) (hdb : Nf db) :
    Calls Tryd.prog 44 #[.slice A da.length c, .slice B db.length d] w (CmpIs w (ev da - ev db)) := by
  rcases Nat.lt_trichotomy da.length db.length with h | h | h
  · have HS := Lib.hid (show -1 = (ev da - ev db).sign from (sign_neg (by have := cmp_len hda hdb h; omega)).symm)
    have t1 : ((da.length : Int) != (db.length : Int)) = true := by rw [bne_iff_ne]; omega
    go_enter Tryd.func44, Tryd.ntmps44
    go_wp2
    go_ret
    exact ⟨rint HS.out, 0, rfl⟩
  · have t1 : ((da.length : Int) != (db.length : Int)) = false := by rw [bne_eq_false_iff_eq]; omega
    have HLL := Lib.hid h
    have hl2 : db.length ≤ da.length := by omega
    have hl3 : da.length ≤ db.length := by omega
    clear h
    go_enter Tryd.func44, Tryd.ntmps44
    go_wp2
    go_loopw [5] (fun i wr => CmpRel w da db i wr) (fun i _ => (intOf i + 1).toNat)
    case atStart =>
      refine ⟨⟨0, rfl⟩, ?_⟩
      rcases Nat.eq_zero_or_pos da.length with h0 | h0
      · exact .inl ⟨by rw [h0]; rfl, by rw [List.eq_nil_of_length_eq_zero h0, List.eq_nil_of_length_eq_zero (HLL.out.symm.trans h0)]⟩
      · refine .inr ⟨da.length - 1, by congr 1; omega, by omega, ?_⟩
        rw [List.drop_eq_nil_of_le (by omega), List.drop_eq_nil_of_le (by omega)]
    case round =>
      obtain ⟨⟨n, rfl⟩, hrel⟩ := hrel
      rcases hrel with ⟨rfl, heq⟩ | ⟨j, rfl, hj, hdr⟩
      · have HS := Lib.hid (show 0 = (ev da - ev db).sign by rw [heq, Int.sub_self]; rfl)
        clear heq
        go_wp2
        go_ret
        exact ⟨rint HS.out, n, rfl⟩
      · have hj2 : j < db.length := by omega
        obtain ⟨b, off, rfl, _, hca⟩ := ha.at_ hj
        obtain ⟨b2, off2, rfl, _, hcb⟩ := hb.at_ hj2
        rw [← dgt_lt hj] at hca
        rw [← dgt_lt hj2] at hcb
        have hcmp := cmp_at hda.1 hdb.1 HLL.out hj hdr
        have HDR := Lib.hid hdr
        have hj3 : j ≤ 1000000 := by omega
        clear hdr ha hb
        rcases Int.lt_trichotomy (dgt da j) (dgt db j) with hlt | hlt | hlt
        · have HS := Lib.hid (show -1 = (ev da - ev db).sign from (sign_neg (by have := hcmp.1 hlt; omega)).symm)
          have t2 : (dgt da j != dgt db j) = true := by rw [bne_iff_ne]; omega
          clear hcmp
          go_wp2_with (fail)
          go_quiet (fail)
          go_wp2_with (fail)
          go_quiet (fail)
          go_wp2
          go_ret
          exact ⟨rint HS.out, by simp only [World.drewN_drewN]; exact ⟨_, rfl⟩⟩
        · have t2 : (dgt da j != dgt db j) = false := by rw [bne_eq_false_iff_eq]; exact hlt
          have HQ := Lib.hid hlt
          clear hcmp hlt
          go_wp2_with (fail)
          go_quiet (fail)
          go_wp2
          go_roundw
          case rel =>
            refine ⟨⟨_, rfl⟩, ?_⟩
            rcases Nat.eq_zero_or_pos j with h0 | h0
            · subst h0
              exact .inl ⟨rfl, by have := drop_step hj hj2 HDR.out HQ.out; simpa using this⟩
            · refine .inr ⟨j - 1, by congr 1; omega, by omega, ?_⟩
              rw [show j - 1 + 1 = j by omega]
              exact drop_step hj hj2 HDR.out HQ.out
          case measure => simp [intOf] <;> omega
        · have HS := Lib.hid (show 1 = (ev da - ev db).sign from (sign_pos (by have := hcmp.2 hlt; omega)).symm)
          have t2 : (dgt da j != dgt db j) = true := by rw [bne_iff_ne]; omega
          have t3 : decide (dgt da j < dgt db j) = false := decide_eq_false (by omega)
          clear hcmp
          go_wp2_with (fail)
          go_quiet (fail)
          go_wp2_with (fail)
          go_quiet (fail)
          go_wp2
          go_ret
          exact ⟨rint HS.out, by simp only [World.drewN_drewN]; exact ⟨_, rfl⟩⟩
  · have HS := Lib.hid (show 1 = (ev da - ev db).sign from (sign_pos (by have := cmp_len hdb hda h; omega)).symm)
    have t1 : ((da.length : Int) != (db.length : Int)) = true := by rw [bne_iff_ne]; omega
    go_enter Tryd.func44, Tryd.ntmps44
    go_wp2
    go_ret
    exact ⟨rint HS.out, 0, rfl⟩
end Go.Proofs.YtehnpmkolabiaaaDoor
