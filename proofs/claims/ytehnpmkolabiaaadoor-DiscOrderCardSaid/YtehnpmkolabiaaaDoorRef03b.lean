/-
  Contracts of the reference of layer 3, second part: signed numbers.
-/
import Derived.Test.YtehnpmkolabiaaaDoorRef03a
import Derived.RegionTactic
import Derived.Deep.RegionWith
import Derived.Deep.RegionLaw
import Derived.Deep.RegionHeld3
import Derived.Laws.Pointers
import Derived.WalkSpells
namespace Go.Proofs.YtehnpmkolabiaaaDoor
open Go.RowKit
set_option maxRecDepth 100000
set_option linter.unusedVariables false
set_option linter.unusedSimpArgs false

theorem sign_bd (x : Int) : -1 ≤ x.sign ∧ x.sign ≤ 1 := by
  rcases Int.lt_trichotomy x 0 with h | h | h
  · rw [sign_neg h]; decide
  · rw [h]; decide
  · rw [sign_pos h]; decide
theorem r3neg_any (v : Value) (x : Int) (L : Nat) (S : Nat → Prop) (w : World) (h : NumR w S L v x) : Calls Tryd.prog 46 #[v] w (GivesNum w S L (-x)) := by
  obtain ⟨A, c, ds, rfl, hc, hs, hn, he, hl⟩ := h
  have hb : Below w.heap.size w ((w.alloc (.cells #[.int .i64 x.sign, .slice A ds.length c] 62)).alloc (.cells #[.int .i64 (-x.sign), .slice A ds.length c] 62)) :=
    ((Below.refl _ _).alloc (Nat.le_refl _) _).alloc (by simp) _
  have HV := Lib.hid (show ev ds = ((-x).natAbs : Int) by rw [he, Int.natAbs_neg])
  have HS := Lib.hid (Int.sign_neg (z := x))
  have hb1 := (sign_bd x).1
  have hb2 := (sign_bd x).2
  clear he
  go_enter Tryd.func46, Tryd.ntmps46
  go_wp2
  exact bodyPost_ret (v := .agg #[.int .i64 (-x.sign), .slice A ds.length c]) (by simp [results, Tryd.results46, go_sem]) rfl
    ⟨_, rfl, ⟨A, c, ds, by rw [HS.out], hc, hs.next hb, hn, HV.out, hl⟩, hb⟩
/-- The world behind the boxes of two numbers and of a result. -/
abbrev Box3 (w : World) (sx : Int) (A : Option Addr) (n c : Nat) (sy : Int) (B : Option Addr) (m d : Nat) : World :=
  ((w.alloc (.cells #[.int .i64 sx, .slice A n c] 62)).alloc (.cells #[.int .i64 sy, .slice B m d] 62)).alloc (.cells #[.int .i64 0, .slice none 0 0] 62)
theorem box3_below (w : World) (sx : Int) (A : Option Addr) (n c : Nat) (sy : Int) (B : Option Addr) (m d : Nat) : Below w.heap.size w (Box3 w sx A n c sy B m d) :=
  (((Below.refl _ _).alloc (Nat.le_refl _) _).alloc (by simp) _).alloc (by simp; omega) _
/-- The end of a function that stores a number into its result. -/
theorem num_stored_at {w w2 : World} {S T : Nat → Prop} {L M : Nat} {x : Int} {A : Option Addr} {c : Nat} {ds : List Int} {q : Nat} (hq : w.heap.size ≤ q) (hS : ∀ b, T b → b ≠ q ∧ S b) (hc : ds.length ≤ c)
    (hs : SlR w2 T .i64 A ds) (hn : Nf ds) (he : ev ds = (x.natAbs : Int)) (hl : ds.length ≤ L) (hM : L ≤ M) (hb : Below w.heap.size w w2) (v0 v1 : Value) :
    NumR ((w2.setCell ⟨q, 0, none⟩ v0).setCell ⟨q, 1, none⟩ v1) S M (.agg #[.int .i64 x.sign, .slice A ds.length c]) x ∧
      Below w.heap.size w ((w2.setCell ⟨q, 0, none⟩ v0).setCell ⟨q, 1, none⟩ v1) :=
  ⟨⟨A, c, ds, rfl, hc, ((hs.set_ _ _ _ (fun h => (hS _ h).1 rfl)).set_ _ _ _ (fun h => (hS _ h).1 rfl)).imp fun b hb => (hS b hb).2, hn, he, Nat.le_trans hl hM⟩,
    (hb.setCell (p := ⟨q, 0, none⟩) hq v0).setCell (p := ⟨q, 1, none⟩) hq v1⟩
theorem num_stored {w w2 : World} {S T : Nat → Prop} {L M : Nat} {x : Int} {A : Option Addr} {c : Nat} {ds : List Int} (hS : ∀ b, T b → b ≠ w.heap.size + 1 + 1 ∧ S b) (hc : ds.length ≤ c)
    (hs : SlR w2 T .i64 A ds) (hn : Nf ds) (he : ev ds = (x.natAbs : Int)) (hl : ds.length ≤ L) (hM : L ≤ M) (hb : Below w.heap.size w w2) (v0 v1 : Value) :
    NumR ((w2.setCell ⟨w.heap.size + 1 + 1, 0, none⟩ v0).setCell ⟨w.heap.size + 1 + 1, 1, none⟩ v1) S M (.agg #[.int .i64 x.sign, .slice A ds.length c]) x ∧
      Below w.heap.size w ((w2.setCell ⟨w.heap.size + 1 + 1, 0, none⟩ v0).setCell ⟨w.heap.size + 1 + 1, 1, none⟩ v1) :=
  num_stored_at (by omega) hS hc hs hn he hl hM hb v0 v1
theorem two_cells {w2 : World} {q : Nat} {u0 u1 : Value} (h0 : w2.cell? ⟨q, 0, none⟩ = some u0) (h1 : w2.cell? ⟨q, 1, none⟩ = some u1) (v0 v1 : Value) :
    ((w2.setCell ⟨q, 0, none⟩ v0).setCell ⟨q, 1, none⟩ v1).cell? ⟨q, 0, none⟩ = some v0 ∧ ((w2.setCell ⟨q, 0, none⟩ v0).setCell ⟨q, 1, none⟩ v1).cell? ⟨q, 1, none⟩ = some v1 := by
  have k1 : (w2.setCell ⟨q, 0, none⟩ v0).cell? ⟨q, 1, none⟩ = some u1 := (World.cell?_setCell_other _ _ _ _ (by simp)).trans h1
  have k0 : (w2.setCell ⟨q, 0, none⟩ v0).cell? ⟨q, 0, none⟩ = some v0 := World.cell?_setCell_same _ _ _ h0
  exact ⟨(World.cell?_setCell_other _ _ _ _ (by simp)).trans k0, World.cell?_setCell_same _ _ _ k1⟩
/-- A function whose first block is its result. -/
abbrev Res1 (w : World) : World := w.alloc (.cells #[.int .i64 0, .slice none 0 0] 62)
theorem res1_kept {w wr : World} (h : Below (w.heap.size + 1) (Res1 w) wr) : wr.cell? ⟨w.heap.size, 0, none⟩ = some (.int .i64 0) ∧ wr.cell? ⟨w.heap.size, 1, none⟩ = some (.slice none 0 0) ∧
    wr.frozen? ⟨w.heap.size, 0, none⟩ = false ∧ wr.frozen? ⟨w.heap.size, 1, none⟩ = false ∧ Below w.heap.size w wr ∧ w.heap.size < wr.heap.size := by
  have hs := h.size
  simp at hs
  exact ⟨(h.cell (p := ⟨w.heap.size, 0, none⟩) (by simp)).trans (by simp [go_sem]), (h.cell (p := ⟨w.heap.size, 1, none⟩) (by simp)).trans (by simp [go_sem]),
    (h.frozen (p := ⟨w.heap.size, 0, none⟩) (by simp)).trans (by simp [go_sem]), (h.frozen (p := ⟨w.heap.size, 1, none⟩) (by simp)).trans (by simp [go_sem]),
    ((Below.refl _ _).alloc (Nat.le_refl _) _).trans (h.mono (by omega)), by omega⟩
set_option maxHeartbeats 1000000 in
theorem r3add_same (sx : Int) (A B : Option Addr) (c d : Nat) (da db : List Int) (x y : Int) (S SA SB : Nat → Prop) (w : World) (ha : SlR w SA .i64 A da) (hb : SlR w SB .i64 B db)
    (hla : da.length ≤ 900000) (hlb : db.length ≤ 900000) (hda : Dg da) (hdb : Dg db) (t1 : (sx == 0) = false) (he : ev da + ev db = ((x + y).natAbs : Int)) (hs : x + y ≠ 0 → sx = (x + y).sign) (hS : ∀ b, w.heap.size ≤ b → S b) :
    Calls Tryd.prog 33 #[.agg #[.int .i64 sx, .slice A da.length c], .agg #[.int .i64 sx, .slice B db.length d]] w (GivesNum w S (max da.length db.length + 1) (x + y)) := by
  have t2 : (sx == sx) = true := beq_self_eq_true _
  have hb3 := box3_below w sx A da.length c sx B db.length d
  have HE := Lib.hid he
  have HS := Lib.hid hs
  have HSS := Lib.hid (show ∀ b, w.heap.size + 1 + 1 < b → b ≠ w.heap.size + 1 + 1 ∧ S b from fun b hb => ⟨by omega, hS b (by omega)⟩)
  clear he hs hS
  go_enter Tryd.func33, Tryd.ntmps33
  go_wp2_with (fail)
  go_region_law (first
    | (go_simp; go_at_call 43; refine (r3addDigits_any A B c d da db _ SA SB (ha.next (by first | exact hb3 | exact hb3.drew | exact below_drewN' hb3 _)) (hb.next (by first | exact hb3 | exact hb3.drew | exact below_drewN' hb3 _)) (by omega) (by omega) hda hdb).mono ?_; rintro e w1 ⟨A1, c1, os, rfl, hcap, hsl, hdo, hev, hlo, hb1⟩; obtain ⟨hcc, hff⟩ := cell_below hb1; have HV := Lib.hid hev; clear hev; have hz1 : w.heap.size + 1 + 1 < w1.heap.size := by (have := hb1.size; simp at this; omega))
    | (go_simp; go_at_call 42; refine (r3make16_any sx A1 c1 os (x + y) (fun b => w.heap.size + 1 + 1 < b) _ (hsl.imp (by intro b hb; simp at hb; omega)) (by omega) hcap hdo (HV.out.trans HE.out) HS.out).mono ?_; rintro e w2 ⟨_, rfl, ⟨A2, c2, ds2, rfl, hc2, hs2, hn2, he2, hl2⟩, hb2⟩; obtain ⟨hcd, hfd⟩ := cell_below hb2; have HV2 := Lib.hid he2; clear he2; have hz2 : w.heap.size + 1 + 1 < w2.heap.size := by (have := hb2.size; omega)))
  all_goals go_wp2
  all_goals
    have hbw2 : Below w.heap.size w w2 := (Below.trans hb3.drew (Below.mono hb1 (by simp; omega))).trans (hb2.mono (by omega))
    have R := num_stored HSS.out hc2 hs2 hn2 HV2.out hl2 hlo hbw2 (.int .i64 (x + y).sign) (.slice A2 ds2.length c2)
    clear HSS HV2 HV HE HS
    refine bodyPost_ret (v := .agg #[.int .i64 (x + y).sign, .slice A2 ds2.length c2]) (by simp [results, Tryd.results33, go_sem, hcd, hcc, hz1]) rfl ⟨_, rfl, R.1, R.2⟩
set_option maxHeartbeats 1000000 in
theorem r3add_ge (sx sy : Int) (A B : Option Addr) (c d : Nat) (da db : List Int) (x y : Int) (S SA SB : Nat → Prop) (w : World) (ha : SlR w SA .i64 A da) (hb : SlR w SB .i64 B db)
    (hla : da.length ≤ 900000) (hda : Nf da) (hdb : Nf db) (t1 : (sx == 0) = false) (t2 : (sy == 0) = false) (t3 : (sx == sy) = false) (hcmp : ev db ≤ ev da) (he : ev da - ev db = ((x + y).natAbs : Int)) (hs : x + y ≠ 0 → sx = (x + y).sign) (hS : ∀ b, w.heap.size ≤ b → S b) :
    Calls Tryd.prog 33 #[.agg #[.int .i64 sx, .slice A da.length c], .agg #[.int .i64 sy, .slice B db.length d]] w (GivesNum w S da.length (x + y)) := by
  have hb3 := box3_below w sx A da.length c sy B db.length d
  have hlen : db.length ≤ da.length := by
    rcases Nat.lt_or_ge da.length db.length with h | h
    · have := cmp_len hda hdb h; omega
    · exact h
  have hle : ev db ≤ ev da := by omega
  have hc0 : 0 ≤ (ev da - ev db).sign := by rcases Int.lt_trichotomy (ev da - ev db) 0 with h | h | h; (omega); (rw [h]; decide); (rw [sign_pos h]; decide)
  have HLE := Lib.hid hle
  have HE := Lib.hid he
  have HS := Lib.hid hs
  have HSS := Lib.hid (show ∀ b, w.heap.size + 1 + 1 < b → b ≠ w.heap.size + 1 + 1 ∧ S b from fun b hb => ⟨by omega, hS b (by omega)⟩)
  clear he hs hS hcmp hle
  go_enter Tryd.func33, Tryd.ntmps33
  go_wp2_with (fail)
  refine (r3compareDigits_any A B c d da db _ SA SB (ha.next hb3) (hb.next hb3) (by omega) hda hdb).mono ?_
  rintro e w' ⟨rfl, n, rfl⟩
  go_wp2_with (fail)
  go_region_law (first
    | (go_simp; go_at_call 45; refine (r3subDigits_any A B c d da db _ SA SB (ha.next (by first | exact hb3 | exact hb3.drew | exact below_drewN' hb3 _ | exact (below_drewN' hb3 _).drew)) (hb.next (by first | exact hb3 | exact hb3.drew | exact below_drewN' hb3 _ | exact (below_drewN' hb3 _).drew)) (by omega) hda.1 hdb.1 hlen HLE.out).mono ?_; rintro e w1 ⟨A1, c1, os, rfl, hcap, hsl, hdo, hev, hlo, hb1⟩; obtain ⟨hcc, hff⟩ := cell_below hb1; have HV := Lib.hid hev; clear hev; have hz1 : w.heap.size + 1 + 1 < w1.heap.size := by (have := hb1.size; simp at this; omega))
    | (go_simp; go_at_call 42; refine (r3make16_any sx A1 c1 os (x + y) (fun b => w.heap.size + 1 + 1 < b) _ (hsl.imp (by intro b hb; simp at hb; omega)) (by omega) hcap hdo (HV.out.trans HE.out) HS.out).mono ?_; rintro e w2 ⟨_, rfl, ⟨A2, c2, ds2, rfl, hc2, hs2, hn2, he2, hl2⟩, hb2⟩; obtain ⟨hcd, hfd⟩ := cell_below hb2; have HV2 := Lib.hid he2; clear he2; have hz2 : w.heap.size + 1 + 1 < w2.heap.size := by (have := hb2.size; omega)))
  all_goals go_wp2
  all_goals
    have hbw2 : Below w.heap.size w w2 := (Below.trans (by first | exact below_drewN' hb3 _ | exact (below_drewN' hb3 _).drew) (Below.mono hb1 (by simp; omega))).trans (hb2.mono (by omega))
    have R := num_stored HSS.out hc2 hs2 hn2 HV2.out hl2 hlo hbw2 (.int .i64 (x + y).sign) (.slice A2 ds2.length c2)
    clear HSS HV2 HV HE HS HLE
    refine bodyPost_ret (v := .agg #[.int .i64 (x + y).sign, .slice A2 ds2.length c2]) (by simp [results, Tryd.results33, go_sem, hcd, hcc, hz1]) rfl ⟨_, rfl, R.1, R.2⟩
set_option maxHeartbeats 1000000 in
theorem r3add_lt (sx sy : Int) (A B : Option Addr) (c d : Nat) (da db : List Int) (x y : Int) (S SA SB : Nat → Prop) (w : World) (ha : SlR w SA .i64 A da) (hb : SlR w SB .i64 B db)
    (hla : da.length ≤ 900000) (hlb : db.length ≤ 900000) (hda : Nf da) (hdb : Nf db) (t1 : (sx == 0) = false) (t2 : (sy == 0) = false) (t3 : (sx == sy) = false) (hcmp : ev da < ev db) (he : ev db - ev da = ((x + y).natAbs : Int)) (hs : x + y ≠ 0 → sy = (x + y).sign) (hS : ∀ b, w.heap.size ≤ b → S b) :
    Calls Tryd.prog 33 #[.agg #[.int .i64 sx, .slice A da.length c], .agg #[.int .i64 sy, .slice B db.length d]] w (GivesNum w S db.length (x + y)) := by
  have hb3 := box3_below w sx A da.length c sy B db.length d
  have hlen : da.length ≤ db.length := by
    rcases Nat.lt_or_ge db.length da.length with h | h
    · have := cmp_len hdb hda h; omega
    · exact h
  have hle : ev da ≤ ev db := by omega
  have HLE := Lib.hid hle
  have HE := Lib.hid he
  have HS := Lib.hid hs
  have HSS := Lib.hid (show ∀ b, w.heap.size + 1 + 1 < b → b ≠ w.heap.size + 1 + 1 ∧ S b from fun b hb => ⟨by omega, hS b (by omega)⟩)
  clear he hs hS hle
  go_enter Tryd.func33, Tryd.ntmps33
  go_wp2_with (fail)
  refine (r3compareDigits_any A B c d da db _ SA SB (ha.next hb3) (hb.next hb3) (by omega) hda hdb).mono ?_
  rintro e w' ⟨rfl, n, rfl⟩
  go_wp2_with (fail)
  go_region_law (first
    | (go_simp; go_at_call 45; refine (r3subDigits_any B A d c db da _ SB SA (hb.next (by first | exact hb3 | exact hb3.drew | exact below_drewN' hb3 _ | exact (below_drewN' hb3 _).drew)) (ha.next (by first | exact hb3 | exact hb3.drew | exact below_drewN' hb3 _ | exact (below_drewN' hb3 _).drew)) (by omega) hdb.1 hda.1 hlen HLE.out).mono ?_; rintro e w1 ⟨A1, c1, os, rfl, hcap, hsl, hdo, hev, hlo, hb1⟩; obtain ⟨hcc, hff⟩ := cell_below hb1; have HV := Lib.hid hev; clear hev; have hz1 : w.heap.size + 1 + 1 < w1.heap.size := by (have := hb1.size; simp at this; omega))
    | (go_simp; go_at_call 42; refine (r3make16_any sy A1 c1 os (x + y) (fun b => w.heap.size + 1 + 1 < b) _ (hsl.imp (by intro b hb; simp at hb; omega)) (by omega) hcap hdo (HV.out.trans HE.out) HS.out).mono ?_; rintro e w2 ⟨_, rfl, ⟨A2, c2, ds2, rfl, hc2, hs2, hn2, he2, hl2⟩, hb2⟩; obtain ⟨hcd, hfd⟩ := cell_below hb2; have HV2 := Lib.hid he2; clear he2; have hz2 : w.heap.size + 1 + 1 < w2.heap.size := by (have := hb2.size; omega)))
  all_goals go_wp2
  all_goals
    have hbw2 : Below w.heap.size w w2 := (Below.trans (by first | exact below_drewN' hb3 _ | exact (below_drewN' hb3 _).drew) (Below.mono hb1 (by simp; omega))).trans (hb2.mono (by omega))
    have R := num_stored HSS.out hc2 hs2 hn2 HV2.out hl2 hlo hbw2 (.int .i64 (x + y).sign) (.slice A2 ds2.length c2)
    clear HSS HV2 HV HE HS HLE
    refine bodyPost_ret (v := .agg #[.int .i64 (x + y).sign, .slice A2 ds2.length c2]) (by simp [results, Tryd.results33, go_sem, hcd, hcc, hz1]) rfl ⟨_, rfl, R.1, R.2⟩
theorem r3add_zl (sx sy : Int) (A B : Option Addr) (n c m d : Nat) (w : World) (t1 : (sx == 0) = true) :
    Calls Tryd.prog 33 #[.agg #[.int .i64 sx, .slice A n c], .agg #[.int .i64 sy, .slice B m d]] w fun e w' => e = .returned (.agg #[.int .i64 sy, .slice B m d]) ∧ Below w.heap.size w w' := by
  go_enter Tryd.func33, Tryd.ntmps33
  go_wp2
  exact bodyPost_ret (v := .agg #[.int .i64 sy, .slice B m d]) (by simp [results, Tryd.results33, go_sem]) rfl ⟨rfl, (((Below.refl _ _).alloc (Nat.le_refl _) _).alloc (by simp) _).alloc (by simp; omega) _⟩
theorem r3add_zr (sx sy : Int) (A B : Option Addr) (n c m d : Nat) (w : World) (t1 : (sx == 0) = false) (t2 : (sy == 0) = true) :
    Calls Tryd.prog 33 #[.agg #[.int .i64 sx, .slice A n c], .agg #[.int .i64 sy, .slice B m d]] w fun e w' => e = .returned (.agg #[.int .i64 sx, .slice A n c]) ∧ Below w.heap.size w w' := by
  go_enter Tryd.func33, Tryd.ntmps33
  go_wp2
  exact bodyPost_ret (v := .agg #[.int .i64 sx, .slice A n c]) (by simp [results, Tryd.results33, go_sem]) rfl ⟨rfl, (((Below.refl _ _).alloc (Nat.le_refl _) _).alloc (by simp) _).alloc (by simp; omega) _⟩
theorem GivesNum.le {w : World} {S : Nat → Prop} {L M : Nat} {x : Int} {e : Ending} {w' : World} (h : GivesNum w S L x e w') (hM : L ≤ M) : GivesNum w S M x e w' := by
  obtain ⟨v, he, hn, hb⟩ := h
  exact ⟨v, he, hn.le hM, hb⟩
theorem sign_ne {x : Int} (h : x ≠ 0) : (x.sign == 0) = false := by
  rw [beq_eq_false_iff_ne]
  rcases Int.lt_trichotomy x 0 with h' | h' | h'
  · rw [sign_neg h']; decide
  · exact absurd h' h
  · rw [sign_pos h']; decide
theorem r3add_any (va vb : Value) (x y : Int) (L M : Nat) (S : Nat → Prop) (w : World) (ha : NumR w S L va x) (hb : NumR w S M vb y) (hL : L ≤ 900000) (hM : M ≤ 900000) (hS : ∀ b, w.heap.size ≤ b → S b) :
    Calls Tryd.prog 33 #[va, vb] w (GivesNum w S (max L M + 1) (x + y)) := by
  have ha' := ha
  have hb' := hb
  obtain ⟨A, c, da, rfl, hc, hs, hn, he, hl⟩ := ha
  obtain ⟨B, d, db, rfl, hd, hs2, hn2, he2, hl2⟩ := hb
  by_cases hx : x = 0
  · refine (r3add_zl _ _ A B _ c _ d w (by rw [hx]; rfl)).mono ?_
    rintro e w' ⟨rfl, hbl⟩
    exact ⟨_, rfl, by rw [hx, Int.zero_add]; exact (hb'.next hbl).le (by omega), hbl⟩
  by_cases hy : y = 0
  · refine (r3add_zr _ _ A B _ c _ d w (sign_ne hx) (by rw [hy]; rfl)).mono ?_
    rintro e w' ⟨rfl, hbl⟩
    exact ⟨_, rfl, by rw [hy, Int.add_zero]; exact (ha'.next hbl).le (by omega), hbl⟩
  rcases Int.lt_trichotomy x 0 with h | h | h
  · rcases Int.lt_trichotomy y 0 with h' | h' | h'
    · have e1 : x.sign = y.sign := by rw [sign_neg h, sign_neg h']
      rw [e1]
      exact (r3add_same y.sign A B c d da db x y S S S w hs hs2 (by omega) (by omega) hn.1 hn2.1 (sign_ne hy) (by omega) (fun _ => by rw [sign_neg h', sign_neg (by omega)]) hS).mono fun _ _ hh => hh.le (by omega)
    · exact absurd h' hy
    · have t3 : (x.sign == y.sign) = false := by rw [sign_neg h, sign_pos h']; decide
      rcases Int.lt_or_le (ev da) (ev db) with hlt | hle
      · exact (r3add_lt x.sign y.sign A B c d da db x y S S S w hs hs2 (by omega) (by omega) hn hn2 (sign_ne hx) (sign_ne hy) t3 hlt (by omega) (fun _ => by rw [sign_pos h', sign_pos (by omega)]) hS).mono fun _ _ hh => hh.le (by omega)
      · exact (r3add_ge x.sign y.sign A B c d da db x y S S S w hs hs2 (by omega) hn hn2 (sign_ne hx) (sign_ne hy) t3 hle (by omega) (fun _ => by rw [sign_neg h, sign_neg (by omega)]) hS).mono fun _ _ hh => hh.le (by omega)
  · exact absurd h hx
  · rcases Int.lt_trichotomy y 0 with h' | h' | h'
    · have t3 : (x.sign == y.sign) = false := by rw [sign_pos h, sign_neg h']; decide
      rcases Int.lt_or_le (ev da) (ev db) with hlt | hle
      · exact (r3add_lt x.sign y.sign A B c d da db x y S S S w hs hs2 (by omega) (by omega) hn hn2 (sign_ne hx) (sign_ne hy) t3 hlt (by omega) (fun _ => by rw [sign_neg h', sign_neg (by omega)]) hS).mono fun _ _ hh => hh.le (by omega)
      · exact (r3add_ge x.sign y.sign A B c d da db x y S S S w hs hs2 (by omega) hn hn2 (sign_ne hx) (sign_ne hy) t3 hle (by omega) (fun _ => by rw [sign_pos h, sign_pos (by omega)]) hS).mono fun _ _ hh => hh.le (by omega)
    · exact absurd h' hy
    · have e1 : x.sign = y.sign := by rw [sign_pos h, sign_pos h']
      rw [e1]
      exact (r3add_same y.sign A B c d da db x y S S S w hs hs2 (by omega) (by omega) hn.1 hn2.1 (sign_ne hy) (by omega) (fun _ => by rw [sign_pos h', sign_pos (by omega)]) hS).mono fun _ _ hh => hh.le (by omega)
end Go.Proofs.YtehnpmkolabiaaaDoor
