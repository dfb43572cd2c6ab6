/-
  The reference of layer 17: Format and Classify in full.
-/
import Derived.Test.YtokabljeekokmaaDoorHdr2
import Derived.Test.YtokabljeekokmaaDoorRef17p
namespace Go.Proofs.YtokabljeekokmaaDoor
open Go.RowKit Go.Maps
set_option maxRecDepth 100000
set_option linter.unusedVariables false
set_option linter.unusedSimpArgs false

theorem GivesH.open_ {w : World} {op vx pts er : Int} {ks : List (Bool × Int)} {m : Nat} {e : Ending} {w' : World} (h : GivesH w ⟨⟨op, vx, ks, pts⟩, m, er⟩ e w') :
    ∃ (A : Option Addr) (n c : Nat) (rs : List Rg), e = .returned (.tuple #[.agg #[.int .i64 op, .int .i64 vx, .slice A n c, .int .i64 pts], .int .i64 m, .int .i64 er]) ∧ n = rs.length ∧
      RowR w' (fun b => w.heap.size ≤ b) 3 rgC A rs ∧ rs.map rgK = ks ∧ rgP rs = false ∧ Below w.heap.size w w' := h
/-- What Format gives. -/
def GivesB (w : World) (er : Int) (bs : List Int) (e : Ending) (w' : World) : Prop := ∃ v, e = .returned (.tuple #[v, .int .i64 er]) ∧ OwnK w' w.heap.size 5 .u8 v bs ∧ Below w.heap.size w w'
theorem ref17Format_any (op vs pts : Int) (A : Option Addr) (n c : Nat) (rs : List Rg) (er : Int) (bs : List Int) (w : World) (ha : RowR w (fun g => g < w.heap.size) 3 rgC A rs) (hn : n = rs.length) (hl : n ≤ 9223372036854775807) (he : formErr ⟨op, vs, rs.map rgK, pts⟩ (rgP rs) = er) (hb : (if er = 0 then formB ⟨op, vs, rs.map rgK, pts⟩ else []) = bs) :
    Calls Tryd.prog 16 #[.agg #[.int .i64 op, .int .i64 vs, .slice A n c, .int .i64 pts]] w (GivesB w er bs) := by
  by_cases h : op < 1 ∨ 5 < op
  · exact ref17Format_bad op vs pts A n c rs er bs w ha hn hl h he hb
  · rcases (show op = 1 ∨ op = 2 ∨ op = 3 ∨ op = 4 ∨ op = 5 by omega) with rfl | rfl | rfl | rfl | rfl
    · exact ref17Format_1 vs pts A n c rs er bs w ha hn hl he hb
    · exact ref17Format_2 vs pts A n c rs er bs w ha hn hl he hb
    · exact ref17Format_3 vs pts A n c rs er bs w ha hn hl he hb
    · exact ref17Format_4 vs pts A n c rs er bs w ha hn hl he hb
    · exact ref17Format_5 vs pts A n c rs er bs w ha hn hl he hb
theorem payL_bd {h : Hq} (k : Okh h) : 0 ≤ payL h ∧ payL h ≤ 200000 := by
  have h0 := k.op
  unfold payL
  split
  · omega
  split
  · omega
  split
  · rename_i h3; have := k.vs3 h3; omega
  have h4 := k.len (by omega)
  have h5 := ptsK_bd h.ks
  split
  · omega
  · have := k.pts5 (by omega); omega
set_option maxHeartbeats 1000000 in
theorem ref17Classify_any (A : Option Addr) (n c : Nat) (bs : List Int) (S : Nat → Prop) (r : Int) (w : World) (hb : SlR w S .u8 A bs) (hn : n = bs.length) (hU : UB bs) (hl : n ≤ 9223372036854775807) (hr : classH bs = r) :
    Calls Tryd.prog 23 #[.slice A n c] w fun e w' => e = .returned (.int .i64 r) ∧ Below w.heap.size w w' := by
  have hok := parse_ok (b := bs) hU
  unfold classH at hr
  obtain ⟨P, hP⟩ : ∃ P, parseH bs = P := ⟨_, rfl⟩
  rw [hP] at hok hr
  obtain ⟨⟨op, vx, ks, pts⟩, m, er⟩ := P
  simp only at hr hok
  have HR := Lib.hid hr
  have HN := Lib.hid hn
  have HP := Lib.hid hP
  have HOK := Lib.hid hok
  clear hr hn hP hok
  go_enter Tryd.func23, Tryd.ntmps23
  go_wp2_with (fail)
  refine (ref17Parse_any A n c bs S _ w hb HN.out hU hl HP.out).mono ?_
  intro e w1 hg
  obtain ⟨A', n', c', rs, rfl, hn', hrow, hks, hpt, hb1⟩ := hg.open_
  have HNn := Lib.hid hn'
  have HKs := Lib.hid hks
  clear hn' hks
  go_upto_region 2 with (fail)
  obtain ⟨W, hW⟩ : ∃ W, W = w1.alloc (.cells #[.int .i64 op, .int .i64 vx, .slice A' n' c', .int .i64 pts] 25) := ⟨_, rfl⟩
  obtain ⟨h0, _, g0, g1, g2, g3⟩ := box4 hW
  obtain ⟨bg, hbg⟩ : ∃ b, b = w1.heap.size := ⟨_, rfl⟩
  rw [← hbg] at g0 g1 g2 g3
  rw [← hW, ← hbg]
  have hw1 := hb1.trans (h0.mono hb1.size)
  by_cases he : er = 0
  · subst he
    have hk := HOK.out rfl
    have h1 := hk.ok
    have h2 := hk.n2
    simp only at h1 h2
    obtain ⟨p, hp⟩ : ∃ p, payL ⟨op, vx, ks, pts⟩ = p := ⟨_, rfl⟩
    have hpb := payL_bd h1
    rw [hp] at hpb
    have hmn : m ≤ n := by rw [HN.out]; exact h2
    have hm68 : m ≤ 68 := by
      have h3 := hk.form
      simp only at h3
      have h4 := (formB_len h1).2
      rw [h3, List.length_take] at h4
      omega
    have HRr := Lib.hid HR.out
    rw [hp, if_pos rfl, ← HN.out] at HRr
    obtain rfl := HKs.out
    have HPp := Lib.hid hp
    have hrow1 := hrow.next h0
    clear hp hW hbg hk h2 hb
    go_wp2_with (fail)
    refine (ref17Payload_any op vx pts A' n' c' rs p _ _ hrow1 HNn.out h1 HPp.out).mono ?_
    rintro e w3 ⟨rfl, hb3⟩
    by_cases hq : (n : Int) = m + p
    · have HX := Lib.hid (show r = 0 by rw [← HRr.out, if_pos hq])
      have d1 : ((n : Int) != m + p) = false := by rw [bne_eq_false_iff_eq]; exact hq
      clear hq
      go_wp2
      go_ret
      exact ⟨by rw [HX.out]; rfl, hw1.trans (hb3.mono hw1.size)⟩
    · have HX := Lib.hid (show r = 8 by rw [← HRr.out, if_neg hq])
      have d1 : ((n : Int) != m + p) = true := by rw [bne_iff_ne]; exact hq
      clear hq
      go_wp2
      go_ret
      exact ⟨by rw [HX.out]; rfl, hw1.trans (hb3.mono hw1.size)⟩
  · have HX := Lib.hid (show r = er by rw [← HR.out, if_neg he])
    have d1 : (er == 0) = false := by rw [beq_eq_false_iff_ne]; exact he
    clear he hW hbg hb
    go_wp2
    go_ret
    exact ⟨by rw [HX.out]; rfl, hw1⟩
end Go.Proofs.YtokabljeekokmaaDoor
