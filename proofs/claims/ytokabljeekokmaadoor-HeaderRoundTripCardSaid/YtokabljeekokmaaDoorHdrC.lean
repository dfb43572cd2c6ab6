/-
  Contracts of package header over the landed code: Classify; the others are imported.
-/
import Derived.Test.YtokabljeekokmaaDoorHdrE
import Derived.Test.YtokabljeekokmaaDoorHdrP
namespace Go.Proofs.YtokabljeekokmaaDoor
open Go.RowKit Go.Maps
set_option maxRecDepth 100000
set_option linter.unusedVariables false
set_option linter.unusedSimpArgs false

theorem formErr_back {op vx pts : Int} {rs : List Rg} (h : Okh ⟨op, vx, rs.map rgK, pts⟩) (hp : rgP rs = false) : formErr ⟨op, vx, rs.map rgK, pts⟩ (rgP rs) = 0 := formErr_ok.2 ⟨h, hp⟩
set_option maxHeartbeats 1000000 in
theorem hdrClassify_c (A : Option Addr) (n c : Nat) (bs : List Int) (S : Nat → Prop) (r : Int) (w : World) (hw : Wts w) (hb : SlR w S .u8 A bs) (hn : n = bs.length) (hU : UB bs) (hl : n ≤ 9223372036854775807) (hc : n ≤ c) (hr : classH bs = r) :
    Calls Tryd.prog 22 #[.slice A n c] w fun e w' => e = .returned (.int .i64 r) ∧ Below w.heap.size w w' := by
  have hok := parse_ok (b := bs) hU
  unfold classH at hr
  obtain ⟨P, hP⟩ : ∃ P, parseH bs = P := ⟨_, rfl⟩
  rw [hP] at hok hr
  obtain ⟨⟨op, vx, ks, pts⟩, m, er⟩ := P
  simp only at hr hok
  have HR := Lib.hid hr
  have HN := Lib.hid hn
  have HP := Lib.hid hP
  have HOK := Lib.hid hok
  clear hr hn hP hok
  go_enter Tryd.func22, Tryd.ntmps22
  go_wp2_with (fail)
  refine (hdrParse_c A n c bs S _ w hw hb HN.out hU hl hc HP.out).mono ?_
  intro e w1 hg
  obtain ⟨A', n', c', rs, rfl, hn', hrow, hks, hpt, hb1⟩ := hg.open_
  have HNn := Lib.hid hn'
  have HKs := Lib.hid hks
  have HPt := Lib.hid hpt
  clear hn' hks hpt
  go_upto_region 2 with (fail)
  obtain ⟨W, hW⟩ : ∃ W, W = w1.alloc (.cells #[.int .i64 op, .int .i64 vx, .slice A' n' c', .int .i64 pts] 25) := ⟨_, rfl⟩
  obtain ⟨h0, _, g0, g1, g2, g3⟩ := box4 hW
  obtain ⟨bg, hbg⟩ : ∃ b, b = w1.heap.size := ⟨_, rfl⟩
  rw [← hbg] at g0 g1 g2 g3
  rw [← hW, ← hbg]
  have hw1 := hb1.trans (h0.mono hb1.size)
  have hwt := hw.below hw1
  by_cases he : er = 0
  · subst he
    have hk := HOK.out rfl
    have h1 := hk.ok
    have h2 := hk.n2
    simp only at h1 h2
    obtain ⟨p, hp⟩ : ∃ p, payL ⟨op, vx, ks, pts⟩ = p := ⟨_, rfl⟩
    have hpb := payL_bd h1
    rw [hp] at hpb
    have hmn : m ≤ n := by rw [HN.out]; exact h2
    have hm68 : m ≤ 68 := by
      have h3 := hk.form
      simp only at h3
      have h4 := (formB_len h1).2
      rw [h3, List.length_take] at h4
      omega
    have HRr := Lib.hid HR.out
    rw [hp, if_pos rfl, ← HN.out] at HRr
    obtain rfl := HKs.out
    have HPp := Lib.hid (show (if formErr ⟨op, vx, rs.map rgK, pts⟩ (rgP rs) = 0 then payL ⟨op, vx, rs.map rgK, pts⟩ else 0) = p by rw [if_pos (formErr_back h1 HPt.out)]; exact hp)
    have hrow1 : RowR W (fun g => g < W.heap.size) 3 rgC A' rs := ((hrow.next h0).now (fun _ => Nat.succ_pos 2)).imp fun _ h => h.2
    have hSo : Go.Proofs.YtokabljeekokmaaDoor.S op ∧ Go.Proofs.YtokabljeekokmaaDoor.S vx ∧ Go.Proofs.YtokabljeekokmaaDoor.S pts := by
      have k0 := h1.op
      have k1 := h1.vs3
      have k2 := h1.vs0
      have k3 := h1.pts5
      have k4 := h1.pts0
      simp only at k0 k1 k2 k3 k4
      unfold Go.Proofs.YtokabljeekokmaaDoor.S
      refine ⟨by omega, ?_, ?_⟩
      · by_cases e3 : op = 3
        · have := k1 e3; omega
        · rw [k2 e3]; decide
      · by_cases e5 : op = 5
        · have := k3 e5; omega
        · rw [k4 e5]; decide
    have hlen : n' ≤ 64 := by
      by_cases e4 : 4 ≤ op
      · have := (h1.len e4).2; rw [HNn.out]; simpa using this
      · have := h1.len0 (show op < 4 by omega); rw [HNn.out]; have h5 : rs = [] := by simpa using this
        rw [h5]; decide
    have hSv : ∀ r ∈ rs, Go.Proofs.YtokabljeekokmaaDoor.S r.v := fun r hr => by
      by_cases e4 : 4 ≤ op
      · have h5 := badK (h1.ok e4) (rgK r) (List.mem_map.2 ⟨r, hr, rfl⟩)
        unfold rgK at h5
        simp only at h5
        unfold Go.Proofs.YtokabljeekokmaaDoor.S; omega
      · have := h1.len0 (show op < 4 by omega)
        have h5 : rs = [] := by simpa using this
        rw [h5] at hr; cases hr
    clear hp hW hbg hk h2 hb
    go_wp2_with (fail)
    refine (hdrPayload_c op vx pts A' n' c' rs p _ hwt hrow1 HNn.out (by omega) hSo hSv HPp.out).mono ?_
    rintro e w3 ⟨rfl, hb3⟩
    by_cases hq : (n : Int) = m + p
    · have HX := Lib.hid (show r = 0 by rw [← HRr.out, if_pos hq])
      have d1 : ((n : Int) != m + p) = false := by rw [bne_eq_false_iff_eq]; exact hq
      clear hq
      go_wp2
      go_ret
      exact ⟨by rw [HX.out]; rfl, hw1.trans (hb3.mono hw1.size)⟩
    · have HX := Lib.hid (show r = 8 by rw [← HRr.out, if_neg hq])
      have d1 : ((n : Int) != m + p) = true := by rw [bne_iff_ne]; exact hq
      clear hq
      go_wp2
      go_ret
      exact ⟨by rw [HX.out]; rfl, hw1.trans (hb3.mono hw1.size)⟩
  · have HX := Lib.hid (show r = er by rw [← HR.out, if_neg he])
    have d1 : (er != 0) = true := by rw [bne_iff_ne]; exact he
    clear he hW hbg hb
    go_wp2
    go_ret
    exact ⟨by rw [HX.out]; rfl, hw1⟩
end Go.Proofs.YtokabljeekokmaaDoor
