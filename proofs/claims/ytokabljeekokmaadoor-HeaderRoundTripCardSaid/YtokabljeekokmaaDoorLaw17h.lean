/-
  bytes.HasPrefix, of a prefix; what an accepted header's numbers are.
-/
import Derived.Test.YtokabljeekokmaaDoorLaw17
namespace Go.Proofs.YtokabljeekokmaaDoor
open Go.RowKit Go.Maps
set_option maxRecDepth 100000
set_option linter.unusedVariables false
set_option linter.unusedSimpArgs false

theorem okh_S {h : Hq} (k : Okh h) : S h.op ∧ S h.vs ∧ S h.pts := by
  have h0 := k.op
  have h1 : 0 ≤ h.vs ∧ h.vs ≤ 64 := by
    by_cases e : h.op = 3
    · have := k.vs3 e; omega
    · have := k.vs0 e; omega
  have h2 : 0 ≤ h.pts ∧ h.pts ≤ 4096 := by
    by_cases e : h.op = 5
    · have := k.pts5 e; omega
    · have := k.pts0 e; omega
  unfold S; omega
theorem okh_v {op vx pts : Int} {rs : List Rg} (k : Okh ⟨op, vx, rs.map rgK, pts⟩) : ∀ r ∈ rs, S r.v := fun r hr => by
  have h0 := k.op
  simp only at h0
  by_cases h4 : 4 ≤ op
  · have := badK (k.ok h4) (rgK r) (List.mem_map.2 ⟨r, hr, rfl⟩)
    simp only [rgK] at this
    unfold S; omega
  · have := k.len0 (by show op < 4; omega)
    simp only [List.map_eq_nil_iff] at this
    rw [this] at hr; cases hr
theorem okh_len {op vx pts : Int} {rs : List Rg} (k : Okh ⟨op, vx, rs.map rgK, pts⟩) : rs.length ≤ 64 := by
  have h0 := k.op
  simp only at h0
  by_cases h4 : 4 ≤ op
  · have := (k.len h4).2; simpa using this
  · have := k.len0 (by show op < 4; omega)
    simp only [List.map_eq_nil_iff] at this
    rw [this]; simp
theorem own_b {w : World} {base : Nat} {v : Value} {bs : List Int} (h : OwnK w base 5 .u8 v bs) : ∃ A n c, v = .slice A n c ∧ n = bs.length ∧ n ≤ c ∧ c ≤ maxLen ∧ SlR w (fun b => base ≤ b) .u8 A bs ∧ (A = none → c = 0) := by
  obtain ⟨A, c, e, h1, h2, h3⟩ := h.form
  refine ⟨A, _, c, e, rfl, h1, h2, h3, fun hA => ?_⟩
  subst hA
  rcases h.2 with ⟨e2, _⟩ | ⟨g, cap, cur, e2, _⟩
  · rw [e2] at e; injection e with _ _ e3; exact e3.symm
  · rw [e2] at e; injection e with e3; cases e3
set_option maxHeartbeats 1000000 in
theorem hasPrefixB_yes (A B : Option Addr) (n m c d : Nat) (bs : List Int) (T U : Nat → Prop) (w : World) (ha : SlR w T .u8 A bs) (hb : SlR w U .u8 B (bs.take m)) (hn : n = bs.length) (hm : m ≤ n) (hnc : n ≤ c) (hc : c ≤ 9223372036854775807) (hm1 : 1 ≤ m) :
    Calls Tryd.prog 24 #[.slice A n c, .slice B m d] w fun e w' => e = .returned (.bool true) ∧ w' = w := by
  obtain ⟨b, o, rfl, _, hcs⟩ := ha (by omega)
  have hl := Lib.hid (show m = (bs.take m).length by rw [List.length_take]; omega)
  have hs1 : SlR w T .u8 (some ⟨b, o, none⟩) (bs.take m) := ha.take m
  have HN := Lib.hid hn
  have hnm : (m : Int) ≤ n := by omega
  clear hn ha hcs
  go_enter Tryd.func24, Tryd.ntmps24
  go_wp2_with (fail)
  refine (equalB_yes _ _ m m _ d (bs.take m) _ _ w hs1 hb hl.out hl.out).mono ?_
  rintro e w2 ⟨rfl, hw2⟩
  obtain rfl := hw2.symm
  go_wp2
  go_ret
  exact ⟨rfl, rfl⟩
end Go.Proofs.YtokabljeekokmaaDoor
