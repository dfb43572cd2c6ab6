/-
  Regions in memory; what Size says.
-/
import Derived.Test.YtokabljeekokmaaDoorPoly
import Derived.Test.YtokabljeekokmaaDoorRow
import Derived.Test.YtokabljeekokmaaDoorWords
namespace Go.Proofs.YtokabljeekokmaaDoor
open Go.RowKit Go.Maps
set_option maxRecDepth 100000
set_option linter.unusedVariables false
set_option linter.unusedSimpArgs false

/-- A region: whether it denies, its vertices' number as said, and its points, with the place where they lie. -/
structure Rg where
  d : Bool
  v : Int
  A : Option Addr
  c : Nat
  l : List Pt
def rgC (r : Rg) : List Value := [.bool r.d, .int .i64 r.v, .slice r.A r.l.length r.c]
theorem rgC_len (r : Rg) : (rgC r).length = 3 := rfl
/-- The points of a region, in memory. -/
structure RegOk (w : World) (T : Nat → Prop) (r : Rg) : Prop where
  row : RowR w T 2 ptC r.A r.l
  ss : SsP r.l
  nil : r.A = none → r.c = 0
  wf : S r.v
def RegsOk (w : World) (T : Nat → Prop) (rs : List Rg) : Prop := ∀ r ∈ rs, RegOk w T r
theorem RegOk.next {w w' : World} {T : Nat → Prop} {r : Rg} (h : RegOk w T r) (hb : Below w.heap.size w w') : RegOk w' T r := ⟨h.row.next hb, h.ss, h.nil, h.wf⟩
theorem RegOk.low {w : World} {r : Rg} (h : RegOk w (fun _ => True) r) : RegOk w (fun b => b < w.heap.size) r := ⟨(h.row.now (fun _ => by simp [ptC])).imp fun _ h => h.2, h.ss, h.nil, h.wf⟩
theorem RegsOk.next {w w' : World} {T : Nat → Prop} {rs : List Rg} (h : RegsOk w T rs) (hb : Below w.heap.size w w') : RegsOk w' T rs := fun r hr => (h r hr).next hb
theorem RegsOk.low {w : World} {rs : List Rg} (h : RegsOk w (fun _ => True) rs) : RegsOk w (fun b => b < w.heap.size) rs := fun r hr => (h r hr).low
theorem RegOk.imp {w : World} {T U : Nat → Prop} {r : Rg} (h : RegOk w T r) (hTU : ∀ b, T b → U b) : RegOk w U r := ⟨h.row.imp hTU, h.ss, h.nil, h.wf⟩
theorem RegsOk.imp {w : World} {T U : Nat → Prop} {rs : List Rg} (h : RegsOk w T rs) (hTU : ∀ b, T b → U b) : RegsOk w U rs := fun r hr => (h r hr).imp hTU
/-- What Check says. -/
def sizeF (v : Int) : Int := if v = 0 then 3 else if 3 ≤ v ∧ v ≤ 64 then v else 0
theorem sizeF_bd (v : Int) : sizeF v = 0 ∨ 3 ≤ sizeF v ∧ sizeF v ≤ 64 := by unfold sizeF; split <;> (try split) <;> omega
theorem RowR.rg2 {w : World} {T : Nat → Prop} {A : Option Addr} {rs : List Rg} (h : RowR w T 3 rgC A rs) {k : Nat} (hk : k < rs.length) :
    ∃ b o, A = some ⟨b, o, none⟩ ∧ T b ∧ w.cell? ⟨b, o + k * 3, none⟩ = some (.bool (rs[k]'hk).d) ∧ w.cell? ⟨b, o + k * 3 + 1, none⟩ = some (.int .i64 (rs[k]'hk).v) ∧ w.cell? ⟨b, o + k * 3 + 2, none⟩ = some (.slice (rs[k]'hk).A (rs[k]'hk).l.length (rs[k]'hk).c) := by
  obtain ⟨b, o, e, hS, hc⟩ := h.at_ hk
  exact ⟨b, o, e, hS, hc 0 _ rfl, hc 1 _ rfl, hc 2 _ rfl⟩
theorem ref16Size_any (v r : Int) (w : World) (hr : sizeF v = r) :
    Calls Tryd.prog 34 #[.int .i64 v] w fun e w' => e = .returned (.int .i64 r) ∧ w' = w := by
  by_cases h0 : v = 0
  · have HR := Lib.hid (show r = 3 by rw [← hr]; unfold sizeF; rw [if_pos h0])
    clear hr
    subst h0
    go_enter Tryd.func34, Tryd.ntmps34
    go_wp2
    go_ret
    exact ⟨by rw [HR.out]; rfl, rfl⟩
  · have hd : (v == 0) = false := by rw [beq_eq_false_iff_ne]; exact h0
    by_cases h3 : 3 ≤ v
    · by_cases h64 : v ≤ 64
      · have HR := Lib.hid (show r = v by rw [← hr]; unfold sizeF; rw [if_neg h0, if_pos ⟨h3, h64⟩])
        clear hr h0
        go_enter Tryd.func34, Tryd.ntmps34
        go_wp2
        go_ret
        exact ⟨by rw [HR.out]; rfl, rfl⟩
      · have HR := Lib.hid (show r = 0 by rw [← hr]; unfold sizeF; rw [if_neg h0, if_neg (by omega)])
        clear hr h0
        go_enter Tryd.func34, Tryd.ntmps34
        go_wp2
        go_ret
        exact ⟨by rw [HR.out]; rfl, rfl⟩
    · have HR := Lib.hid (show r = 0 by rw [← hr]; unfold sizeF; rw [if_neg h0, if_neg (by omega)])
      clear hr h0
      go_enter Tryd.func34, Tryd.ntmps34
      go_wp2
      go_ret
      exact ⟨by rw [HR.out]; rfl, rfl⟩
theorem infoRg : (Tryd.prog.info? 52).map (fun i => (i.zero, i.size, i.bytes)) = some (some (.agg #[.bool false, .int .i64 0, .slice none 0 0]), 3, 40) := by kernel_rfl
theorem elemRg : ElemT Tryd.prog 23 52 3 rgC := by
  obtain ⟨i0, hi, hz0, hz1, hz2⟩ := info_parts infoRg
  exact ⟨Tryd.underlying23, ⟨i0, _, hi, hz0, hz1, by rw [hz2]; decide, rfl⟩, by decide, fun _ => rfl, fun x u hu => by simp [rgC] at hu; rcases hu with rfl | rfl | rfl <;> rfl⟩
end Go.Proofs.YtokabljeekokmaaDoor
