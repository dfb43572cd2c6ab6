/-
  Contracts of the reference of layer 4, second part: Number, Format.
-/
import Derived.Test.YtpdmpmlieligoaaDoorRef04a
namespace Go.Proofs.YtpdmpmlieligoaaDoor
open Go.RowKit

theorem bs_lit (l : List UInt8) : (⟨l.toArray⟩ : ByteArray) = bs l := rfl
theorem ret_str {a b : ByteArray} (h : a = b) : Ending.returned (.string a) = .returned (.string b) := by rw [h]
theorem r4number_any (v : Value) (x : Int) (L : Nat) (S : Nat → Prop) (w : World) (h : NumR w S L v x) (hL : L ≤ 100000) :
    Calls Tryd.prog 23 #[v] w (GivesStr w (decL x)) := by
  obtain ⟨A, c, ds, rfl, hc, hs, hn, he, hl⟩ := h
  have hb : Below w.heap.size w (w.alloc (.cells #[.int .i64 x.sign, .slice A ds.length c] 48)) := (Below.refl _ _).alloc (Nat.le_refl _) _
  have HN := Lib.hid (show (ev ds).toNat = x.natAbs by omega)
  have HLen := Lib.hid (decN_len_dg hn.1)
  have hs1 := hs.next hb
  clear he
  by_cases hx : x < 0
  · have hx2 : decide (x.sign < 0) = true := by rw [sign_neg hx]; decide
    have HD := Lib.hid (show decL x = [45] ++ decN x.natAbs by unfold decL; rw [if_pos hx]; rfl)
    go_enter Tryd.func23, Tryd.ntmps23
    go_wp2_with (fail)
    refine (r4digits_any A c ds S _ hs1 hn (by omega) hc).mono ?_
    rintro e w2 ⟨rfl, hb2⟩
    have hsz : (bs (decN (ev ds).toNat)).size ≤ 1000000 := by rw [bs_size]; have := HLen.out; omega
    go_wp2
    go_ret
    refine ⟨ret_str ?_, hb.trans (hb2.mono (by simp))⟩
    rw [HD.out, ← HN.out]
    exact bs_append [45] _
  · have hx2 : decide (x.sign < 0) = false := by
      rcases Int.lt_trichotomy x 0 with h | h | h
      · omega
      · rw [h]; decide
      · rw [sign_pos h]; decide
    have HD := Lib.hid (show decL x = decN x.natAbs by unfold decL; rw [if_neg hx])
    go_enter Tryd.func23, Tryd.ntmps23
    go_wp2_with (fail)
    refine (r4digits_any A c ds S _ hs1 hn (by omega) hc).mono ?_
    rintro e w2 ⟨rfl, hb2⟩
    go_wp2
    go_ret
    refine ⟨ret_str ?_, hb.trans (hb2.mono (by simp))⟩
    rw [HD.out, HN.out]
theorem r4format_yes (A : Option Addr) (c : Nat) (la : List Int) (S : Nat → Prop) (w : World) (ha : SlR w S .u64 A la) (hu : Us la) (l1 : 1 ≤ la.length) (l8 : la.length ≤ 8) :
    Calls Tryd.prog 11 #[.slice A la.length c] w (GivesStr w (decL (sv la))) := by
  go_enter Tryd.func11, Tryd.ntmps11
  go_wp2_with (fail)
  refine (r3is_yes _ _ _ _ l1 l8).mono ?_
  rintro e w' ⟨rfl, hw1⟩
  obtain rfl := hw1.symm
  go_wp2_with (fail)
  refine (r3value_any A c la (fun _ => True) S _ ha hu (by omega) (fun _ _ => trivial)).mono ?_
  rintro e w2 ⟨v, rfl, hv, hb⟩
  go_wp2_with (fail)
  refine (r4number_any v (sv la) _ _ _ hv (by omega)).mono ?_
  rintro e w3 ⟨rfl, hb3⟩
  go_wp2
  go_ret
  exact ⟨rfl, hb.trans (hb3.mono hb.size)⟩
theorem r4format_no (A : Option Addr) (n c : Nat) (w : World) (h : n < 1 ∨ 8 < n) :
    Calls Tryd.prog 11 #[.slice A n c] w (GivesStr w []) := by
  go_enter Tryd.func11, Tryd.ntmps11
  go_wp2_with (fail)
  refine (r3is_no _ _ _ _ (by omega)).mono ?_
  rintro e w' ⟨rfl, hw1⟩
  obtain rfl := hw1.symm
  go_wp2
  go_ret
  exact ⟨rfl, Below.refl _ _⟩
end Go.Proofs.YtpdmpmlieligoaaDoor
