/-
  Contracts of package array, without a tape.
-/
import Derived.Test.YtknldcogmbbgjaaDoorArr11
import Derived.Test.YtknldcogmbbgjaaDoorArrayB
import Derived.Test.YtknldcogmbbgjaaDoorArrayW
namespace Go.Proofs.YtknldcogmbbgjaaDoor
open Go.RowKit Go.Maps
set_option maxRecDepth 100000
set_option linter.unusedVariables false
set_option linter.unusedSimpArgs false

theorem arrRead_n {A : Option Addr} {n c : Nat} {xs : List Int} {i : Int} {r : Int} {S : Nat → Prop} {w : World} (hw : Wts w) (hxs : SlR w S .u64 A xs) (hn : n = xs.length) (hn2 : n ≤ 1000) (hU : Us xs) (hi : U i) (hr : rdL xs i = r) :
    Calls Tryd.prog 11 #[.pointer none, .slice A n c, .int .u64 i] w fun e w' => e = .returned (.int .u64 r) ∧ Below w.heap.size w w' :=
  (arrRead_c none [] (fun _ => False) S A n c xs i r w (fun W hm => hw.below hm.to_below) (.inl ⟨rfl, rfl⟩) (by simp) hxs (fun _ _ h => h) hn hn2 hU hi hr).mono fun e w' ⟨h1, _, h2⟩ => ⟨h1, h2.to_below⟩
theorem arrCount_n {A : Option Addr} {n c : Nat} {xs : List Int} {r : Int} {S : Nat → Prop} {w : World} (hw : Wts w) (hxs : SlR w S .u64 A xs) (hn : n = xs.length) (hn2 : n ≤ 1000) (hU : Us xs) (hr : (cntO xs : Int) = r) :
    Calls Tryd.prog 16 #[.pointer none, .slice A n c] w fun e w' => e = .returned (.int .u64 r) ∧ Below w.heap.size w w' :=
  (arrCount_c none [] (fun _ => False) S A n c xs r w (fun W hm => hw.below hm.to_below) (.inl ⟨rfl, rfl⟩) (by simp) hxs (fun _ _ h => h) hn hn2 hU hr).mono fun e w' ⟨h1, _, h2⟩ => ⟨h1, h2.to_below⟩
theorem arrFirst_n {A : Option Addr} {n c : Nat} {xs : List Int} {r : Int} {S : Nat → Prop} {w : World} (hw : Wts w) (hxs : SlR w S .u64 A xs) (hn : n = xs.length) (hn2 : n ≤ 1000) (hU : Us xs) (hr : (fstO xs : Int) = r) :
    Calls Tryd.prog 17 #[.pointer none, .slice A n c] w fun e w' => e = .returned (.int .u64 r) ∧ Below w.heap.size w w' :=
  (arrFirst_c none [] (fun _ => False) S A n c xs r w (fun W hm => hw.below hm.to_below) (.inl ⟨rfl, rfl⟩) (by simp) hxs (fun _ _ h => h) hn hn2 hU hr).mono fun e w' ⟨h1, _, h2⟩ => ⟨h1, h2.to_below⟩
theorem arrAll_n {A : Option Addr} {n c : Nat} {xs : List Int} {r : Int} {S : Nat → Prop} {w : World} (hw : Wts w) (hxs : SlR w S .u64 A xs) (hn : n = xs.length) (hn2 : n ≤ 1000) (hU : Us xs) (hr : andL xs = r) :
    Calls Tryd.prog 20 #[.pointer none, .slice A n c] w fun e w' => e = .returned (.int .u64 r) ∧ Below w.heap.size w w' :=
  (arrAll_c none [] (fun _ => False) S A n c xs r w (fun W hm => hw.below hm.to_below) (.inl ⟨rfl, rfl⟩) (by simp) hxs (fun _ _ h => h) hn hn2 hU hr).mono fun e w' ⟨h1, _, h2⟩ => ⟨h1, h2.to_below⟩
theorem arrSome_n {A : Option Addr} {n c : Nat} {xs : List Int} {r : Int} {S : Nat → Prop} {w : World} (hw : Wts w) (hxs : SlR w S .u64 A xs) (hn : n = xs.length) (hn2 : n ≤ 1000) (hU : Us xs) (hr : orL xs = r) :
    Calls Tryd.prog 21 #[.pointer none, .slice A n c] w fun e w' => e = .returned (.int .u64 r) ∧ Below w.heap.size w w' :=
  (arrSome_c none [] (fun _ => False) S A n c xs r w (fun W hm => hw.below hm.to_below) (.inl ⟨rfl, rfl⟩) (by simp) hxs (fun _ _ h => h) hn hn2 hU hr).mono fun e w' ⟨h1, _, h2⟩ => ⟨h1, h2.to_below⟩
end Go.Proofs.YtknldcogmbbgjaaDoor
