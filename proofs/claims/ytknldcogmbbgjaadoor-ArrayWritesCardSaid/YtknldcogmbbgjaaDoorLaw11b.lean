/-
  Layer 11: two tapes and a list of one's own; ArrayWrites, ArrayEvents, ArrayIsOblivious.
-/
import Derived.Test.YtknldcogmbbgjaaDoorLaw11
namespace Go.Proofs.YtknldcogmbbgjaaDoor
open Go.RowKit Go.Maps
set_option maxRecDepth 100000
set_option linter.unusedVariables false
set_option linter.unusedSimpArgs false

/-- Two tapes, or none, and a list of one's own, each in blocks of its own, from B on, below C. -/
structure StX (B C : Nat) (w : World) (t : Option Addr) (lt : List Ev) (u : Option Addr) (lu : List Ev) (v : Value) (ys : List Int) (T U : Nat → Prop) (base : Nat) : Prop where
  bc : B ≤ C
  cw : C ≤ w.heap.size
  one : TapeO w T (.pointer t) lt
  two : TapeO w U (.pointer u) lu
  row : OwnK w base 23 .u64 v ys
  inT : ∀ g, T g → B ≤ g ∧ g < C ∧ ¬ U g
  inU : ∀ g, U g → B ≤ g ∧ g < C
  inV : ∀ g, v.ownBlock = some g → B ≤ g ∧ g < C ∧ ¬ T g ∧ ¬ U g
def St (B C : Nat) (w : World) (t : Option Addr) (lt : List Ev) (u : Option Addr) (lu : List Ev) (v : Value) (ys : List Int) : Prop := ∃ T U base, StX B C w t lt u lu v ys T U base
theorem St.swap {B C : Nat} {w : World} {t u : Option Addr} {lt lu : List Ev} {v : Value} {ys : List Int} (h : St B C w t lt u lu v ys) : St B C w u lu t lt v ys := by
  obtain ⟨T, U, base, h⟩ := h
  exact ⟨U, T, base, h.bc, h.cw, h.two, h.one, h.row, fun g hg => ⟨(h.inU g hg).1, (h.inU g hg).2, fun ht => (h.inT g ht).2.2 hg⟩, fun g hg => ⟨(h.inT g hg).1, (h.inT g hg).2.1⟩, fun g hg => ⟨(h.inV g hg).1, (h.inV g hg).2.1, (h.inV g hg).2.2.2, (h.inV g hg).2.2.1⟩⟩
theorem St.next {B C : Nat} {w w' : World} {t u : Option Addr} {lt lu : List Ev} {v : Value} {ys : List Int} (h : St B C w t lt u lu v ys) (hb : Below w.heap.size w w') : St B C w' t lt u lu v ys := by
  obtain ⟨T, U, base, h⟩ := h
  exact ⟨T, U, base, h.bc, Nat.le_trans h.cw hb.size, h.one.next hb, h.two.next hb, h.row.keep_ fun g hg => hb.block g (h.row.lt_ g hg).2, h.inT, h.inU, h.inV⟩
/-- Behind a call that has noted on the first tape, and may have written where S admits. -/
theorem St.call {B C : Nat} {w : World} {t u : Option Addr} {lt lu lt' : List Ev} {v : Value} {ys : List Int} (h : St B C w t lt u lu v ys) {f : Nat} {args : Array Value} {R : Ending → World → Prop} (S : Nat → Prop) (hS : ∀ g, S g → C ≤ g)
    (hc : ∀ T : Nat → Prop, TapeO w T (.pointer t) lt → (∀ g, T g → B ≤ g ∧ g < C ∧ v.ownBlock ≠ some g) → Calls Tryd.prog f args w fun e w' => R e w' ∧ TapeO w' (fun g => T g ∨ w.heap.size ≤ g) (.pointer t) lt' ∧ Moved (fun g => T g ∨ S g) w w') :
    Calls Tryd.prog f args w fun e w' => R e w' ∧ St B w'.heap.size w' t lt' u lu v ys ∧ Moved (fun g => B ≤ g) w w' := by
  obtain ⟨T, U, base, h⟩ := h
  refine (hc T h.one fun g hg => ⟨(h.inT g hg).1, (h.inT g hg).2.1, fun e => (h.inV g e).2.2.1 hg⟩).mono ?_
  rintro e w' ⟨hr, ht, hm⟩
  have hbc := h.bc
  have hcw := h.cw
  have hsz := hm.size
  refine ⟨hr, ⟨fun g => (T g ∨ w.heap.size ≤ g) ∧ g < w'.heap.size, U, base, by omega, Nat.le_refl _, ht.now, h.two.keep fun b hb hlt => hm.block b hlt fun e => ?_, h.row.keep_ fun g hg => hm.block g (h.row.lt_ g hg).2 fun e => ?_, fun g hg => ?_, fun g hg => ?_, fun g hg => ?_⟩, hm.imp fun g hg => ?_⟩
  · rcases e with e | e
    · exact (h.inT b e).2.2 hb
    · have := hS b e; have := (h.inU b hb).2; omega
  · rcases e with e | e
    · exact (h.inV g hg).2.2.1 e
    · have := hS g e; have := (h.inV g hg).2.1; omega
  · rcases hg with ⟨hg | hg, hlt⟩
    · exact ⟨(h.inT g hg).1, hlt, (h.inT g hg).2.2⟩
    · exact ⟨by omega, hlt, fun hu => by have := (h.inU g hu).2; omega⟩
  · have := h.inU g hg; exact ⟨this.1, by omega⟩
  · obtain ⟨k1, k2, k3, k4⟩ := h.inV g hg
    exact ⟨k1, by omega, fun e => by rcases e with ⟨e | e, _⟩; exact k3 e; omega, k4⟩
  · rcases hg with hg | hg
    · exact (h.inT g hg).1
    · have := hS g hg; omega
/-- Behind a call that has noted on the first tape, and has written the list. -/
theorem St.write {B C : Nat} {w : World} {t u : Option Addr} {lt lu lt' : List Ev} {v : Value} {ys zs : List Int} (h : St B C w t lt u lu v ys) {f : Nat} {args : Array Value} {R : Ending → World → Prop}
    (hc : ∀ (T : Nat → Prop) (base : Nat), TapeO w T (.pointer t) lt → OwnK w base 23 .u64 v ys → (∀ g, T g → B ≤ g) → (∀ g, v.ownBlock = some g → ¬ T g ∧ B ≤ g) → Calls Tryd.prog f args w fun e w' => R e w' ∧ OwnK w' base 23 .u64 v zs ∧ TapeO w' (fun g => T g ∨ w.heap.size ≤ g) (.pointer t) lt' ∧ Moved (fun g => T g ∨ v.ownBlock = some g) w w') :
    Calls Tryd.prog f args w fun e w' => R e w' ∧ St B w'.heap.size w' t lt' u lu v zs ∧ Moved (fun g => B ≤ g) w w' := by
  obtain ⟨T, U, base, h⟩ := h
  refine (hc T base h.one h.row (fun g hg => (h.inT g hg).1) fun g hg => ⟨(h.inV g hg).2.2.1, (h.inV g hg).1⟩).mono ?_
  rintro e w' ⟨hr, hrow, ht, hm⟩
  have hbc := h.bc
  have hcw := h.cw
  have hsz := hm.size
  refine ⟨hr, ⟨fun g => (T g ∨ w.heap.size ≤ g) ∧ g < w'.heap.size, U, base, by omega, Nat.le_refl _, ht.now, h.two.keep fun b hb hlt => hm.block b hlt fun e => ?_, hrow, fun g hg => ?_, fun g hg => ?_, fun g hg => ?_⟩, hm.imp fun g hg => ?_⟩
  · rcases e with e | e
    · exact (h.inT b e).2.2 hb
    · exact (h.inV b e).2.2.2 hb
  · rcases hg with ⟨hg | hg, hlt⟩
    · exact ⟨(h.inT g hg).1, hlt, (h.inT g hg).2.2⟩
    · exact ⟨by omega, hlt, fun hu => by have := (h.inU g hu).2; omega⟩
  · have := h.inU g hg; exact ⟨this.1, by omega⟩
  · obtain ⟨k1, k2, k3, k4⟩ := h.inV g hg
    exact ⟨k1, by omega, fun e => by rcases e with ⟨e | e, _⟩; exact k3 e; omega, k4⟩
  · rcases hg with hg | hg
    · exact (h.inT g hg).1
    · exact (h.inV g hg).1
theorem St.lenT {B C : Nat} {w : World} {t u : Option Addr} {lt lu : List Ev} {v : Value} {ys : List Int} (h : St B C w t lt u lu v ys) : ∃ T, TapeO w T (.pointer t) lt := by obtain ⟨T, U, base, h⟩ := h; exact ⟨T, h.one⟩
theorem St.two_ {B C : Nat} {w : World} {t u : Option Addr} {lt lu : List Ev} {v : Value} {ys : List Int} (h : St B C w t lt u lu v ys) : ∃ T U, TapeO w T (.pointer t) lt ∧ TapeO w U (.pointer u) lu := by obtain ⟨T, U, base, h⟩ := h; exact ⟨T, U, h.one, h.two⟩
theorem St.row_ {B C : Nat} {w : World} {t u : Option Addr} {lt lu : List Ev} {v : Value} {ys : List Int} (h : St B C w t lt u lu v ys) : ∃ base, OwnK w base 23 .u64 v ys := by obtain ⟨T, U, base, h⟩ := h; exact ⟨base, h.row⟩
theorem moved_below {w0 w w' : World} (hb : Below w0.heap.size w0 w) (h : Moved (fun g => w0.heap.size ≤ g) w w') : Below w0.heap.size w0 w' := h.below hb (fun _ h => h) hb.size
/-- Read of the list, on the first tape. -/
theorem arrRead_m {C : Nat} {w0 w : World} {t u : Option Addr} {lt lu : List Ev} {A : Option Addr} {n c : Nat} {ys : List Int} (i : Int) (hw0 : Wts w0) (h : St w0.heap.size C w t lt u lu (.slice A n c) ys) (hb : Below w0.heap.size w0 w) (hl : lt.length ≤ 100000) (hn2 : n ≤ 1000) (hi : U i) (hU : Us ys) :
    Calls Tryd.prog 11 #[.pointer t, .slice A n c, .int .u64 i] w fun e w' => e = .returned (.int .u64 (rdL ys i)) ∧ St w0.heap.size w'.heap.size w' t (addT (.pointer t) lt (evR 1 n)) u lu (.slice A n c) ys ∧ Below w0.heap.size w0 w' := by
  obtain ⟨base, hrow⟩ := h.row_
  obtain ⟨hn, hsl⟩ := own_cells hrow
  refine (h.call (lt' := addT (.pointer t) lt (evR 1 n)) (R := fun e _ => e = .returned (.int .u64 (rdL ys i))) (fun _ => False) (fun _ h => h.elim) fun T ht hT => ?_).mono ?_
  · refine (arrRead_c t lt T _ A n c ys i _ w (fun W hm => hw0.below (hm.below hb (fun g hg => (hT g hg).1) hb.size)) ht hl hsl (fun g hg ht => (hT g ht).2.2 hg) hn hn2 hU hi rfl).mono ?_
    rintro e w' ⟨h1, h2, h3⟩
    exact ⟨h1, h2, h3.imp fun g hg => .inl hg⟩
  · rintro e w' ⟨h1, h2, h3⟩
    exact ⟨h1, h2, moved_below hb h3⟩
/-- Read of a list that lay before, on the first tape. -/
theorem arrRead_l {C : Nat} {w0 w : World} {t u : Option Addr} {lt lu : List Ev} {A : Option Addr} {n c : Nat} {ys : List Int} (i : Int) (hw0 : Wts w0) (h : St w0.heap.size C w t lt u lu (.slice A n c) ys) (hb : Below w0.heap.size w0 w) (hl : lt.length ≤ 100000) (hn2 : n ≤ 1000) (hi : U i) {A2 : Option Addr} {n2 c2 : Nat} {xs : List Int} (hxs : SlR w (fun g => g < w0.heap.size) .u64 A2 xs) (hx : n2 = xs.length) (hx2 : n2 ≤ 1000) (hU : Us xs) :
    Calls Tryd.prog 11 #[.pointer t, .slice A2 n2 c2, .int .u64 i] w fun e w' => e = .returned (.int .u64 (rdL xs i)) ∧ St w0.heap.size w'.heap.size w' t (addT (.pointer t) lt (evR 1 n2)) u lu (.slice A n c) ys ∧ Below w0.heap.size w0 w' := by
  refine (h.call (lt' := addT (.pointer t) lt (evR 1 n2)) (R := fun e _ => e = .returned (.int .u64 (rdL xs i))) (fun _ => False) (fun _ h => h.elim) fun T ht hT => ?_).mono ?_
  · refine (arrRead_c t lt T _ A2 n2 c2 xs i _ w (fun W hm => hw0.below (hm.below hb (fun g hg => (hT g hg).1) hb.size)) ht hl hxs (fun g hg ht => by have := (hT g ht).1; omega) hx hx2 hU hi rfl).mono ?_
    rintro e w' ⟨h1, h2, h3⟩
    exact ⟨h1, h2, h3.imp fun g hg => .inl hg⟩
  · rintro e w' ⟨h1, h2, h3⟩
    exact ⟨h1, h2, moved_below hb h3⟩
/-- Count of the list, on the first tape. -/
theorem arrCount_m {C : Nat} {w0 w : World} {t u : Option Addr} {lt lu : List Ev} {A : Option Addr} {n c : Nat} {ys : List Int} (hw0 : Wts w0) (h : St w0.heap.size C w t lt u lu (.slice A n c) ys) (hb : Below w0.heap.size w0 w) (hl : lt.length ≤ 100000) (hn2 : n ≤ 1000) (hU : Us ys) :
    Calls Tryd.prog 16 #[.pointer t, .slice A n c] w fun e w' => e = .returned (.int .u64 ((cntO ys : Int))) ∧ St w0.heap.size w'.heap.size w' t (addT (.pointer t) lt (evR 1 n)) u lu (.slice A n c) ys ∧ Below w0.heap.size w0 w' := by
  obtain ⟨base, hrow⟩ := h.row_
  obtain ⟨hn, hsl⟩ := own_cells hrow
  refine (h.call (lt' := addT (.pointer t) lt (evR 1 n)) (R := fun e _ => e = .returned (.int .u64 ((cntO ys : Int)))) (fun _ => False) (fun _ h => h.elim) fun T ht hT => ?_).mono ?_
  · refine (arrCount_c t lt T _ A n c ys _ w (fun W hm => hw0.below (hm.below hb (fun g hg => (hT g hg).1) hb.size)) ht hl hsl (fun g hg ht => (hT g ht).2.2 hg) hn hn2 hU rfl).mono ?_
    rintro e w' ⟨h1, h2, h3⟩
    exact ⟨h1, h2, h3.imp fun g hg => .inl hg⟩
  · rintro e w' ⟨h1, h2, h3⟩
    exact ⟨h1, h2, moved_below hb h3⟩
/-- Count of a list that lay before, on the first tape. -/
theorem arrCount_l {C : Nat} {w0 w : World} {t u : Option Addr} {lt lu : List Ev} {A : Option Addr} {n c : Nat} {ys : List Int} (hw0 : Wts w0) (h : St w0.heap.size C w t lt u lu (.slice A n c) ys) (hb : Below w0.heap.size w0 w) (hl : lt.length ≤ 100000) (hn2 : n ≤ 1000) {A2 : Option Addr} {n2 c2 : Nat} {xs : List Int} (hxs : SlR w (fun g => g < w0.heap.size) .u64 A2 xs) (hx : n2 = xs.length) (hx2 : n2 ≤ 1000) (hU : Us xs) :
    Calls Tryd.prog 16 #[.pointer t, .slice A2 n2 c2] w fun e w' => e = .returned (.int .u64 ((cntO xs : Int))) ∧ St w0.heap.size w'.heap.size w' t (addT (.pointer t) lt (evR 1 n2)) u lu (.slice A n c) ys ∧ Below w0.heap.size w0 w' := by
  refine (h.call (lt' := addT (.pointer t) lt (evR 1 n2)) (R := fun e _ => e = .returned (.int .u64 ((cntO xs : Int)))) (fun _ => False) (fun _ h => h.elim) fun T ht hT => ?_).mono ?_
  · refine (arrCount_c t lt T _ A2 n2 c2 xs _ w (fun W hm => hw0.below (hm.below hb (fun g hg => (hT g hg).1) hb.size)) ht hl hxs (fun g hg ht => by have := (hT g ht).1; omega) hx hx2 hU rfl).mono ?_
    rintro e w' ⟨h1, h2, h3⟩
    exact ⟨h1, h2, h3.imp fun g hg => .inl hg⟩
  · rintro e w' ⟨h1, h2, h3⟩
    exact ⟨h1, h2, moved_below hb h3⟩
/-- First of the list, on the first tape. -/
theorem arrFirst_m {C : Nat} {w0 w : World} {t u : Option Addr} {lt lu : List Ev} {A : Option Addr} {n c : Nat} {ys : List Int} (hw0 : Wts w0) (h : St w0.heap.size C w t lt u lu (.slice A n c) ys) (hb : Below w0.heap.size w0 w) (hl : lt.length ≤ 100000) (hn2 : n ≤ 1000) (hU : Us ys) :
    Calls Tryd.prog 17 #[.pointer t, .slice A n c] w fun e w' => e = .returned (.int .u64 ((fstO ys : Int))) ∧ St w0.heap.size w'.heap.size w' t (addT (.pointer t) lt (evR 1 n)) u lu (.slice A n c) ys ∧ Below w0.heap.size w0 w' := by
  obtain ⟨base, hrow⟩ := h.row_
  obtain ⟨hn, hsl⟩ := own_cells hrow
  refine (h.call (lt' := addT (.pointer t) lt (evR 1 n)) (R := fun e _ => e = .returned (.int .u64 ((fstO ys : Int)))) (fun _ => False) (fun _ h => h.elim) fun T ht hT => ?_).mono ?_
  · refine (arrFirst_c t lt T _ A n c ys _ w (fun W hm => hw0.below (hm.below hb (fun g hg => (hT g hg).1) hb.size)) ht hl hsl (fun g hg ht => (hT g ht).2.2 hg) hn hn2 hU rfl).mono ?_
    rintro e w' ⟨h1, h2, h3⟩
    exact ⟨h1, h2, h3.imp fun g hg => .inl hg⟩
  · rintro e w' ⟨h1, h2, h3⟩
    exact ⟨h1, h2, moved_below hb h3⟩
/-- First of a list that lay before, on the first tape. -/
theorem arrFirst_l {C : Nat} {w0 w : World} {t u : Option Addr} {lt lu : List Ev} {A : Option Addr} {n c : Nat} {ys : List Int} (hw0 : Wts w0) (h : St w0.heap.size C w t lt u lu (.slice A n c) ys) (hb : Below w0.heap.size w0 w) (hl : lt.length ≤ 100000) (hn2 : n ≤ 1000) {A2 : Option Addr} {n2 c2 : Nat} {xs : List Int} (hxs : SlR w (fun g => g < w0.heap.size) .u64 A2 xs) (hx : n2 = xs.length) (hx2 : n2 ≤ 1000) (hU : Us xs) :
    Calls Tryd.prog 17 #[.pointer t, .slice A2 n2 c2] w fun e w' => e = .returned (.int .u64 ((fstO xs : Int))) ∧ St w0.heap.size w'.heap.size w' t (addT (.pointer t) lt (evR 1 n2)) u lu (.slice A n c) ys ∧ Below w0.heap.size w0 w' := by
  refine (h.call (lt' := addT (.pointer t) lt (evR 1 n2)) (R := fun e _ => e = .returned (.int .u64 ((fstO xs : Int)))) (fun _ => False) (fun _ h => h.elim) fun T ht hT => ?_).mono ?_
  · refine (arrFirst_c t lt T _ A2 n2 c2 xs _ w (fun W hm => hw0.below (hm.below hb (fun g hg => (hT g hg).1) hb.size)) ht hl hxs (fun g hg ht => by have := (hT g ht).1; omega) hx hx2 hU rfl).mono ?_
    rintro e w' ⟨h1, h2, h3⟩
    exact ⟨h1, h2, h3.imp fun g hg => .inl hg⟩
  · rintro e w' ⟨h1, h2, h3⟩
    exact ⟨h1, h2, moved_below hb h3⟩
/-- All of the list, on the first tape. -/
theorem arrAll_m {C : Nat} {w0 w : World} {t u : Option Addr} {lt lu : List Ev} {A : Option Addr} {n c : Nat} {ys : List Int} (hw0 : Wts w0) (h : St w0.heap.size C w t lt u lu (.slice A n c) ys) (hb : Below w0.heap.size w0 w) (hl : lt.length ≤ 100000) (hn2 : n ≤ 1000) (hU : Us ys) :
    Calls Tryd.prog 20 #[.pointer t, .slice A n c] w fun e w' => e = .returned (.int .u64 (andL ys)) ∧ St w0.heap.size w'.heap.size w' t (addT (.pointer t) lt (evR 1 n)) u lu (.slice A n c) ys ∧ Below w0.heap.size w0 w' := by
  obtain ⟨base, hrow⟩ := h.row_
  obtain ⟨hn, hsl⟩ := own_cells hrow
  refine (h.call (lt' := addT (.pointer t) lt (evR 1 n)) (R := fun e _ => e = .returned (.int .u64 (andL ys))) (fun _ => False) (fun _ h => h.elim) fun T ht hT => ?_).mono ?_
  · refine (arrAll_c t lt T _ A n c ys _ w (fun W hm => hw0.below (hm.below hb (fun g hg => (hT g hg).1) hb.size)) ht hl hsl (fun g hg ht => (hT g ht).2.2 hg) hn hn2 hU rfl).mono ?_
    rintro e w' ⟨h1, h2, h3⟩
    exact ⟨h1, h2, h3.imp fun g hg => .inl hg⟩
  · rintro e w' ⟨h1, h2, h3⟩
    exact ⟨h1, h2, moved_below hb h3⟩
/-- All of a list that lay before, on the first tape. -/
theorem arrAll_l {C : Nat} {w0 w : World} {t u : Option Addr} {lt lu : List Ev} {A : Option Addr} {n c : Nat} {ys : List Int} (hw0 : Wts w0) (h : St w0.heap.size C w t lt u lu (.slice A n c) ys) (hb : Below w0.heap.size w0 w) (hl : lt.length ≤ 100000) (hn2 : n ≤ 1000) {A2 : Option Addr} {n2 c2 : Nat} {xs : List Int} (hxs : SlR w (fun g => g < w0.heap.size) .u64 A2 xs) (hx : n2 = xs.length) (hx2 : n2 ≤ 1000) (hU : Us xs) :
    Calls Tryd.prog 20 #[.pointer t, .slice A2 n2 c2] w fun e w' => e = .returned (.int .u64 (andL xs)) ∧ St w0.heap.size w'.heap.size w' t (addT (.pointer t) lt (evR 1 n2)) u lu (.slice A n c) ys ∧ Below w0.heap.size w0 w' := by
  refine (h.call (lt' := addT (.pointer t) lt (evR 1 n2)) (R := fun e _ => e = .returned (.int .u64 (andL xs))) (fun _ => False) (fun _ h => h.elim) fun T ht hT => ?_).mono ?_
  · refine (arrAll_c t lt T _ A2 n2 c2 xs _ w (fun W hm => hw0.below (hm.below hb (fun g hg => (hT g hg).1) hb.size)) ht hl hxs (fun g hg ht => by have := (hT g ht).1; omega) hx hx2 hU rfl).mono ?_
    rintro e w' ⟨h1, h2, h3⟩
    exact ⟨h1, h2, h3.imp fun g hg => .inl hg⟩
  · rintro e w' ⟨h1, h2, h3⟩
    exact ⟨h1, h2, moved_below hb h3⟩
/-- Some of the list, on the first tape. -/
theorem arrSome_m {C : Nat} {w0 w : World} {t u : Option Addr} {lt lu : List Ev} {A : Option Addr} {n c : Nat} {ys : List Int} (hw0 : Wts w0) (h : St w0.heap.size C w t lt u lu (.slice A n c) ys) (hb : Below w0.heap.size w0 w) (hl : lt.length ≤ 100000) (hn2 : n ≤ 1000) (hU : Us ys) :
    Calls Tryd.prog 21 #[.pointer t, .slice A n c] w fun e w' => e = .returned (.int .u64 (orL ys)) ∧ St w0.heap.size w'.heap.size w' t (addT (.pointer t) lt (evR 1 n)) u lu (.slice A n c) ys ∧ Below w0.heap.size w0 w' := by
  obtain ⟨base, hrow⟩ := h.row_
  obtain ⟨hn, hsl⟩ := own_cells hrow
  refine (h.call (lt' := addT (.pointer t) lt (evR 1 n)) (R := fun e _ => e = .returned (.int .u64 (orL ys))) (fun _ => False) (fun _ h => h.elim) fun T ht hT => ?_).mono ?_
  · refine (arrSome_c t lt T _ A n c ys _ w (fun W hm => hw0.below (hm.below hb (fun g hg => (hT g hg).1) hb.size)) ht hl hsl (fun g hg ht => (hT g ht).2.2 hg) hn hn2 hU rfl).mono ?_
    rintro e w' ⟨h1, h2, h3⟩
    exact ⟨h1, h2, h3.imp fun g hg => .inl hg⟩
  · rintro e w' ⟨h1, h2, h3⟩
    exact ⟨h1, h2, moved_below hb h3⟩
/-- Some of a list that lay before, on the first tape. -/
theorem arrSome_l {C : Nat} {w0 w : World} {t u : Option Addr} {lt lu : List Ev} {A : Option Addr} {n c : Nat} {ys : List Int} (hw0 : Wts w0) (h : St w0.heap.size C w t lt u lu (.slice A n c) ys) (hb : Below w0.heap.size w0 w) (hl : lt.length ≤ 100000) (hn2 : n ≤ 1000) {A2 : Option Addr} {n2 c2 : Nat} {xs : List Int} (hxs : SlR w (fun g => g < w0.heap.size) .u64 A2 xs) (hx : n2 = xs.length) (hx2 : n2 ≤ 1000) (hU : Us xs) :
    Calls Tryd.prog 21 #[.pointer t, .slice A2 n2 c2] w fun e w' => e = .returned (.int .u64 (orL xs)) ∧ St w0.heap.size w'.heap.size w' t (addT (.pointer t) lt (evR 1 n2)) u lu (.slice A n c) ys ∧ Below w0.heap.size w0 w' := by
  refine (h.call (lt' := addT (.pointer t) lt (evR 1 n2)) (R := fun e _ => e = .returned (.int .u64 (orL xs))) (fun _ => False) (fun _ h => h.elim) fun T ht hT => ?_).mono ?_
  · refine (arrSome_c t lt T _ A2 n2 c2 xs _ w (fun W hm => hw0.below (hm.below hb (fun g hg => (hT g hg).1) hb.size)) ht hl hxs (fun g hg ht => by have := (hT g ht).1; omega) hx hx2 hU rfl).mono ?_
    rintro e w' ⟨h1, h2, h3⟩
    exact ⟨h1, h2, h3.imp fun g hg => .inl hg⟩
  · rintro e w' ⟨h1, h2, h3⟩
    exact ⟨h1, h2, moved_below hb h3⟩
/-- Write into the list, on the first tape. -/
theorem arrWrite_m {C : Nat} {w0 w : World} {t u : Option Addr} {lt lu : List Ev} {A : Option Addr} {n c : Nat} {ys : List Int} {i x : Int} (hw0 : Wts w0) (h : St w0.heap.size C w t lt u lu (.slice A n c) ys) (hb : Below w0.heap.size w0 w) (hl : lt.length ≤ 100000) (hn2 : n ≤ 1000) (hU : Us ys) (hi : U i) (hx : U x) :
    Calls Tryd.prog 14 #[.pointer t, .slice A n c, .int .u64 i, .int .u64 x] w fun e w' => e = .returned (.tuple #[]) ∧ St w0.heap.size w'.heap.size w' t (addT (.pointer t) lt (evR 2 n)) u lu (.slice A n c) (wrL ys i x) ∧ Below w0.heap.size w0 w' := by
  obtain ⟨base0, hrow0⟩ := h.row_
  obtain ⟨hn, -⟩ := own_cells hrow0
  refine (h.write (lt' := addT (.pointer t) lt (evR 2 n)) (zs := wrL ys i x) (R := fun e _ => e = .returned (.tuple #[])) fun T base ht hrow hT hV => ?_).mono ?_
  · exact arrWrite_c t lt T A n c base ys i x w (fun W hm => hw0.below (hm.below hb (fun g hg => hg.elim (hT g) fun e => (hV g e).2) hb.size)) ht hl hrow (fun g hg => (hV g hg).1) hn hn2 hU hi hx
  · rintro e w' ⟨h1, h2, h3⟩
    exact ⟨h1, h2, moved_below hb h3⟩
/-- Write into another list of one's own, on the first tape. -/
theorem arrWrite_o {C : Nat} {w0 w : World} {t u : Option Addr} {lt lu : List Ev} {v : Value} {ys : List Int} {A : Option Addr} {n c base : Nat} {xs : List Int} {i x : Int} (hw0 : Wts w0) (h : St w0.heap.size C w t lt u lu v ys) (hb : Below w0.heap.size w0 w) (hl : lt.length ≤ 100000) (hn2 : n ≤ 1000) (hrow : OwnK w base 23 .u64 (.slice A n c) xs) (hC : C ≤ base) (hU : Us xs) (hi : U i) (hx : U x) :
    Calls Tryd.prog 14 #[.pointer t, .slice A n c, .int .u64 i, .int .u64 x] w fun e w' => e = .returned (.tuple #[]) ∧ St w0.heap.size w'.heap.size w' t (addT (.pointer t) lt (evR 2 n)) u lu v ys ∧ Below w0.heap.size w0 w' := by
  obtain ⟨hn, -⟩ := own_cells hrow
  have hBC : w0.heap.size ≤ C := by obtain ⟨T, U, base, h⟩ := h; exact h.bc
  refine (h.call (lt' := addT (.pointer t) lt (evR 2 n)) (R := fun e _ => e = .returned (.tuple #[])) (fun g => (Value.slice A n c).ownBlock = some g) (fun g hg => Nat.le_trans hC (hrow.lt_ g hg).1) fun T ht hT => ?_).mono ?_
  · refine (arrWrite_c t lt T A n c base xs i x w (fun W hm => hw0.below (hm.below hb (fun g hg => hg.elim (fun h => (hT g h).1) fun e => ?_) hb.size)) ht hl hrow (fun g hg ht => ?_) hn hn2 hU hi hx).mono ?_
    · have := (hrow.lt_ g e).1; omega
    · have h1 := (hT g ht).2.1; have h2 := (hrow.lt_ g hg).1; omega
    · rintro e w' ⟨h1, _, h2, h3⟩
      exact ⟨h1, h2, h3⟩
  · rintro e w' ⟨h1, h2, h3⟩
    exact ⟨h1, h2, moved_below hb h3⟩
end Go.Proofs.YtknldcogmbbgjaaDoor
