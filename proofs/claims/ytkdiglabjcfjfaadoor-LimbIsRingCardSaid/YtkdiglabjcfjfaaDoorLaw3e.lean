/-
  The walk of the law LimbIsRing.
-/
import Derived.Test.YtkdiglabjcfjfaaDoorLaw3n
namespace Go.Proofs.YtkdiglabjcfjfaaDoor
open Go.RowKit

theorem ringFn (A : Option Addr) (c n : Nat) (X : Int) (w : World) (hw : Wts w) (ha : ArgN w A c n X) (hX : In X n) (h1 : 1 ≤ n) (h8 : n ≤ 8) :
    Calls Tryd.prog 34 #[.slice A n c] w (GivesN w 8 X) := by
  go_enter Tryd.func34, Tryd.ntmps34
  go_wp2_with (fail)
  refine (limbExtend_n A c n 8 X _ hw ha hX h1 h8 (by decide) (by decide)).mono ?_
  rintro e w1 ⟨A1, c1, rfl, h, hb⟩
  go_wp2
  go_ret
  exact ⟨A1, c1, rfl, h, hb⟩
theorem in2 {x : Int} (h : S x) : In x 2 := by unfold S at h; unfold In; rw [M_vals.1]; omega
theorem in4 {z : Int} (h : -1361129467683753853853498429727072845824 ≤ z ∧ z ≤ 1361129467683753853853498429727072845824) : In z 4 := by unfold In; rw [M_vals.2.1]; omega
theorem in8 {x : Int} (h : -1361129467683753853853498429727072845824 ≤ x ∧ x ≤ 1361129467683753853853498429727072845824) : In x 8 := by
  unfold In
  have : M 8 = M 4 * M 4 := M_add 4 4
  rw [this, M_vals.2.1]; omega
set_option maxHeartbeats 4000000 in
theorem law_limbIsRing (x y z : Int) (w : World) (hw : Wts w) (hx : S x) (hy : S y) (hz : S z) :
    Calls Tryd.prog 9 #[.int .i64 x, .int .i64 y, .int .i64 z] w fun e w' => e = .returned (.bool true) ∧ Below w.heap.size w w' := by
  have hmf : ∀ (fn : Fn) (first cap : Array Value) (w : World), (Instr.makeFunc fn first cap).run Tryd.prog w = .ok (.func fn first cap) w := fun _ _ _ _ => rfl
  have hb1 : Below w.heap.size w w := Below.refl _ _
  have pxy := prod2 hx hy
  have pyz := prod2 hy hz
  have pxz := prod2 hx hz
  have iX := in2 hx
  have iY := in2 hy
  have iZ := in2 hz
  have iXY : In (x * y) 4 := in4 (by omega)
  have iYX : In (y * x) 4 := by rw [Int.mul_comm]; exact iXY
  have iYZ : In (y * z) 4 := in4 (by omega)
  have iXZ : In (x * z) 4 := in4 (by omega)
  have iS : In (x + y) 2 := by unfold S at hx hy; unfold In; rw [M_vals.1]; omega
  have iL : In ((x + y) * z) 4 := by rw [Int.add_mul]; exact in4 (by omega)
  have iR : In (x * z + y * z) 4 := in4 (by omega)
  have iA : In (x * y + y * z) 4 := in4 (by omega)
  have iB : In (y * z + x * z) 4 := in4 (by omega)
  have iX8 : In x 8 := in8 (by unfold S at hx; omega)
  have iY8 : In y 8 := in8 (by unfold S at hy; omega)
  clear pxy pyz pxz
  go_enter Tryd.func9, Tryd.ntmps9
  go_wp2_with (fail)
  refine (limbFrom_n x 2 _ (hw.below hb1) hx (by decide) (by decide)).mono ?_
  rintro e w2 ⟨A2, c2, rfl, ga, hb2⟩
  have hb2' : Below w.heap.size w w2 := hb1.trans (hb2.mono hb1.size)
  go_wp2_with (fail)
  refine (limbFrom_n y 2 _ (hw.below hb2') hy (by decide) (by decide)).mono ?_
  rintro e w3 ⟨A3, c3, rfl, gb, hb3⟩
  have hb3' : Below w.heap.size w w3 := hb2'.trans (hb3.mono hb2'.size)
  replace ga := ga.next hb3
  go_wp2_with (fail)
  refine (limbFrom_n z 2 _ (hw.below hb3') hz (by decide) (by decide)).mono ?_
  rintro e w4 ⟨A4, c4, rfl, gc, hb4⟩
  have hb4' : Below w.heap.size w w4 := hb3'.trans (hb4.mono hb3'.size)
  replace ga := ga.next hb4
  replace gb := gb.next hb4
  go_wp2_with (fail)
  refine (limbMul_n _ _ _ _ 2 2 4 _ _ _ (hw.below hb4') ga gb iX iY (by decide) (by decide) (by decide) (by decide)).mono ?_
  rintro e w5 ⟨A5, c5, rfl, gab, hb5⟩
  have hb5' : Below w.heap.size w w5 := hb4'.trans (hb5.mono hb4'.size)
  replace ga := ga.next hb5
  replace gb := gb.next hb5
  replace gc := gc.next hb5
  go_wp2_with (fail)
  refine (limbMul_n _ _ _ _ 2 2 4 _ _ _ (hw.below hb5') gb gc iY iZ (by decide) (by decide) (by decide) (by decide)).mono ?_
  rintro e w6 ⟨A6, c6, rfl, gbc, hb6⟩
  have hb6' : Below w.heap.size w w6 := hb5'.trans (hb6.mono hb5'.size)
  replace ga := ga.next hb6
  replace gb := gb.next hb6
  replace gc := gc.next hb6
  replace gab := gab.next hb6
  go_wp2_with (fail)
  refine (limbMul_n _ _ _ _ 2 2 4 _ _ _ (hw.below hb6') ga gc iX iZ (by decide) (by decide) (by decide) (by decide)).mono ?_
  rintro e w7 ⟨A7, c7, rfl, gac, hb7⟩
  have hb7' : Below w.heap.size w w7 := hb6'.trans (hb7.mono hb6'.size)
  replace ga := ga.next hb7
  replace gb := gb.next hb7
  replace gc := gc.next hb7
  replace gab := gab.next hb7
  replace gbc := gbc.next hb7
  go_wp2_with (fail)
  refine (limbMul_n _ _ _ _ 2 2 4 _ _ _ (hw.below hb7') gb ga iY iX (by decide) (by decide) (by decide) (by decide)).mono ?_
  rintro e w8 ⟨A8, c8, rfl, gba, hb8⟩
  have hb8' : Below w.heap.size w w8 := hb7'.trans (hb8.mono hb7'.size)
  replace ga := ga.next hb8
  replace gb := gb.next hb8
  replace gc := gc.next hb8
  replace gab := gab.next hb8
  replace gbc := gbc.next hb8
  replace gac := gac.next hb8
  go_wp2_with (fail)
  refine (same_n _ _ _ _ 4 _ _ _ gab gba (by decide) (Int.mul_comm x y)).mono ?_
  rintro e w' ⟨rfl, m9, rfl⟩
  have hb9' := below_drewN' hb8' m9
  replace ga := ga.drewN_ m9
  replace gb := gb.drewN_ m9
  replace gc := gc.drewN_ m9
  replace gab := gab.drewN_ m9
  replace gbc := gbc.drewN_ m9
  replace gac := gac.drewN_ m9
  replace gba := gba.drewN_ m9
  go_wp2_with (fail)
  refine (ringFn _ _ 2 _ _ (hw.below hb9') ga iX (by decide) (by decide)).mono ?_
  rintro e w10 ⟨A10, c10, rfl, gwa, hb10⟩
  have hb10' : Below w.heap.size w w10 := hb9'.trans (hb10.mono hb9'.size)
  replace ga := ga.next hb10
  replace gb := gb.next hb10
  replace gc := gc.next hb10
  replace gab := gab.next hb10
  replace gbc := gbc.next hb10
  replace gac := gac.next hb10
  replace gba := gba.next hb10
  go_wp2_with (fail)
  refine (ringFn _ _ 2 _ _ (hw.below hb10') gb iY (by decide) (by decide)).mono ?_
  rintro e w11 ⟨A11, c11, rfl, gwb, hb11⟩
  have hb11' : Below w.heap.size w w11 := hb10'.trans (hb11.mono hb10'.size)
  replace ga := ga.next hb11
  replace gb := gb.next hb11
  replace gc := gc.next hb11
  replace gab := gab.next hb11
  replace gbc := gbc.next hb11
  replace gac := gac.next hb11
  replace gba := gba.next hb11
  replace gwa := gwa.next hb11
  go_wp2_with (fail)
  refine (limbAdd_n _ _ _ _ 8 _ _ _ (hw.below hb11') gwa gwb iX8 iY8 (by decide) (by decide)).mono ?_
  rintro e w12 ⟨A12, c12, rfl, gs1, hb12⟩
  have hb12' : Below w.heap.size w w12 := hb11'.trans (hb12.mono hb11'.size)
  replace ga := ga.next hb12
  replace gb := gb.next hb12
  replace gc := gc.next hb12
  replace gab := gab.next hb12
  replace gbc := gbc.next hb12
  replace gac := gac.next hb12
  replace gba := gba.next hb12
  replace gwa := gwa.next hb12
  replace gwb := gwb.next hb12
  go_wp2_with (fail)
  refine (ringFn _ _ 2 _ _ (hw.below hb12') gb iY (by decide) (by decide)).mono ?_
  rintro e w13 ⟨A13, c13, rfl, gwb2, hb13⟩
  have hb13' : Below w.heap.size w w13 := hb12'.trans (hb13.mono hb12'.size)
  replace ga := ga.next hb13
  replace gb := gb.next hb13
  replace gc := gc.next hb13
  replace gab := gab.next hb13
  replace gbc := gbc.next hb13
  replace gac := gac.next hb13
  replace gba := gba.next hb13
  replace gwa := gwa.next hb13
  replace gwb := gwb.next hb13
  replace gs1 := gs1.next hb13
  go_wp2_with (fail)
  refine (ringFn _ _ 2 _ _ (hw.below hb13') ga iX (by decide) (by decide)).mono ?_
  rintro e w14 ⟨A14, c14, rfl, gwa2, hb14⟩
  have hb14' : Below w.heap.size w w14 := hb13'.trans (hb14.mono hb13'.size)
  replace ga := ga.next hb14
  replace gb := gb.next hb14
  replace gc := gc.next hb14
  replace gab := gab.next hb14
  replace gbc := gbc.next hb14
  replace gac := gac.next hb14
  replace gba := gba.next hb14
  replace gwa := gwa.next hb14
  replace gwb := gwb.next hb14
  replace gs1 := gs1.next hb14
  replace gwb2 := gwb2.next hb14
  go_wp2_with (fail)
  refine (limbAdd_n _ _ _ _ 8 _ _ _ (hw.below hb14') gwb2 gwa2 iY8 iX8 (by decide) (by decide)).mono ?_
  rintro e w15 ⟨A15, c15, rfl, gs2, hb15⟩
  have hb15' : Below w.heap.size w w15 := hb14'.trans (hb15.mono hb14'.size)
  replace ga := ga.next hb15
  replace gb := gb.next hb15
  replace gc := gc.next hb15
  replace gab := gab.next hb15
  replace gbc := gbc.next hb15
  replace gac := gac.next hb15
  replace gba := gba.next hb15
  replace gwa := gwa.next hb15
  replace gwb := gwb.next hb15
  replace gs1 := gs1.next hb15
  replace gwb2 := gwb2.next hb15
  replace gwa2 := gwa2.next hb15
  go_wp2_with (fail)
  refine (same_n _ _ _ _ 8 _ _ _ gs1 gs2 (by decide) (Int.add_comm x y)).mono ?_
  rintro e w' ⟨rfl, m16, rfl⟩
  have hb16' := below_drewN' hb15' m16
  replace ga := ga.drewN_ m16
  replace gb := gb.drewN_ m16
  replace gc := gc.drewN_ m16
  replace gab := gab.drewN_ m16
  replace gbc := gbc.drewN_ m16
  replace gac := gac.drewN_ m16
  replace gba := gba.drewN_ m16
  replace gwa := gwa.drewN_ m16
  replace gwb := gwb.drewN_ m16
  replace gs1 := gs1.drewN_ m16
  replace gwb2 := gwb2.drewN_ m16
  replace gwa2 := gwa2.drewN_ m16
  replace gs2 := gs2.drewN_ m16
  go_wp2_with (fail)
  refine (limbAdd_n _ _ _ _ 2 _ _ _ (hw.below hb16') ga gb iX iY (by decide) (by decide)).mono ?_
  rintro e w17 ⟨A17, c17, rfl, gs, hb17⟩
  have hb17' : Below w.heap.size w w17 := hb16'.trans (hb17.mono hb16'.size)
  replace ga := ga.next hb17
  replace gb := gb.next hb17
  replace gc := gc.next hb17
  replace gab := gab.next hb17
  replace gbc := gbc.next hb17
  replace gac := gac.next hb17
  replace gba := gba.next hb17
  replace gwa := gwa.next hb17
  replace gwb := gwb.next hb17
  replace gs1 := gs1.next hb17
  replace gwb2 := gwb2.next hb17
  replace gwa2 := gwa2.next hb17
  replace gs2 := gs2.next hb17
  go_wp2_with (fail)
  refine (limbMul_n _ _ _ _ 2 2 4 _ _ _ (hw.below hb17') gs gc iS iZ (by decide) (by decide) (by decide) (by decide)).mono ?_
  rintro e w18 ⟨A18, c18, rfl, gl, hb18⟩
  have hb18' : Below w.heap.size w w18 := hb17'.trans (hb18.mono hb17'.size)
  replace ga := ga.next hb18
  replace gb := gb.next hb18
  replace gc := gc.next hb18
  replace gab := gab.next hb18
  replace gbc := gbc.next hb18
  replace gac := gac.next hb18
  replace gba := gba.next hb18
  replace gwa := gwa.next hb18
  replace gwb := gwb.next hb18
  replace gs1 := gs1.next hb18
  replace gwb2 := gwb2.next hb18
  replace gwa2 := gwa2.next hb18
  replace gs2 := gs2.next hb18
  replace gs := gs.next hb18
  go_wp2_with (fail)
  refine (limbAdd_n _ _ _ _ 4 _ _ _ (hw.below hb18') gac gbc iXZ iYZ (by decide) (by decide)).mono ?_
  rintro e w19 ⟨A19, c19, rfl, gr, hb19⟩
  have hb19' : Below w.heap.size w w19 := hb18'.trans (hb19.mono hb18'.size)
  replace ga := ga.next hb19
  replace gb := gb.next hb19
  replace gc := gc.next hb19
  replace gab := gab.next hb19
  replace gbc := gbc.next hb19
  replace gac := gac.next hb19
  replace gba := gba.next hb19
  replace gwa := gwa.next hb19
  replace gwb := gwb.next hb19
  replace gs1 := gs1.next hb19
  replace gwb2 := gwb2.next hb19
  replace gwa2 := gwa2.next hb19
  replace gs2 := gs2.next hb19
  replace gs := gs.next hb19
  replace gl := gl.next hb19
  go_wp2_with (fail)
  refine (alive3 _ (hw.below hb19')).mono ?_
  rintro e w20 ⟨rfl, hb20⟩
  have hb20' : Below w.heap.size w w20 := hb19'.trans (hb20.mono hb19'.size)
  replace ga := ga.next hb20
  replace gb := gb.next hb20
  replace gc := gc.next hb20
  replace gab := gab.next hb20
  replace gbc := gbc.next hb20
  replace gac := gac.next hb20
  replace gba := gba.next hb20
  replace gwa := gwa.next hb20
  replace gwb := gwb.next hb20
  replace gs1 := gs1.next hb20
  replace gwb2 := gwb2.next hb20
  replace gwa2 := gwa2.next hb20
  replace gs2 := gs2.next hb20
  replace gs := gs.next hb20
  replace gl := gl.next hb20
  replace gr := gr.next hb20
  go_wp2_with (fail)
  refine (ringFn _ _ 4 _ _ (hw.below hb20') gl iL (by decide) (by decide)).mono ?_
  rintro e w21 ⟨A21, c21, rfl, gwl, hb21⟩
  have hb21' : Below w.heap.size w w21 := hb20'.trans (hb21.mono hb20'.size)
  replace ga := ga.next hb21
  replace gb := gb.next hb21
  replace gc := gc.next hb21
  replace gab := gab.next hb21
  replace gbc := gbc.next hb21
  replace gac := gac.next hb21
  replace gba := gba.next hb21
  replace gwa := gwa.next hb21
  replace gwb := gwb.next hb21
  replace gs1 := gs1.next hb21
  replace gwb2 := gwb2.next hb21
  replace gwa2 := gwa2.next hb21
  replace gs2 := gs2.next hb21
  replace gs := gs.next hb21
  replace gl := gl.next hb21
  replace gr := gr.next hb21
  go_wp2_with (fail)
  refine (ringFn _ _ 4 _ _ (hw.below hb21') gr iR (by decide) (by decide)).mono ?_
  rintro e w22 ⟨A22, c22, rfl, gwr, hb22⟩
  have hb22' : Below w.heap.size w w22 := hb21'.trans (hb22.mono hb21'.size)
  replace ga := ga.next hb22
  replace gb := gb.next hb22
  replace gc := gc.next hb22
  replace gab := gab.next hb22
  replace gbc := gbc.next hb22
  replace gac := gac.next hb22
  replace gba := gba.next hb22
  replace gwa := gwa.next hb22
  replace gwb := gwb.next hb22
  replace gs1 := gs1.next hb22
  replace gwb2 := gwb2.next hb22
  replace gwa2 := gwa2.next hb22
  replace gs2 := gs2.next hb22
  replace gs := gs.next hb22
  replace gl := gl.next hb22
  replace gr := gr.next hb22
  replace gwl := gwl.next hb22
  go_wp2_with (fail)
  refine (same_n _ _ _ _ 8 _ _ _ gwl gwr (by decide) (Int.add_mul x y z)).mono ?_
  rintro e w' ⟨rfl, m23, rfl⟩
  have hb23' := below_drewN' hb22' m23
  replace ga := ga.drewN_ m23
  replace gb := gb.drewN_ m23
  replace gc := gc.drewN_ m23
  replace gab := gab.drewN_ m23
  replace gbc := gbc.drewN_ m23
  replace gac := gac.drewN_ m23
  replace gba := gba.drewN_ m23
  replace gwa := gwa.drewN_ m23
  replace gwb := gwb.drewN_ m23
  replace gs1 := gs1.drewN_ m23
  replace gwb2 := gwb2.drewN_ m23
  replace gwa2 := gwa2.drewN_ m23
  replace gs2 := gs2.drewN_ m23
  replace gs := gs.drewN_ m23
  replace gl := gl.drewN_ m23
  replace gr := gr.drewN_ m23
  replace gwl := gwl.drewN_ m23
  replace gwr := gwr.drewN_ m23
  go_wp2_with (fail)
  refine (limbMul_n _ _ _ _ 4 2 6 _ _ _ (hw.below hb23') gab gc iXY iZ (by decide) (by decide) (by decide) (by decide)).mono ?_
  rintro e w24 ⟨A24, c24, rfl, gp, hb24⟩
  have hb24' : Below w.heap.size w w24 := hb23'.trans (hb24.mono hb23'.size)
  replace ga := ga.next hb24
  replace gb := gb.next hb24
  replace gc := gc.next hb24
  replace gab := gab.next hb24
  replace gbc := gbc.next hb24
  replace gac := gac.next hb24
  replace gba := gba.next hb24
  replace gwa := gwa.next hb24
  replace gwb := gwb.next hb24
  replace gs1 := gs1.next hb24
  replace gwb2 := gwb2.next hb24
  replace gwa2 := gwa2.next hb24
  replace gs2 := gs2.next hb24
  replace gs := gs.next hb24
  replace gl := gl.next hb24
  replace gr := gr.next hb24
  replace gwl := gwl.next hb24
  replace gwr := gwr.next hb24
  go_wp2_with (fail)
  refine (limbMul_n _ _ _ _ 2 4 6 _ _ _ (hw.below hb24') ga gbc iX iYZ (by decide) (by decide) (by decide) (by decide)).mono ?_
  rintro e w25 ⟨A25, c25, rfl, gq, hb25⟩
  have hb25' : Below w.heap.size w w25 := hb24'.trans (hb25.mono hb24'.size)
  replace ga := ga.next hb25
  replace gb := gb.next hb25
  replace gc := gc.next hb25
  replace gab := gab.next hb25
  replace gbc := gbc.next hb25
  replace gac := gac.next hb25
  replace gba := gba.next hb25
  replace gwa := gwa.next hb25
  replace gwb := gwb.next hb25
  replace gs1 := gs1.next hb25
  replace gwb2 := gwb2.next hb25
  replace gwa2 := gwa2.next hb25
  replace gs2 := gs2.next hb25
  replace gs := gs.next hb25
  replace gl := gl.next hb25
  replace gr := gr.next hb25
  replace gwl := gwl.next hb25
  replace gwr := gwr.next hb25
  replace gp := gp.next hb25
  go_wp2_with (fail)
  refine (same_n _ _ _ _ 6 _ _ _ gp gq (by decide) (Int.mul_assoc x y z)).mono ?_
  rintro e w' ⟨rfl, m26, rfl⟩
  have hb26' := below_drewN' hb25' m26
  replace ga := ga.drewN_ m26
  replace gb := gb.drewN_ m26
  replace gc := gc.drewN_ m26
  replace gab := gab.drewN_ m26
  replace gbc := gbc.drewN_ m26
  replace gac := gac.drewN_ m26
  replace gba := gba.drewN_ m26
  replace gwa := gwa.drewN_ m26
  replace gwb := gwb.drewN_ m26
  replace gs1 := gs1.drewN_ m26
  replace gwb2 := gwb2.drewN_ m26
  replace gwa2 := gwa2.drewN_ m26
  replace gs2 := gs2.drewN_ m26
  replace gs := gs.drewN_ m26
  replace gl := gl.drewN_ m26
  replace gr := gr.drewN_ m26
  replace gwl := gwl.drewN_ m26
  replace gwr := gwr.drewN_ m26
  replace gp := gp.drewN_ m26
  replace gq := gq.drewN_ m26
  go_wp2_with (fail)
  refine (limbAdd_n _ _ _ _ 4 _ _ _ (hw.below hb26') gab gbc iXY iYZ (by decide) (by decide)).mono ?_
  rintro e w27 ⟨A27, c27, rfl, gu, hb27⟩
  have hb27' : Below w.heap.size w w27 := hb26'.trans (hb27.mono hb26'.size)
  replace ga := ga.next hb27
  replace gb := gb.next hb27
  replace gc := gc.next hb27
  replace gab := gab.next hb27
  replace gbc := gbc.next hb27
  replace gac := gac.next hb27
  replace gba := gba.next hb27
  replace gwa := gwa.next hb27
  replace gwb := gwb.next hb27
  replace gs1 := gs1.next hb27
  replace gwb2 := gwb2.next hb27
  replace gwa2 := gwa2.next hb27
  replace gs2 := gs2.next hb27
  replace gs := gs.next hb27
  replace gl := gl.next hb27
  replace gr := gr.next hb27
  replace gwl := gwl.next hb27
  replace gwr := gwr.next hb27
  replace gp := gp.next hb27
  replace gq := gq.next hb27
  go_wp2_with (fail)
  refine (limbAdd_n _ _ _ _ 4 _ _ _ (hw.below hb27') gu gac iA iXZ (by decide) (by decide)).mono ?_
  rintro e w28 ⟨A28, c28, rfl, gu2, hb28⟩
  have hb28' : Below w.heap.size w w28 := hb27'.trans (hb28.mono hb27'.size)
  replace ga := ga.next hb28
  replace gb := gb.next hb28
  replace gc := gc.next hb28
  replace gab := gab.next hb28
  replace gbc := gbc.next hb28
  replace gac := gac.next hb28
  replace gba := gba.next hb28
  replace gwa := gwa.next hb28
  replace gwb := gwb.next hb28
  replace gs1 := gs1.next hb28
  replace gwb2 := gwb2.next hb28
  replace gwa2 := gwa2.next hb28
  replace gs2 := gs2.next hb28
  replace gs := gs.next hb28
  replace gl := gl.next hb28
  replace gr := gr.next hb28
  replace gwl := gwl.next hb28
  replace gwr := gwr.next hb28
  replace gp := gp.next hb28
  replace gq := gq.next hb28
  replace gu := gu.next hb28
  go_wp2_with (fail)
  refine (limbAdd_n _ _ _ _ 4 _ _ _ (hw.below hb28') gbc gac iYZ iXZ (by decide) (by decide)).mono ?_
  rintro e w29 ⟨A29, c29, rfl, gv, hb29⟩
  have hb29' : Below w.heap.size w w29 := hb28'.trans (hb29.mono hb28'.size)
  replace ga := ga.next hb29
  replace gb := gb.next hb29
  replace gc := gc.next hb29
  replace gab := gab.next hb29
  replace gbc := gbc.next hb29
  replace gac := gac.next hb29
  replace gba := gba.next hb29
  replace gwa := gwa.next hb29
  replace gwb := gwb.next hb29
  replace gs1 := gs1.next hb29
  replace gwb2 := gwb2.next hb29
  replace gwa2 := gwa2.next hb29
  replace gs2 := gs2.next hb29
  replace gs := gs.next hb29
  replace gl := gl.next hb29
  replace gr := gr.next hb29
  replace gwl := gwl.next hb29
  replace gwr := gwr.next hb29
  replace gp := gp.next hb29
  replace gq := gq.next hb29
  replace gu := gu.next hb29
  replace gu2 := gu2.next hb29
  go_wp2_with (fail)
  refine (limbAdd_n _ _ _ _ 4 _ _ _ (hw.below hb29') gab gv iXY iB (by decide) (by decide)).mono ?_
  rintro e w30 ⟨A30, c30, rfl, gv2, hb30⟩
  have hb30' : Below w.heap.size w w30 := hb29'.trans (hb30.mono hb29'.size)
  replace ga := ga.next hb30
  replace gb := gb.next hb30
  replace gc := gc.next hb30
  replace gab := gab.next hb30
  replace gbc := gbc.next hb30
  replace gac := gac.next hb30
  replace gba := gba.next hb30
  replace gwa := gwa.next hb30
  replace gwb := gwb.next hb30
  replace gs1 := gs1.next hb30
  replace gwb2 := gwb2.next hb30
  replace gwa2 := gwa2.next hb30
  replace gs2 := gs2.next hb30
  replace gs := gs.next hb30
  replace gl := gl.next hb30
  replace gr := gr.next hb30
  replace gwl := gwl.next hb30
  replace gwr := gwr.next hb30
  replace gp := gp.next hb30
  replace gq := gq.next hb30
  replace gu := gu.next hb30
  replace gu2 := gu2.next hb30
  replace gv := gv.next hb30
  go_wp2_with (fail)
  refine (same_n _ _ _ _ 4 _ _ _ gu2 gv2 (by decide) (Int.add_assoc _ _ _)).mono ?_
  rintro e w' ⟨rfl, m31, rfl⟩
  have hb31' := below_drewN' hb30' m31
  replace ga := ga.drewN_ m31
  replace gb := gb.drewN_ m31
  replace gc := gc.drewN_ m31
  replace gab := gab.drewN_ m31
  replace gbc := gbc.drewN_ m31
  replace gac := gac.drewN_ m31
  replace gba := gba.drewN_ m31
  replace gwa := gwa.drewN_ m31
  replace gwb := gwb.drewN_ m31
  replace gs1 := gs1.drewN_ m31
  replace gwb2 := gwb2.drewN_ m31
  replace gwa2 := gwa2.drewN_ m31
  replace gs2 := gs2.drewN_ m31
  replace gs := gs.drewN_ m31
  replace gl := gl.drewN_ m31
  replace gr := gr.drewN_ m31
  replace gwl := gwl.drewN_ m31
  replace gwr := gwr.drewN_ m31
  replace gp := gp.drewN_ m31
  replace gq := gq.drewN_ m31
  replace gu := gu.drewN_ m31
  replace gu2 := gu2.drewN_ m31
  replace gv := gv.drewN_ m31
  replace gv2 := gv2.drewN_ m31
  go_wp2
  go_ret
  exact ⟨rfl, hb31'⟩
end Go.Proofs.YtkdiglabjcfjfaaDoor
