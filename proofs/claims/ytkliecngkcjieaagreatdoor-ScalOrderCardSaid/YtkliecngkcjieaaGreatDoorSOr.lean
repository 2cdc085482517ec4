/- Of any three scalars, the order is one: for every three scalars. Conditions: the laid variables, as the statement lists them. -/
import Derived.Test.YtkliecngkcjieaaGreatDoorDoor
import Derived.Test.YtkliecngkcjieaaGreatDoorBox
set_option maxRecDepth 100000
namespace Go.Proofs.YtkliecngkcjieaaGreatDoor
open Go.ChangeShapes Go.WideShapes Go.ChangeAt Go.RowKit Go.Shelf
open Go.ChangeMaps (open_string shut_string)
open Pl Quo Scs
set_option maxHeartbeats 8000000 in
theorem order_p (x y z X Y Z : Sc) (B C : Int) (hx : ∀ w, Calls Tryz.prog 12 #[.agg #[.int .i64 x.1, .int .i64 x.2.1, .string x.2.2]] w fun e w' => e = .returned (.agg #[.int .i64 X.1, .int .i64 X.2.1, .string X.2.2]) ∧ Below w.heap.size w w')
    (hy : ∀ w, Calls Tryz.prog 12 #[.agg #[.int .i64 y.1, .int .i64 y.2.1, .string y.2.2]] w fun e w' => e = .returned (.agg #[.int .i64 Y.1, .int .i64 Y.2.1, .string Y.2.2]) ∧ Below w.heap.size w w')
    (hz : ∀ w, Calls Tryz.prog 12 #[.agg #[.int .i64 z.1, .int .i64 z.2.1, .string z.2.2]] w fun e w' => e = .returned (.agg #[.int .i64 Z.1, .int .i64 Z.2.1, .string Z.2.2]) ∧ Below w.heap.size w w')
    (g1 : ∀ w, Calls Tryz.prog 18 #[.agg #[.int .i64 X.1, .int .i64 X.2.1, .string X.2.2], .agg #[.int .i64 Y.1, .int .i64 Y.2.1, .string Y.2.2]] w fun e w' => e = .returned (.int .i64 (1)) ∧ Below w.heap.size w w')
    (g2 : ∀ w, Calls Tryz.prog 18 #[.agg #[.int .i64 Y.1, .int .i64 Y.2.1, .string Y.2.2], .agg #[.int .i64 Z.1, .int .i64 Z.2.1, .string Z.2.2]] w fun e w' => e = .returned (.int .i64 B) ∧ Below w.heap.size w w')
    (g3 : ∀ w, Calls Tryz.prog 18 #[.agg #[.int .i64 X.1, .int .i64 X.2.1, .string X.2.2], .agg #[.int .i64 Z.1, .int .i64 Z.2.1, .string Z.2.2]] w fun e w' => e = .returned (.int .i64 C) ∧ Below w.heap.size w w')
    (g4 : ∀ w, Calls Tryz.prog 18 #[.agg #[.int .i64 Y.1, .int .i64 Y.2.1, .string Y.2.2], .agg #[.int .i64 X.1, .int .i64 X.2.1, .string X.2.2]] w fun e w' => e = .returned (.int .i64 (-1)) ∧ Below w.heap.size w w')
    (g5 : ∀ w, Calls Tryz.prog 18 #[.agg #[.int .i64 X.1, .int .i64 X.2.1, .string X.2.2], .agg #[.int .i64 X.1, .int .i64 X.2.1, .string X.2.2]] w fun e w' => e = .returned (.int .i64 0) ∧ Below w.heap.size w w')
     (q : ∀ w, (Op.equalIn 10000 23 (.agg #[.int .i64 X.1, .int .i64 X.2.1, .string X.2.2]) (.agg #[.int .i64 Y.1, .int .i64 Y.2.1, .string Y.2.2])).run Tryz.prog w = .ok false w)
    (w : World) (E : Env w) :
    Calls Tryz.prog 6 #[.agg #[.int .i64 x.1, .int .i64 x.2.1, .string x.2.2], .agg #[.int .i64 y.1, .int .i64 y.2.1, .string y.2.2], .agg #[.int .i64 z.1, .int .i64 z.2.1, .string z.2.2]] w fun e w' => e = .returned (.bool true) ∧ Below w.heap.size w w' := by
  have qg := guard_sc
  have HEE := Lib.hid E
  have HX := Lib.hid hx
  have HY := Lib.hid hy
  have HZ := Lib.hid hz
  have G1 := Lib.hid g1
  have G2 := Lib.hid g2
  have G3 := Lib.hid g3
  have G4 := Lib.hid g4
  have G5 := Lib.hid g5
  clear hx hy hz g1 g2 g3 g4 g5
  go_enter Tryz.func6, Tryz.ntmps6
  go_wp2_with fail
  obtain ⟨v0, hv0⟩ : ∃ v, ((w.alloc (scO x)).alloc (scO y)).alloc (scO z) = v := ⟨_, rfl⟩
  have hb0 : Below w.heap.size w v0 := by rw [← hv0]; exact ((((Below.refl _ w).alloc (Nat.le_refl _) _).alloc (by simp) _).alloc (by simp; omega) _)
  have r0_0 : v0.heap[w.heap.size]? = some (scO x) := by rw [← hv0]; exact (by simpa [World.size_alloc] using box_at3_0 w (scO x) (scO y) (scO z))
  have R0_0 := Lib.hid r0_0
  have r0_1 : v0.heap[w.heap.size + 1]? = some (scO y) := by rw [← hv0]; exact (by simpa [World.size_alloc] using box_at3_1 w (scO x) (scO y) (scO z))
  have R0_1 := Lib.hid r0_1
  have r0_2 : v0.heap[w.heap.size + 1 + 1]? = some (scO z) := by rw [← hv0]; exact (by simpa [World.size_alloc] using box_at3_2 w (scO x) (scO y) (scO z))
  have R0_2 := Lib.hid r0_2
  have HE0 := Lib.hid (E.below hb0)
  have HB0 := Lib.hid hb0
  rw [hv0]
  clear hv0 hb0 r0_0 r0_1 r0_2 E
  refine (shown_any _ HE0.out).mono ?_
  rintro e v1 ⟨rfl, hb⟩
  have R1_0 := Lib.hid ((hb.block _ (Array.getElem?_eq_some_iff.1 R0_0.out).1).trans R0_0.out)
  have R1_1 := Lib.hid ((hb.block _ (Array.getElem?_eq_some_iff.1 R0_1.out).1).trans R0_1.out)
  have R1_2 := Lib.hid ((hb.block _ (Array.getElem?_eq_some_iff.1 R0_2.out).1).trans R0_2.out)
  have HE1 := Lib.hid (HE0.out.below hb)
  have HB1 := Lib.hid (HB0.out.trans (hb.mono HB0.out.size))
  clear hb
  obtain ⟨c00, c01, c02, f00, f01, f02⟩ := box_cells R1_0.out
  go_wp2_with fail
  refine (HX.out _).mono ?_
  rintro e v2 ⟨rfl, hb⟩
  clear c00 c01 c02 f00 f01 f02
  have R2_0 := Lib.hid ((hb.block _ (Array.getElem?_eq_some_iff.1 R1_0.out).1).trans R1_0.out)
  have R2_1 := Lib.hid ((hb.block _ (Array.getElem?_eq_some_iff.1 R1_1.out).1).trans R1_1.out)
  have R2_2 := Lib.hid ((hb.block _ (Array.getElem?_eq_some_iff.1 R1_2.out).1).trans R1_2.out)
  have HE2 := Lib.hid (HE1.out.below hb)
  have HB2 := Lib.hid (HB1.out.trans (hb.mono HB1.out.size))
  clear hb
  obtain ⟨c00, c01, c02, f00, f01, f02⟩ := box_cells R2_0.out
  go_upto_region 3 with (fail)
  obtain ⟨v3, hv3⟩ : ∃ v, ((v2.setCell ⟨w.heap.size, 0, none⟩ (.int .i64 X.1)).setCell ⟨w.heap.size, 1, none⟩ (.int .i64 X.2.1)).setCell ⟨w.heap.size, 2, none⟩ (.string X.2.2) = v := ⟨_, rfl⟩
  rw [hv3]
  obtain ⟨hr, hg⟩ := box_store R2_0.out X
  rw [hv3] at hr hg
  have hbs : Below w.heap.size v2 v3 := below_of_grown hg (by omega) HB2.out.size
  have R3_0 := Lib.hid hr
  have R3_1 := Lib.hid ((hg.block _ (Array.getElem?_eq_some_iff.1 R2_1.out).1 (by simp; try omega)).trans R2_1.out)
  have R3_2 := Lib.hid ((hg.block _ (Array.getElem?_eq_some_iff.1 R2_2.out).1 (by simp; try omega)).trans R2_2.out)
  have HE3 := Lib.hid (HEE.out.below (HB2.out.trans hbs))
  have HB3 := Lib.hid (HB2.out.trans hbs)
  clear hv3 hr hg hbs
  clear c00 c01 c02 f00 f01 f02
  obtain ⟨c10, c11, c12, f10, f11, f12⟩ := box_cells R3_1.out
  go_wp2_with fail
  refine (HY.out _).mono ?_
  rintro e v4 ⟨rfl, hb⟩
  clear c10 c11 c12 f10 f11 f12
  have R4_0 := Lib.hid ((hb.block _ (Array.getElem?_eq_some_iff.1 R3_0.out).1).trans R3_0.out)
  have R4_1 := Lib.hid ((hb.block _ (Array.getElem?_eq_some_iff.1 R3_1.out).1).trans R3_1.out)
  have R4_2 := Lib.hid ((hb.block _ (Array.getElem?_eq_some_iff.1 R3_2.out).1).trans R3_2.out)
  have HE4 := Lib.hid (HE3.out.below hb)
  have HB4 := Lib.hid (HB3.out.trans (hb.mono HB3.out.size))
  clear hb
  obtain ⟨c10, c11, c12, f10, f11, f12⟩ := box_cells R4_1.out
  go_upto_region 4 with (fail)
  obtain ⟨v5, hv5⟩ : ∃ v, ((v4.setCell ⟨w.heap.size + 1, 0, none⟩ (.int .i64 Y.1)).setCell ⟨w.heap.size + 1, 1, none⟩ (.int .i64 Y.2.1)).setCell ⟨w.heap.size + 1, 2, none⟩ (.string Y.2.2) = v := ⟨_, rfl⟩
  rw [hv5]
  obtain ⟨hr, hg⟩ := box_store R4_1.out Y
  rw [hv5] at hr hg
  have hbs : Below w.heap.size v4 v5 := below_of_grown hg (by omega) HB4.out.size
  have R5_0 := Lib.hid ((hg.block _ (Array.getElem?_eq_some_iff.1 R4_0.out).1 (by simp; try omega)).trans R4_0.out)
  have R5_1 := Lib.hid hr
  have R5_2 := Lib.hid ((hg.block _ (Array.getElem?_eq_some_iff.1 R4_2.out).1 (by simp; try omega)).trans R4_2.out)
  have HE5 := Lib.hid (HEE.out.below (HB4.out.trans hbs))
  have HB5 := Lib.hid (HB4.out.trans hbs)
  clear hv5 hr hg hbs
  clear c10 c11 c12 f10 f11 f12
  obtain ⟨c20, c21, c22, f20, f21, f22⟩ := box_cells R5_2.out
  go_wp2_with fail
  refine (HZ.out _).mono ?_
  rintro e v6 ⟨rfl, hb⟩
  clear c20 c21 c22 f20 f21 f22
  have R6_0 := Lib.hid ((hb.block _ (Array.getElem?_eq_some_iff.1 R5_0.out).1).trans R5_0.out)
  have R6_1 := Lib.hid ((hb.block _ (Array.getElem?_eq_some_iff.1 R5_1.out).1).trans R5_1.out)
  have R6_2 := Lib.hid ((hb.block _ (Array.getElem?_eq_some_iff.1 R5_2.out).1).trans R5_2.out)
  have HE6 := Lib.hid (HE5.out.below hb)
  have HB6 := Lib.hid (HB5.out.trans (hb.mono HB5.out.size))
  clear hb
  obtain ⟨c20, c21, c22, f20, f21, f22⟩ := box_cells R6_2.out
  go_upto_region 5 with (fail)
  obtain ⟨v7, hv7⟩ : ∃ v, ((v6.setCell ⟨w.heap.size + 1 + 1, 0, none⟩ (.int .i64 Z.1)).setCell ⟨w.heap.size + 1 + 1, 1, none⟩ (.int .i64 Z.2.1)).setCell ⟨w.heap.size + 1 + 1, 2, none⟩ (.string Z.2.2) = v := ⟨_, rfl⟩
  rw [hv7]
  obtain ⟨hr, hg⟩ := box_store R6_2.out Z
  rw [hv7] at hr hg
  have hbs : Below w.heap.size v6 v7 := below_of_grown hg (by omega) HB6.out.size
  have R7_0 := Lib.hid ((hg.block _ (Array.getElem?_eq_some_iff.1 R6_0.out).1 (by simp; try omega)).trans R6_0.out)
  have R7_1 := Lib.hid ((hg.block _ (Array.getElem?_eq_some_iff.1 R6_1.out).1 (by simp; try omega)).trans R6_1.out)
  have R7_2 := Lib.hid hr
  have HE7 := Lib.hid (HEE.out.below (HB6.out.trans hbs))
  have HB7 := Lib.hid (HB6.out.trans hbs)
  clear hv7 hr hg hbs
  clear c20 c21 c22 f20 f21 f22
  obtain ⟨c00, c01, c02, f00, f01, f02⟩ := box_cells R7_0.out
  obtain ⟨c10, c11, c12, f10, f11, f12⟩ := box_cells R7_1.out
  go_wp2_with fail
  refine (G1.out _).mono ?_
  rintro e v8 ⟨rfl, hb⟩
  clear c00 c01 c02 f00 f01 f02 c10 c11 c12 f10 f11 f12
  have R8_0 := Lib.hid ((hb.block _ (Array.getElem?_eq_some_iff.1 R7_0.out).1).trans R7_0.out)
  have R8_1 := Lib.hid ((hb.block _ (Array.getElem?_eq_some_iff.1 R7_1.out).1).trans R7_1.out)
  have R8_2 := Lib.hid ((hb.block _ (Array.getElem?_eq_some_iff.1 R7_2.out).1).trans R7_2.out)
  have HE8 := Lib.hid (HE7.out.below hb)
  have HB8 := Lib.hid (HB7.out.trans (hb.mono HB7.out.size))
  clear hb
  obtain ⟨c10, c11, c12, f10, f11, f12⟩ := box_cells R8_1.out
  obtain ⟨c20, c21, c22, f20, f21, f22⟩ := box_cells R8_2.out
  go_wp2_with fail
  refine (G2.out _).mono ?_
  rintro e v9 ⟨rfl, hb⟩
  clear c10 c11 c12 f10 f11 f12 c20 c21 c22 f20 f21 f22
  have R9_0 := Lib.hid ((hb.block _ (Array.getElem?_eq_some_iff.1 R8_0.out).1).trans R8_0.out)
  have R9_1 := Lib.hid ((hb.block _ (Array.getElem?_eq_some_iff.1 R8_1.out).1).trans R8_1.out)
  have R9_2 := Lib.hid ((hb.block _ (Array.getElem?_eq_some_iff.1 R8_2.out).1).trans R8_2.out)
  have HE9 := Lib.hid (HE8.out.below hb)
  have HB9 := Lib.hid (HB8.out.trans (hb.mono HB8.out.size))
  clear hb
  obtain ⟨c00, c01, c02, f00, f01, f02⟩ := box_cells R9_0.out
  obtain ⟨c20, c21, c22, f20, f21, f22⟩ := box_cells R9_2.out
  go_wp2_with fail
  refine (G3.out _).mono ?_
  rintro e v10 ⟨rfl, hb⟩
  clear c00 c01 c02 f00 f01 f02 c20 c21 c22 f20 f21 f22
  have R10_0 := Lib.hid ((hb.block _ (Array.getElem?_eq_some_iff.1 R9_0.out).1).trans R9_0.out)
  have R10_1 := Lib.hid ((hb.block _ (Array.getElem?_eq_some_iff.1 R9_1.out).1).trans R9_1.out)
  have R10_2 := Lib.hid ((hb.block _ (Array.getElem?_eq_some_iff.1 R9_2.out).1).trans R9_2.out)
  have HE10 := Lib.hid (HE9.out.below hb)
  have HB10 := Lib.hid (HB9.out.trans (hb.mono HB9.out.size))
  clear hb
  obtain ⟨c00, c01, c02, f00, f01, f02⟩ := box_cells R10_0.out
  obtain ⟨c10, c11, c12, f10, f11, f12⟩ := box_cells R10_1.out
  go_wp2_with fail
  refine (G4.out _).mono ?_
  rintro e v11 ⟨rfl, hb⟩
  clear c00 c01 c02 f00 f01 f02 c10 c11 c12 f10 f11 f12
  have R11_0 := Lib.hid ((hb.block _ (Array.getElem?_eq_some_iff.1 R10_0.out).1).trans R10_0.out)
  have R11_1 := Lib.hid ((hb.block _ (Array.getElem?_eq_some_iff.1 R10_1.out).1).trans R10_1.out)
  have R11_2 := Lib.hid ((hb.block _ (Array.getElem?_eq_some_iff.1 R10_2.out).1).trans R10_2.out)
  have HE11 := Lib.hid (HE10.out.below hb)
  have HB11 := Lib.hid (HB10.out.trans (hb.mono HB10.out.size))
  clear hb
  obtain ⟨c00, c01, c02, f00, f01, f02⟩ := box_cells R11_0.out
  obtain ⟨c10, c11, c12, f10, f11, f12⟩ := box_cells R11_1.out
  go_wp2_with fail
  refine (G5.out _).mono ?_
  rintro e v12 ⟨rfl, hb⟩
  clear c00 c01 c02 f00 f01 f02 c10 c11 c12 f10 f11 f12
  have R12_0 := Lib.hid ((hb.block _ (Array.getElem?_eq_some_iff.1 R11_0.out).1).trans R11_0.out)
  have R12_1 := Lib.hid ((hb.block _ (Array.getElem?_eq_some_iff.1 R11_1.out).1).trans R11_1.out)
  have R12_2 := Lib.hid ((hb.block _ (Array.getElem?_eq_some_iff.1 R11_2.out).1).trans R11_2.out)
  have HE12 := Lib.hid (HE11.out.below hb)
  have HB12 := Lib.hid (HB11.out.trans (hb.mono HB11.out.size))
  clear hb
  go_wp2_with fail
  go_ret
  exact ⟨rfl, HB12.out⟩
set_option maxHeartbeats 8000000 in
theorem order_n1 (x y z X Y Z : Sc) (B C : Int) (hx : ∀ w, Calls Tryz.prog 12 #[.agg #[.int .i64 x.1, .int .i64 x.2.1, .string x.2.2]] w fun e w' => e = .returned (.agg #[.int .i64 X.1, .int .i64 X.2.1, .string X.2.2]) ∧ Below w.heap.size w w')
    (hy : ∀ w, Calls Tryz.prog 12 #[.agg #[.int .i64 y.1, .int .i64 y.2.1, .string y.2.2]] w fun e w' => e = .returned (.agg #[.int .i64 Y.1, .int .i64 Y.2.1, .string Y.2.2]) ∧ Below w.heap.size w w')
    (hz : ∀ w, Calls Tryz.prog 12 #[.agg #[.int .i64 z.1, .int .i64 z.2.1, .string z.2.2]] w fun e w' => e = .returned (.agg #[.int .i64 Z.1, .int .i64 Z.2.1, .string Z.2.2]) ∧ Below w.heap.size w w')
    (g1 : ∀ w, Calls Tryz.prog 18 #[.agg #[.int .i64 X.1, .int .i64 X.2.1, .string X.2.2], .agg #[.int .i64 Y.1, .int .i64 Y.2.1, .string Y.2.2]] w fun e w' => e = .returned (.int .i64 (0)) ∧ Below w.heap.size w w')
    (g2 : ∀ w, Calls Tryz.prog 18 #[.agg #[.int .i64 Y.1, .int .i64 Y.2.1, .string Y.2.2], .agg #[.int .i64 Z.1, .int .i64 Z.2.1, .string Z.2.2]] w fun e w' => e = .returned (.int .i64 B) ∧ Below w.heap.size w w')
    (g3 : ∀ w, Calls Tryz.prog 18 #[.agg #[.int .i64 X.1, .int .i64 X.2.1, .string X.2.2], .agg #[.int .i64 Z.1, .int .i64 Z.2.1, .string Z.2.2]] w fun e w' => e = .returned (.int .i64 C) ∧ Below w.heap.size w w')
    (g4 : ∀ w, Calls Tryz.prog 18 #[.agg #[.int .i64 Y.1, .int .i64 Y.2.1, .string Y.2.2], .agg #[.int .i64 X.1, .int .i64 X.2.1, .string X.2.2]] w fun e w' => e = .returned (.int .i64 (0)) ∧ Below w.heap.size w w')
    (g5 : ∀ w, Calls Tryz.prog 18 #[.agg #[.int .i64 X.1, .int .i64 X.2.1, .string X.2.2], .agg #[.int .i64 X.1, .int .i64 X.2.1, .string X.2.2]] w fun e w' => e = .returned (.int .i64 0) ∧ Below w.heap.size w w')
    (h1 : 0 < B) (q : ∀ w, (Op.equalIn 10000 23 (.agg #[.int .i64 X.1, .int .i64 X.2.1, .string X.2.2]) (.agg #[.int .i64 Y.1, .int .i64 Y.2.1, .string Y.2.2])).run Tryz.prog w = .ok true w)
    (w : World) (E : Env w) :
    Calls Tryz.prog 6 #[.agg #[.int .i64 x.1, .int .i64 x.2.1, .string x.2.2], .agg #[.int .i64 y.1, .int .i64 y.2.1, .string y.2.2], .agg #[.int .i64 z.1, .int .i64 z.2.1, .string z.2.2]] w fun e w' => e = .returned (.bool true) ∧ Below w.heap.size w w' := by
  have qg := guard_sc
  have HEE := Lib.hid E
  have HX := Lib.hid hx
  have HY := Lib.hid hy
  have HZ := Lib.hid hz
  have G1 := Lib.hid g1
  have G2 := Lib.hid g2
  have G3 := Lib.hid g3
  have G4 := Lib.hid g4
  have G5 := Lib.hid g5
  clear hx hy hz g1 g2 g3 g4 g5
  go_enter Tryz.func6, Tryz.ntmps6
  go_wp2_with fail
  obtain ⟨v0, hv0⟩ : ∃ v, ((w.alloc (scO x)).alloc (scO y)).alloc (scO z) = v := ⟨_, rfl⟩
  have hb0 : Below w.heap.size w v0 := by rw [← hv0]; exact ((((Below.refl _ w).alloc (Nat.le_refl _) _).alloc (by simp) _).alloc (by simp; omega) _)
  have r0_0 : v0.heap[w.heap.size]? = some (scO x) := by rw [← hv0]; exact (by simpa [World.size_alloc] using box_at3_0 w (scO x) (scO y) (scO z))
  have R0_0 := Lib.hid r0_0
  have r0_1 : v0.heap[w.heap.size + 1]? = some (scO y) := by rw [← hv0]; exact (by simpa [World.size_alloc] using box_at3_1 w (scO x) (scO y) (scO z))
  have R0_1 := Lib.hid r0_1
  have r0_2 : v0.heap[w.heap.size + 1 + 1]? = some (scO z) := by rw [← hv0]; exact (by simpa [World.size_alloc] using box_at3_2 w (scO x) (scO y) (scO z))
  have R0_2 := Lib.hid r0_2
  have HE0 := Lib.hid (E.below hb0)
  have HB0 := Lib.hid hb0
  rw [hv0]
  clear hv0 hb0 r0_0 r0_1 r0_2 E
  refine (shown_any _ HE0.out).mono ?_
  rintro e v1 ⟨rfl, hb⟩
  have R1_0 := Lib.hid ((hb.block _ (Array.getElem?_eq_some_iff.1 R0_0.out).1).trans R0_0.out)
  have R1_1 := Lib.hid ((hb.block _ (Array.getElem?_eq_some_iff.1 R0_1.out).1).trans R0_1.out)
  have R1_2 := Lib.hid ((hb.block _ (Array.getElem?_eq_some_iff.1 R0_2.out).1).trans R0_2.out)
  have HE1 := Lib.hid (HE0.out.below hb)
  have HB1 := Lib.hid (HB0.out.trans (hb.mono HB0.out.size))
  clear hb
  obtain ⟨c00, c01, c02, f00, f01, f02⟩ := box_cells R1_0.out
  go_wp2_with fail
  refine (HX.out _).mono ?_
  rintro e v2 ⟨rfl, hb⟩
  clear c00 c01 c02 f00 f01 f02
  have R2_0 := Lib.hid ((hb.block _ (Array.getElem?_eq_some_iff.1 R1_0.out).1).trans R1_0.out)
  have R2_1 := Lib.hid ((hb.block _ (Array.getElem?_eq_some_iff.1 R1_1.out).1).trans R1_1.out)
  have R2_2 := Lib.hid ((hb.block _ (Array.getElem?_eq_some_iff.1 R1_2.out).1).trans R1_2.out)
  have HE2 := Lib.hid (HE1.out.below hb)
  have HB2 := Lib.hid (HB1.out.trans (hb.mono HB1.out.size))
  clear hb
  obtain ⟨c00, c01, c02, f00, f01, f02⟩ := box_cells R2_0.out
  go_upto_region 3 with (fail)
  obtain ⟨v3, hv3⟩ : ∃ v, ((v2.setCell ⟨w.heap.size, 0, none⟩ (.int .i64 X.1)).setCell ⟨w.heap.size, 1, none⟩ (.int .i64 X.2.1)).setCell ⟨w.heap.size, 2, none⟩ (.string X.2.2) = v := ⟨_, rfl⟩
  rw [hv3]
  obtain ⟨hr, hg⟩ := box_store R2_0.out X
  rw [hv3] at hr hg
  have hbs : Below w.heap.size v2 v3 := below_of_grown hg (by omega) HB2.out.size
  have R3_0 := Lib.hid hr
  have R3_1 := Lib.hid ((hg.block _ (Array.getElem?_eq_some_iff.1 R2_1.out).1 (by simp; try omega)).trans R2_1.out)
  have R3_2 := Lib.hid ((hg.block _ (Array.getElem?_eq_some_iff.1 R2_2.out).1 (by simp; try omega)).trans R2_2.out)
  have HE3 := Lib.hid (HEE.out.below (HB2.out.trans hbs))
  have HB3 := Lib.hid (HB2.out.trans hbs)
  clear hv3 hr hg hbs
  clear c00 c01 c02 f00 f01 f02
  obtain ⟨c10, c11, c12, f10, f11, f12⟩ := box_cells R3_1.out
  go_wp2_with fail
  refine (HY.out _).mono ?_
  rintro e v4 ⟨rfl, hb⟩
  clear c10 c11 c12 f10 f11 f12
  have R4_0 := Lib.hid ((hb.block _ (Array.getElem?_eq_some_iff.1 R3_0.out).1).trans R3_0.out)
  have R4_1 := Lib.hid ((hb.block _ (Array.getElem?_eq_some_iff.1 R3_1.out).1).trans R3_1.out)
  have R4_2 := Lib.hid ((hb.block _ (Array.getElem?_eq_some_iff.1 R3_2.out).1).trans R3_2.out)
  have HE4 := Lib.hid (HE3.out.below hb)
  have HB4 := Lib.hid (HB3.out.trans (hb.mono HB3.out.size))
  clear hb
  obtain ⟨c10, c11, c12, f10, f11, f12⟩ := box_cells R4_1.out
  go_upto_region 4 with (fail)
  obtain ⟨v5, hv5⟩ : ∃ v, ((v4.setCell ⟨w.heap.size + 1, 0, none⟩ (.int .i64 Y.1)).setCell ⟨w.heap.size + 1, 1, none⟩ (.int .i64 Y.2.1)).setCell ⟨w.heap.size + 1, 2, none⟩ (.string Y.2.2) = v := ⟨_, rfl⟩
  rw [hv5]
  obtain ⟨hr, hg⟩ := box_store R4_1.out Y
  rw [hv5] at hr hg
  have hbs : Below w.heap.size v4 v5 := below_of_grown hg (by omega) HB4.out.size
  have R5_0 := Lib.hid ((hg.block _ (Array.getElem?_eq_some_iff.1 R4_0.out).1 (by simp; try omega)).trans R4_0.out)
  have R5_1 := Lib.hid hr
  have R5_2 := Lib.hid ((hg.block _ (Array.getElem?_eq_some_iff.1 R4_2.out).1 (by simp; try omega)).trans R4_2.out)
  have HE5 := Lib.hid (HEE.out.below (HB4.out.trans hbs))
  have HB5 := Lib.hid (HB4.out.trans hbs)
  clear hv5 hr hg hbs
  clear c10 c11 c12 f10 f11 f12
  obtain ⟨c20, c21, c22, f20, f21, f22⟩ := box_cells R5_2.out
  go_wp2_with fail
  refine (HZ.out _).mono ?_
  rintro e v6 ⟨rfl, hb⟩
  clear c20 c21 c22 f20 f21 f22
  have R6_0 := Lib.hid ((hb.block _ (Array.getElem?_eq_some_iff.1 R5_0.out).1).trans R5_0.out)
  have R6_1 := Lib.hid ((hb.block _ (Array.getElem?_eq_some_iff.1 R5_1.out).1).trans R5_1.out)
  have R6_2 := Lib.hid ((hb.block _ (Array.getElem?_eq_some_iff.1 R5_2.out).1).trans R5_2.out)
  have HE6 := Lib.hid (HE5.out.below hb)
  have HB6 := Lib.hid (HB5.out.trans (hb.mono HB5.out.size))
  clear hb
  obtain ⟨c20, c21, c22, f20, f21, f22⟩ := box_cells R6_2.out
  go_upto_region 5 with (fail)
  obtain ⟨v7, hv7⟩ : ∃ v, ((v6.setCell ⟨w.heap.size + 1 + 1, 0, none⟩ (.int .i64 Z.1)).setCell ⟨w.heap.size + 1 + 1, 1, none⟩ (.int .i64 Z.2.1)).setCell ⟨w.heap.size + 1 + 1, 2, none⟩ (.string Z.2.2) = v := ⟨_, rfl⟩
  rw [hv7]
  obtain ⟨hr, hg⟩ := box_store R6_2.out Z
  rw [hv7] at hr hg
  have hbs : Below w.heap.size v6 v7 := below_of_grown hg (by omega) HB6.out.size
  have R7_0 := Lib.hid ((hg.block _ (Array.getElem?_eq_some_iff.1 R6_0.out).1 (by simp; try omega)).trans R6_0.out)
  have R7_1 := Lib.hid ((hg.block _ (Array.getElem?_eq_some_iff.1 R6_1.out).1 (by simp; try omega)).trans R6_1.out)
  have R7_2 := Lib.hid hr
  have HE7 := Lib.hid (HEE.out.below (HB6.out.trans hbs))
  have HB7 := Lib.hid (HB6.out.trans hbs)
  clear hv7 hr hg hbs
  clear c20 c21 c22 f20 f21 f22
  obtain ⟨c00, c01, c02, f00, f01, f02⟩ := box_cells R7_0.out
  obtain ⟨c10, c11, c12, f10, f11, f12⟩ := box_cells R7_1.out
  go_wp2_with fail
  refine (G1.out _).mono ?_
  rintro e v8 ⟨rfl, hb⟩
  clear c00 c01 c02 f00 f01 f02 c10 c11 c12 f10 f11 f12
  have R8_0 := Lib.hid ((hb.block _ (Array.getElem?_eq_some_iff.1 R7_0.out).1).trans R7_0.out)
  have R8_1 := Lib.hid ((hb.block _ (Array.getElem?_eq_some_iff.1 R7_1.out).1).trans R7_1.out)
  have R8_2 := Lib.hid ((hb.block _ (Array.getElem?_eq_some_iff.1 R7_2.out).1).trans R7_2.out)
  have HE8 := Lib.hid (HE7.out.below hb)
  have HB8 := Lib.hid (HB7.out.trans (hb.mono HB7.out.size))
  clear hb
  obtain ⟨c10, c11, c12, f10, f11, f12⟩ := box_cells R8_1.out
  obtain ⟨c20, c21, c22, f20, f21, f22⟩ := box_cells R8_2.out
  go_wp2_with fail
  refine (G2.out _).mono ?_
  rintro e v9 ⟨rfl, hb⟩
  clear c10 c11 c12 f10 f11 f12 c20 c21 c22 f20 f21 f22
  have R9_0 := Lib.hid ((hb.block _ (Array.getElem?_eq_some_iff.1 R8_0.out).1).trans R8_0.out)
  have R9_1 := Lib.hid ((hb.block _ (Array.getElem?_eq_some_iff.1 R8_1.out).1).trans R8_1.out)
  have R9_2 := Lib.hid ((hb.block _ (Array.getElem?_eq_some_iff.1 R8_2.out).1).trans R8_2.out)
  have HE9 := Lib.hid (HE8.out.below hb)
  have HB9 := Lib.hid (HB8.out.trans (hb.mono HB8.out.size))
  clear hb
  obtain ⟨c00, c01, c02, f00, f01, f02⟩ := box_cells R9_0.out
  obtain ⟨c20, c21, c22, f20, f21, f22⟩ := box_cells R9_2.out
  go_wp2_with fail
  refine (G3.out _).mono ?_
  rintro e v10 ⟨rfl, hb⟩
  clear c00 c01 c02 f00 f01 f02 c20 c21 c22 f20 f21 f22
  have R10_0 := Lib.hid ((hb.block _ (Array.getElem?_eq_some_iff.1 R9_0.out).1).trans R9_0.out)
  have R10_1 := Lib.hid ((hb.block _ (Array.getElem?_eq_some_iff.1 R9_1.out).1).trans R9_1.out)
  have R10_2 := Lib.hid ((hb.block _ (Array.getElem?_eq_some_iff.1 R9_2.out).1).trans R9_2.out)
  have HE10 := Lib.hid (HE9.out.below hb)
  have HB10 := Lib.hid (HB9.out.trans (hb.mono HB9.out.size))
  clear hb
  obtain ⟨c00, c01, c02, f00, f01, f02⟩ := box_cells R10_0.out
  obtain ⟨c10, c11, c12, f10, f11, f12⟩ := box_cells R10_1.out
  go_wp2_with fail
  refine (G4.out _).mono ?_
  rintro e v11 ⟨rfl, hb⟩
  clear c00 c01 c02 f00 f01 f02 c10 c11 c12 f10 f11 f12
  have R11_0 := Lib.hid ((hb.block _ (Array.getElem?_eq_some_iff.1 R10_0.out).1).trans R10_0.out)
  have R11_1 := Lib.hid ((hb.block _ (Array.getElem?_eq_some_iff.1 R10_1.out).1).trans R10_1.out)
  have R11_2 := Lib.hid ((hb.block _ (Array.getElem?_eq_some_iff.1 R10_2.out).1).trans R10_2.out)
  have HE11 := Lib.hid (HE10.out.below hb)
  have HB11 := Lib.hid (HB10.out.trans (hb.mono HB10.out.size))
  clear hb
  obtain ⟨c00, c01, c02, f00, f01, f02⟩ := box_cells R11_0.out
  obtain ⟨c10, c11, c12, f10, f11, f12⟩ := box_cells R11_1.out
  go_wp2_with fail
  refine (G5.out _).mono ?_
  rintro e v12 ⟨rfl, hb⟩
  clear c00 c01 c02 f00 f01 f02 c10 c11 c12 f10 f11 f12
  have R12_0 := Lib.hid ((hb.block _ (Array.getElem?_eq_some_iff.1 R11_0.out).1).trans R11_0.out)
  have R12_1 := Lib.hid ((hb.block _ (Array.getElem?_eq_some_iff.1 R11_1.out).1).trans R11_1.out)
  have R12_2 := Lib.hid ((hb.block _ (Array.getElem?_eq_some_iff.1 R11_2.out).1).trans R11_2.out)
  have HE12 := Lib.hid (HE11.out.below hb)
  have HB12 := Lib.hid (HB11.out.trans (hb.mono HB11.out.size))
  clear hb
  go_wp2_with fail
  go_ret
  exact ⟨rfl, HB12.out⟩
set_option maxHeartbeats 8000000 in
theorem order_n2 (x y z X Y Z : Sc) (B C : Int) (hx : ∀ w, Calls Tryz.prog 12 #[.agg #[.int .i64 x.1, .int .i64 x.2.1, .string x.2.2]] w fun e w' => e = .returned (.agg #[.int .i64 X.1, .int .i64 X.2.1, .string X.2.2]) ∧ Below w.heap.size w w')
    (hy : ∀ w, Calls Tryz.prog 12 #[.agg #[.int .i64 y.1, .int .i64 y.2.1, .string y.2.2]] w fun e w' => e = .returned (.agg #[.int .i64 Y.1, .int .i64 Y.2.1, .string Y.2.2]) ∧ Below w.heap.size w w')
    (hz : ∀ w, Calls Tryz.prog 12 #[.agg #[.int .i64 z.1, .int .i64 z.2.1, .string z.2.2]] w fun e w' => e = .returned (.agg #[.int .i64 Z.1, .int .i64 Z.2.1, .string Z.2.2]) ∧ Below w.heap.size w w')
    (g1 : ∀ w, Calls Tryz.prog 18 #[.agg #[.int .i64 X.1, .int .i64 X.2.1, .string X.2.2], .agg #[.int .i64 Y.1, .int .i64 Y.2.1, .string Y.2.2]] w fun e w' => e = .returned (.int .i64 (0)) ∧ Below w.heap.size w w')
    (g2 : ∀ w, Calls Tryz.prog 18 #[.agg #[.int .i64 Y.1, .int .i64 Y.2.1, .string Y.2.2], .agg #[.int .i64 Z.1, .int .i64 Z.2.1, .string Z.2.2]] w fun e w' => e = .returned (.int .i64 B) ∧ Below w.heap.size w w')
    (g3 : ∀ w, Calls Tryz.prog 18 #[.agg #[.int .i64 X.1, .int .i64 X.2.1, .string X.2.2], .agg #[.int .i64 Z.1, .int .i64 Z.2.1, .string Z.2.2]] w fun e w' => e = .returned (.int .i64 C) ∧ Below w.heap.size w w')
    (g4 : ∀ w, Calls Tryz.prog 18 #[.agg #[.int .i64 Y.1, .int .i64 Y.2.1, .string Y.2.2], .agg #[.int .i64 X.1, .int .i64 X.2.1, .string X.2.2]] w fun e w' => e = .returned (.int .i64 (0)) ∧ Below w.heap.size w w')
    (g5 : ∀ w, Calls Tryz.prog 18 #[.agg #[.int .i64 X.1, .int .i64 X.2.1, .string X.2.2], .agg #[.int .i64 X.1, .int .i64 X.2.1, .string X.2.2]] w fun e w' => e = .returned (.int .i64 0) ∧ Below w.heap.size w w')
    (h1 : ¬ 0 < B) (h2 : C ≤ 0) (q : ∀ w, (Op.equalIn 10000 23 (.agg #[.int .i64 X.1, .int .i64 X.2.1, .string X.2.2]) (.agg #[.int .i64 Y.1, .int .i64 Y.2.1, .string Y.2.2])).run Tryz.prog w = .ok true w)
    (w : World) (E : Env w) :
    Calls Tryz.prog 6 #[.agg #[.int .i64 x.1, .int .i64 x.2.1, .string x.2.2], .agg #[.int .i64 y.1, .int .i64 y.2.1, .string y.2.2], .agg #[.int .i64 z.1, .int .i64 z.2.1, .string z.2.2]] w fun e w' => e = .returned (.bool true) ∧ Below w.heap.size w w' := by
  have qg := guard_sc
  have HEE := Lib.hid E
  have HX := Lib.hid hx
  have HY := Lib.hid hy
  have HZ := Lib.hid hz
  have G1 := Lib.hid g1
  have G2 := Lib.hid g2
  have G3 := Lib.hid g3
  have G4 := Lib.hid g4
  have G5 := Lib.hid g5
  clear hx hy hz g1 g2 g3 g4 g5
  go_enter Tryz.func6, Tryz.ntmps6
  go_wp2_with fail
  obtain ⟨v0, hv0⟩ : ∃ v, ((w.alloc (scO x)).alloc (scO y)).alloc (scO z) = v := ⟨_, rfl⟩
  have hb0 : Below w.heap.size w v0 := by rw [← hv0]; exact ((((Below.refl _ w).alloc (Nat.le_refl _) _).alloc (by simp) _).alloc (by simp; omega) _)
  have r0_0 : v0.heap[w.heap.size]? = some (scO x) := by rw [← hv0]; exact (by simpa [World.size_alloc] using box_at3_0 w (scO x) (scO y) (scO z))
  have R0_0 := Lib.hid r0_0
  have r0_1 : v0.heap[w.heap.size + 1]? = some (scO y) := by rw [← hv0]; exact (by simpa [World.size_alloc] using box_at3_1 w (scO x) (scO y) (scO z))
  have R0_1 := Lib.hid r0_1
  have r0_2 : v0.heap[w.heap.size + 1 + 1]? = some (scO z) := by rw [← hv0]; exact (by simpa [World.size_alloc] using box_at3_2 w (scO x) (scO y) (scO z))
  have R0_2 := Lib.hid r0_2
  have HE0 := Lib.hid (E.below hb0)
  have HB0 := Lib.hid hb0
  rw [hv0]
  clear hv0 hb0 r0_0 r0_1 r0_2 E
  refine (shown_any _ HE0.out).mono ?_
  rintro e v1 ⟨rfl, hb⟩
  have R1_0 := Lib.hid ((hb.block _ (Array.getElem?_eq_some_iff.1 R0_0.out).1).trans R0_0.out)
  have R1_1 := Lib.hid ((hb.block _ (Array.getElem?_eq_some_iff.1 R0_1.out).1).trans R0_1.out)
  have R1_2 := Lib.hid ((hb.block _ (Array.getElem?_eq_some_iff.1 R0_2.out).1).trans R0_2.out)
  have HE1 := Lib.hid (HE0.out.below hb)
  have HB1 := Lib.hid (HB0.out.trans (hb.mono HB0.out.size))
  clear hb
  obtain ⟨c00, c01, c02, f00, f01, f02⟩ := box_cells R1_0.out
  go_wp2_with fail
  refine (HX.out _).mono ?_
  rintro e v2 ⟨rfl, hb⟩
  clear c00 c01 c02 f00 f01 f02
  have R2_0 := Lib.hid ((hb.block _ (Array.getElem?_eq_some_iff.1 R1_0.out).1).trans R1_0.out)
  have R2_1 := Lib.hid ((hb.block _ (Array.getElem?_eq_some_iff.1 R1_1.out).1).trans R1_1.out)
  have R2_2 := Lib.hid ((hb.block _ (Array.getElem?_eq_some_iff.1 R1_2.out).1).trans R1_2.out)
  have HE2 := Lib.hid (HE1.out.below hb)
  have HB2 := Lib.hid (HB1.out.trans (hb.mono HB1.out.size))
  clear hb
  obtain ⟨c00, c01, c02, f00, f01, f02⟩ := box_cells R2_0.out
  go_upto_region 3 with (fail)
  obtain ⟨v3, hv3⟩ : ∃ v, ((v2.setCell ⟨w.heap.size, 0, none⟩ (.int .i64 X.1)).setCell ⟨w.heap.size, 1, none⟩ (.int .i64 X.2.1)).setCell ⟨w.heap.size, 2, none⟩ (.string X.2.2) = v := ⟨_, rfl⟩
  rw [hv3]
  obtain ⟨hr, hg⟩ := box_store R2_0.out X
  rw [hv3] at hr hg
  have hbs : Below w.heap.size v2 v3 := below_of_grown hg (by omega) HB2.out.size
  have R3_0 := Lib.hid hr
  have R3_1 := Lib.hid ((hg.block _ (Array.getElem?_eq_some_iff.1 R2_1.out).1 (by simp; try omega)).trans R2_1.out)
  have R3_2 := Lib.hid ((hg.block _ (Array.getElem?_eq_some_iff.1 R2_2.out).1 (by simp; try omega)).trans R2_2.out)
  have HE3 := Lib.hid (HEE.out.below (HB2.out.trans hbs))
  have HB3 := Lib.hid (HB2.out.trans hbs)
  clear hv3 hr hg hbs
  clear c00 c01 c02 f00 f01 f02
  obtain ⟨c10, c11, c12, f10, f11, f12⟩ := box_cells R3_1.out
  go_wp2_with fail
  refine (HY.out _).mono ?_
  rintro e v4 ⟨rfl, hb⟩
  clear c10 c11 c12 f10 f11 f12
  have R4_0 := Lib.hid ((hb.block _ (Array.getElem?_eq_some_iff.1 R3_0.out).1).trans R3_0.out)
  have R4_1 := Lib.hid ((hb.block _ (Array.getElem?_eq_some_iff.1 R3_1.out).1).trans R3_1.out)
  have R4_2 := Lib.hid ((hb.block _ (Array.getElem?_eq_some_iff.1 R3_2.out).1).trans R3_2.out)
  have HE4 := Lib.hid (HE3.out.below hb)
  have HB4 := Lib.hid (HB3.out.trans (hb.mono HB3.out.size))
  clear hb
  obtain ⟨c10, c11, c12, f10, f11, f12⟩ := box_cells R4_1.out
  go_upto_region 4 with (fail)
  obtain ⟨v5, hv5⟩ : ∃ v, ((v4.setCell ⟨w.heap.size + 1, 0, none⟩ (.int .i64 Y.1)).setCell ⟨w.heap.size + 1, 1, none⟩ (.int .i64 Y.2.1)).setCell ⟨w.heap.size + 1, 2, none⟩ (.string Y.2.2) = v := ⟨_, rfl⟩
  rw [hv5]
  obtain ⟨hr, hg⟩ := box_store R4_1.out Y
  rw [hv5] at hr hg
  have hbs : Below w.heap.size v4 v5 := below_of_grown hg (by omega) HB4.out.size
  have R5_0 := Lib.hid ((hg.block _ (Array.getElem?_eq_some_iff.1 R4_0.out).1 (by simp; try omega)).trans R4_0.out)
  have R5_1 := Lib.hid hr
  have R5_2 := Lib.hid ((hg.block _ (Array.getElem?_eq_some_iff.1 R4_2.out).1 (by simp; try omega)).trans R4_2.out)
  have HE5 := Lib.hid (HEE.out.below (HB4.out.trans hbs))
  have HB5 := Lib.hid (HB4.out.trans hbs)
  clear hv5 hr hg hbs
  clear c10 c11 c12 f10 f11 f12
  obtain ⟨c20, c21, c22, f20, f21, f22⟩ := box_cells R5_2.out
  go_wp2_with fail
  refine (HZ.out _).mono ?_
  rintro e v6 ⟨rfl, hb⟩
  clear c20 c21 c22 f20 f21 f22
  have R6_0 := Lib.hid ((hb.block _ (Array.getElem?_eq_some_iff.1 R5_0.out).1).trans R5_0.out)
  have R6_1 := Lib.hid ((hb.block _ (Array.getElem?_eq_some_iff.1 R5_1.out).1).trans R5_1.out)
  have R6_2 := Lib.hid ((hb.block _ (Array.getElem?_eq_some_iff.1 R5_2.out).1).trans R5_2.out)
  have HE6 := Lib.hid (HE5.out.below hb)
  have HB6 := Lib.hid (HB5.out.trans (hb.mono HB5.out.size))
  clear hb
  obtain ⟨c20, c21, c22, f20, f21, f22⟩ := box_cells R6_2.out
  go_upto_region 5 with (fail)
  obtain ⟨v7, hv7⟩ : ∃ v, ((v6.setCell ⟨w.heap.size + 1 + 1, 0, none⟩ (.int .i64 Z.1)).setCell ⟨w.heap.size + 1 + 1, 1, none⟩ (.int .i64 Z.2.1)).setCell ⟨w.heap.size + 1 + 1, 2, none⟩ (.string Z.2.2) = v := ⟨_, rfl⟩
  rw [hv7]
  obtain ⟨hr, hg⟩ := box_store R6_2.out Z
  rw [hv7] at hr hg
  have hbs : Below w.heap.size v6 v7 := below_of_grown hg (by omega) HB6.out.size
  have R7_0 := Lib.hid ((hg.block _ (Array.getElem?_eq_some_iff.1 R6_0.out).1 (by simp; try omega)).trans R6_0.out)
  have R7_1 := Lib.hid ((hg.block _ (Array.getElem?_eq_some_iff.1 R6_1.out).1 (by simp; try omega)).trans R6_1.out)
  have R7_2 := Lib.hid hr
  have HE7 := Lib.hid (HEE.out.below (HB6.out.trans hbs))
  have HB7 := Lib.hid (HB6.out.trans hbs)
  clear hv7 hr hg hbs
  clear c20 c21 c22 f20 f21 f22
  obtain ⟨c00, c01, c02, f00, f01, f02⟩ := box_cells R7_0.out
  obtain ⟨c10, c11, c12, f10, f11, f12⟩ := box_cells R7_1.out
  go_wp2_with fail
  refine (G1.out _).mono ?_
  rintro e v8 ⟨rfl, hb⟩
  clear c00 c01 c02 f00 f01 f02 c10 c11 c12 f10 f11 f12
  have R8_0 := Lib.hid ((hb.block _ (Array.getElem?_eq_some_iff.1 R7_0.out).1).trans R7_0.out)
  have R8_1 := Lib.hid ((hb.block _ (Array.getElem?_eq_some_iff.1 R7_1.out).1).trans R7_1.out)
  have R8_2 := Lib.hid ((hb.block _ (Array.getElem?_eq_some_iff.1 R7_2.out).1).trans R7_2.out)
  have HE8 := Lib.hid (HE7.out.below hb)
  have HB8 := Lib.hid (HB7.out.trans (hb.mono HB7.out.size))
  clear hb
  obtain ⟨c10, c11, c12, f10, f11, f12⟩ := box_cells R8_1.out
  obtain ⟨c20, c21, c22, f20, f21, f22⟩ := box_cells R8_2.out
  go_wp2_with fail
  refine (G2.out _).mono ?_
  rintro e v9 ⟨rfl, hb⟩
  clear c10 c11 c12 f10 f11 f12 c20 c21 c22 f20 f21 f22
  have R9_0 := Lib.hid ((hb.block _ (Array.getElem?_eq_some_iff.1 R8_0.out).1).trans R8_0.out)
  have R9_1 := Lib.hid ((hb.block _ (Array.getElem?_eq_some_iff.1 R8_1.out).1).trans R8_1.out)
  have R9_2 := Lib.hid ((hb.block _ (Array.getElem?_eq_some_iff.1 R8_2.out).1).trans R8_2.out)
  have HE9 := Lib.hid (HE8.out.below hb)
  have HB9 := Lib.hid (HB8.out.trans (hb.mono HB8.out.size))
  clear hb
  obtain ⟨c00, c01, c02, f00, f01, f02⟩ := box_cells R9_0.out
  obtain ⟨c20, c21, c22, f20, f21, f22⟩ := box_cells R9_2.out
  go_wp2_with fail
  refine (G3.out _).mono ?_
  rintro e v10 ⟨rfl, hb⟩
  clear c00 c01 c02 f00 f01 f02 c20 c21 c22 f20 f21 f22
  have R10_0 := Lib.hid ((hb.block _ (Array.getElem?_eq_some_iff.1 R9_0.out).1).trans R9_0.out)
  have R10_1 := Lib.hid ((hb.block _ (Array.getElem?_eq_some_iff.1 R9_1.out).1).trans R9_1.out)
  have R10_2 := Lib.hid ((hb.block _ (Array.getElem?_eq_some_iff.1 R9_2.out).1).trans R9_2.out)
  have HE10 := Lib.hid (HE9.out.below hb)
  have HB10 := Lib.hid (HB9.out.trans (hb.mono HB9.out.size))
  clear hb
  obtain ⟨c00, c01, c02, f00, f01, f02⟩ := box_cells R10_0.out
  obtain ⟨c10, c11, c12, f10, f11, f12⟩ := box_cells R10_1.out
  go_wp2_with fail
  refine (G4.out _).mono ?_
  rintro e v11 ⟨rfl, hb⟩
  clear c00 c01 c02 f00 f01 f02 c10 c11 c12 f10 f11 f12
  have R11_0 := Lib.hid ((hb.block _ (Array.getElem?_eq_some_iff.1 R10_0.out).1).trans R10_0.out)
  have R11_1 := Lib.hid ((hb.block _ (Array.getElem?_eq_some_iff.1 R10_1.out).1).trans R10_1.out)
  have R11_2 := Lib.hid ((hb.block _ (Array.getElem?_eq_some_iff.1 R10_2.out).1).trans R10_2.out)
  have HE11 := Lib.hid (HE10.out.below hb)
  have HB11 := Lib.hid (HB10.out.trans (hb.mono HB10.out.size))
  clear hb
  obtain ⟨c00, c01, c02, f00, f01, f02⟩ := box_cells R11_0.out
  obtain ⟨c10, c11, c12, f10, f11, f12⟩ := box_cells R11_1.out
  go_wp2_with fail
  refine (G5.out _).mono ?_
  rintro e v12 ⟨rfl, hb⟩
  clear c00 c01 c02 f00 f01 f02 c10 c11 c12 f10 f11 f12
  have R12_0 := Lib.hid ((hb.block _ (Array.getElem?_eq_some_iff.1 R11_0.out).1).trans R11_0.out)
  have R12_1 := Lib.hid ((hb.block _ (Array.getElem?_eq_some_iff.1 R11_1.out).1).trans R11_1.out)
  have R12_2 := Lib.hid ((hb.block _ (Array.getElem?_eq_some_iff.1 R11_2.out).1).trans R11_2.out)
  have HE12 := Lib.hid (HE11.out.below hb)
  have HB12 := Lib.hid (HB11.out.trans (hb.mono HB11.out.size))
  clear hb
  go_wp2_with fail
  go_ret
  exact ⟨rfl, HB12.out⟩
set_option maxHeartbeats 8000000 in
theorem order_m1 (x y z X Y Z : Sc) (B C : Int) (hx : ∀ w, Calls Tryz.prog 12 #[.agg #[.int .i64 x.1, .int .i64 x.2.1, .string x.2.2]] w fun e w' => e = .returned (.agg #[.int .i64 X.1, .int .i64 X.2.1, .string X.2.2]) ∧ Below w.heap.size w w')
    (hy : ∀ w, Calls Tryz.prog 12 #[.agg #[.int .i64 y.1, .int .i64 y.2.1, .string y.2.2]] w fun e w' => e = .returned (.agg #[.int .i64 Y.1, .int .i64 Y.2.1, .string Y.2.2]) ∧ Below w.heap.size w w')
    (hz : ∀ w, Calls Tryz.prog 12 #[.agg #[.int .i64 z.1, .int .i64 z.2.1, .string z.2.2]] w fun e w' => e = .returned (.agg #[.int .i64 Z.1, .int .i64 Z.2.1, .string Z.2.2]) ∧ Below w.heap.size w w')
    (g1 : ∀ w, Calls Tryz.prog 18 #[.agg #[.int .i64 X.1, .int .i64 X.2.1, .string X.2.2], .agg #[.int .i64 Y.1, .int .i64 Y.2.1, .string Y.2.2]] w fun e w' => e = .returned (.int .i64 (-1)) ∧ Below w.heap.size w w')
    (g2 : ∀ w, Calls Tryz.prog 18 #[.agg #[.int .i64 Y.1, .int .i64 Y.2.1, .string Y.2.2], .agg #[.int .i64 Z.1, .int .i64 Z.2.1, .string Z.2.2]] w fun e w' => e = .returned (.int .i64 B) ∧ Below w.heap.size w w')
    (g3 : ∀ w, Calls Tryz.prog 18 #[.agg #[.int .i64 X.1, .int .i64 X.2.1, .string X.2.2], .agg #[.int .i64 Z.1, .int .i64 Z.2.1, .string Z.2.2]] w fun e w' => e = .returned (.int .i64 C) ∧ Below w.heap.size w w')
    (g4 : ∀ w, Calls Tryz.prog 18 #[.agg #[.int .i64 Y.1, .int .i64 Y.2.1, .string Y.2.2], .agg #[.int .i64 X.1, .int .i64 X.2.1, .string X.2.2]] w fun e w' => e = .returned (.int .i64 (1)) ∧ Below w.heap.size w w')
    (g5 : ∀ w, Calls Tryz.prog 18 #[.agg #[.int .i64 X.1, .int .i64 X.2.1, .string X.2.2], .agg #[.int .i64 X.1, .int .i64 X.2.1, .string X.2.2]] w fun e w' => e = .returned (.int .i64 0) ∧ Below w.heap.size w w')
    (h1 : 0 < B) (h2 : 0 ≤ B) (q : ∀ w, (Op.equalIn 10000 23 (.agg #[.int .i64 X.1, .int .i64 X.2.1, .string X.2.2]) (.agg #[.int .i64 Y.1, .int .i64 Y.2.1, .string Y.2.2])).run Tryz.prog w = .ok false w)
    (w : World) (E : Env w) :
    Calls Tryz.prog 6 #[.agg #[.int .i64 x.1, .int .i64 x.2.1, .string x.2.2], .agg #[.int .i64 y.1, .int .i64 y.2.1, .string y.2.2], .agg #[.int .i64 z.1, .int .i64 z.2.1, .string z.2.2]] w fun e w' => e = .returned (.bool true) ∧ Below w.heap.size w w' := by
  have qg := guard_sc
  have HEE := Lib.hid E
  have HX := Lib.hid hx
  have HY := Lib.hid hy
  have HZ := Lib.hid hz
  have G1 := Lib.hid g1
  have G2 := Lib.hid g2
  have G3 := Lib.hid g3
  have G4 := Lib.hid g4
  have G5 := Lib.hid g5
  clear hx hy hz g1 g2 g3 g4 g5
  go_enter Tryz.func6, Tryz.ntmps6
  go_wp2_with fail
  obtain ⟨v0, hv0⟩ : ∃ v, ((w.alloc (scO x)).alloc (scO y)).alloc (scO z) = v := ⟨_, rfl⟩
  have hb0 : Below w.heap.size w v0 := by rw [← hv0]; exact ((((Below.refl _ w).alloc (Nat.le_refl _) _).alloc (by simp) _).alloc (by simp; omega) _)
  have r0_0 : v0.heap[w.heap.size]? = some (scO x) := by rw [← hv0]; exact (by simpa [World.size_alloc] using box_at3_0 w (scO x) (scO y) (scO z))
  have R0_0 := Lib.hid r0_0
  have r0_1 : v0.heap[w.heap.size + 1]? = some (scO y) := by rw [← hv0]; exact (by simpa [World.size_alloc] using box_at3_1 w (scO x) (scO y) (scO z))
  have R0_1 := Lib.hid r0_1
  have r0_2 : v0.heap[w.heap.size + 1 + 1]? = some (scO z) := by rw [← hv0]; exact (by simpa [World.size_alloc] using box_at3_2 w (scO x) (scO y) (scO z))
  have R0_2 := Lib.hid r0_2
  have HE0 := Lib.hid (E.below hb0)
  have HB0 := Lib.hid hb0
  rw [hv0]
  clear hv0 hb0 r0_0 r0_1 r0_2 E
  refine (shown_any _ HE0.out).mono ?_
  rintro e v1 ⟨rfl, hb⟩
  have R1_0 := Lib.hid ((hb.block _ (Array.getElem?_eq_some_iff.1 R0_0.out).1).trans R0_0.out)
  have R1_1 := Lib.hid ((hb.block _ (Array.getElem?_eq_some_iff.1 R0_1.out).1).trans R0_1.out)
  have R1_2 := Lib.hid ((hb.block _ (Array.getElem?_eq_some_iff.1 R0_2.out).1).trans R0_2.out)
  have HE1 := Lib.hid (HE0.out.below hb)
  have HB1 := Lib.hid (HB0.out.trans (hb.mono HB0.out.size))
  clear hb
  obtain ⟨c00, c01, c02, f00, f01, f02⟩ := box_cells R1_0.out
  go_wp2_with fail
  refine (HX.out _).mono ?_
  rintro e v2 ⟨rfl, hb⟩
  clear c00 c01 c02 f00 f01 f02
  have R2_0 := Lib.hid ((hb.block _ (Array.getElem?_eq_some_iff.1 R1_0.out).1).trans R1_0.out)
  have R2_1 := Lib.hid ((hb.block _ (Array.getElem?_eq_some_iff.1 R1_1.out).1).trans R1_1.out)
  have R2_2 := Lib.hid ((hb.block _ (Array.getElem?_eq_some_iff.1 R1_2.out).1).trans R1_2.out)
  have HE2 := Lib.hid (HE1.out.below hb)
  have HB2 := Lib.hid (HB1.out.trans (hb.mono HB1.out.size))
  clear hb
  obtain ⟨c00, c01, c02, f00, f01, f02⟩ := box_cells R2_0.out
  go_upto_region 3 with (fail)
  obtain ⟨v3, hv3⟩ : ∃ v, ((v2.setCell ⟨w.heap.size, 0, none⟩ (.int .i64 X.1)).setCell ⟨w.heap.size, 1, none⟩ (.int .i64 X.2.1)).setCell ⟨w.heap.size, 2, none⟩ (.string X.2.2) = v := ⟨_, rfl⟩
  rw [hv3]
  obtain ⟨hr, hg⟩ := box_store R2_0.out X
  rw [hv3] at hr hg
  have hbs : Below w.heap.size v2 v3 := below_of_grown hg (by omega) HB2.out.size
  have R3_0 := Lib.hid hr
  have R3_1 := Lib.hid ((hg.block _ (Array.getElem?_eq_some_iff.1 R2_1.out).1 (by simp; try omega)).trans R2_1.out)
  have R3_2 := Lib.hid ((hg.block _ (Array.getElem?_eq_some_iff.1 R2_2.out).1 (by simp; try omega)).trans R2_2.out)
  have HE3 := Lib.hid (HEE.out.below (HB2.out.trans hbs))
  have HB3 := Lib.hid (HB2.out.trans hbs)
  clear hv3 hr hg hbs
  clear c00 c01 c02 f00 f01 f02
  obtain ⟨c10, c11, c12, f10, f11, f12⟩ := box_cells R3_1.out
  go_wp2_with fail
  refine (HY.out _).mono ?_
  rintro e v4 ⟨rfl, hb⟩
  clear c10 c11 c12 f10 f11 f12
  have R4_0 := Lib.hid ((hb.block _ (Array.getElem?_eq_some_iff.1 R3_0.out).1).trans R3_0.out)
  have R4_1 := Lib.hid ((hb.block _ (Array.getElem?_eq_some_iff.1 R3_1.out).1).trans R3_1.out)
  have R4_2 := Lib.hid ((hb.block _ (Array.getElem?_eq_some_iff.1 R3_2.out).1).trans R3_2.out)
  have HE4 := Lib.hid (HE3.out.below hb)
  have HB4 := Lib.hid (HB3.out.trans (hb.mono HB3.out.size))
  clear hb
  obtain ⟨c10, c11, c12, f10, f11, f12⟩ := box_cells R4_1.out
  go_upto_region 4 with (fail)
  obtain ⟨v5, hv5⟩ : ∃ v, ((v4.setCell ⟨w.heap.size + 1, 0, none⟩ (.int .i64 Y.1)).setCell ⟨w.heap.size + 1, 1, none⟩ (.int .i64 Y.2.1)).setCell ⟨w.heap.size + 1, 2, none⟩ (.string Y.2.2) = v := ⟨_, rfl⟩
  rw [hv5]
  obtain ⟨hr, hg⟩ := box_store R4_1.out Y
  rw [hv5] at hr hg
  have hbs : Below w.heap.size v4 v5 := below_of_grown hg (by omega) HB4.out.size
  have R5_0 := Lib.hid ((hg.block _ (Array.getElem?_eq_some_iff.1 R4_0.out).1 (by simp; try omega)).trans R4_0.out)
  have R5_1 := Lib.hid hr
  have R5_2 := Lib.hid ((hg.block _ (Array.getElem?_eq_some_iff.1 R4_2.out).1 (by simp; try omega)).trans R4_2.out)
  have HE5 := Lib.hid (HEE.out.below (HB4.out.trans hbs))
  have HB5 := Lib.hid (HB4.out.trans hbs)
  clear hv5 hr hg hbs
  clear c10 c11 c12 f10 f11 f12
  obtain ⟨c20, c21, c22, f20, f21, f22⟩ := box_cells R5_2.out
  go_wp2_with fail
  refine (HZ.out _).mono ?_
  rintro e v6 ⟨rfl, hb⟩
  clear c20 c21 c22 f20 f21 f22
  have R6_0 := Lib.hid ((hb.block _ (Array.getElem?_eq_some_iff.1 R5_0.out).1).trans R5_0.out)
  have R6_1 := Lib.hid ((hb.block _ (Array.getElem?_eq_some_iff.1 R5_1.out).1).trans R5_1.out)
  have R6_2 := Lib.hid ((hb.block _ (Array.getElem?_eq_some_iff.1 R5_2.out).1).trans R5_2.out)
  have HE6 := Lib.hid (HE5.out.below hb)
  have HB6 := Lib.hid (HB5.out.trans (hb.mono HB5.out.size))
  clear hb
  obtain ⟨c20, c21, c22, f20, f21, f22⟩ := box_cells R6_2.out
  go_upto_region 5 with (fail)
  obtain ⟨v7, hv7⟩ : ∃ v, ((v6.setCell ⟨w.heap.size + 1 + 1, 0, none⟩ (.int .i64 Z.1)).setCell ⟨w.heap.size + 1 + 1, 1, none⟩ (.int .i64 Z.2.1)).setCell ⟨w.heap.size + 1 + 1, 2, none⟩ (.string Z.2.2) = v := ⟨_, rfl⟩
  rw [hv7]
  obtain ⟨hr, hg⟩ := box_store R6_2.out Z
  rw [hv7] at hr hg
  have hbs : Below w.heap.size v6 v7 := below_of_grown hg (by omega) HB6.out.size
  have R7_0 := Lib.hid ((hg.block _ (Array.getElem?_eq_some_iff.1 R6_0.out).1 (by simp; try omega)).trans R6_0.out)
  have R7_1 := Lib.hid ((hg.block _ (Array.getElem?_eq_some_iff.1 R6_1.out).1 (by simp; try omega)).trans R6_1.out)
  have R7_2 := Lib.hid hr
  have HE7 := Lib.hid (HEE.out.below (HB6.out.trans hbs))
  have HB7 := Lib.hid (HB6.out.trans hbs)
  clear hv7 hr hg hbs
  clear c20 c21 c22 f20 f21 f22
  obtain ⟨c00, c01, c02, f00, f01, f02⟩ := box_cells R7_0.out
  obtain ⟨c10, c11, c12, f10, f11, f12⟩ := box_cells R7_1.out
  go_wp2_with fail
  refine (G1.out _).mono ?_
  rintro e v8 ⟨rfl, hb⟩
  clear c00 c01 c02 f00 f01 f02 c10 c11 c12 f10 f11 f12
  have R8_0 := Lib.hid ((hb.block _ (Array.getElem?_eq_some_iff.1 R7_0.out).1).trans R7_0.out)
  have R8_1 := Lib.hid ((hb.block _ (Array.getElem?_eq_some_iff.1 R7_1.out).1).trans R7_1.out)
  have R8_2 := Lib.hid ((hb.block _ (Array.getElem?_eq_some_iff.1 R7_2.out).1).trans R7_2.out)
  have HE8 := Lib.hid (HE7.out.below hb)
  have HB8 := Lib.hid (HB7.out.trans (hb.mono HB7.out.size))
  clear hb
  obtain ⟨c10, c11, c12, f10, f11, f12⟩ := box_cells R8_1.out
  obtain ⟨c20, c21, c22, f20, f21, f22⟩ := box_cells R8_2.out
  go_wp2_with fail
  refine (G2.out _).mono ?_
  rintro e v9 ⟨rfl, hb⟩
  clear c10 c11 c12 f10 f11 f12 c20 c21 c22 f20 f21 f22
  have R9_0 := Lib.hid ((hb.block _ (Array.getElem?_eq_some_iff.1 R8_0.out).1).trans R8_0.out)
  have R9_1 := Lib.hid ((hb.block _ (Array.getElem?_eq_some_iff.1 R8_1.out).1).trans R8_1.out)
  have R9_2 := Lib.hid ((hb.block _ (Array.getElem?_eq_some_iff.1 R8_2.out).1).trans R8_2.out)
  have HE9 := Lib.hid (HE8.out.below hb)
  have HB9 := Lib.hid (HB8.out.trans (hb.mono HB8.out.size))
  clear hb
  obtain ⟨c00, c01, c02, f00, f01, f02⟩ := box_cells R9_0.out
  obtain ⟨c20, c21, c22, f20, f21, f22⟩ := box_cells R9_2.out
  go_wp2_with fail
  refine (G3.out _).mono ?_
  rintro e v10 ⟨rfl, hb⟩
  clear c00 c01 c02 f00 f01 f02 c20 c21 c22 f20 f21 f22
  have R10_0 := Lib.hid ((hb.block _ (Array.getElem?_eq_some_iff.1 R9_0.out).1).trans R9_0.out)
  have R10_1 := Lib.hid ((hb.block _ (Array.getElem?_eq_some_iff.1 R9_1.out).1).trans R9_1.out)
  have R10_2 := Lib.hid ((hb.block _ (Array.getElem?_eq_some_iff.1 R9_2.out).1).trans R9_2.out)
  have HE10 := Lib.hid (HE9.out.below hb)
  have HB10 := Lib.hid (HB9.out.trans (hb.mono HB9.out.size))
  clear hb
  obtain ⟨c00, c01, c02, f00, f01, f02⟩ := box_cells R10_0.out
  obtain ⟨c10, c11, c12, f10, f11, f12⟩ := box_cells R10_1.out
  go_wp2_with fail
  refine (G4.out _).mono ?_
  rintro e v11 ⟨rfl, hb⟩
  clear c00 c01 c02 f00 f01 f02 c10 c11 c12 f10 f11 f12
  have R11_0 := Lib.hid ((hb.block _ (Array.getElem?_eq_some_iff.1 R10_0.out).1).trans R10_0.out)
  have R11_1 := Lib.hid ((hb.block _ (Array.getElem?_eq_some_iff.1 R10_1.out).1).trans R10_1.out)
  have R11_2 := Lib.hid ((hb.block _ (Array.getElem?_eq_some_iff.1 R10_2.out).1).trans R10_2.out)
  have HE11 := Lib.hid (HE10.out.below hb)
  have HB11 := Lib.hid (HB10.out.trans (hb.mono HB10.out.size))
  clear hb
  obtain ⟨c00, c01, c02, f00, f01, f02⟩ := box_cells R11_0.out
  obtain ⟨c10, c11, c12, f10, f11, f12⟩ := box_cells R11_1.out
  go_wp2_with fail
  refine (G5.out _).mono ?_
  rintro e v12 ⟨rfl, hb⟩
  clear c00 c01 c02 f00 f01 f02 c10 c11 c12 f10 f11 f12
  have R12_0 := Lib.hid ((hb.block _ (Array.getElem?_eq_some_iff.1 R11_0.out).1).trans R11_0.out)
  have R12_1 := Lib.hid ((hb.block _ (Array.getElem?_eq_some_iff.1 R11_1.out).1).trans R11_1.out)
  have R12_2 := Lib.hid ((hb.block _ (Array.getElem?_eq_some_iff.1 R11_2.out).1).trans R11_2.out)
  have HE12 := Lib.hid (HE11.out.below hb)
  have HB12 := Lib.hid (HB11.out.trans (hb.mono HB11.out.size))
  clear hb
  go_wp2_with fail
  go_ret
  exact ⟨rfl, HB12.out⟩
set_option maxHeartbeats 8000000 in
theorem order_m2 (x y z X Y Z : Sc) (B C : Int) (hx : ∀ w, Calls Tryz.prog 12 #[.agg #[.int .i64 x.1, .int .i64 x.2.1, .string x.2.2]] w fun e w' => e = .returned (.agg #[.int .i64 X.1, .int .i64 X.2.1, .string X.2.2]) ∧ Below w.heap.size w w')
    (hy : ∀ w, Calls Tryz.prog 12 #[.agg #[.int .i64 y.1, .int .i64 y.2.1, .string y.2.2]] w fun e w' => e = .returned (.agg #[.int .i64 Y.1, .int .i64 Y.2.1, .string Y.2.2]) ∧ Below w.heap.size w w')
    (hz : ∀ w, Calls Tryz.prog 12 #[.agg #[.int .i64 z.1, .int .i64 z.2.1, .string z.2.2]] w fun e w' => e = .returned (.agg #[.int .i64 Z.1, .int .i64 Z.2.1, .string Z.2.2]) ∧ Below w.heap.size w w')
    (g1 : ∀ w, Calls Tryz.prog 18 #[.agg #[.int .i64 X.1, .int .i64 X.2.1, .string X.2.2], .agg #[.int .i64 Y.1, .int .i64 Y.2.1, .string Y.2.2]] w fun e w' => e = .returned (.int .i64 (-1)) ∧ Below w.heap.size w w')
    (g2 : ∀ w, Calls Tryz.prog 18 #[.agg #[.int .i64 Y.1, .int .i64 Y.2.1, .string Y.2.2], .agg #[.int .i64 Z.1, .int .i64 Z.2.1, .string Z.2.2]] w fun e w' => e = .returned (.int .i64 B) ∧ Below w.heap.size w w')
    (g3 : ∀ w, Calls Tryz.prog 18 #[.agg #[.int .i64 X.1, .int .i64 X.2.1, .string X.2.2], .agg #[.int .i64 Z.1, .int .i64 Z.2.1, .string Z.2.2]] w fun e w' => e = .returned (.int .i64 C) ∧ Below w.heap.size w w')
    (g4 : ∀ w, Calls Tryz.prog 18 #[.agg #[.int .i64 Y.1, .int .i64 Y.2.1, .string Y.2.2], .agg #[.int .i64 X.1, .int .i64 X.2.1, .string X.2.2]] w fun e w' => e = .returned (.int .i64 (1)) ∧ Below w.heap.size w w')
    (g5 : ∀ w, Calls Tryz.prog 18 #[.agg #[.int .i64 X.1, .int .i64 X.2.1, .string X.2.2], .agg #[.int .i64 X.1, .int .i64 X.2.1, .string X.2.2]] w fun e w' => e = .returned (.int .i64 0) ∧ Below w.heap.size w w')
    (h1 : ¬ 0 < B) (h2 : C ≤ 0) (h3 : 0 ≤ B) (q : ∀ w, (Op.equalIn 10000 23 (.agg #[.int .i64 X.1, .int .i64 X.2.1, .string X.2.2]) (.agg #[.int .i64 Y.1, .int .i64 Y.2.1, .string Y.2.2])).run Tryz.prog w = .ok false w)
    (w : World) (E : Env w) :
    Calls Tryz.prog 6 #[.agg #[.int .i64 x.1, .int .i64 x.2.1, .string x.2.2], .agg #[.int .i64 y.1, .int .i64 y.2.1, .string y.2.2], .agg #[.int .i64 z.1, .int .i64 z.2.1, .string z.2.2]] w fun e w' => e = .returned (.bool true) ∧ Below w.heap.size w w' := by
  have qg := guard_sc
  have HEE := Lib.hid E
  have HX := Lib.hid hx
  have HY := Lib.hid hy
  have HZ := Lib.hid hz
  have G1 := Lib.hid g1
  have G2 := Lib.hid g2
  have G3 := Lib.hid g3
  have G4 := Lib.hid g4
  have G5 := Lib.hid g5
  clear hx hy hz g1 g2 g3 g4 g5
  go_enter Tryz.func6, Tryz.ntmps6
  go_wp2_with fail
  obtain ⟨v0, hv0⟩ : ∃ v, ((w.alloc (scO x)).alloc (scO y)).alloc (scO z) = v := ⟨_, rfl⟩
  have hb0 : Below w.heap.size w v0 := by rw [← hv0]; exact ((((Below.refl _ w).alloc (Nat.le_refl _) _).alloc (by simp) _).alloc (by simp; omega) _)
  have r0_0 : v0.heap[w.heap.size]? = some (scO x) := by rw [← hv0]; exact (by simpa [World.size_alloc] using box_at3_0 w (scO x) (scO y) (scO z))
  have R0_0 := Lib.hid r0_0
  have r0_1 : v0.heap[w.heap.size + 1]? = some (scO y) := by rw [← hv0]; exact (by simpa [World.size_alloc] using box_at3_1 w (scO x) (scO y) (scO z))
  have R0_1 := Lib.hid r0_1
  have r0_2 : v0.heap[w.heap.size + 1 + 1]? = some (scO z) := by rw [← hv0]; exact (by simpa [World.size_alloc] using box_at3_2 w (scO x) (scO y) (scO z))
  have R0_2 := Lib.hid r0_2
  have HE0 := Lib.hid (E.below hb0)
  have HB0 := Lib.hid hb0
  rw [hv0]
  clear hv0 hb0 r0_0 r0_1 r0_2 E
  refine (shown_any _ HE0.out).mono ?_
  rintro e v1 ⟨rfl, hb⟩
  have R1_0 := Lib.hid ((hb.block _ (Array.getElem?_eq_some_iff.1 R0_0.out).1).trans R0_0.out)
  have R1_1 := Lib.hid ((hb.block _ (Array.getElem?_eq_some_iff.1 R0_1.out).1).trans R0_1.out)
  have R1_2 := Lib.hid ((hb.block _ (Array.getElem?_eq_some_iff.1 R0_2.out).1).trans R0_2.out)
  have HE1 := Lib.hid (HE0.out.below hb)
  have HB1 := Lib.hid (HB0.out.trans (hb.mono HB0.out.size))
  clear hb
  obtain ⟨c00, c01, c02, f00, f01, f02⟩ := box_cells R1_0.out
  go_wp2_with fail
  refine (HX.out _).mono ?_
  rintro e v2 ⟨rfl, hb⟩
  clear c00 c01 c02 f00 f01 f02
  have R2_0 := Lib.hid ((hb.block _ (Array.getElem?_eq_some_iff.1 R1_0.out).1).trans R1_0.out)
  have R2_1 := Lib.hid ((hb.block _ (Array.getElem?_eq_some_iff.1 R1_1.out).1).trans R1_1.out)
  have R2_2 := Lib.hid ((hb.block _ (Array.getElem?_eq_some_iff.1 R1_2.out).1).trans R1_2.out)
  have HE2 := Lib.hid (HE1.out.below hb)
  have HB2 := Lib.hid (HB1.out.trans (hb.mono HB1.out.size))
  clear hb
  obtain ⟨c00, c01, c02, f00, f01, f02⟩ := box_cells R2_0.out
  go_upto_region 3 with (fail)
  obtain ⟨v3, hv3⟩ : ∃ v, ((v2.setCell ⟨w.heap.size, 0, none⟩ (.int .i64 X.1)).setCell ⟨w.heap.size, 1, none⟩ (.int .i64 X.2.1)).setCell ⟨w.heap.size, 2, none⟩ (.string X.2.2) = v := ⟨_, rfl⟩
  rw [hv3]
  obtain ⟨hr, hg⟩ := box_store R2_0.out X
  rw [hv3] at hr hg
  have hbs : Below w.heap.size v2 v3 := below_of_grown hg (by omega) HB2.out.size
  have R3_0 := Lib.hid hr
  have R3_1 := Lib.hid ((hg.block _ (Array.getElem?_eq_some_iff.1 R2_1.out).1 (by simp; try omega)).trans R2_1.out)
  have R3_2 := Lib.hid ((hg.block _ (Array.getElem?_eq_some_iff.1 R2_2.out).1 (by simp; try omega)).trans R2_2.out)
  have HE3 := Lib.hid (HEE.out.below (HB2.out.trans hbs))
  have HB3 := Lib.hid (HB2.out.trans hbs)
  clear hv3 hr hg hbs
  clear c00 c01 c02 f00 f01 f02
  obtain ⟨c10, c11, c12, f10, f11, f12⟩ := box_cells R3_1.out
  go_wp2_with fail
  refine (HY.out _).mono ?_
  rintro e v4 ⟨rfl, hb⟩
  clear c10 c11 c12 f10 f11 f12
  have R4_0 := Lib.hid ((hb.block _ (Array.getElem?_eq_some_iff.1 R3_0.out).1).trans R3_0.out)
  have R4_1 := Lib.hid ((hb.block _ (Array.getElem?_eq_some_iff.1 R3_1.out).1).trans R3_1.out)
  have R4_2 := Lib.hid ((hb.block _ (Array.getElem?_eq_some_iff.1 R3_2.out).1).trans R3_2.out)
  have HE4 := Lib.hid (HE3.out.below hb)
  have HB4 := Lib.hid (HB3.out.trans (hb.mono HB3.out.size))
  clear hb
  obtain ⟨c10, c11, c12, f10, f11, f12⟩ := box_cells R4_1.out
  go_upto_region 4 with (fail)
  obtain ⟨v5, hv5⟩ : ∃ v, ((v4.setCell ⟨w.heap.size + 1, 0, none⟩ (.int .i64 Y.1)).setCell ⟨w.heap.size + 1, 1, none⟩ (.int .i64 Y.2.1)).setCell ⟨w.heap.size + 1, 2, none⟩ (.string Y.2.2) = v := ⟨_, rfl⟩
  rw [hv5]
  obtain ⟨hr, hg⟩ := box_store R4_1.out Y
  rw [hv5] at hr hg
  have hbs : Below w.heap.size v4 v5 := below_of_grown hg (by omega) HB4.out.size
  have R5_0 := Lib.hid ((hg.block _ (Array.getElem?_eq_some_iff.1 R4_0.out).1 (by simp; try omega)).trans R4_0.out)
  have R5_1 := Lib.hid hr
  have R5_2 := Lib.hid ((hg.block _ (Array.getElem?_eq_some_iff.1 R4_2.out).1 (by simp; try omega)).trans R4_2.out)
  have HE5 := Lib.hid (HEE.out.below (HB4.out.trans hbs))
  have HB5 := Lib.hid (HB4.out.trans hbs)
  clear hv5 hr hg hbs
  clear c10 c11 c12 f10 f11 f12
  obtain ⟨c20, c21, c22, f20, f21, f22⟩ := box_cells R5_2.out
  go_wp2_with fail
  refine (HZ.out _).mono ?_
  rintro e v6 ⟨rfl, hb⟩
  clear c20 c21 c22 f20 f21 f22
  have R6_0 := Lib.hid ((hb.block _ (Array.getElem?_eq_some_iff.1 R5_0.out).1).trans R5_0.out)
  have R6_1 := Lib.hid ((hb.block _ (Array.getElem?_eq_some_iff.1 R5_1.out).1).trans R5_1.out)
  have R6_2 := Lib.hid ((hb.block _ (Array.getElem?_eq_some_iff.1 R5_2.out).1).trans R5_2.out)
  have HE6 := Lib.hid (HE5.out.below hb)
  have HB6 := Lib.hid (HB5.out.trans (hb.mono HB5.out.size))
  clear hb
  obtain ⟨c20, c21, c22, f20, f21, f22⟩ := box_cells R6_2.out
  go_upto_region 5 with (fail)
  obtain ⟨v7, hv7⟩ : ∃ v, ((v6.setCell ⟨w.heap.size + 1 + 1, 0, none⟩ (.int .i64 Z.1)).setCell ⟨w.heap.size + 1 + 1, 1, none⟩ (.int .i64 Z.2.1)).setCell ⟨w.heap.size + 1 + 1, 2, none⟩ (.string Z.2.2) = v := ⟨_, rfl⟩
  rw [hv7]
  obtain ⟨hr, hg⟩ := box_store R6_2.out Z
  rw [hv7] at hr hg
  have hbs : Below w.heap.size v6 v7 := below_of_grown hg (by omega) HB6.out.size
  have R7_0 := Lib.hid ((hg.block _ (Array.getElem?_eq_some_iff.1 R6_0.out).1 (by simp; try omega)).trans R6_0.out)
  have R7_1 := Lib.hid ((hg.block _ (Array.getElem?_eq_some_iff.1 R6_1.out).1 (by simp; try omega)).trans R6_1.out)
  have R7_2 := Lib.hid hr
  have HE7 := Lib.hid (HEE.out.below (HB6.out.trans hbs))
  have HB7 := Lib.hid (HB6.out.trans hbs)
  clear hv7 hr hg hbs
  clear c20 c21 c22 f20 f21 f22
  obtain ⟨c00, c01, c02, f00, f01, f02⟩ := box_cells R7_0.out
  obtain ⟨c10, c11, c12, f10, f11, f12⟩ := box_cells R7_1.out
  go_wp2_with fail
  refine (G1.out _).mono ?_
  rintro e v8 ⟨rfl, hb⟩
  clear c00 c01 c02 f00 f01 f02 c10 c11 c12 f10 f11 f12
  have R8_0 := Lib.hid ((hb.block _ (Array.getElem?_eq_some_iff.1 R7_0.out).1).trans R7_0.out)
  have R8_1 := Lib.hid ((hb.block _ (Array.getElem?_eq_some_iff.1 R7_1.out).1).trans R7_1.out)
  have R8_2 := Lib.hid ((hb.block _ (Array.getElem?_eq_some_iff.1 R7_2.out).1).trans R7_2.out)
  have HE8 := Lib.hid (HE7.out.below hb)
  have HB8 := Lib.hid (HB7.out.trans (hb.mono HB7.out.size))
  clear hb
  obtain ⟨c10, c11, c12, f10, f11, f12⟩ := box_cells R8_1.out
  obtain ⟨c20, c21, c22, f20, f21, f22⟩ := box_cells R8_2.out
  go_wp2_with fail
  refine (G2.out _).mono ?_
  rintro e v9 ⟨rfl, hb⟩
  clear c10 c11 c12 f10 f11 f12 c20 c21 c22 f20 f21 f22
  have R9_0 := Lib.hid ((hb.block _ (Array.getElem?_eq_some_iff.1 R8_0.out).1).trans R8_0.out)
  have R9_1 := Lib.hid ((hb.block _ (Array.getElem?_eq_some_iff.1 R8_1.out).1).trans R8_1.out)
  have R9_2 := Lib.hid ((hb.block _ (Array.getElem?_eq_some_iff.1 R8_2.out).1).trans R8_2.out)
  have HE9 := Lib.hid (HE8.out.below hb)
  have HB9 := Lib.hid (HB8.out.trans (hb.mono HB8.out.size))
  clear hb
  obtain ⟨c00, c01, c02, f00, f01, f02⟩ := box_cells R9_0.out
  obtain ⟨c20, c21, c22, f20, f21, f22⟩ := box_cells R9_2.out
  go_wp2_with fail
  refine (G3.out _).mono ?_
  rintro e v10 ⟨rfl, hb⟩
  clear c00 c01 c02 f00 f01 f02 c20 c21 c22 f20 f21 f22
  have R10_0 := Lib.hid ((hb.block _ (Array.getElem?_eq_some_iff.1 R9_0.out).1).trans R9_0.out)
  have R10_1 := Lib.hid ((hb.block _ (Array.getElem?_eq_some_iff.1 R9_1.out).1).trans R9_1.out)
  have R10_2 := Lib.hid ((hb.block _ (Array.getElem?_eq_some_iff.1 R9_2.out).1).trans R9_2.out)
  have HE10 := Lib.hid (HE9.out.below hb)
  have HB10 := Lib.hid (HB9.out.trans (hb.mono HB9.out.size))
  clear hb
  obtain ⟨c00, c01, c02, f00, f01, f02⟩ := box_cells R10_0.out
  obtain ⟨c10, c11, c12, f10, f11, f12⟩ := box_cells R10_1.out
  go_wp2_with fail
  refine (G4.out _).mono ?_
  rintro e v11 ⟨rfl, hb⟩
  clear c00 c01 c02 f00 f01 f02 c10 c11 c12 f10 f11 f12
  have R11_0 := Lib.hid ((hb.block _ (Array.getElem?_eq_some_iff.1 R10_0.out).1).trans R10_0.out)
  have R11_1 := Lib.hid ((hb.block _ (Array.getElem?_eq_some_iff.1 R10_1.out).1).trans R10_1.out)
  have R11_2 := Lib.hid ((hb.block _ (Array.getElem?_eq_some_iff.1 R10_2.out).1).trans R10_2.out)
  have HE11 := Lib.hid (HE10.out.below hb)
  have HB11 := Lib.hid (HB10.out.trans (hb.mono HB10.out.size))
  clear hb
  obtain ⟨c00, c01, c02, f00, f01, f02⟩ := box_cells R11_0.out
  obtain ⟨c10, c11, c12, f10, f11, f12⟩ := box_cells R11_1.out
  go_wp2_with fail
  refine (G5.out _).mono ?_
  rintro e v12 ⟨rfl, hb⟩
  clear c00 c01 c02 f00 f01 f02 c10 c11 c12 f10 f11 f12
  have R12_0 := Lib.hid ((hb.block _ (Array.getElem?_eq_some_iff.1 R11_0.out).1).trans R11_0.out)
  have R12_1 := Lib.hid ((hb.block _ (Array.getElem?_eq_some_iff.1 R11_1.out).1).trans R11_1.out)
  have R12_2 := Lib.hid ((hb.block _ (Array.getElem?_eq_some_iff.1 R11_2.out).1).trans R11_2.out)
  have HE12 := Lib.hid (HE11.out.below hb)
  have HB12 := Lib.hid (HB11.out.trans (hb.mono HB11.out.size))
  clear hb
  go_wp2_with fail
  go_ret
  exact ⟨rfl, HB12.out⟩
set_option maxHeartbeats 8000000 in
theorem order_m3 (x y z X Y Z : Sc) (B C : Int) (hx : ∀ w, Calls Tryz.prog 12 #[.agg #[.int .i64 x.1, .int .i64 x.2.1, .string x.2.2]] w fun e w' => e = .returned (.agg #[.int .i64 X.1, .int .i64 X.2.1, .string X.2.2]) ∧ Below w.heap.size w w')
    (hy : ∀ w, Calls Tryz.prog 12 #[.agg #[.int .i64 y.1, .int .i64 y.2.1, .string y.2.2]] w fun e w' => e = .returned (.agg #[.int .i64 Y.1, .int .i64 Y.2.1, .string Y.2.2]) ∧ Below w.heap.size w w')
    (hz : ∀ w, Calls Tryz.prog 12 #[.agg #[.int .i64 z.1, .int .i64 z.2.1, .string z.2.2]] w fun e w' => e = .returned (.agg #[.int .i64 Z.1, .int .i64 Z.2.1, .string Z.2.2]) ∧ Below w.heap.size w w')
    (g1 : ∀ w, Calls Tryz.prog 18 #[.agg #[.int .i64 X.1, .int .i64 X.2.1, .string X.2.2], .agg #[.int .i64 Y.1, .int .i64 Y.2.1, .string Y.2.2]] w fun e w' => e = .returned (.int .i64 (-1)) ∧ Below w.heap.size w w')
    (g2 : ∀ w, Calls Tryz.prog 18 #[.agg #[.int .i64 Y.1, .int .i64 Y.2.1, .string Y.2.2], .agg #[.int .i64 Z.1, .int .i64 Z.2.1, .string Z.2.2]] w fun e w' => e = .returned (.int .i64 B) ∧ Below w.heap.size w w')
    (g3 : ∀ w, Calls Tryz.prog 18 #[.agg #[.int .i64 X.1, .int .i64 X.2.1, .string X.2.2], .agg #[.int .i64 Z.1, .int .i64 Z.2.1, .string Z.2.2]] w fun e w' => e = .returned (.int .i64 C) ∧ Below w.heap.size w w')
    (g4 : ∀ w, Calls Tryz.prog 18 #[.agg #[.int .i64 Y.1, .int .i64 Y.2.1, .string Y.2.2], .agg #[.int .i64 X.1, .int .i64 X.2.1, .string X.2.2]] w fun e w' => e = .returned (.int .i64 (1)) ∧ Below w.heap.size w w')
    (g5 : ∀ w, Calls Tryz.prog 18 #[.agg #[.int .i64 X.1, .int .i64 X.2.1, .string X.2.2], .agg #[.int .i64 X.1, .int .i64 X.2.1, .string X.2.2]] w fun e w' => e = .returned (.int .i64 0) ∧ Below w.heap.size w w')
    (h1 : ¬ 0 < B) (h2 : C ≤ 0) (h3 : ¬ 0 ≤ B) (h4 : C < 0) (q : ∀ w, (Op.equalIn 10000 23 (.agg #[.int .i64 X.1, .int .i64 X.2.1, .string X.2.2]) (.agg #[.int .i64 Y.1, .int .i64 Y.2.1, .string Y.2.2])).run Tryz.prog w = .ok false w)
    (w : World) (E : Env w) :
    Calls Tryz.prog 6 #[.agg #[.int .i64 x.1, .int .i64 x.2.1, .string x.2.2], .agg #[.int .i64 y.1, .int .i64 y.2.1, .string y.2.2], .agg #[.int .i64 z.1, .int .i64 z.2.1, .string z.2.2]] w fun e w' => e = .returned (.bool true) ∧ Below w.heap.size w w' := by
  have qg := guard_sc
  have HEE := Lib.hid E
  have HX := Lib.hid hx
  have HY := Lib.hid hy
  have HZ := Lib.hid hz
  have G1 := Lib.hid g1
  have G2 := Lib.hid g2
  have G3 := Lib.hid g3
  have G4 := Lib.hid g4
  have G5 := Lib.hid g5
  clear hx hy hz g1 g2 g3 g4 g5
  go_enter Tryz.func6, Tryz.ntmps6
  go_wp2_with fail
  obtain ⟨v0, hv0⟩ : ∃ v, ((w.alloc (scO x)).alloc (scO y)).alloc (scO z) = v := ⟨_, rfl⟩
  have hb0 : Below w.heap.size w v0 := by rw [← hv0]; exact ((((Below.refl _ w).alloc (Nat.le_refl _) _).alloc (by simp) _).alloc (by simp; omega) _)
  have r0_0 : v0.heap[w.heap.size]? = some (scO x) := by rw [← hv0]; exact (by simpa [World.size_alloc] using box_at3_0 w (scO x) (scO y) (scO z))
  have R0_0 := Lib.hid r0_0
  have r0_1 : v0.heap[w.heap.size + 1]? = some (scO y) := by rw [← hv0]; exact (by simpa [World.size_alloc] using box_at3_1 w (scO x) (scO y) (scO z))
  have R0_1 := Lib.hid r0_1
  have r0_2 : v0.heap[w.heap.size + 1 + 1]? = some (scO z) := by rw [← hv0]; exact (by simpa [World.size_alloc] using box_at3_2 w (scO x) (scO y) (scO z))
  have R0_2 := Lib.hid r0_2
  have HE0 := Lib.hid (E.below hb0)
  have HB0 := Lib.hid hb0
  rw [hv0]
  clear hv0 hb0 r0_0 r0_1 r0_2 E
  refine (shown_any _ HE0.out).mono ?_
  rintro e v1 ⟨rfl, hb⟩
  have R1_0 := Lib.hid ((hb.block _ (Array.getElem?_eq_some_iff.1 R0_0.out).1).trans R0_0.out)
  have R1_1 := Lib.hid ((hb.block _ (Array.getElem?_eq_some_iff.1 R0_1.out).1).trans R0_1.out)
  have R1_2 := Lib.hid ((hb.block _ (Array.getElem?_eq_some_iff.1 R0_2.out).1).trans R0_2.out)
  have HE1 := Lib.hid (HE0.out.below hb)
  have HB1 := Lib.hid (HB0.out.trans (hb.mono HB0.out.size))
  clear hb
  obtain ⟨c00, c01, c02, f00, f01, f02⟩ := box_cells R1_0.out
  go_wp2_with fail
  refine (HX.out _).mono ?_
  rintro e v2 ⟨rfl, hb⟩
  clear c00 c01 c02 f00 f01 f02
  have R2_0 := Lib.hid ((hb.block _ (Array.getElem?_eq_some_iff.1 R1_0.out).1).trans R1_0.out)
  have R2_1 := Lib.hid ((hb.block _ (Array.getElem?_eq_some_iff.1 R1_1.out).1).trans R1_1.out)
  have R2_2 := Lib.hid ((hb.block _ (Array.getElem?_eq_some_iff.1 R1_2.out).1).trans R1_2.out)
  have HE2 := Lib.hid (HE1.out.below hb)
  have HB2 := Lib.hid (HB1.out.trans (hb.mono HB1.out.size))
  clear hb
  obtain ⟨c00, c01, c02, f00, f01, f02⟩ := box_cells R2_0.out
  go_upto_region 3 with (fail)
  obtain ⟨v3, hv3⟩ : ∃ v, ((v2.setCell ⟨w.heap.size, 0, none⟩ (.int .i64 X.1)).setCell ⟨w.heap.size, 1, none⟩ (.int .i64 X.2.1)).setCell ⟨w.heap.size, 2, none⟩ (.string X.2.2) = v := ⟨_, rfl⟩
  rw [hv3]
  obtain ⟨hr, hg⟩ := box_store R2_0.out X
  rw [hv3] at hr hg
  have hbs : Below w.heap.size v2 v3 := below_of_grown hg (by omega) HB2.out.size
  have R3_0 := Lib.hid hr
  have R3_1 := Lib.hid ((hg.block _ (Array.getElem?_eq_some_iff.1 R2_1.out).1 (by simp; try omega)).trans R2_1.out)
  have R3_2 := Lib.hid ((hg.block _ (Array.getElem?_eq_some_iff.1 R2_2.out).1 (by simp; try omega)).trans R2_2.out)
  have HE3 := Lib.hid (HEE.out.below (HB2.out.trans hbs))
  have HB3 := Lib.hid (HB2.out.trans hbs)
  clear hv3 hr hg hbs
  clear c00 c01 c02 f00 f01 f02
  obtain ⟨c10, c11, c12, f10, f11, f12⟩ := box_cells R3_1.out
  go_wp2_with fail
  refine (HY.out _).mono ?_
  rintro e v4 ⟨rfl, hb⟩
  clear c10 c11 c12 f10 f11 f12
  have R4_0 := Lib.hid ((hb.block _ (Array.getElem?_eq_some_iff.1 R3_0.out).1).trans R3_0.out)
  have R4_1 := Lib.hid ((hb.block _ (Array.getElem?_eq_some_iff.1 R3_1.out).1).trans R3_1.out)
  have R4_2 := Lib.hid ((hb.block _ (Array.getElem?_eq_some_iff.1 R3_2.out).1).trans R3_2.out)
  have HE4 := Lib.hid (HE3.out.below hb)
  have HB4 := Lib.hid (HB3.out.trans (hb.mono HB3.out.size))
  clear hb
  obtain ⟨c10, c11, c12, f10, f11, f12⟩ := box_cells R4_1.out
  go_upto_region 4 with (fail)
  obtain ⟨v5, hv5⟩ : ∃ v, ((v4.setCell ⟨w.heap.size + 1, 0, none⟩ (.int .i64 Y.1)).setCell ⟨w.heap.size + 1, 1, none⟩ (.int .i64 Y.2.1)).setCell ⟨w.heap.size + 1, 2, none⟩ (.string Y.2.2) = v := ⟨_, rfl⟩
  rw [hv5]
  obtain ⟨hr, hg⟩ := box_store R4_1.out Y
  rw [hv5] at hr hg
  have hbs : Below w.heap.size v4 v5 := below_of_grown hg (by omega) HB4.out.size
  have R5_0 := Lib.hid ((hg.block _ (Array.getElem?_eq_some_iff.1 R4_0.out).1 (by simp; try omega)).trans R4_0.out)
  have R5_1 := Lib.hid hr
  have R5_2 := Lib.hid ((hg.block _ (Array.getElem?_eq_some_iff.1 R4_2.out).1 (by simp; try omega)).trans R4_2.out)
  have HE5 := Lib.hid (HEE.out.below (HB4.out.trans hbs))
  have HB5 := Lib.hid (HB4.out.trans hbs)
  clear hv5 hr hg hbs
  clear c10 c11 c12 f10 f11 f12
  obtain ⟨c20, c21, c22, f20, f21, f22⟩ := box_cells R5_2.out
  go_wp2_with fail
  refine (HZ.out _).mono ?_
  rintro e v6 ⟨rfl, hb⟩
  clear c20 c21 c22 f20 f21 f22
  have R6_0 := Lib.hid ((hb.block _ (Array.getElem?_eq_some_iff.1 R5_0.out).1).trans R5_0.out)
  have R6_1 := Lib.hid ((hb.block _ (Array.getElem?_eq_some_iff.1 R5_1.out).1).trans R5_1.out)
  have R6_2 := Lib.hid ((hb.block _ (Array.getElem?_eq_some_iff.1 R5_2.out).1).trans R5_2.out)
  have HE6 := Lib.hid (HE5.out.below hb)
  have HB6 := Lib.hid (HB5.out.trans (hb.mono HB5.out.size))
  clear hb
  obtain ⟨c20, c21, c22, f20, f21, f22⟩ := box_cells R6_2.out
  go_upto_region 5 with (fail)
  obtain ⟨v7, hv7⟩ : ∃ v, ((v6.setCell ⟨w.heap.size + 1 + 1, 0, none⟩ (.int .i64 Z.1)).setCell ⟨w.heap.size + 1 + 1, 1, none⟩ (.int .i64 Z.2.1)).setCell ⟨w.heap.size + 1 + 1, 2, none⟩ (.string Z.2.2) = v := ⟨_, rfl⟩
  rw [hv7]
  obtain ⟨hr, hg⟩ := box_store R6_2.out Z
  rw [hv7] at hr hg
  have hbs : Below w.heap.size v6 v7 := below_of_grown hg (by omega) HB6.out.size
  have R7_0 := Lib.hid ((hg.block _ (Array.getElem?_eq_some_iff.1 R6_0.out).1 (by simp; try omega)).trans R6_0.out)
  have R7_1 := Lib.hid ((hg.block _ (Array.getElem?_eq_some_iff.1 R6_1.out).1 (by simp; try omega)).trans R6_1.out)
  have R7_2 := Lib.hid hr
  have HE7 := Lib.hid (HEE.out.below (HB6.out.trans hbs))
  have HB7 := Lib.hid (HB6.out.trans hbs)
  clear hv7 hr hg hbs
  clear c20 c21 c22 f20 f21 f22
  obtain ⟨c00, c01, c02, f00, f01, f02⟩ := box_cells R7_0.out
  obtain ⟨c10, c11, c12, f10, f11, f12⟩ := box_cells R7_1.out
  go_wp2_with fail
  refine (G1.out _).mono ?_
  rintro e v8 ⟨rfl, hb⟩
  clear c00 c01 c02 f00 f01 f02 c10 c11 c12 f10 f11 f12
  have R8_0 := Lib.hid ((hb.block _ (Array.getElem?_eq_some_iff.1 R7_0.out).1).trans R7_0.out)
  have R8_1 := Lib.hid ((hb.block _ (Array.getElem?_eq_some_iff.1 R7_1.out).1).trans R7_1.out)
  have R8_2 := Lib.hid ((hb.block _ (Array.getElem?_eq_some_iff.1 R7_2.out).1).trans R7_2.out)
  have HE8 := Lib.hid (HE7.out.below hb)
  have HB8 := Lib.hid (HB7.out.trans (hb.mono HB7.out.size))
  clear hb
  obtain ⟨c10, c11, c12, f10, f11, f12⟩ := box_cells R8_1.out
  obtain ⟨c20, c21, c22, f20, f21, f22⟩ := box_cells R8_2.out
  go_wp2_with fail
  refine (G2.out _).mono ?_
  rintro e v9 ⟨rfl, hb⟩
  clear c10 c11 c12 f10 f11 f12 c20 c21 c22 f20 f21 f22
  have R9_0 := Lib.hid ((hb.block _ (Array.getElem?_eq_some_iff.1 R8_0.out).1).trans R8_0.out)
  have R9_1 := Lib.hid ((hb.block _ (Array.getElem?_eq_some_iff.1 R8_1.out).1).trans R8_1.out)
  have R9_2 := Lib.hid ((hb.block _ (Array.getElem?_eq_some_iff.1 R8_2.out).1).trans R8_2.out)
  have HE9 := Lib.hid (HE8.out.below hb)
  have HB9 := Lib.hid (HB8.out.trans (hb.mono HB8.out.size))
  clear hb
  obtain ⟨c00, c01, c02, f00, f01, f02⟩ := box_cells R9_0.out
  obtain ⟨c20, c21, c22, f20, f21, f22⟩ := box_cells R9_2.out
  go_wp2_with fail
  refine (G3.out _).mono ?_
  rintro e v10 ⟨rfl, hb⟩
  clear c00 c01 c02 f00 f01 f02 c20 c21 c22 f20 f21 f22
  have R10_0 := Lib.hid ((hb.block _ (Array.getElem?_eq_some_iff.1 R9_0.out).1).trans R9_0.out)
  have R10_1 := Lib.hid ((hb.block _ (Array.getElem?_eq_some_iff.1 R9_1.out).1).trans R9_1.out)
  have R10_2 := Lib.hid ((hb.block _ (Array.getElem?_eq_some_iff.1 R9_2.out).1).trans R9_2.out)
  have HE10 := Lib.hid (HE9.out.below hb)
  have HB10 := Lib.hid (HB9.out.trans (hb.mono HB9.out.size))
  clear hb
  obtain ⟨c00, c01, c02, f00, f01, f02⟩ := box_cells R10_0.out
  obtain ⟨c10, c11, c12, f10, f11, f12⟩ := box_cells R10_1.out
  go_wp2_with fail
  refine (G4.out _).mono ?_
  rintro e v11 ⟨rfl, hb⟩
  clear c00 c01 c02 f00 f01 f02 c10 c11 c12 f10 f11 f12
  have R11_0 := Lib.hid ((hb.block _ (Array.getElem?_eq_some_iff.1 R10_0.out).1).trans R10_0.out)
  have R11_1 := Lib.hid ((hb.block _ (Array.getElem?_eq_some_iff.1 R10_1.out).1).trans R10_1.out)
  have R11_2 := Lib.hid ((hb.block _ (Array.getElem?_eq_some_iff.1 R10_2.out).1).trans R10_2.out)
  have HE11 := Lib.hid (HE10.out.below hb)
  have HB11 := Lib.hid (HB10.out.trans (hb.mono HB10.out.size))
  clear hb
  obtain ⟨c00, c01, c02, f00, f01, f02⟩ := box_cells R11_0.out
  obtain ⟨c10, c11, c12, f10, f11, f12⟩ := box_cells R11_1.out
  go_wp2_with fail
  refine (G5.out _).mono ?_
  rintro e v12 ⟨rfl, hb⟩
  clear c00 c01 c02 f00 f01 f02 c10 c11 c12 f10 f11 f12
  have R12_0 := Lib.hid ((hb.block _ (Array.getElem?_eq_some_iff.1 R11_0.out).1).trans R11_0.out)
  have R12_1 := Lib.hid ((hb.block _ (Array.getElem?_eq_some_iff.1 R11_1.out).1).trans R11_1.out)
  have R12_2 := Lib.hid ((hb.block _ (Array.getElem?_eq_some_iff.1 R11_2.out).1).trans R11_2.out)
  have HE12 := Lib.hid (HE11.out.below hb)
  have HB12 := Lib.hid (HB11.out.trans (hb.mono HB11.out.size))
  clear hb
  go_wp2_with fail
  go_ret
  exact ⟨rfl, HB12.out⟩
theorem walkScalOrder (k0 n0 : Int) (s0 : ByteArray) (k1 n1 : Int) (s1 : ByteArray) (k2 n2 : Int) (s2 : ByteArray) (w : World) (E : Env w) :
    Calls Tryz.prog 6 #[.agg #[.int .i64 k0, .int .i64 n0, .string s0], .agg #[.int .i64 k1, .int .i64 n1, .string s1], .agg #[.int .i64 k2, .int .i64 n2, .string s2]] w fun e w' => e = .returned (.bool true) ∧ Below w.heap.size w w' := by
  obtain ⟨X, hX⟩ : ∃ X, cutS (k0, n0, s0) = X := ⟨_, rfl⟩
  obtain ⟨Y, hY⟩ : ∃ X, cutS (k1, n1, s1) = X := ⟨_, rfl⟩
  obtain ⟨Z, hZ⟩ : ∃ X, cutS (k2, n2, s2) = X := ⟨_, rfl⟩
  have hx := fun w => Cut_any (k0, n0, s0) w
  have hy := fun w => Cut_any (k1, n1, s1) w
  have hz := fun w => Cut_any (k2, n2, s2) w
  rw [hX] at hx
  rw [hY] at hy
  rw [hZ] at hz
  have g1 := fun w => Compare_below X Y w
  have g2 := fun w => Compare_below Y Z w
  have g3 := fun w => Compare_below X Z w
  have g4 := fun w => Compare_below Y X w
  have g5 := fun w => Compare_below X X w
  have q := fun w => equal_sc X.1 X.2.1 X.2.2 Y.1 Y.2.1 Y.2.2 w
  rw [sameB_iff] at q
  have hq : ((X.1, X.2.1, X.2.2) : Sc) = (Y.1, Y.2.1, Y.2.2) ↔ cmpSc X Y = 0 := cmp_zero.symm
  rw [cmp_self] at g5
  rw [cmp_swap Y X] at g4
  have hr := cmp_range X Y
  have ht1 := fun h1 h2 => @cmp_le_trans X Y Z h1 h2
  have ht2 := fun h1 h2 => @cmp_lt_trans X Y Z h1 h2
  obtain ⟨B, hB⟩ : ∃ B, cmpSc Y Z = B := ⟨_, rfl⟩
  obtain ⟨C, hC⟩ : ∃ C, cmpSc X Z = C := ⟨_, rfl⟩
  rw [hB] at g2 ht1 ht2
  rw [hC] at g3 ht1 ht2
  rcases (by omega : cmpSc X Y = 1 ∨ cmpSc X Y = 0 ∨ cmpSc X Y = -1) with h | h | h
  · rw [h] at g1 g4
    have hd : decide (((X.1, X.2.1, X.2.2) : Sc) = (Y.1, Y.2.1, Y.2.2)) = false := decide_eq_false fun e => by have := hq.1 e; omega
    rw [hd] at q
    exact order_p (k0, n0, s0) (k1, n1, s1) (k2, n2, s2) X Y Z B C hx hy hz g1 g2 g3 g4 g5 q w E
  · rw [h] at g1 g4
    have hd : decide (((X.1, X.2.1, X.2.2) : Sc) = (Y.1, Y.2.1, Y.2.2)) = true := decide_eq_true (hq.2 h)
    rw [hd] at q
    by_cases h1 : 0 < B
    · exact order_n1 (k0, n0, s0) (k1, n1, s1) (k2, n2, s2) X Y Z B C hx hy hz g1 g2 g3 g4 g5 h1 q w E
    · exact order_n2 (k0, n0, s0) (k1, n1, s1) (k2, n2, s2) X Y Z B C hx hy hz g1 g2 g3 g4 g5 h1 (ht1 (by omega) (by omega)) q w E
  · rw [h] at g1 g4
    have hd : decide (((X.1, X.2.1, X.2.2) : Sc) = (Y.1, Y.2.1, Y.2.2)) = false := decide_eq_false fun e => by have := hq.1 e; omega
    rw [hd] at q
    by_cases h1 : 0 < B
    · exact order_m1 (k0, n0, s0) (k1, n1, s1) (k2, n2, s2) X Y Z B C hx hy hz g1 g2 g3 g4 g5 h1 (by omega) q w E
    · by_cases h2 : 0 ≤ B
      · exact order_m2 (k0, n0, s0) (k1, n1, s1) (k2, n2, s2) X Y Z B C hx hy hz g1 g2 g3 g4 g5 h1 (ht1 (by omega) (by omega)) h2 q w E
      · exact order_m3 (k0, n0, s0) (k1, n1, s1) (k2, n2, s2) X Y Z B C hx hy hz g1 g2 g3 g4 g5 h1 (ht1 (by omega) (by omega)) h2 (ht2 (by omega) (by omega)) q w E
end Go.Proofs.YtkliecngkcjieaaGreatDoor
