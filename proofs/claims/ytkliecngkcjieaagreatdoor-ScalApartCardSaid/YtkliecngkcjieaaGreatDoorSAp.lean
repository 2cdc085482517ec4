/- No two scalars have the same text: the walks of the law. Conditions: the contracts of what is called. -/
import Derived.Test.YtkliecngkcjieaaGreatDoorDoor
import Derived.Test.YtkliecngkcjieaaGreatDoorBox
set_option maxRecDepth 100000
namespace Go.Proofs.YtkliecngkcjieaaGreatDoor
open Go.ChangeShapes Go.WideShapes Go.ChangeAt Go.RowKit Go.Shelf
open Go.ChangeMaps (open_string shut_string)
open Pl Quo Scs
set_option maxHeartbeats 8000000 in
theorem apart_bb (x y X Y : Sc) (S T : ByteArray) (hx : ∀ w, Calls Tryz.prog 12 #[.agg #[.int .i64 x.1, .int .i64 x.2.1, .string x.2.2]] w fun e w' => e = .returned (.agg #[.int .i64 X.1, .int .i64 X.2.1, .string X.2.2]) ∧ Below w.heap.size w w')
    (hy : ∀ w, Calls Tryz.prog 12 #[.agg #[.int .i64 y.1, .int .i64 y.2.1, .string y.2.2]] w fun e w' => e = .returned (.agg #[.int .i64 Y.1, .int .i64 Y.2.1, .string Y.2.2]) ∧ Below w.heap.size w w')
    (g1 : ∀ w, Env w → Calls Tryz.prog 14 #[.agg #[.int .i64 X.1, .int .i64 X.2.1, .string X.2.2]] w fun e w' => e = .returned (.tuple #[.string ⟨#[]⟩, .int .i64 60]) ∧ Below w.heap.size w w')
    (g2 : ∀ w, Env w → Calls Tryz.prog 14 #[.agg #[.int .i64 Y.1, .int .i64 Y.2.1, .string Y.2.2]] w fun e w' => e = .returned (.tuple #[.string ⟨#[]⟩, .int .i64 60]) ∧ Below w.heap.size w w')
    (w : World) (E : Env w) :
    Calls Tryz.prog 8 #[.agg #[.int .i64 x.1, .int .i64 x.2.1, .string x.2.2], .agg #[.int .i64 y.1, .int .i64 y.2.1, .string y.2.2]] w fun e w' => e = .returned (.bool true) ∧ Below w.heap.size w w' := by
  have qg := guard_sc
  have HEE := Lib.hid E
  have HX := Lib.hid hx
  have HY := Lib.hid hy
  have G1 := Lib.hid g1
  have G2 := Lib.hid g2
  clear hx hy g1 g2
  go_enter Tryz.func8, Tryz.ntmps8
  go_wp2_with fail
  obtain ⟨v0, hv0⟩ : ∃ v, (w.alloc (scO x)).alloc (scO y) = v := ⟨_, rfl⟩
  have hb0 : Below w.heap.size w v0 := by rw [← hv0]; exact (((Below.refl _ w).alloc (Nat.le_refl _) _).alloc (by simp) _)
  have r0_0 : v0.heap[w.heap.size]? = some (scO x) := by rw [← hv0]; exact (by simpa [World.size_alloc] using box_at2_0 w (scO x) (scO y))
  have R0_0 := Lib.hid r0_0
  have r0_1 : v0.heap[w.heap.size + 1]? = some (scO y) := by rw [← hv0]; exact (by simpa [World.size_alloc] using box_at2_1 w (scO x) (scO y))
  have R0_1 := Lib.hid r0_1
  have HE0 := Lib.hid (E.below hb0)
  have HB0 := Lib.hid hb0
  rw [hv0]
  clear hv0 hb0 r0_0 r0_1 E
  refine (shown_any _ HE0.out).mono ?_
  rintro e v1 ⟨rfl, hb⟩
  have R1_0 := Lib.hid ((hb.block _ (Array.getElem?_eq_some_iff.1 R0_0.out).1).trans R0_0.out)
  have R1_1 := Lib.hid ((hb.block _ (Array.getElem?_eq_some_iff.1 R0_1.out).1).trans R0_1.out)
  have HE1 := Lib.hid (HE0.out.below hb)
  have HB1 := Lib.hid (HB0.out.trans (hb.mono HB0.out.size))
  clear hb
  obtain ⟨c00, c01, c02, f00, f01, f02⟩ := box_cells R1_0.out
  go_wp2_with fail
  refine (HX.out _).mono ?_
  rintro e v2 ⟨rfl, hb⟩
  clear c00 c01 c02 f00 f01 f02
  have R2_0 := Lib.hid ((hb.block _ (Array.getElem?_eq_some_iff.1 R1_0.out).1).trans R1_0.out)
  have R2_1 := Lib.hid ((hb.block _ (Array.getElem?_eq_some_iff.1 R1_1.out).1).trans R1_1.out)
  have HE2 := Lib.hid (HE1.out.below hb)
  have HB2 := Lib.hid (HB1.out.trans (hb.mono HB1.out.size))
  clear hb
  obtain ⟨c00, c01, c02, f00, f01, f02⟩ := box_cells R2_0.out
  go_upto_region 3 with (fail)
  obtain ⟨v3, hv3⟩ : ∃ v, ((v2.setCell ⟨w.heap.size, 0, none⟩ (.int .i64 X.1)).setCell ⟨w.heap.size, 1, none⟩ (.int .i64 X.2.1)).setCell ⟨w.heap.size, 2, none⟩ (.string X.2.2) = v := ⟨_, rfl⟩
  rw [hv3]
  obtain ⟨hr, hg⟩ := box_store R2_0.out X
  rw [hv3] at hr hg
  have hbs : Below w.heap.size v2 v3 := below_of_grown hg (by omega) HB2.out.size
  have R3_0 := Lib.hid hr
  have R3_1 := Lib.hid ((hg.block _ (Array.getElem?_eq_some_iff.1 R2_1.out).1 (by simp; try omega)).trans R2_1.out)
  have HE3 := Lib.hid (HEE.out.below (HB2.out.trans hbs))
  have HB3 := Lib.hid (HB2.out.trans hbs)
  clear hv3 hr hg hbs
  clear c00 c01 c02 f00 f01 f02
  obtain ⟨c10, c11, c12, f10, f11, f12⟩ := box_cells R3_1.out
  go_wp2_with fail
  refine (HY.out _).mono ?_
  rintro e v4 ⟨rfl, hb⟩
  clear c10 c11 c12 f10 f11 f12
  have R4_0 := Lib.hid ((hb.block _ (Array.getElem?_eq_some_iff.1 R3_0.out).1).trans R3_0.out)
  have R4_1 := Lib.hid ((hb.block _ (Array.getElem?_eq_some_iff.1 R3_1.out).1).trans R3_1.out)
  have HE4 := Lib.hid (HE3.out.below hb)
  have HB4 := Lib.hid (HB3.out.trans (hb.mono HB3.out.size))
  clear hb
  obtain ⟨c10, c11, c12, f10, f11, f12⟩ := box_cells R4_1.out
  go_upto_region 4 with (fail)
  obtain ⟨v5, hv5⟩ : ∃ v, ((v4.setCell ⟨w.heap.size + 1, 0, none⟩ (.int .i64 Y.1)).setCell ⟨w.heap.size + 1, 1, none⟩ (.int .i64 Y.2.1)).setCell ⟨w.heap.size + 1, 2, none⟩ (.string Y.2.2) = v := ⟨_, rfl⟩
  rw [hv5]
  obtain ⟨hr, hg⟩ := box_store R4_1.out Y
  rw [hv5] at hr hg
  have hbs : Below w.heap.size v4 v5 := below_of_grown hg (by omega) HB4.out.size
  have R5_0 := Lib.hid ((hg.block _ (Array.getElem?_eq_some_iff.1 R4_0.out).1 (by simp; try omega)).trans R4_0.out)
  have R5_1 := Lib.hid hr
  have HE5 := Lib.hid (HEE.out.below (HB4.out.trans hbs))
  have HB5 := Lib.hid (HB4.out.trans hbs)
  clear hv5 hr hg hbs
  clear c10 c11 c12 f10 f11 f12
  obtain ⟨c00, c01, c02, f00, f01, f02⟩ := box_cells R5_0.out
  go_wp2_with fail
  refine (G1.out _ HE5.out).mono ?_
  rintro e v6 ⟨rfl, hb⟩
  clear c00 c01 c02 f00 f01 f02
  have R6_0 := Lib.hid ((hb.block _ (Array.getElem?_eq_some_iff.1 R5_0.out).1).trans R5_0.out)
  have R6_1 := Lib.hid ((hb.block _ (Array.getElem?_eq_some_iff.1 R5_1.out).1).trans R5_1.out)
  have HE6 := Lib.hid (HE5.out.below hb)
  have HB6 := Lib.hid (HB5.out.trans (hb.mono HB5.out.size))
  clear hb
  obtain ⟨c10, c11, c12, f10, f11, f12⟩ := box_cells R6_1.out
  go_wp2_with fail
  refine (G2.out _ HE6.out).mono ?_
  rintro e v7 ⟨rfl, hb⟩
  clear c10 c11 c12 f10 f11 f12
  have R7_0 := Lib.hid ((hb.block _ (Array.getElem?_eq_some_iff.1 R6_0.out).1).trans R6_0.out)
  have R7_1 := Lib.hid ((hb.block _ (Array.getElem?_eq_some_iff.1 R6_1.out).1).trans R6_1.out)
  have HE7 := Lib.hid (HE6.out.below hb)
  have HB7 := Lib.hid (HB6.out.trans (hb.mono HB6.out.size))
  clear hb
  obtain ⟨c00, c01, c02, f00, f01, f02⟩ := box_cells R7_0.out
  obtain ⟨c10, c11, c12, f10, f11, f12⟩ := box_cells R7_1.out
  go_wp2_with fail
  go_ret
  exact ⟨rfl, HB7.out⟩
set_option maxHeartbeats 8000000 in
theorem apart_bg (x y X Y : Sc) (S T : ByteArray) (hx : ∀ w, Calls Tryz.prog 12 #[.agg #[.int .i64 x.1, .int .i64 x.2.1, .string x.2.2]] w fun e w' => e = .returned (.agg #[.int .i64 X.1, .int .i64 X.2.1, .string X.2.2]) ∧ Below w.heap.size w w')
    (hy : ∀ w, Calls Tryz.prog 12 #[.agg #[.int .i64 y.1, .int .i64 y.2.1, .string y.2.2]] w fun e w' => e = .returned (.agg #[.int .i64 Y.1, .int .i64 Y.2.1, .string Y.2.2]) ∧ Below w.heap.size w w')
    (g1 : ∀ w, Env w → Calls Tryz.prog 14 #[.agg #[.int .i64 X.1, .int .i64 X.2.1, .string X.2.2]] w fun e w' => e = .returned (.tuple #[.string ⟨#[]⟩, .int .i64 60]) ∧ Below w.heap.size w w')
    (g2 : ∀ w, Env w → Calls Tryz.prog 14 #[.agg #[.int .i64 Y.1, .int .i64 Y.2.1, .string Y.2.2]] w fun e w' => e = .returned (.tuple #[.string T, .int .i64 0]) ∧ Below w.heap.size w w')
    (w : World) (E : Env w) :
    Calls Tryz.prog 8 #[.agg #[.int .i64 x.1, .int .i64 x.2.1, .string x.2.2], .agg #[.int .i64 y.1, .int .i64 y.2.1, .string y.2.2]] w fun e w' => e = .returned (.bool true) ∧ Below w.heap.size w w' := by
  have qg := guard_sc
  have HEE := Lib.hid E
  have HX := Lib.hid hx
  have HY := Lib.hid hy
  have G1 := Lib.hid g1
  have G2 := Lib.hid g2
  clear hx hy g1 g2
  go_enter Tryz.func8, Tryz.ntmps8
  go_wp2_with fail
  obtain ⟨v0, hv0⟩ : ∃ v, (w.alloc (scO x)).alloc (scO y) = v := ⟨_, rfl⟩
  have hb0 : Below w.heap.size w v0 := by rw [← hv0]; exact (((Below.refl _ w).alloc (Nat.le_refl _) _).alloc (by simp) _)
  have r0_0 : v0.heap[w.heap.size]? = some (scO x) := by rw [← hv0]; exact (by simpa [World.size_alloc] using box_at2_0 w (scO x) (scO y))
  have R0_0 := Lib.hid r0_0
  have r0_1 : v0.heap[w.heap.size + 1]? = some (scO y) := by rw [← hv0]; exact (by simpa [World.size_alloc] using box_at2_1 w (scO x) (scO y))
  have R0_1 := Lib.hid r0_1
  have HE0 := Lib.hid (E.below hb0)
  have HB0 := Lib.hid hb0
  rw [hv0]
  clear hv0 hb0 r0_0 r0_1 E
  refine (shown_any _ HE0.out).mono ?_
  rintro e v1 ⟨rfl, hb⟩
  have R1_0 := Lib.hid ((hb.block _ (Array.getElem?_eq_some_iff.1 R0_0.out).1).trans R0_0.out)
  have R1_1 := Lib.hid ((hb.block _ (Array.getElem?_eq_some_iff.1 R0_1.out).1).trans R0_1.out)
  have HE1 := Lib.hid (HE0.out.below hb)
  have HB1 := Lib.hid (HB0.out.trans (hb.mono HB0.out.size))
  clear hb
  obtain ⟨c00, c01, c02, f00, f01, f02⟩ := box_cells R1_0.out
  go_wp2_with fail
  refine (HX.out _).mono ?_
  rintro e v2 ⟨rfl, hb⟩
  clear c00 c01 c02 f00 f01 f02
  have R2_0 := Lib.hid ((hb.block _ (Array.getElem?_eq_some_iff.1 R1_0.out).1).trans R1_0.out)
  have R2_1 := Lib.hid ((hb.block _ (Array.getElem?_eq_some_iff.1 R1_1.out).1).trans R1_1.out)
  have HE2 := Lib.hid (HE1.out.below hb)
  have HB2 := Lib.hid (HB1.out.trans (hb.mono HB1.out.size))
  clear hb
  obtain ⟨c00, c01, c02, f00, f01, f02⟩ := box_cells R2_0.out
  go_upto_region 3 with (fail)
  obtain ⟨v3, hv3⟩ : ∃ v, ((v2.setCell ⟨w.heap.size, 0, none⟩ (.int .i64 X.1)).setCell ⟨w.heap.size, 1, none⟩ (.int .i64 X.2.1)).setCell ⟨w.heap.size, 2, none⟩ (.string X.2.2) = v := ⟨_, rfl⟩
  rw [hv3]
  obtain ⟨hr, hg⟩ := box_store R2_0.out X
  rw [hv3] at hr hg
  have hbs : Below w.heap.size v2 v3 := below_of_grown hg (by omega) HB2.out.size
  have R3_0 := Lib.hid hr
  have R3_1 := Lib.hid ((hg.block _ (Array.getElem?_eq_some_iff.1 R2_1.out).1 (by simp; try omega)).trans R2_1.out)
  have HE3 := Lib.hid (HEE.out.below (HB2.out.trans hbs))
  have HB3 := Lib.hid (HB2.out.trans hbs)
  clear hv3 hr hg hbs
  clear c00 c01 c02 f00 f01 f02
  obtain ⟨c10, c11, c12, f10, f11, f12⟩ := box_cells R3_1.out
  go_wp2_with fail
  refine (HY.out _).mono ?_
  rintro e v4 ⟨rfl, hb⟩
  clear c10 c11 c12 f10 f11 f12
  have R4_0 := Lib.hid ((hb.block _ (Array.getElem?_eq_some_iff.1 R3_0.out).1).trans R3_0.out)
  have R4_1 := Lib.hid ((hb.block _ (Array.getElem?_eq_some_iff.1 R3_1.out).1).trans R3_1.out)
  have HE4 := Lib.hid (HE3.out.below hb)
  have HB4 := Lib.hid (HB3.out.trans (hb.mono HB3.out.size))
  clear hb
  obtain ⟨c10, c11, c12, f10, f11, f12⟩ := box_cells R4_1.out
  go_upto_region 4 with (fail)
  obtain ⟨v5, hv5⟩ : ∃ v, ((v4.setCell ⟨w.heap.size + 1, 0, none⟩ (.int .i64 Y.1)).setCell ⟨w.heap.size + 1, 1, none⟩ (.int .i64 Y.2.1)).setCell ⟨w.heap.size + 1, 2, none⟩ (.string Y.2.2) = v := ⟨_, rfl⟩
  rw [hv5]
  obtain ⟨hr, hg⟩ := box_store R4_1.out Y
  rw [hv5] at hr hg
  have hbs : Below w.heap.size v4 v5 := below_of_grown hg (by omega) HB4.out.size
  have R5_0 := Lib.hid ((hg.block _ (Array.getElem?_eq_some_iff.1 R4_0.out).1 (by simp; try omega)).trans R4_0.out)
  have R5_1 := Lib.hid hr
  have HE5 := Lib.hid (HEE.out.below (HB4.out.trans hbs))
  have HB5 := Lib.hid (HB4.out.trans hbs)
  clear hv5 hr hg hbs
  clear c10 c11 c12 f10 f11 f12
  obtain ⟨c00, c01, c02, f00, f01, f02⟩ := box_cells R5_0.out
  go_wp2_with fail
  refine (G1.out _ HE5.out).mono ?_
  rintro e v6 ⟨rfl, hb⟩
  clear c00 c01 c02 f00 f01 f02
  have R6_0 := Lib.hid ((hb.block _ (Array.getElem?_eq_some_iff.1 R5_0.out).1).trans R5_0.out)
  have R6_1 := Lib.hid ((hb.block _ (Array.getElem?_eq_some_iff.1 R5_1.out).1).trans R5_1.out)
  have HE6 := Lib.hid (HE5.out.below hb)
  have HB6 := Lib.hid (HB5.out.trans (hb.mono HB5.out.size))
  clear hb
  obtain ⟨c10, c11, c12, f10, f11, f12⟩ := box_cells R6_1.out
  go_wp2_with fail
  refine (G2.out _ HE6.out).mono ?_
  rintro e v7 ⟨rfl, hb⟩
  clear c10 c11 c12 f10 f11 f12
  have R7_0 := Lib.hid ((hb.block _ (Array.getElem?_eq_some_iff.1 R6_0.out).1).trans R6_0.out)
  have R7_1 := Lib.hid ((hb.block _ (Array.getElem?_eq_some_iff.1 R6_1.out).1).trans R6_1.out)
  have HE7 := Lib.hid (HE6.out.below hb)
  have HB7 := Lib.hid (HB6.out.trans (hb.mono HB6.out.size))
  clear hb
  obtain ⟨c00, c01, c02, f00, f01, f02⟩ := box_cells R7_0.out
  obtain ⟨c10, c11, c12, f10, f11, f12⟩ := box_cells R7_1.out
  go_wp2_with fail
  go_ret
  exact ⟨rfl, HB7.out⟩
set_option maxHeartbeats 8000000 in
theorem apart_gb (x y X Y : Sc) (S T : ByteArray) (hx : ∀ w, Calls Tryz.prog 12 #[.agg #[.int .i64 x.1, .int .i64 x.2.1, .string x.2.2]] w fun e w' => e = .returned (.agg #[.int .i64 X.1, .int .i64 X.2.1, .string X.2.2]) ∧ Below w.heap.size w w')
    (hy : ∀ w, Calls Tryz.prog 12 #[.agg #[.int .i64 y.1, .int .i64 y.2.1, .string y.2.2]] w fun e w' => e = .returned (.agg #[.int .i64 Y.1, .int .i64 Y.2.1, .string Y.2.2]) ∧ Below w.heap.size w w')
    (g1 : ∀ w, Env w → Calls Tryz.prog 14 #[.agg #[.int .i64 X.1, .int .i64 X.2.1, .string X.2.2]] w fun e w' => e = .returned (.tuple #[.string S, .int .i64 0]) ∧ Below w.heap.size w w')
    (g2 : ∀ w, Env w → Calls Tryz.prog 14 #[.agg #[.int .i64 Y.1, .int .i64 Y.2.1, .string Y.2.2]] w fun e w' => e = .returned (.tuple #[.string ⟨#[]⟩, .int .i64 60]) ∧ Below w.heap.size w w')
    (w : World) (E : Env w) :
    Calls Tryz.prog 8 #[.agg #[.int .i64 x.1, .int .i64 x.2.1, .string x.2.2], .agg #[.int .i64 y.1, .int .i64 y.2.1, .string y.2.2]] w fun e w' => e = .returned (.bool true) ∧ Below w.heap.size w w' := by
  have qg := guard_sc
  have HEE := Lib.hid E
  have HX := Lib.hid hx
  have HY := Lib.hid hy
  have G1 := Lib.hid g1
  have G2 := Lib.hid g2
  clear hx hy g1 g2
  go_enter Tryz.func8, Tryz.ntmps8
  go_wp2_with fail
  obtain ⟨v0, hv0⟩ : ∃ v, (w.alloc (scO x)).alloc (scO y) = v := ⟨_, rfl⟩
  have hb0 : Below w.heap.size w v0 := by rw [← hv0]; exact (((Below.refl _ w).alloc (Nat.le_refl _) _).alloc (by simp) _)
  have r0_0 : v0.heap[w.heap.size]? = some (scO x) := by rw [← hv0]; exact (by simpa [World.size_alloc] using box_at2_0 w (scO x) (scO y))
  have R0_0 := Lib.hid r0_0
  have r0_1 : v0.heap[w.heap.size + 1]? = some (scO y) := by rw [← hv0]; exact (by simpa [World.size_alloc] using box_at2_1 w (scO x) (scO y))
  have R0_1 := Lib.hid r0_1
  have HE0 := Lib.hid (E.below hb0)
  have HB0 := Lib.hid hb0
  rw [hv0]
  clear hv0 hb0 r0_0 r0_1 E
  refine (shown_any _ HE0.out).mono ?_
  rintro e v1 ⟨rfl, hb⟩
  have R1_0 := Lib.hid ((hb.block _ (Array.getElem?_eq_some_iff.1 R0_0.out).1).trans R0_0.out)
  have R1_1 := Lib.hid ((hb.block _ (Array.getElem?_eq_some_iff.1 R0_1.out).1).trans R0_1.out)
  have HE1 := Lib.hid (HE0.out.below hb)
  have HB1 := Lib.hid (HB0.out.trans (hb.mono HB0.out.size))
  clear hb
  obtain ⟨c00, c01, c02, f00, f01, f02⟩ := box_cells R1_0.out
  go_wp2_with fail
  refine (HX.out _).mono ?_
  rintro e v2 ⟨rfl, hb⟩
  clear c00 c01 c02 f00 f01 f02
  have R2_0 := Lib.hid ((hb.block _ (Array.getElem?_eq_some_iff.1 R1_0.out).1).trans R1_0.out)
  have R2_1 := Lib.hid ((hb.block _ (Array.getElem?_eq_some_iff.1 R1_1.out).1).trans R1_1.out)
  have HE2 := Lib.hid (HE1.out.below hb)
  have HB2 := Lib.hid (HB1.out.trans (hb.mono HB1.out.size))
  clear hb
  obtain ⟨c00, c01, c02, f00, f01, f02⟩ := box_cells R2_0.out
  go_upto_region 3 with (fail)
  obtain ⟨v3, hv3⟩ : ∃ v, ((v2.setCell ⟨w.heap.size, 0, none⟩ (.int .i64 X.1)).setCell ⟨w.heap.size, 1, none⟩ (.int .i64 X.2.1)).setCell ⟨w.heap.size, 2, none⟩ (.string X.2.2) = v := ⟨_, rfl⟩
  rw [hv3]
  obtain ⟨hr, hg⟩ := box_store R2_0.out X
  rw [hv3] at hr hg
  have hbs : Below w.heap.size v2 v3 := below_of_grown hg (by omega) HB2.out.size
  have R3_0 := Lib.hid hr
  have R3_1 := Lib.hid ((hg.block _ (Array.getElem?_eq_some_iff.1 R2_1.out).1 (by simp; try omega)).trans R2_1.out)
  have HE3 := Lib.hid (HEE.out.below (HB2.out.trans hbs))
  have HB3 := Lib.hid (HB2.out.trans hbs)
  clear hv3 hr hg hbs
  clear c00 c01 c02 f00 f01 f02
  obtain ⟨c10, c11, c12, f10, f11, f12⟩ := box_cells R3_1.out
  go_wp2_with fail
  refine (HY.out _).mono ?_
  rintro e v4 ⟨rfl, hb⟩
  clear c10 c11 c12 f10 f11 f12
  have R4_0 := Lib.hid ((hb.block _ (Array.getElem?_eq_some_iff.1 R3_0.out).1).trans R3_0.out)
  have R4_1 := Lib.hid ((hb.block _ (Array.getElem?_eq_some_iff.1 R3_1.out).1).trans R3_1.out)
  have HE4 := Lib.hid (HE3.out.below hb)
  have HB4 := Lib.hid (HB3.out.trans (hb.mono HB3.out.size))
  clear hb
  obtain ⟨c10, c11, c12, f10, f11, f12⟩ := box_cells R4_1.out
  go_upto_region 4 with (fail)
  obtain ⟨v5, hv5⟩ : ∃ v, ((v4.setCell ⟨w.heap.size + 1, 0, none⟩ (.int .i64 Y.1)).setCell ⟨w.heap.size + 1, 1, none⟩ (.int .i64 Y.2.1)).setCell ⟨w.heap.size + 1, 2, none⟩ (.string Y.2.2) = v := ⟨_, rfl⟩
  rw [hv5]
  obtain ⟨hr, hg⟩ := box_store R4_1.out Y
  rw [hv5] at hr hg
  have hbs : Below w.heap.size v4 v5 := below_of_grown hg (by omega) HB4.out.size
  have R5_0 := Lib.hid ((hg.block _ (Array.getElem?_eq_some_iff.1 R4_0.out).1 (by simp; try omega)).trans R4_0.out)
  have R5_1 := Lib.hid hr
  have HE5 := Lib.hid (HEE.out.below (HB4.out.trans hbs))
  have HB5 := Lib.hid (HB4.out.trans hbs)
  clear hv5 hr hg hbs
  clear c10 c11 c12 f10 f11 f12
  obtain ⟨c00, c01, c02, f00, f01, f02⟩ := box_cells R5_0.out
  go_wp2_with fail
  refine (G1.out _ HE5.out).mono ?_
  rintro e v6 ⟨rfl, hb⟩
  clear c00 c01 c02 f00 f01 f02
  have R6_0 := Lib.hid ((hb.block _ (Array.getElem?_eq_some_iff.1 R5_0.out).1).trans R5_0.out)
  have R6_1 := Lib.hid ((hb.block _ (Array.getElem?_eq_some_iff.1 R5_1.out).1).trans R5_1.out)
  have HE6 := Lib.hid (HE5.out.below hb)
  have HB6 := Lib.hid (HB5.out.trans (hb.mono HB5.out.size))
  clear hb
  obtain ⟨c10, c11, c12, f10, f11, f12⟩ := box_cells R6_1.out
  go_wp2_with fail
  refine (G2.out _ HE6.out).mono ?_
  rintro e v7 ⟨rfl, hb⟩
  clear c10 c11 c12 f10 f11 f12
  have R7_0 := Lib.hid ((hb.block _ (Array.getElem?_eq_some_iff.1 R6_0.out).1).trans R6_0.out)
  have R7_1 := Lib.hid ((hb.block _ (Array.getElem?_eq_some_iff.1 R6_1.out).1).trans R6_1.out)
  have HE7 := Lib.hid (HE6.out.below hb)
  have HB7 := Lib.hid (HB6.out.trans (hb.mono HB6.out.size))
  clear hb
  obtain ⟨c00, c01, c02, f00, f01, f02⟩ := box_cells R7_0.out
  obtain ⟨c10, c11, c12, f10, f11, f12⟩ := box_cells R7_1.out
  go_wp2_with fail
  go_ret
  exact ⟨rfl, HB7.out⟩
set_option maxHeartbeats 8000000 in
theorem apart_eq (x y X Y : Sc) (S T : ByteArray) (hx : ∀ w, Calls Tryz.prog 12 #[.agg #[.int .i64 x.1, .int .i64 x.2.1, .string x.2.2]] w fun e w' => e = .returned (.agg #[.int .i64 X.1, .int .i64 X.2.1, .string X.2.2]) ∧ Below w.heap.size w w')
    (hy : ∀ w, Calls Tryz.prog 12 #[.agg #[.int .i64 y.1, .int .i64 y.2.1, .string y.2.2]] w fun e w' => e = .returned (.agg #[.int .i64 Y.1, .int .i64 Y.2.1, .string Y.2.2]) ∧ Below w.heap.size w w')
    (g1 : ∀ w, Env w → Calls Tryz.prog 14 #[.agg #[.int .i64 X.1, .int .i64 X.2.1, .string X.2.2]] w fun e w' => e = .returned (.tuple #[.string S, .int .i64 0]) ∧ Below w.heap.size w w')
    (g2 : ∀ w, Env w → Calls Tryz.prog 14 #[.agg #[.int .i64 Y.1, .int .i64 Y.2.1, .string Y.2.2]] w fun e w' => e = .returned (.tuple #[.string T, .int .i64 0]) ∧ Below w.heap.size w w')
    (h1 : (S.toList == T.toList) = true) (q : ∀ w, (Op.equalIn 10000 23 (.agg #[.int .i64 X.1, .int .i64 X.2.1, .string X.2.2]) (.agg #[.int .i64 Y.1, .int .i64 Y.2.1, .string Y.2.2])).run Tryz.prog w = .ok true w)
    (w : World) (E : Env w) :
    Calls Tryz.prog 8 #[.agg #[.int .i64 x.1, .int .i64 x.2.1, .string x.2.2], .agg #[.int .i64 y.1, .int .i64 y.2.1, .string y.2.2]] w fun e w' => e = .returned (.bool true) ∧ Below w.heap.size w w' := by
  have qg := guard_sc
  have HEE := Lib.hid E
  have HX := Lib.hid hx
  have HY := Lib.hid hy
  have G1 := Lib.hid g1
  have G2 := Lib.hid g2
  clear hx hy g1 g2
  go_enter Tryz.func8, Tryz.ntmps8
  go_wp2_with fail
  obtain ⟨v0, hv0⟩ : ∃ v, (w.alloc (scO x)).alloc (scO y) = v := ⟨_, rfl⟩
  have hb0 : Below w.heap.size w v0 := by rw [← hv0]; exact (((Below.refl _ w).alloc (Nat.le_refl _) _).alloc (by simp) _)
  have r0_0 : v0.heap[w.heap.size]? = some (scO x) := by rw [← hv0]; exact (by simpa [World.size_alloc] using box_at2_0 w (scO x) (scO y))
  have R0_0 := Lib.hid r0_0
  have r0_1 : v0.heap[w.heap.size + 1]? = some (scO y) := by rw [← hv0]; exact (by simpa [World.size_alloc] using box_at2_1 w (scO x) (scO y))
  have R0_1 := Lib.hid r0_1
  have HE0 := Lib.hid (E.below hb0)
  have HB0 := Lib.hid hb0
  rw [hv0]
  clear hv0 hb0 r0_0 r0_1 E
  refine (shown_any _ HE0.out).mono ?_
  rintro e v1 ⟨rfl, hb⟩
  have R1_0 := Lib.hid ((hb.block _ (Array.getElem?_eq_some_iff.1 R0_0.out).1).trans R0_0.out)
  have R1_1 := Lib.hid ((hb.block _ (Array.getElem?_eq_some_iff.1 R0_1.out).1).trans R0_1.out)
  have HE1 := Lib.hid (HE0.out.below hb)
  have HB1 := Lib.hid (HB0.out.trans (hb.mono HB0.out.size))
  clear hb
  obtain ⟨c00, c01, c02, f00, f01, f02⟩ := box_cells R1_0.out
  go_wp2_with fail
  refine (HX.out _).mono ?_
  rintro e v2 ⟨rfl, hb⟩
  clear c00 c01 c02 f00 f01 f02
  have R2_0 := Lib.hid ((hb.block _ (Array.getElem?_eq_some_iff.1 R1_0.out).1).trans R1_0.out)
  have R2_1 := Lib.hid ((hb.block _ (Array.getElem?_eq_some_iff.1 R1_1.out).1).trans R1_1.out)
  have HE2 := Lib.hid (HE1.out.below hb)
  have HB2 := Lib.hid (HB1.out.trans (hb.mono HB1.out.size))
  clear hb
  obtain ⟨c00, c01, c02, f00, f01, f02⟩ := box_cells R2_0.out
  go_upto_region 3 with (fail)
  obtain ⟨v3, hv3⟩ : ∃ v, ((v2.setCell ⟨w.heap.size, 0, none⟩ (.int .i64 X.1)).setCell ⟨w.heap.size, 1, none⟩ (.int .i64 X.2.1)).setCell ⟨w.heap.size, 2, none⟩ (.string X.2.2) = v := ⟨_, rfl⟩
  rw [hv3]
  obtain ⟨hr, hg⟩ := box_store R2_0.out X
  rw [hv3] at hr hg
  have hbs : Below w.heap.size v2 v3 := below_of_grown hg (by omega) HB2.out.size
  have R3_0 := Lib.hid hr
  have R3_1 := Lib.hid ((hg.block _ (Array.getElem?_eq_some_iff.1 R2_1.out).1 (by simp; try omega)).trans R2_1.out)
  have HE3 := Lib.hid (HEE.out.below (HB2.out.trans hbs))
  have HB3 := Lib.hid (HB2.out.trans hbs)
  clear hv3 hr hg hbs
  clear c00 c01 c02 f00 f01 f02
  obtain ⟨c10, c11, c12, f10, f11, f12⟩ := box_cells R3_1.out
  go_wp2_with fail
  refine (HY.out _).mono ?_
  rintro e v4 ⟨rfl, hb⟩
  clear c10 c11 c12 f10 f11 f12
  have R4_0 := Lib.hid ((hb.block _ (Array.getElem?_eq_some_iff.1 R3_0.out).1).trans R3_0.out)
  have R4_1 := Lib.hid ((hb.block _ (Array.getElem?_eq_some_iff.1 R3_1.out).1).trans R3_1.out)
  have HE4 := Lib.hid (HE3.out.below hb)
  have HB4 := Lib.hid (HB3.out.trans (hb.mono HB3.out.size))
  clear hb
  obtain ⟨c10, c11, c12, f10, f11, f12⟩ := box_cells R4_1.out
  go_upto_region 4 with (fail)
  obtain ⟨v5, hv5⟩ : ∃ v, ((v4.setCell ⟨w.heap.size + 1, 0, none⟩ (.int .i64 Y.1)).setCell ⟨w.heap.size + 1, 1, none⟩ (.int .i64 Y.2.1)).setCell ⟨w.heap.size + 1, 2, none⟩ (.string Y.2.2) = v := ⟨_, rfl⟩
  rw [hv5]
  obtain ⟨hr, hg⟩ := box_store R4_1.out Y
  rw [hv5] at hr hg
  have hbs : Below w.heap.size v4 v5 := below_of_grown hg (by omega) HB4.out.size
  have R5_0 := Lib.hid ((hg.block _ (Array.getElem?_eq_some_iff.1 R4_0.out).1 (by simp; try omega)).trans R4_0.out)
  have R5_1 := Lib.hid hr
  have HE5 := Lib.hid (HEE.out.below (HB4.out.trans hbs))
  have HB5 := Lib.hid (HB4.out.trans hbs)
  clear hv5 hr hg hbs
  clear c10 c11 c12 f10 f11 f12
  obtain ⟨c00, c01, c02, f00, f01, f02⟩ := box_cells R5_0.out
  go_wp2_with fail
  refine (G1.out _ HE5.out).mono ?_
  rintro e v6 ⟨rfl, hb⟩
  clear c00 c01 c02 f00 f01 f02
  have R6_0 := Lib.hid ((hb.block _ (Array.getElem?_eq_some_iff.1 R5_0.out).1).trans R5_0.out)
  have R6_1 := Lib.hid ((hb.block _ (Array.getElem?_eq_some_iff.1 R5_1.out).1).trans R5_1.out)
  have HE6 := Lib.hid (HE5.out.below hb)
  have HB6 := Lib.hid (HB5.out.trans (hb.mono HB5.out.size))
  clear hb
  obtain ⟨c10, c11, c12, f10, f11, f12⟩ := box_cells R6_1.out
  go_wp2_with fail
  refine (G2.out _ HE6.out).mono ?_
  rintro e v7 ⟨rfl, hb⟩
  clear c10 c11 c12 f10 f11 f12
  have R7_0 := Lib.hid ((hb.block _ (Array.getElem?_eq_some_iff.1 R6_0.out).1).trans R6_0.out)
  have R7_1 := Lib.hid ((hb.block _ (Array.getElem?_eq_some_iff.1 R6_1.out).1).trans R6_1.out)
  have HE7 := Lib.hid (HE6.out.below hb)
  have HB7 := Lib.hid (HB6.out.trans (hb.mono HB6.out.size))
  clear hb
  obtain ⟨c00, c01, c02, f00, f01, f02⟩ := box_cells R7_0.out
  obtain ⟨c10, c11, c12, f10, f11, f12⟩ := box_cells R7_1.out
  go_wp2_with fail
  go_ret
  exact ⟨rfl, HB7.out⟩
set_option maxHeartbeats 8000000 in
theorem apart_ne (x y X Y : Sc) (S T : ByteArray) (hx : ∀ w, Calls Tryz.prog 12 #[.agg #[.int .i64 x.1, .int .i64 x.2.1, .string x.2.2]] w fun e w' => e = .returned (.agg #[.int .i64 X.1, .int .i64 X.2.1, .string X.2.2]) ∧ Below w.heap.size w w')
    (hy : ∀ w, Calls Tryz.prog 12 #[.agg #[.int .i64 y.1, .int .i64 y.2.1, .string y.2.2]] w fun e w' => e = .returned (.agg #[.int .i64 Y.1, .int .i64 Y.2.1, .string Y.2.2]) ∧ Below w.heap.size w w')
    (g1 : ∀ w, Env w → Calls Tryz.prog 14 #[.agg #[.int .i64 X.1, .int .i64 X.2.1, .string X.2.2]] w fun e w' => e = .returned (.tuple #[.string S, .int .i64 0]) ∧ Below w.heap.size w w')
    (g2 : ∀ w, Env w → Calls Tryz.prog 14 #[.agg #[.int .i64 Y.1, .int .i64 Y.2.1, .string Y.2.2]] w fun e w' => e = .returned (.tuple #[.string T, .int .i64 0]) ∧ Below w.heap.size w w')
    (h1 : (S.toList == T.toList) = false) (q : ∀ w, (Op.equalIn 10000 23 (.agg #[.int .i64 X.1, .int .i64 X.2.1, .string X.2.2]) (.agg #[.int .i64 Y.1, .int .i64 Y.2.1, .string Y.2.2])).run Tryz.prog w = .ok false w)
    (w : World) (E : Env w) :
    Calls Tryz.prog 8 #[.agg #[.int .i64 x.1, .int .i64 x.2.1, .string x.2.2], .agg #[.int .i64 y.1, .int .i64 y.2.1, .string y.2.2]] w fun e w' => e = .returned (.bool true) ∧ Below w.heap.size w w' := by
  have qg := guard_sc
  have HEE := Lib.hid E
  have HX := Lib.hid hx
  have HY := Lib.hid hy
  have G1 := Lib.hid g1
  have G2 := Lib.hid g2
  clear hx hy g1 g2
  go_enter Tryz.func8, Tryz.ntmps8
  go_wp2_with fail
  obtain ⟨v0, hv0⟩ : ∃ v, (w.alloc (scO x)).alloc (scO y) = v := ⟨_, rfl⟩
  have hb0 : Below w.heap.size w v0 := by rw [← hv0]; exact (((Below.refl _ w).alloc (Nat.le_refl _) _).alloc (by simp) _)
  have r0_0 : v0.heap[w.heap.size]? = some (scO x) := by rw [← hv0]; exact (by simpa [World.size_alloc] using box_at2_0 w (scO x) (scO y))
  have R0_0 := Lib.hid r0_0
  have r0_1 : v0.heap[w.heap.size + 1]? = some (scO y) := by rw [← hv0]; exact (by simpa [World.size_alloc] using box_at2_1 w (scO x) (scO y))
  have R0_1 := Lib.hid r0_1
  have HE0 := Lib.hid (E.below hb0)
  have HB0 := Lib.hid hb0
  rw [hv0]
  clear hv0 hb0 r0_0 r0_1 E
  refine (shown_any _ HE0.out).mono ?_
  rintro e v1 ⟨rfl, hb⟩
  have R1_0 := Lib.hid ((hb.block _ (Array.getElem?_eq_some_iff.1 R0_0.out).1).trans R0_0.out)
  have R1_1 := Lib.hid ((hb.block _ (Array.getElem?_eq_some_iff.1 R0_1.out).1).trans R0_1.out)
  have HE1 := Lib.hid (HE0.out.below hb)
  have HB1 := Lib.hid (HB0.out.trans (hb.mono HB0.out.size))
  clear hb
  obtain ⟨c00, c01, c02, f00, f01, f02⟩ := box_cells R1_0.out
  go_wp2_with fail
  refine (HX.out _).mono ?_
  rintro e v2 ⟨rfl, hb⟩
  clear c00 c01 c02 f00 f01 f02
  have R2_0 := Lib.hid ((hb.block _ (Array.getElem?_eq_some_iff.1 R1_0.out).1).trans R1_0.out)
  have R2_1 := Lib.hid ((hb.block _ (Array.getElem?_eq_some_iff.1 R1_1.out).1).trans R1_1.out)
  have HE2 := Lib.hid (HE1.out.below hb)
  have HB2 := Lib.hid (HB1.out.trans (hb.mono HB1.out.size))
  clear hb
  obtain ⟨c00, c01, c02, f00, f01, f02⟩ := box_cells R2_0.out
  go_upto_region 3 with (fail)
  obtain ⟨v3, hv3⟩ : ∃ v, ((v2.setCell ⟨w.heap.size, 0, none⟩ (.int .i64 X.1)).setCell ⟨w.heap.size, 1, none⟩ (.int .i64 X.2.1)).setCell ⟨w.heap.size, 2, none⟩ (.string X.2.2) = v := ⟨_, rfl⟩
  rw [hv3]
  obtain ⟨hr, hg⟩ := box_store R2_0.out X
  rw [hv3] at hr hg
  have hbs : Below w.heap.size v2 v3 := below_of_grown hg (by omega) HB2.out.size
  have R3_0 := Lib.hid hr
  have R3_1 := Lib.hid ((hg.block _ (Array.getElem?_eq_some_iff.1 R2_1.out).1 (by simp; try omega)).trans R2_1.out)
  have HE3 := Lib.hid (HEE.out.below (HB2.out.trans hbs))
  have HB3 := Lib.hid (HB2.out.trans hbs)
  clear hv3 hr hg hbs
  clear c00 c01 c02 f00 f01 f02
  obtain ⟨c10, c11, c12, f10, f11, f12⟩ := box_cells R3_1.out
  go_wp2_with fail
  refine (HY.out _).mono ?_
  rintro e v4 ⟨rfl, hb⟩
  clear c10 c11 c12 f10 f11 f12
  have R4_0 := Lib.hid ((hb.block _ (Array.getElem?_eq_some_iff.1 R3_0.out).1).trans R3_0.out)
  have R4_1 := Lib.hid ((hb.block _ (Array.getElem?_eq_some_iff.1 R3_1.out).1).trans R3_1.out)
  have HE4 := Lib.hid (HE3.out.below hb)
  have HB4 := Lib.hid (HB3.out.trans (hb.mono HB3.out.size))
  clear hb
  obtain ⟨c10, c11, c12, f10, f11, f12⟩ := box_cells R4_1.out
  go_upto_region 4 with (fail)
  obtain ⟨v5, hv5⟩ : ∃ v, ((v4.setCell ⟨w.heap.size + 1, 0, none⟩ (.int .i64 Y.1)).setCell ⟨w.heap.size + 1, 1, none⟩ (.int .i64 Y.2.1)).setCell ⟨w.heap.size + 1, 2, none⟩ (.string Y.2.2) = v := ⟨_, rfl⟩
  rw [hv5]
  obtain ⟨hr, hg⟩ := box_store R4_1.out Y
  rw [hv5] at hr hg
  have hbs : Below w.heap.size v4 v5 := below_of_grown hg (by omega) HB4.out.size
  have R5_0 := Lib.hid ((hg.block _ (Array.getElem?_eq_some_iff.1 R4_0.out).1 (by simp; try omega)).trans R4_0.out)
  have R5_1 := Lib.hid hr
  have HE5 := Lib.hid (HEE.out.below (HB4.out.trans hbs))
  have HB5 := Lib.hid (HB4.out.trans hbs)
  clear hv5 hr hg hbs
  clear c10 c11 c12 f10 f11 f12
  obtain ⟨c00, c01, c02, f00, f01, f02⟩ := box_cells R5_0.out
  go_wp2_with fail
  refine (G1.out _ HE5.out).mono ?_
  rintro e v6 ⟨rfl, hb⟩
  clear c00 c01 c02 f00 f01 f02
  have R6_0 := Lib.hid ((hb.block _ (Array.getElem?_eq_some_iff.1 R5_0.out).1).trans R5_0.out)
  have R6_1 := Lib.hid ((hb.block _ (Array.getElem?_eq_some_iff.1 R5_1.out).1).trans R5_1.out)
  have HE6 := Lib.hid (HE5.out.below hb)
  have HB6 := Lib.hid (HB5.out.trans (hb.mono HB5.out.size))
  clear hb
  obtain ⟨c10, c11, c12, f10, f11, f12⟩ := box_cells R6_1.out
  go_wp2_with fail
  refine (G2.out _ HE6.out).mono ?_
  rintro e v7 ⟨rfl, hb⟩
  clear c10 c11 c12 f10 f11 f12
  have R7_0 := Lib.hid ((hb.block _ (Array.getElem?_eq_some_iff.1 R6_0.out).1).trans R6_0.out)
  have R7_1 := Lib.hid ((hb.block _ (Array.getElem?_eq_some_iff.1 R6_1.out).1).trans R6_1.out)
  have HE7 := Lib.hid (HE6.out.below hb)
  have HB7 := Lib.hid (HB6.out.trans (hb.mono HB6.out.size))
  clear hb
  obtain ⟨c00, c01, c02, f00, f01, f02⟩ := box_cells R7_0.out
  obtain ⟨c10, c11, c12, f10, f11, f12⟩ := box_cells R7_1.out
  go_wp2_with fail
  go_ret
  exact ⟨rfl, HB7.out⟩
end Go.Proofs.YtkliecngkcjieaaGreatDoor
