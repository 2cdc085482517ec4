/- Which scalar is ahead, scalars' texts, scalars of texts, are told as the document tells them: the walk of the law. Conditions: the contracts of what is called. -/
import Derived.Test.YtkliecngkcjieaaGreatDoorDoor
import Derived.Test.YtkliecngkcjieaaGreatDoorBox
import Derived.Test.YtkliecngkcjieaaGreatDoorRrw
import Derived.Test.YtkliecngkcjieaaGreatDoorRcm
import Derived.Deep.RegionHeld3
set_option maxRecDepth 100000
namespace Go.Proofs.YtkliecngkcjieaaGreatDoor
open Go.ChangeShapes Go.WideShapes Go.ChangeAt Go.RowKit Go.Shelf
open Go.ChangeMaps (open_string shut_string)
open Pl Quo Scs
/-- what lies ahead of the last line -/
structure Tls (w0 : World) (b0 b1 b2 b3 : Nat) (X Y Z : Sc) (W : World) : Prop where
  env : Env W
  below : Below w0.heap.size w0 W
  r0 : W.heap[b0]? = some (scO X)
  r1 : W.heap[b1]? = some (scO Y)
  r2 : W.heap[b2]? = some (scO Z)
  r3 : W.heap[b3]? = some (scO Z)
theorem Tls.step {w0 W W' : World} {b0 b1 b2 b3 : Nat} {X Y Z : Sc} (h : Tls w0 b0 b1 b2 b3 X Y Z W) (hb : Below W.heap.size W W') : Tls w0 b0 b1 b2 b3 X Y Z W' :=
  ⟨h.env.below hb, h.below.trans (hb.mono h.below.size), (hb.block _ (Array.getElem?_eq_some_iff.1 h.r0).1).trans h.r0, (hb.block _ (Array.getElem?_eq_some_iff.1 h.r1).1).trans h.r1, (hb.block _ (Array.getElem?_eq_some_iff.1 h.r2).1).trans h.r2, (hb.block _ (Array.getElem?_eq_some_iff.1 h.r3).1).trans h.r3⟩
theorem tls_drew {w0 W : World} {b0 b1 b2 b3 : Nat} {X Y Z : Sc} (h : Hid (Tls w0 b0 b1 b2 b3 X Y Z W)) : Hid (Tls w0 b0 b1 b2 b3 X Y Z W.drew) := Lib.hid (h.out.step (Below.refl _ _).drew)
abbrev TlS (b0 b1 b2 b3 : Nat) (X Y Z : Sc) (W : World) : Prop := W.cell? ⟨b0, 0, none⟩ = some (.int .i64 X.1) ∧ W.cell? ⟨b0, 1, none⟩ = some (.int .i64 X.2.1) ∧ W.cell? ⟨b0, 2, none⟩ = some (.string X.2.2) ∧
    W.cell? ⟨b1, 0, none⟩ = some (.int .i64 Y.1) ∧ W.cell? ⟨b1, 1, none⟩ = some (.int .i64 Y.2.1) ∧ W.cell? ⟨b1, 2, none⟩ = some (.string Y.2.2) ∧
    W.cell? ⟨b2, 0, none⟩ = some (.int .i64 Z.1) ∧ W.cell? ⟨b2, 1, none⟩ = some (.int .i64 Z.2.1) ∧ W.cell? ⟨b2, 2, none⟩ = some (.string Z.2.2) ∧
    W.cell? ⟨b3, 0, none⟩ = some (.int .i64 Z.1) ∧ W.cell? ⟨b3, 1, none⟩ = some (.int .i64 Z.2.1) ∧ W.cell? ⟨b3, 2, none⟩ = some (.string Z.2.2)
theorem Tls.cells {w0 W : World} {b0 b1 b2 b3 : Nat} {X Y Z : Sc} (h : Tls w0 b0 b1 b2 b3 X Y Z W) : TlS b0 b1 b2 b3 X Y Z W :=
  ⟨cell_of_row _ _ 0 _ _ _ h.r0, cell_of_row _ _ 1 _ _ _ h.r0, cell_of_row _ _ 2 _ _ _ h.r0, cell_of_row _ _ 0 _ _ _ h.r1, cell_of_row _ _ 1 _ _ _ h.r1, cell_of_row _ _ 2 _ _ _ h.r1,
    cell_of_row _ _ 0 _ _ _ h.r2, cell_of_row _ _ 1 _ _ _ h.r2, cell_of_row _ _ 2 _ _ _ h.r2, cell_of_row _ _ 0 _ _ _ h.r3, cell_of_row _ _ 1 _ _ _ h.r3, cell_of_row _ _ 2 _ _ _ h.r3⟩
theorem tlS_of {w0 W : World} {b0 b1 b2 b3 : Nat} {X Y Z : Sc} (h : Hid (Tls w0 b0 b1 b2 b3 X Y Z W)) : TlS b0 b1 b2 b3 X Y Z W := h.out.cells
set_option maxHeartbeats 16000000 in
theorem tells_walk (x y X Y Z : Sc) (s S T : ByteArray) (f g : Int) (hx : ∀ w, Calls Tryz.prog 12 #[.agg #[.int .i64 x.1, .int .i64 x.2.1, .string x.2.2]] w fun e w' => e = .returned (.agg #[.int .i64 X.1, .int .i64 X.2.1, .string X.2.2]) ∧ Below w.heap.size w w')
    (hy : ∀ w, Calls Tryz.prog 12 #[.agg #[.int .i64 y.1, .int .i64 y.2.1, .string y.2.2]] w fun e w' => e = .returned (.agg #[.int .i64 Y.1, .int .i64 Y.2.1, .string Y.2.2]) ∧ Below w.heap.size w w')
    (hs : ∀ w, Calls Tryz.prog 13 #[.string s] w fun e w' => e = .returned (.string S) ∧ Below w.heap.size w w')
    (g1 : ∀ w, Env w → Calls Tryz.prog 14 #[.agg #[.int .i64 X.1, .int .i64 X.2.1, .string X.2.2]] w fun e w' => e = .returned (.tuple #[.string T, .int .i64 f]) ∧ Below w.heap.size w w')
    (g2 : ∀ w, Env w → Calls Tryz.prog 15 #[.agg #[.int .i64 X.1, .int .i64 X.2.1, .string X.2.2]] w fun e w' => e = .returned (.tuple #[.string T, .int .i64 f]) ∧ Below w.heap.size w w')
    (g3 : ∀ w, Env w → Calls Tryz.prog 16 #[.string S] w fun e w' => e = .returned (.tuple #[.agg #[.int .i64 Z.1, .int .i64 Z.2.1, .string Z.2.2], .int .i64 g]) ∧ Below w.heap.size w w')
    (g4 : ∀ w, Env w → Calls Tryz.prog 17 #[.string S] w fun e w' => e = .returned (.tuple #[.agg #[.int .i64 Z.1, .int .i64 Z.2.1, .string Z.2.2], .int .i64 g]) ∧ Below w.heap.size w w')
    (gc : ∀ w, Calls Tryz.prog 18 #[.agg #[.int .i64 X.1, .int .i64 X.2.1, .string X.2.2], .agg #[.int .i64 Y.1, .int .i64 Y.2.1, .string Y.2.2]] w fun e w' => e = .returned (.int .i64 (cmpSc X Y)) ∧ Below w.heap.size w w')
    (gd : ∀ w, Calls Tryz.prog 19 #[.agg #[.int .i64 X.1, .int .i64 X.2.1, .string X.2.2], .agg #[.int .i64 Y.1, .int .i64 Y.2.1, .string Y.2.2]] w fun e w' => e = .returned (.int .i64 (cmpSc X Y)) ∧ Below w.heap.size w w')
    (q1 : ∀ w, (Op.equalIn 10000 23 (.agg #[.int .i64 Z.1, .int .i64 Z.2.1, .string Z.2.2]) (.agg #[.int .i64 Z.1, .int .i64 Z.2.1, .string Z.2.2])).run Tryz.prog w = .ok true w)
    (w : World) (E : Env w) :
    Calls Tryz.prog 3 #[.agg #[.int .i64 x.1, .int .i64 x.2.1, .string x.2.2], .agg #[.int .i64 y.1, .int .i64 y.2.1, .string y.2.2], .string s] w fun e w' => e = .returned (.bool true) ∧ Below w.heap.size w w' := by
  have qg := guard_sc
  have HEE := Lib.hid E
  have HX := Lib.hid hx
  have HY := Lib.hid hy
  have HS := Lib.hid hs
  have G1 := Lib.hid g1
  have G2 := Lib.hid g2
  have G3 := Lib.hid g3
  have G4 := Lib.hid g4
  have GC0 := Lib.hid gc
  have GD0 := Lib.hid gd
  clear hx hy hs g1 g2 g3 g4 gc gd
  go_enter Tryz.func3, Tryz.ntmps3
  go_wp2_with fail
  obtain ⟨v0, hv0⟩ : ∃ v, (w.alloc (scO x)).alloc (scO y) = v := ⟨_, rfl⟩
  have hb0 : Below w.heap.size w v0 := by rw [← hv0]; exact (((Below.refl _ w).alloc (Nat.le_refl _) _).alloc (by simp) _)
  have r0_0 : v0.heap[w.heap.size]? = some (scO x) := by rw [← hv0]; exact (by simpa [World.size_alloc] using box_at2_0 w (scO x) (scO y))
  have R0_0 := Lib.hid r0_0
  have r0_1 : v0.heap[w.heap.size + 1]? = some (scO y) := by rw [← hv0]; exact (by simpa [World.size_alloc] using box_at2_1 w (scO x) (scO y))
  have R0_1 := Lib.hid r0_1
  have HE0 := Lib.hid (E.below hb0)
  have HB0 := Lib.hid hb0
  rw [hv0]
  clear hv0 hb0 r0_0 r0_1 E
  refine (shown_any _ HE0.out).mono ?_
  rintro e v1 ⟨rfl, hb⟩
  have R1_0 := Lib.hid ((hb.block _ (Array.getElem?_eq_some_iff.1 R0_0.out).1).trans R0_0.out)
  have R1_1 := Lib.hid ((hb.block _ (Array.getElem?_eq_some_iff.1 R0_1.out).1).trans R0_1.out)
  have HE1 := Lib.hid (HE0.out.below hb)
  have HB1 := Lib.hid (HB0.out.trans (hb.mono HB0.out.size))
  clear hb
  obtain ⟨c00, c01, c02, f00, f01, f02⟩ := box_cells R1_0.out
  obtain ⟨c10, c11, c12, f10, f11, f12⟩ := box_cells R1_1.out
  go_wp2_with fail
  refine (HX.out _).mono ?_
  rintro e v2 ⟨rfl, hb⟩
  clear c00 c01 c02 f00 f01 f02 c10 c11 c12 f10 f11 f12
  have R2_0 := Lib.hid ((hb.block _ (Array.getElem?_eq_some_iff.1 R1_0.out).1).trans R1_0.out)
  have R2_1 := Lib.hid ((hb.block _ (Array.getElem?_eq_some_iff.1 R1_1.out).1).trans R1_1.out)
  have HE2 := Lib.hid (HE1.out.below hb)
  have HB2 := Lib.hid (HB1.out.trans (hb.mono HB1.out.size))
  clear hb
  obtain ⟨c00, c01, c02, f00, f01, f02⟩ := box_cells R2_0.out
  obtain ⟨c10, c11, c12, f10, f11, f12⟩ := box_cells R2_1.out
  go_upto_region 3 with (fail)
  obtain ⟨v3, hv3⟩ : ∃ v, ((v2.setCell ⟨w.heap.size, 0, none⟩ (.int .i64 X.1)).setCell ⟨w.heap.size, 1, none⟩ (.int .i64 X.2.1)).setCell ⟨w.heap.size, 2, none⟩ (.string X.2.2) = v := ⟨_, rfl⟩
  rw [hv3]
  obtain ⟨hr, hg⟩ := box_store R2_0.out X
  rw [hv3] at hr hg
  have hbs : Below w.heap.size v2 v3 := below_of_grown hg (by omega) HB2.out.size
  have R3_0 := Lib.hid hr
  have R3_1 := Lib.hid ((hg.block _ (Array.getElem?_eq_some_iff.1 R2_1.out).1 (by simp; try omega)).trans R2_1.out)
  have HE3 := Lib.hid (HEE.out.below (HB2.out.trans hbs))
  have HB3 := Lib.hid (HB2.out.trans hbs)
  clear hv3 hr hg hbs
  clear c00 c01 c02 f00 f01 f02 c10 c11 c12 f10 f11 f12
  obtain ⟨c00, c01, c02, f00, f01, f02⟩ := box_cells R3_0.out
  obtain ⟨c10, c11, c12, f10, f11, f12⟩ := box_cells R3_1.out
  go_wp2_with fail
  refine (HY.out _).mono ?_
  rintro e v4 ⟨rfl, hb⟩
  clear c00 c01 c02 f00 f01 f02 c10 c11 c12 f10 f11 f12
  have R4_0 := Lib.hid ((hb.block _ (Array.getElem?_eq_some_iff.1 R3_0.out).1).trans R3_0.out)
  have R4_1 := Lib.hid ((hb.block _ (Array.getElem?_eq_some_iff.1 R3_1.out).1).trans R3_1.out)
  have HE4 := Lib.hid (HE3.out.below hb)
  have HB4 := Lib.hid (HB3.out.trans (hb.mono HB3.out.size))
  clear hb
  obtain ⟨c00, c01, c02, f00, f01, f02⟩ := box_cells R4_0.out
  obtain ⟨c10, c11, c12, f10, f11, f12⟩ := box_cells R4_1.out
  go_upto_region 4 with (fail)
  obtain ⟨v5, hv5⟩ : ∃ v, ((v4.setCell ⟨w.heap.size + 1, 0, none⟩ (.int .i64 Y.1)).setCell ⟨w.heap.size + 1, 1, none⟩ (.int .i64 Y.2.1)).setCell ⟨w.heap.size + 1, 2, none⟩ (.string Y.2.2) = v := ⟨_, rfl⟩
  rw [hv5]
  obtain ⟨hr, hg⟩ := box_store R4_1.out Y
  rw [hv5] at hr hg
  have hbs : Below w.heap.size v4 v5 := below_of_grown hg (by omega) HB4.out.size
  have R5_0 := Lib.hid ((hg.block _ (Array.getElem?_eq_some_iff.1 R4_0.out).1 (by simp; try omega)).trans R4_0.out)
  have R5_1 := Lib.hid hr
  have HE5 := Lib.hid (HEE.out.below (HB4.out.trans hbs))
  have HB5 := Lib.hid (HB4.out.trans hbs)
  clear hv5 hr hg hbs
  clear c00 c01 c02 f00 f01 f02 c10 c11 c12 f10 f11 f12
  go_wp2_with fail
  refine (HS.out _).mono ?_
  rintro e v6 ⟨rfl, hb⟩
  have R6_0 := Lib.hid ((hb.block _ (Array.getElem?_eq_some_iff.1 R5_0.out).1).trans R5_0.out)
  have R6_1 := Lib.hid ((hb.block _ (Array.getElem?_eq_some_iff.1 R5_1.out).1).trans R5_1.out)
  have HE6 := Lib.hid (HE5.out.below hb)
  have HB6 := Lib.hid (HB5.out.trans (hb.mono HB5.out.size))
  clear hb
  obtain ⟨c00, c01, c02, f00, f01, f02⟩ := box_cells R6_0.out
  go_wp2_with fail
  refine (G1.out _ HE6.out).mono ?_
  rintro e v7 ⟨rfl, hb⟩
  clear c00 c01 c02 f00 f01 f02
  have R7_0 := Lib.hid ((hb.block _ (Array.getElem?_eq_some_iff.1 R6_0.out).1).trans R6_0.out)
  have R7_1 := Lib.hid ((hb.block _ (Array.getElem?_eq_some_iff.1 R6_1.out).1).trans R6_1.out)
  have HE7 := Lib.hid (HE6.out.below hb)
  have HB7 := Lib.hid (HB6.out.trans (hb.mono HB6.out.size))
  clear hb
  obtain ⟨c00, c01, c02, f00, f01, f02⟩ := box_cells R7_0.out
  go_wp2_with fail
  refine (G2.out _ HE7.out).mono ?_
  rintro e v8 ⟨rfl, hb⟩
  clear c00 c01 c02 f00 f01 f02
  have R8_0 := Lib.hid ((hb.block _ (Array.getElem?_eq_some_iff.1 R7_0.out).1).trans R7_0.out)
  have R8_1 := Lib.hid ((hb.block _ (Array.getElem?_eq_some_iff.1 R7_1.out).1).trans R7_1.out)
  have HE8 := Lib.hid (HE7.out.below hb)
  have HB8 := Lib.hid (HB7.out.trans (hb.mono HB7.out.size))
  clear hb
  go_wp2_with fail
  refine (G3.out _ HE8.out).mono ?_
  rintro e v9 ⟨rfl, hb⟩
  have R9_0 := Lib.hid ((hb.block _ (Array.getElem?_eq_some_iff.1 R8_0.out).1).trans R8_0.out)
  have R9_1 := Lib.hid ((hb.block _ (Array.getElem?_eq_some_iff.1 R8_1.out).1).trans R8_1.out)
  have HE9 := Lib.hid (HE8.out.below hb)
  have HB9 := Lib.hid (HB8.out.trans (hb.mono HB8.out.size))
  clear hb
  go_wp2_with fail
  obtain ⟨b2, hb2⟩ : ∃ b, v9.heap.size = b := ⟨_, rfl⟩
  obtain ⟨v10, hv10⟩ : ∃ v, v9.alloc (scO Z) = v := ⟨_, rfl⟩
  rw [hv10, hb2]
  have hrb2 : v10.heap[b2]? = some (scO Z) := by rw [← hv10, ← hb2]; exact heap_alloc_new v9 _
  have hb : Below v9.heap.size v9 v10 := by rw [← hv10]; exact (Below.refl _ v9).alloc (Nat.le_refl _) _
  have R10_2 := Lib.hid hrb2
  clear hv10 hb2 hrb2
  have R10_0 := Lib.hid ((hb.block _ (Array.getElem?_eq_some_iff.1 R9_0.out).1).trans R9_0.out)
  have R10_1 := Lib.hid ((hb.block _ (Array.getElem?_eq_some_iff.1 R9_1.out).1).trans R9_1.out)
  have HE10 := Lib.hid (HE9.out.below hb)
  have HB10 := Lib.hid (HB9.out.trans (hb.mono HB9.out.size))
  clear hb
  refine (G4.out _ HE10.out).mono ?_
  rintro e v11 ⟨rfl, hb⟩
  have R11_0 := Lib.hid ((hb.block _ (Array.getElem?_eq_some_iff.1 R10_0.out).1).trans R10_0.out)
  have R11_1 := Lib.hid ((hb.block _ (Array.getElem?_eq_some_iff.1 R10_1.out).1).trans R10_1.out)
  have R11_2 := Lib.hid ((hb.block _ (Array.getElem?_eq_some_iff.1 R10_2.out).1).trans R10_2.out)
  have HE11 := Lib.hid (HE10.out.below hb)
  have HB11 := Lib.hid (HB10.out.trans (hb.mono HB10.out.size))
  clear hb
  go_upto_region 9 with (fail)
  obtain ⟨b3, hb3⟩ : ∃ b, v11.heap.size = b := ⟨_, rfl⟩
  obtain ⟨v12, hv12⟩ : ∃ v, v11.alloc (scO Z) = v := ⟨_, rfl⟩
  rw [hv12, hb3]
  have hrb3 : v12.heap[b3]? = some (scO Z) := by rw [← hv12, ← hb3]; exact heap_alloc_new v11 _
  have hb : Below v11.heap.size v11 v12 := by rw [← hv12]; exact (Below.refl _ v11).alloc (Nat.le_refl _) _
  have R12_3 := Lib.hid hrb3
  clear hv12 hb3 hrb3
  have R12_0 := Lib.hid ((hb.block _ (Array.getElem?_eq_some_iff.1 R11_0.out).1).trans R11_0.out)
  have R12_1 := Lib.hid ((hb.block _ (Array.getElem?_eq_some_iff.1 R11_1.out).1).trans R11_1.out)
  have R12_2 := Lib.hid ((hb.block _ (Array.getElem?_eq_some_iff.1 R11_2.out).1).trans R11_2.out)
  have HE12 := Lib.hid (HE11.out.below hb)
  have HB12 := Lib.hid (HB11.out.trans (hb.mono HB11.out.size))
  clear hb
  obtain ⟨b0, hb0⟩ : ∃ b, w.heap.size = b := ⟨_, rfl⟩
  have HF : Hid (Tls w w.heap.size (w.heap.size + 1) b2 b3 X Y Z v12) := Lib.hid ⟨HE12.out, HB12.out, R12_0.out, R12_1.out, R12_2.out, R12_3.out⟩
  clear hb0
  have GC : Hid (∀ W, Hid (Tls w w.heap.size (w.heap.size + 1) b2 b3 X Y Z W) → Calls Tryz.prog 18 #[.agg #[.int .i64 X.1, .int .i64 X.2.1, .string X.2.2], .agg #[.int .i64 Y.1, .int .i64 Y.2.1, .string Y.2.2]] W fun e W' => e = .returned (.int .i64 (cmpSc X Y)) ∧ Hid (Tls w w.heap.size (w.heap.size + 1) b2 b3 X Y Z W')) :=
    Lib.hid fun W hf => (GC0.out W).mono fun e W' hh => ⟨hh.1, Lib.hid (hf.out.step hh.2)⟩
  have GD : Hid (∀ W, Hid (Tls w w.heap.size (w.heap.size + 1) b2 b3 X Y Z W) → Calls Tryz.prog 19 #[.agg #[.int .i64 X.1, .int .i64 X.2.1, .string X.2.2], .agg #[.int .i64 Y.1, .int .i64 Y.2.1, .string Y.2.2]] W fun e W' => e = .returned (.int .i64 (cmpSc X Y)) ∧ Hid (Tls w w.heap.size (w.heap.size + 1) b2 b3 X Y Z W')) :=
    Lib.hid fun W hf => (GD0.out W).mono fun e W' hh => ⟨hh.1, Lib.hid (hf.out.step hh.2)⟩
  obtain ⟨d00, d01, d02, d10, d11, d12, d20, d21, d22, d30, d31, d32⟩ := HF.out.cells
  have q := q1
  go_region_held3 (TlS w.heap.size (w.heap.size + 1) b2 b3 X Y Z) (first | exact ⟨d00, d01, d02, d10, d11, d12, d20, d21, d22, d30, d31, d32⟩ | exact tlS_of (w0 := w) (by first | assumption | exact tls_drew (by assumption))) (first
    | ((with_reducible refine (GC.out _ (by first | assumption | exact tls_drew (by assumption))).mono ?_); rintro e wq ⟨rfl, hf⟩; obtain ⟨d00, d01, d02, d10, d11, d12, d20, d21, d22, d30, d31, d32⟩ := hf.out.cells)
    | ((with_reducible refine (GD.out _ (by first | assumption | exact tls_drew (by assumption))).mono ?_); rintro e wq ⟨rfl, hf⟩; obtain ⟨d00, d01, d02, d10, d11, d12, d20, d21, d22, d30, d31, d32⟩ := hf.out.cells))
  all_goals
    go_wp2
    go_ret
    exact ⟨rfl, by first | exact (hf : Hid _).out.below | exact (tls_drew hf).out.below⟩
theorem walkScalTells (k0 n0 : Int) (s0 : ByteArray) (k1 n1 : Int) (s1 : ByteArray) (s : ByteArray) (w : World) (E : Env w) :
    Calls Tryz.prog 3 #[.agg #[.int .i64 k0, .int .i64 n0, .string s0], .agg #[.int .i64 k1, .int .i64 n1, .string s1], .string s] w fun e w' => e = .returned (.bool true) ∧ Below w.heap.size w w' := by
  have zx : (cutS (k0, n0, s0)).2.2.size ≤ 100 := cutT_size s0
  obtain ⟨X, hX⟩ : ∃ X, cutS (k0, n0, s0) = X := ⟨_, rfl⟩
  have hx := fun w => Cut_any (k0, n0, s0) w
  rw [hX] at hx zx
  obtain ⟨Y, hY⟩ : ∃ X, cutS (k1, n1, s1) = X := ⟨_, rfl⟩
  have hy := fun w => Cut_any (k1, n1, s1) w
  rw [hY] at hy
  have zs : (cutT s).size ≤ 100 := cutT_size s
  have hs : ∀ w, Calls Tryz.prog 13 #[.string s] w fun e w' => e = .returned (.string (cutT s)) ∧ Below w.heap.size w w' := fun w => (cut_any s w).mono fun e w' hh => ⟨hh.1, by rw [← hh.2]; exact Below.refl _ _⟩
  obtain ⟨S, hS⟩ : ∃ S, cutT s = S := ⟨_, rfl⟩
  rw [hS] at hs zs
  have g1 := fun w E => Text_any X (by omega) w E
  have g2 := fun w E => Text15_any X (by omega) w E
  have g3 := fun w E => SRead_any S (by omega) w E
  have g4 := fun w E => Read17_any S (by omega) w E
  have gc := fun w => Compare_below X Y w
  have gd := fun w => Compare_ref X Y w
  obtain ⟨Z, hZ⟩ : ∃ Z, (readS S).1 = Z := ⟨_, rfl⟩
  rw [hZ] at g3 g4
  have q1 := fun w => equal_sc Z.1 Z.2.1 Z.2.2 Z.1 Z.2.1 Z.2.2 w
  rw [sameB_iff, decide_eq_true (show ((Z.1, Z.2.1, Z.2.2) : Sc) = (Z.1, Z.2.1, Z.2.2) from rfl)] at q1
  unfold aggS at hx hy g1 g3 g4 gc gd
  exact tells_walk (k0, n0, s0) (k1, n1, s1) X Y Z s S _ _ _ hx hy hs g1 g2 g3 g4 gc gd q1 w E
end Go.Proofs.YtkliecngkcjieaaGreatDoor
