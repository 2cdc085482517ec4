/- Scalars and their texts tell each other: the walks of the law. Conditions: the contracts of what is called. -/
import Derived.Test.YtkliecngkcjieaaGreatDoorDoor
import Derived.Test.YtkliecngkcjieaaGreatDoorBox
import Derived.Test.YtkliecngkcjieaaGreatDoorRqt
set_option maxRecDepth 100000
namespace Go.Proofs.YtkliecngkcjieaaGreatDoor
open Go.ChangeShapes Go.WideShapes Go.ChangeAt Go.RowKit Go.Shelf
open Go.ChangeMaps (open_string shut_string)
open Pl Quo Scs
set_option maxHeartbeats 16000000 in
theorem back_gg (x X _Y Z : Sc) (s S T _U : ByteArray) (_f _h : Int) (hx : ∀ w, Calls Tryz.prog 12 #[.agg #[.int .i64 x.1, .int .i64 x.2.1, .string x.2.2]] w fun e w' => e = .returned (.agg #[.int .i64 X.1, .int .i64 X.2.1, .string X.2.2]) ∧ Below w.heap.size w w')
    (hs : ∀ w, Calls Tryz.prog 13 #[.string s] w fun e w' => e = .returned (.string S) ∧ Below w.heap.size w w')
    (g1 : ∀ w, Env w → Calls Tryz.prog 14 #[.agg #[.int .i64 X.1, .int .i64 X.2.1, .string X.2.2]] w fun e w' => e = .returned (.tuple #[.string T, .int .i64 0]) ∧ Below w.heap.size w w')
    (g2 : ∀ w, Env w → Calls Tryz.prog 16 #[.string T] w fun e w' => e = .returned (.tuple #[.agg #[.int .i64 X.1, .int .i64 X.2.1, .string X.2.2], .int .i64 0]) ∧ Below w.heap.size w w')
    (g3 : ∀ w, Env w → Calls Tryz.prog 16 #[.string S] w fun e w' => e = .returned (.tuple #[.agg #[.int .i64 Z.1, .int .i64 Z.2.1, .string Z.2.2], .int .i64 0]) ∧ Below w.heap.size w w')
    (g4 : ∀ w, Env w → Calls Tryz.prog 14 #[.agg #[.int .i64 Z.1, .int .i64 Z.2.1, .string Z.2.2]] w fun e w' => e = .returned (.tuple #[.string S, .int .i64 0]) ∧ Below w.heap.size w w')
    (g5 : ∀ w, Env w → Calls Tryz.prog 26 #[.agg #[.int .i64 X.1, .int .i64 X.2.1, .string X.2.2]] w fun e w' => e = .returned (.bool true) ∧ Below w.heap.size w w')
    (g6 : ∀ w, Env w → Calls Tryz.prog 26 #[.agg #[.int .i64 Z.1, .int .i64 Z.2.1, .string Z.2.2]] w fun e w' => e = .returned (.bool true) ∧ Below w.heap.size w w')
    (q1 : ∀ w, (Op.equalIn 10000 23 (.agg #[.int .i64 X.1, .int .i64 X.2.1, .string X.2.2]) (.agg #[.int .i64 X.1, .int .i64 X.2.1, .string X.2.2])).run Tryz.prog w = .ok true w)
    (w : World) (E : Env w) :
    Calls Tryz.prog 5 #[.agg #[.int .i64 x.1, .int .i64 x.2.1, .string x.2.2], .string s] w fun e w' => e = .returned (.bool true) ∧ Below w.heap.size w w' := by
  have qg := guard_sc
  have HEE := Lib.hid E
  have HX := Lib.hid hx
  have HS := Lib.hid hs
  have G1 := Lib.hid g1
  have G2 := Lib.hid g2
  have G3 := Lib.hid g3
  have G4 := Lib.hid g4
  have G5 := Lib.hid g5
  have G6 := Lib.hid g6
  clear g6
  clear hx hs g1 g2 g3 g4 g5
  go_enter Tryz.func5, Tryz.ntmps5
  go_wp2_with fail
  obtain ⟨v0, hv0⟩ : ∃ v, w.alloc (scO x) = v := ⟨_, rfl⟩
  have hb0 : Below w.heap.size w v0 := by rw [← hv0]; exact ((Below.refl _ w).alloc (Nat.le_refl _) _)
  have r0_0 : v0.heap[w.heap.size]? = some (scO x) := by rw [← hv0]; exact (by simpa [World.size_alloc] using box_at1_0 w (scO x))
  have R0_0 := Lib.hid r0_0
  have HE0 := Lib.hid (E.below hb0)
  have HB0 := Lib.hid hb0
  rw [hv0]
  clear hv0 hb0 r0_0 E
  refine (shown_any _ HE0.out).mono ?_
  rintro e v1 ⟨rfl, hb⟩
  have R1_0 := Lib.hid ((hb.block _ (Array.getElem?_eq_some_iff.1 R0_0.out).1).trans R0_0.out)
  have HE1 := Lib.hid (HE0.out.below hb)
  have HB1 := Lib.hid (HB0.out.trans (hb.mono HB0.out.size))
  clear hb
  obtain ⟨c00, c01, c02, f00, f01, f02⟩ := box_cells R1_0.out
  go_wp2_with fail
  refine (HX.out _).mono ?_
  rintro e v2 ⟨rfl, hb⟩
  clear c00 c01 c02 f00 f01 f02
  have R2_0 := Lib.hid ((hb.block _ (Array.getElem?_eq_some_iff.1 R1_0.out).1).trans R1_0.out)
  have HE2 := Lib.hid (HE1.out.below hb)
  have HB2 := Lib.hid (HB1.out.trans (hb.mono HB1.out.size))
  clear hb
  obtain ⟨c00, c01, c02, f00, f01, f02⟩ := box_cells R2_0.out
  go_upto_region 3 with (fail)
  obtain ⟨v3, hv3⟩ : ∃ v, ((v2.setCell ⟨w.heap.size, 0, none⟩ (.int .i64 X.1)).setCell ⟨w.heap.size, 1, none⟩ (.int .i64 X.2.1)).setCell ⟨w.heap.size, 2, none⟩ (.string X.2.2) = v := ⟨_, rfl⟩
  rw [hv3]
  obtain ⟨hr, hg⟩ := box_store R2_0.out X
  rw [hv3] at hr hg
  have hbs : Below w.heap.size v2 v3 := below_of_grown hg (by omega) HB2.out.size
  have R3_0 := Lib.hid hr
  have HE3 := Lib.hid (HEE.out.below (HB2.out.trans hbs))
  have HB3 := Lib.hid (HB2.out.trans hbs)
  clear hv3 hr hg hbs
  clear c00 c01 c02 f00 f01 f02
  go_wp2_with fail
  refine (HS.out _).mono ?_
  rintro e v4 ⟨rfl, hb⟩
  have R4_0 := Lib.hid ((hb.block _ (Array.getElem?_eq_some_iff.1 R3_0.out).1).trans R3_0.out)
  have HE4 := Lib.hid (HE3.out.below hb)
  have HB4 := Lib.hid (HB3.out.trans (hb.mono HB3.out.size))
  clear hb
  obtain ⟨c00, c01, c02, f00, f01, f02⟩ := box_cells R4_0.out
  go_wp2_with fail
  refine (G1.out _ HE4.out).mono ?_
  rintro e v5 ⟨rfl, hb⟩
  clear c00 c01 c02 f00 f01 f02
  have R5_0 := Lib.hid ((hb.block _ (Array.getElem?_eq_some_iff.1 R4_0.out).1).trans R4_0.out)
  have HE5 := Lib.hid (HE4.out.below hb)
  have HB5 := Lib.hid (HB4.out.trans (hb.mono HB4.out.size))
  clear hb
  go_wp2_with fail
  refine (G2.out _ HE5.out).mono ?_
  rintro e v6 ⟨rfl, hb⟩
  have R6_0 := Lib.hid ((hb.block _ (Array.getElem?_eq_some_iff.1 R5_0.out).1).trans R5_0.out)
  have HE6 := Lib.hid (HE5.out.below hb)
  have HB6 := Lib.hid (HB5.out.trans (hb.mono HB5.out.size))
  clear hb
  obtain ⟨c00, c01, c02, f00, f01, f02⟩ := box_cells R6_0.out
  have hlt : w.heap.size < v6.heap.size := (Array.getElem?_eq_some_iff.1 R6_0.out).1
  go_wp2_with fail
  clear hlt
  clear c00 c01 c02 f00 f01 f02
  obtain ⟨b1, hb1⟩ : ∃ b, v6.heap.size = b := ⟨_, rfl⟩
  obtain ⟨v7, hv7⟩ : ∃ v, v6.alloc (scO X) = v := ⟨_, rfl⟩
  rw [hv7, hb1]
  have hrb1 : v7.heap[b1]? = some (scO X) := by rw [← hv7, ← hb1]; exact heap_alloc_new v6 _
  have hb : Below v6.heap.size v6 v7 := by rw [← hv7]; exact (Below.refl _ v6).alloc (Nat.le_refl _) _
  have R7_1 := Lib.hid hrb1
  clear hv7 hb1 hrb1
  have R7_0 := Lib.hid ((hb.block _ (Array.getElem?_eq_some_iff.1 R6_0.out).1).trans R6_0.out)
  have HE7 := Lib.hid (HE6.out.below hb)
  have HB7 := Lib.hid (HB6.out.trans (hb.mono HB6.out.size))
  clear hb
  refine (G3.out _ HE7.out).mono ?_
  rintro e v8 ⟨rfl, hb⟩
  have R8_0 := Lib.hid ((hb.block _ (Array.getElem?_eq_some_iff.1 R7_0.out).1).trans R7_0.out)
  have R8_1 := Lib.hid ((hb.block _ (Array.getElem?_eq_some_iff.1 R7_1.out).1).trans R7_1.out)
  have HE8 := Lib.hid (HE7.out.below hb)
  have HB8 := Lib.hid (HB7.out.trans (hb.mono HB7.out.size))
  clear hb
  go_wp2_with fail
  obtain ⟨b2, hb2⟩ : ∃ b, v8.heap.size = b := ⟨_, rfl⟩
  obtain ⟨v9, hv9⟩ : ∃ v, v8.alloc (scO Z) = v := ⟨_, rfl⟩
  rw [hv9, hb2]
  have hrb2 : v9.heap[b2]? = some (scO Z) := by rw [← hv9, ← hb2]; exact heap_alloc_new v8 _
  have hb : Below v8.heap.size v8 v9 := by rw [← hv9]; exact (Below.refl _ v8).alloc (Nat.le_refl _) _
  have R9_2 := Lib.hid hrb2
  clear hv9 hb2 hrb2
  have R9_0 := Lib.hid ((hb.block _ (Array.getElem?_eq_some_iff.1 R8_0.out).1).trans R8_0.out)
  have R9_1 := Lib.hid ((hb.block _ (Array.getElem?_eq_some_iff.1 R8_1.out).1).trans R8_1.out)
  have HE9 := Lib.hid (HE8.out.below hb)
  have HB9 := Lib.hid (HB8.out.trans (hb.mono HB8.out.size))
  clear hb
  refine (G4.out _ HE9.out).mono ?_
  rintro e v10 ⟨rfl, hb⟩
  have R10_0 := Lib.hid ((hb.block _ (Array.getElem?_eq_some_iff.1 R9_0.out).1).trans R9_0.out)
  have R10_1 := Lib.hid ((hb.block _ (Array.getElem?_eq_some_iff.1 R9_1.out).1).trans R9_1.out)
  have R10_2 := Lib.hid ((hb.block _ (Array.getElem?_eq_some_iff.1 R9_2.out).1).trans R9_2.out)
  have HE10 := Lib.hid (HE9.out.below hb)
  have HB10 := Lib.hid (HB9.out.trans (hb.mono HB9.out.size))
  clear hb
  obtain ⟨c00, c01, c02, f00, f01, f02⟩ := box_cells R10_0.out
  obtain ⟨c20, c21, c22, f20, f21, f22⟩ := box_cells R10_2.out
  go_wp2_with fail
  refine (G5.out _ HE10.out).mono ?_
  rintro e v11 ⟨rfl, hb⟩
  clear c00 c01 c02 f00 f01 f02 c20 c21 c22 f20 f21 f22
  have R11_0 := Lib.hid ((hb.block _ (Array.getElem?_eq_some_iff.1 R10_0.out).1).trans R10_0.out)
  have R11_1 := Lib.hid ((hb.block _ (Array.getElem?_eq_some_iff.1 R10_1.out).1).trans R10_1.out)
  have R11_2 := Lib.hid ((hb.block _ (Array.getElem?_eq_some_iff.1 R10_2.out).1).trans R10_2.out)
  have HE11 := Lib.hid (HE10.out.below hb)
  have HB11 := Lib.hid (HB10.out.trans (hb.mono HB10.out.size))
  clear hb
  obtain ⟨c00, c01, c02, f00, f01, f02⟩ := box_cells R11_0.out
  obtain ⟨c20, c21, c22, f20, f21, f22⟩ := box_cells R11_2.out
  go_wp2_with fail
  refine (G6.out _ HE11.out).mono ?_
  rintro e v12 ⟨rfl, hb⟩
  clear c00 c01 c02 f00 f01 f02 c20 c21 c22 f20 f21 f22
  have R12_0 := Lib.hid ((hb.block _ (Array.getElem?_eq_some_iff.1 R11_0.out).1).trans R11_0.out)
  have R12_1 := Lib.hid ((hb.block _ (Array.getElem?_eq_some_iff.1 R11_1.out).1).trans R11_1.out)
  have R12_2 := Lib.hid ((hb.block _ (Array.getElem?_eq_some_iff.1 R11_2.out).1).trans R11_2.out)
  have HE12 := Lib.hid (HE11.out.below hb)
  have HB12 := Lib.hid (HB11.out.trans (hb.mono HB11.out.size))
  clear hb
  go_wp2_with fail
  go_ret
  exact ⟨rfl, HB12.out⟩
set_option maxHeartbeats 16000000 in
theorem back_gb (x X _Y _Z : Sc) (s S T U : ByteArray) (_f h : Int) (hx : ∀ w, Calls Tryz.prog 12 #[.agg #[.int .i64 x.1, .int .i64 x.2.1, .string x.2.2]] w fun e w' => e = .returned (.agg #[.int .i64 X.1, .int .i64 X.2.1, .string X.2.2]) ∧ Below w.heap.size w w')
    (hs : ∀ w, Calls Tryz.prog 13 #[.string s] w fun e w' => e = .returned (.string S) ∧ Below w.heap.size w w')
    (g1 : ∀ w, Env w → Calls Tryz.prog 14 #[.agg #[.int .i64 X.1, .int .i64 X.2.1, .string X.2.2]] w fun e w' => e = .returned (.tuple #[.string T, .int .i64 0]) ∧ Below w.heap.size w w')
    (g2 : ∀ w, Env w → Calls Tryz.prog 16 #[.string T] w fun e w' => e = .returned (.tuple #[.agg #[.int .i64 X.1, .int .i64 X.2.1, .string X.2.2], .int .i64 0]) ∧ Below w.heap.size w w')
    (g3 : ∀ w, Env w → Calls Tryz.prog 16 #[.string S] w fun e w' => e = .returned (.tuple #[.agg #[.int .i64 0, .int .i64 0, .string ⟨#[]⟩], .int .i64 60]) ∧ Below w.heap.size w w')
    (g4 : ∀ w, Env w → Calls Tryz.prog 14 #[.agg #[.int .i64 0, .int .i64 0, .string ⟨#[]⟩]] w fun e w' => e = .returned (.tuple #[.string U, .int .i64 h]) ∧ Below w.heap.size w w')
    (g5 : ∀ w, Env w → Calls Tryz.prog 26 #[.agg #[.int .i64 X.1, .int .i64 X.2.1, .string X.2.2]] w fun e w' => e = .returned (.bool true) ∧ Below w.heap.size w w')
    (q1 : ∀ w, (Op.equalIn 10000 23 (.agg #[.int .i64 X.1, .int .i64 X.2.1, .string X.2.2]) (.agg #[.int .i64 X.1, .int .i64 X.2.1, .string X.2.2])).run Tryz.prog w = .ok true w)
    (q2 : ∀ w, (Op.equalIn 10000 23 (.agg #[.int .i64 0, .int .i64 0, .string ⟨#[]⟩]) (.agg #[.int .i64 0, .int .i64 0, .string ⟨#[]⟩])).run Tryz.prog w = .ok true w)
    (w : World) (E : Env w) :
    Calls Tryz.prog 5 #[.agg #[.int .i64 x.1, .int .i64 x.2.1, .string x.2.2], .string s] w fun e w' => e = .returned (.bool true) ∧ Below w.heap.size w w' := by
  have qg := guard_sc
  have HEE := Lib.hid E
  have HX := Lib.hid hx
  have HS := Lib.hid hs
  have G1 := Lib.hid g1
  have G2 := Lib.hid g2
  have G3 := Lib.hid g3
  have G4 := Lib.hid g4
  have G5 := Lib.hid g5
  clear hx hs g1 g2 g3 g4 g5
  go_enter Tryz.func5, Tryz.ntmps5
  go_wp2_with fail
  obtain ⟨v0, hv0⟩ : ∃ v, w.alloc (scO x) = v := ⟨_, rfl⟩
  have hb0 : Below w.heap.size w v0 := by rw [← hv0]; exact ((Below.refl _ w).alloc (Nat.le_refl _) _)
  have r0_0 : v0.heap[w.heap.size]? = some (scO x) := by rw [← hv0]; exact (by simpa [World.size_alloc] using box_at1_0 w (scO x))
  have R0_0 := Lib.hid r0_0
  have HE0 := Lib.hid (E.below hb0)
  have HB0 := Lib.hid hb0
  rw [hv0]
  clear hv0 hb0 r0_0 E
  refine (shown_any _ HE0.out).mono ?_
  rintro e v1 ⟨rfl, hb⟩
  have R1_0 := Lib.hid ((hb.block _ (Array.getElem?_eq_some_iff.1 R0_0.out).1).trans R0_0.out)
  have HE1 := Lib.hid (HE0.out.below hb)
  have HB1 := Lib.hid (HB0.out.trans (hb.mono HB0.out.size))
  clear hb
  obtain ⟨c00, c01, c02, f00, f01, f02⟩ := box_cells R1_0.out
  go_wp2_with fail
  refine (HX.out _).mono ?_
  rintro e v2 ⟨rfl, hb⟩
  clear c00 c01 c02 f00 f01 f02
  have R2_0 := Lib.hid ((hb.block _ (Array.getElem?_eq_some_iff.1 R1_0.out).1).trans R1_0.out)
  have HE2 := Lib.hid (HE1.out.below hb)
  have HB2 := Lib.hid (HB1.out.trans (hb.mono HB1.out.size))
  clear hb
  obtain ⟨c00, c01, c02, f00, f01, f02⟩ := box_cells R2_0.out
  go_upto_region 3 with (fail)
  obtain ⟨v3, hv3⟩ : ∃ v, ((v2.setCell ⟨w.heap.size, 0, none⟩ (.int .i64 X.1)).setCell ⟨w.heap.size, 1, none⟩ (.int .i64 X.2.1)).setCell ⟨w.heap.size, 2, none⟩ (.string X.2.2) = v := ⟨_, rfl⟩
  rw [hv3]
  obtain ⟨hr, hg⟩ := box_store R2_0.out X
  rw [hv3] at hr hg
  have hbs : Below w.heap.size v2 v3 := below_of_grown hg (by omega) HB2.out.size
  have R3_0 := Lib.hid hr
  have HE3 := Lib.hid (HEE.out.below (HB2.out.trans hbs))
  have HB3 := Lib.hid (HB2.out.trans hbs)
  clear hv3 hr hg hbs
  clear c00 c01 c02 f00 f01 f02
  go_wp2_with fail
  refine (HS.out _).mono ?_
  rintro e v4 ⟨rfl, hb⟩
  have R4_0 := Lib.hid ((hb.block _ (Array.getElem?_eq_some_iff.1 R3_0.out).1).trans R3_0.out)
  have HE4 := Lib.hid (HE3.out.below hb)
  have HB4 := Lib.hid (HB3.out.trans (hb.mono HB3.out.size))
  clear hb
  obtain ⟨c00, c01, c02, f00, f01, f02⟩ := box_cells R4_0.out
  go_wp2_with fail
  refine (G1.out _ HE4.out).mono ?_
  rintro e v5 ⟨rfl, hb⟩
  clear c00 c01 c02 f00 f01 f02
  have R5_0 := Lib.hid ((hb.block _ (Array.getElem?_eq_some_iff.1 R4_0.out).1).trans R4_0.out)
  have HE5 := Lib.hid (HE4.out.below hb)
  have HB5 := Lib.hid (HB4.out.trans (hb.mono HB4.out.size))
  clear hb
  go_wp2_with fail
  refine (G2.out _ HE5.out).mono ?_
  rintro e v6 ⟨rfl, hb⟩
  have R6_0 := Lib.hid ((hb.block _ (Array.getElem?_eq_some_iff.1 R5_0.out).1).trans R5_0.out)
  have HE6 := Lib.hid (HE5.out.below hb)
  have HB6 := Lib.hid (HB5.out.trans (hb.mono HB5.out.size))
  clear hb
  obtain ⟨c00, c01, c02, f00, f01, f02⟩ := box_cells R6_0.out
  have hlt : w.heap.size < v6.heap.size := (Array.getElem?_eq_some_iff.1 R6_0.out).1
  go_wp2_with fail
  clear hlt
  clear c00 c01 c02 f00 f01 f02
  obtain ⟨b1, hb1⟩ : ∃ b, v6.heap.size = b := ⟨_, rfl⟩
  obtain ⟨v7, hv7⟩ : ∃ v, v6.alloc (scO X) = v := ⟨_, rfl⟩
  rw [hv7, hb1]
  have hrb1 : v7.heap[b1]? = some (scO X) := by rw [← hv7, ← hb1]; exact heap_alloc_new v6 _
  have hb : Below v6.heap.size v6 v7 := by rw [← hv7]; exact (Below.refl _ v6).alloc (Nat.le_refl _) _
  have R7_1 := Lib.hid hrb1
  clear hv7 hb1 hrb1
  have R7_0 := Lib.hid ((hb.block _ (Array.getElem?_eq_some_iff.1 R6_0.out).1).trans R6_0.out)
  have HE7 := Lib.hid (HE6.out.below hb)
  have HB7 := Lib.hid (HB6.out.trans (hb.mono HB6.out.size))
  clear hb
  refine (G3.out _ HE7.out).mono ?_
  rintro e v8 ⟨rfl, hb⟩
  have R8_0 := Lib.hid ((hb.block _ (Array.getElem?_eq_some_iff.1 R7_0.out).1).trans R7_0.out)
  have R8_1 := Lib.hid ((hb.block _ (Array.getElem?_eq_some_iff.1 R7_1.out).1).trans R7_1.out)
  have HE8 := Lib.hid (HE7.out.below hb)
  have HB8 := Lib.hid (HB7.out.trans (hb.mono HB7.out.size))
  clear hb
  go_wp2_with fail
  obtain ⟨b2, hb2⟩ : ∃ b, v8.heap.size = b := ⟨_, rfl⟩
  obtain ⟨v9, hv9⟩ : ∃ v, v8.alloc (.cells #[.int .i64 0, .int .i64 0, .string ⟨#[]⟩] 23) = v := ⟨_, rfl⟩
  rw [hv9, hb2]
  have hrb2 : v9.heap[b2]? = some (scO zeroS) := by rw [← hv9, ← hb2]; exact heap_alloc_new v8 _
  have hb : Below v8.heap.size v8 v9 := by rw [← hv9]; exact (Below.refl _ v8).alloc (Nat.le_refl _) _
  have R9_2 := Lib.hid hrb2
  clear hv9 hb2 hrb2
  have R9_0 := Lib.hid ((hb.block _ (Array.getElem?_eq_some_iff.1 R8_0.out).1).trans R8_0.out)
  have R9_1 := Lib.hid ((hb.block _ (Array.getElem?_eq_some_iff.1 R8_1.out).1).trans R8_1.out)
  have HE9 := Lib.hid (HE8.out.below hb)
  have HB9 := Lib.hid (HB8.out.trans (hb.mono HB8.out.size))
  clear hb
  refine (G4.out _ HE9.out).mono ?_
  rintro e v10 ⟨rfl, hb⟩
  have R10_0 := Lib.hid ((hb.block _ (Array.getElem?_eq_some_iff.1 R9_0.out).1).trans R9_0.out)
  have R10_1 := Lib.hid ((hb.block _ (Array.getElem?_eq_some_iff.1 R9_1.out).1).trans R9_1.out)
  have R10_2 := Lib.hid ((hb.block _ (Array.getElem?_eq_some_iff.1 R9_2.out).1).trans R9_2.out)
  have HE10 := Lib.hid (HE9.out.below hb)
  have HB10 := Lib.hid (HB9.out.trans (hb.mono HB9.out.size))
  clear hb
  obtain ⟨c00, c01, c02, f00, f01, f02⟩ := box_cells R10_0.out
  obtain ⟨c20, c21, c22, f20, f21, f22⟩ := box_cells R10_2.out
  simp only [zeroS] at c20 c21 c22
  go_wp2_with fail
  refine (G5.out _ HE10.out).mono ?_
  rintro e v11 ⟨rfl, hb⟩
  clear c00 c01 c02 f00 f01 f02 c20 c21 c22 f20 f21 f22
  have R11_0 := Lib.hid ((hb.block _ (Array.getElem?_eq_some_iff.1 R10_0.out).1).trans R10_0.out)
  have R11_1 := Lib.hid ((hb.block _ (Array.getElem?_eq_some_iff.1 R10_1.out).1).trans R10_1.out)
  have R11_2 := Lib.hid ((hb.block _ (Array.getElem?_eq_some_iff.1 R10_2.out).1).trans R10_2.out)
  have HE11 := Lib.hid (HE10.out.below hb)
  have HB11 := Lib.hid (HB10.out.trans (hb.mono HB10.out.size))
  clear hb
  obtain ⟨c00, c01, c02, f00, f01, f02⟩ := box_cells R11_0.out
  obtain ⟨c20, c21, c22, f20, f21, f22⟩ := box_cells R11_2.out
  simp only [zeroS] at c20 c21 c22
  go_wp2_with fail
  go_ret
  exact ⟨rfl, HB11.out⟩
set_option maxHeartbeats 16000000 in
theorem back_bg (x X Y Z : Sc) (s S T _U : ByteArray) (f _h : Int) (hx : ∀ w, Calls Tryz.prog 12 #[.agg #[.int .i64 x.1, .int .i64 x.2.1, .string x.2.2]] w fun e w' => e = .returned (.agg #[.int .i64 X.1, .int .i64 X.2.1, .string X.2.2]) ∧ Below w.heap.size w w')
    (hs : ∀ w, Calls Tryz.prog 13 #[.string s] w fun e w' => e = .returned (.string S) ∧ Below w.heap.size w w')
    (g1 : ∀ w, Env w → Calls Tryz.prog 14 #[.agg #[.int .i64 X.1, .int .i64 X.2.1, .string X.2.2]] w fun e w' => e = .returned (.tuple #[.string T, .int .i64 60]) ∧ Below w.heap.size w w')
    (g2 : ∀ w, Env w → Calls Tryz.prog 16 #[.string T] w fun e w' => e = .returned (.tuple #[.agg #[.int .i64 Y.1, .int .i64 Y.2.1, .string Y.2.2], .int .i64 f]) ∧ Below w.heap.size w w')
    (g3 : ∀ w, Env w → Calls Tryz.prog 16 #[.string S] w fun e w' => e = .returned (.tuple #[.agg #[.int .i64 Z.1, .int .i64 Z.2.1, .string Z.2.2], .int .i64 0]) ∧ Below w.heap.size w w')
    (g4 : ∀ w, Env w → Calls Tryz.prog 14 #[.agg #[.int .i64 Z.1, .int .i64 Z.2.1, .string Z.2.2]] w fun e w' => e = .returned (.tuple #[.string S, .int .i64 0]) ∧ Below w.heap.size w w')
    (g5 : ∀ w, Env w → Calls Tryz.prog 26 #[.agg #[.int .i64 X.1, .int .i64 X.2.1, .string X.2.2]] w fun e w' => e = .returned (.bool false) ∧ Below w.heap.size w w')
    (g6 : ∀ w, Env w → Calls Tryz.prog 26 #[.agg #[.int .i64 Z.1, .int .i64 Z.2.1, .string Z.2.2]] w fun e w' => e = .returned (.bool true) ∧ Below w.heap.size w w')
    (w : World) (E : Env w) :
    Calls Tryz.prog 5 #[.agg #[.int .i64 x.1, .int .i64 x.2.1, .string x.2.2], .string s] w fun e w' => e = .returned (.bool true) ∧ Below w.heap.size w w' := by
  have qg := guard_sc
  have HEE := Lib.hid E
  have HX := Lib.hid hx
  have HS := Lib.hid hs
  have G1 := Lib.hid g1
  have G2 := Lib.hid g2
  have G3 := Lib.hid g3
  have G4 := Lib.hid g4
  have G5 := Lib.hid g5
  have G6 := Lib.hid g6
  clear g6
  clear hx hs g1 g2 g3 g4 g5
  go_enter Tryz.func5, Tryz.ntmps5
  go_wp2_with fail
  obtain ⟨v0, hv0⟩ : ∃ v, w.alloc (scO x) = v := ⟨_, rfl⟩
  have hb0 : Below w.heap.size w v0 := by rw [← hv0]; exact ((Below.refl _ w).alloc (Nat.le_refl _) _)
  have r0_0 : v0.heap[w.heap.size]? = some (scO x) := by rw [← hv0]; exact (by simpa [World.size_alloc] using box_at1_0 w (scO x))
  have R0_0 := Lib.hid r0_0
  have HE0 := Lib.hid (E.below hb0)
  have HB0 := Lib.hid hb0
  rw [hv0]
  clear hv0 hb0 r0_0 E
  refine (shown_any _ HE0.out).mono ?_
  rintro e v1 ⟨rfl, hb⟩
  have R1_0 := Lib.hid ((hb.block _ (Array.getElem?_eq_some_iff.1 R0_0.out).1).trans R0_0.out)
  have HE1 := Lib.hid (HE0.out.below hb)
  have HB1 := Lib.hid (HB0.out.trans (hb.mono HB0.out.size))
  clear hb
  obtain ⟨c00, c01, c02, f00, f01, f02⟩ := box_cells R1_0.out
  go_wp2_with fail
  refine (HX.out _).mono ?_
  rintro e v2 ⟨rfl, hb⟩
  clear c00 c01 c02 f00 f01 f02
  have R2_0 := Lib.hid ((hb.block _ (Array.getElem?_eq_some_iff.1 R1_0.out).1).trans R1_0.out)
  have HE2 := Lib.hid (HE1.out.below hb)
  have HB2 := Lib.hid (HB1.out.trans (hb.mono HB1.out.size))
  clear hb
  obtain ⟨c00, c01, c02, f00, f01, f02⟩ := box_cells R2_0.out
  go_upto_region 3 with (fail)
  obtain ⟨v3, hv3⟩ : ∃ v, ((v2.setCell ⟨w.heap.size, 0, none⟩ (.int .i64 X.1)).setCell ⟨w.heap.size, 1, none⟩ (.int .i64 X.2.1)).setCell ⟨w.heap.size, 2, none⟩ (.string X.2.2) = v := ⟨_, rfl⟩
  rw [hv3]
  obtain ⟨hr, hg⟩ := box_store R2_0.out X
  rw [hv3] at hr hg
  have hbs : Below w.heap.size v2 v3 := below_of_grown hg (by omega) HB2.out.size
  have R3_0 := Lib.hid hr
  have HE3 := Lib.hid (HEE.out.below (HB2.out.trans hbs))
  have HB3 := Lib.hid (HB2.out.trans hbs)
  clear hv3 hr hg hbs
  clear c00 c01 c02 f00 f01 f02
  go_wp2_with fail
  refine (HS.out _).mono ?_
  rintro e v4 ⟨rfl, hb⟩
  have R4_0 := Lib.hid ((hb.block _ (Array.getElem?_eq_some_iff.1 R3_0.out).1).trans R3_0.out)
  have HE4 := Lib.hid (HE3.out.below hb)
  have HB4 := Lib.hid (HB3.out.trans (hb.mono HB3.out.size))
  clear hb
  obtain ⟨c00, c01, c02, f00, f01, f02⟩ := box_cells R4_0.out
  go_wp2_with fail
  refine (G1.out _ HE4.out).mono ?_
  rintro e v5 ⟨rfl, hb⟩
  clear c00 c01 c02 f00 f01 f02
  have R5_0 := Lib.hid ((hb.block _ (Array.getElem?_eq_some_iff.1 R4_0.out).1).trans R4_0.out)
  have HE5 := Lib.hid (HE4.out.below hb)
  have HB5 := Lib.hid (HB4.out.trans (hb.mono HB4.out.size))
  clear hb
  go_wp2_with fail
  refine (G2.out _ HE5.out).mono ?_
  rintro e v6 ⟨rfl, hb⟩
  have R6_0 := Lib.hid ((hb.block _ (Array.getElem?_eq_some_iff.1 R5_0.out).1).trans R5_0.out)
  have HE6 := Lib.hid (HE5.out.below hb)
  have HB6 := Lib.hid (HB5.out.trans (hb.mono HB5.out.size))
  clear hb
  obtain ⟨c00, c01, c02, f00, f01, f02⟩ := box_cells R6_0.out
  have hlt : w.heap.size < v6.heap.size := (Array.getElem?_eq_some_iff.1 R6_0.out).1
  go_wp2_with fail
  clear hlt
  clear c00 c01 c02 f00 f01 f02
  obtain ⟨b1, hb1⟩ : ∃ b, v6.heap.size = b := ⟨_, rfl⟩
  obtain ⟨v7, hv7⟩ : ∃ v, v6.alloc (scO Y) = v := ⟨_, rfl⟩
  rw [hv7, hb1]
  have hrb1 : v7.heap[b1]? = some (scO Y) := by rw [← hv7, ← hb1]; exact heap_alloc_new v6 _
  have hb : Below v6.heap.size v6 v7 := by rw [← hv7]; exact (Below.refl _ v6).alloc (Nat.le_refl _) _
  have R7_1 := Lib.hid hrb1
  clear hv7 hb1 hrb1
  have R7_0 := Lib.hid ((hb.block _ (Array.getElem?_eq_some_iff.1 R6_0.out).1).trans R6_0.out)
  have HE7 := Lib.hid (HE6.out.below hb)
  have HB7 := Lib.hid (HB6.out.trans (hb.mono HB6.out.size))
  clear hb
  refine (G3.out _ HE7.out).mono ?_
  rintro e v8 ⟨rfl, hb⟩
  have R8_0 := Lib.hid ((hb.block _ (Array.getElem?_eq_some_iff.1 R7_0.out).1).trans R7_0.out)
  have R8_1 := Lib.hid ((hb.block _ (Array.getElem?_eq_some_iff.1 R7_1.out).1).trans R7_1.out)
  have HE8 := Lib.hid (HE7.out.below hb)
  have HB8 := Lib.hid (HB7.out.trans (hb.mono HB7.out.size))
  clear hb
  go_wp2_with fail
  obtain ⟨b2, hb2⟩ : ∃ b, v8.heap.size = b := ⟨_, rfl⟩
  obtain ⟨v9, hv9⟩ : ∃ v, v8.alloc (scO Z) = v := ⟨_, rfl⟩
  rw [hv9, hb2]
  have hrb2 : v9.heap[b2]? = some (scO Z) := by rw [← hv9, ← hb2]; exact heap_alloc_new v8 _
  have hb : Below v8.heap.size v8 v9 := by rw [← hv9]; exact (Below.refl _ v8).alloc (Nat.le_refl _) _
  have R9_2 := Lib.hid hrb2
  clear hv9 hb2 hrb2
  have R9_0 := Lib.hid ((hb.block _ (Array.getElem?_eq_some_iff.1 R8_0.out).1).trans R8_0.out)
  have R9_1 := Lib.hid ((hb.block _ (Array.getElem?_eq_some_iff.1 R8_1.out).1).trans R8_1.out)
  have HE9 := Lib.hid (HE8.out.below hb)
  have HB9 := Lib.hid (HB8.out.trans (hb.mono HB8.out.size))
  clear hb
  refine (G4.out _ HE9.out).mono ?_
  rintro e v10 ⟨rfl, hb⟩
  have R10_0 := Lib.hid ((hb.block _ (Array.getElem?_eq_some_iff.1 R9_0.out).1).trans R9_0.out)
  have R10_1 := Lib.hid ((hb.block _ (Array.getElem?_eq_some_iff.1 R9_1.out).1).trans R9_1.out)
  have R10_2 := Lib.hid ((hb.block _ (Array.getElem?_eq_some_iff.1 R9_2.out).1).trans R9_2.out)
  have HE10 := Lib.hid (HE9.out.below hb)
  have HB10 := Lib.hid (HB9.out.trans (hb.mono HB9.out.size))
  clear hb
  obtain ⟨c00, c01, c02, f00, f01, f02⟩ := box_cells R10_0.out
  obtain ⟨c20, c21, c22, f20, f21, f22⟩ := box_cells R10_2.out
  go_wp2_with fail
  refine (G5.out _ HE10.out).mono ?_
  rintro e v11 ⟨rfl, hb⟩
  clear c00 c01 c02 f00 f01 f02 c20 c21 c22 f20 f21 f22
  have R11_0 := Lib.hid ((hb.block _ (Array.getElem?_eq_some_iff.1 R10_0.out).1).trans R10_0.out)
  have R11_1 := Lib.hid ((hb.block _ (Array.getElem?_eq_some_iff.1 R10_1.out).1).trans R10_1.out)
  have R11_2 := Lib.hid ((hb.block _ (Array.getElem?_eq_some_iff.1 R10_2.out).1).trans R10_2.out)
  have HE11 := Lib.hid (HE10.out.below hb)
  have HB11 := Lib.hid (HB10.out.trans (hb.mono HB10.out.size))
  clear hb
  obtain ⟨c00, c01, c02, f00, f01, f02⟩ := box_cells R11_0.out
  obtain ⟨c20, c21, c22, f20, f21, f22⟩ := box_cells R11_2.out
  go_wp2_with fail
  refine (G6.out _ HE11.out).mono ?_
  rintro e v12 ⟨rfl, hb⟩
  clear c00 c01 c02 f00 f01 f02 c20 c21 c22 f20 f21 f22
  have R12_0 := Lib.hid ((hb.block _ (Array.getElem?_eq_some_iff.1 R11_0.out).1).trans R11_0.out)
  have R12_1 := Lib.hid ((hb.block _ (Array.getElem?_eq_some_iff.1 R11_1.out).1).trans R11_1.out)
  have R12_2 := Lib.hid ((hb.block _ (Array.getElem?_eq_some_iff.1 R11_2.out).1).trans R11_2.out)
  have HE12 := Lib.hid (HE11.out.below hb)
  have HB12 := Lib.hid (HB11.out.trans (hb.mono HB11.out.size))
  clear hb
  go_wp2_with fail
  go_ret
  exact ⟨rfl, HB12.out⟩
set_option maxHeartbeats 16000000 in
theorem back_bb (x X Y _Z : Sc) (s S T U : ByteArray) (f h : Int) (hx : ∀ w, Calls Tryz.prog 12 #[.agg #[.int .i64 x.1, .int .i64 x.2.1, .string x.2.2]] w fun e w' => e = .returned (.agg #[.int .i64 X.1, .int .i64 X.2.1, .string X.2.2]) ∧ Below w.heap.size w w')
    (hs : ∀ w, Calls Tryz.prog 13 #[.string s] w fun e w' => e = .returned (.string S) ∧ Below w.heap.size w w')
    (g1 : ∀ w, Env w → Calls Tryz.prog 14 #[.agg #[.int .i64 X.1, .int .i64 X.2.1, .string X.2.2]] w fun e w' => e = .returned (.tuple #[.string T, .int .i64 60]) ∧ Below w.heap.size w w')
    (g2 : ∀ w, Env w → Calls Tryz.prog 16 #[.string T] w fun e w' => e = .returned (.tuple #[.agg #[.int .i64 Y.1, .int .i64 Y.2.1, .string Y.2.2], .int .i64 f]) ∧ Below w.heap.size w w')
    (g3 : ∀ w, Env w → Calls Tryz.prog 16 #[.string S] w fun e w' => e = .returned (.tuple #[.agg #[.int .i64 0, .int .i64 0, .string ⟨#[]⟩], .int .i64 60]) ∧ Below w.heap.size w w')
    (g4 : ∀ w, Env w → Calls Tryz.prog 14 #[.agg #[.int .i64 0, .int .i64 0, .string ⟨#[]⟩]] w fun e w' => e = .returned (.tuple #[.string U, .int .i64 h]) ∧ Below w.heap.size w w')
    (g5 : ∀ w, Env w → Calls Tryz.prog 26 #[.agg #[.int .i64 X.1, .int .i64 X.2.1, .string X.2.2]] w fun e w' => e = .returned (.bool false) ∧ Below w.heap.size w w')
    (q2 : ∀ w, (Op.equalIn 10000 23 (.agg #[.int .i64 0, .int .i64 0, .string ⟨#[]⟩]) (.agg #[.int .i64 0, .int .i64 0, .string ⟨#[]⟩])).run Tryz.prog w = .ok true w)
    (w : World) (E : Env w) :
    Calls Tryz.prog 5 #[.agg #[.int .i64 x.1, .int .i64 x.2.1, .string x.2.2], .string s] w fun e w' => e = .returned (.bool true) ∧ Below w.heap.size w w' := by
  have qg := guard_sc
  have HEE := Lib.hid E
  have HX := Lib.hid hx
  have HS := Lib.hid hs
  have G1 := Lib.hid g1
  have G2 := Lib.hid g2
  have G3 := Lib.hid g3
  have G4 := Lib.hid g4
  have G5 := Lib.hid g5
  clear hx hs g1 g2 g3 g4 g5
  go_enter Tryz.func5, Tryz.ntmps5
  go_wp2_with fail
  obtain ⟨v0, hv0⟩ : ∃ v, w.alloc (scO x) = v := ⟨_, rfl⟩
  have hb0 : Below w.heap.size w v0 := by rw [← hv0]; exact ((Below.refl _ w).alloc (Nat.le_refl _) _)
  have r0_0 : v0.heap[w.heap.size]? = some (scO x) := by rw [← hv0]; exact (by simpa [World.size_alloc] using box_at1_0 w (scO x))
  have R0_0 := Lib.hid r0_0
  have HE0 := Lib.hid (E.below hb0)
  have HB0 := Lib.hid hb0
  rw [hv0]
  clear hv0 hb0 r0_0 E
  refine (shown_any _ HE0.out).mono ?_
  rintro e v1 ⟨rfl, hb⟩
  have R1_0 := Lib.hid ((hb.block _ (Array.getElem?_eq_some_iff.1 R0_0.out).1).trans R0_0.out)
  have HE1 := Lib.hid (HE0.out.below hb)
  have HB1 := Lib.hid (HB0.out.trans (hb.mono HB0.out.size))
  clear hb
  obtain ⟨c00, c01, c02, f00, f01, f02⟩ := box_cells R1_0.out
  go_wp2_with fail
  refine (HX.out _).mono ?_
  rintro e v2 ⟨rfl, hb⟩
  clear c00 c01 c02 f00 f01 f02
  have R2_0 := Lib.hid ((hb.block _ (Array.getElem?_eq_some_iff.1 R1_0.out).1).trans R1_0.out)
  have HE2 := Lib.hid (HE1.out.below hb)
  have HB2 := Lib.hid (HB1.out.trans (hb.mono HB1.out.size))
  clear hb
  obtain ⟨c00, c01, c02, f00, f01, f02⟩ := box_cells R2_0.out
  go_upto_region 3 with (fail)
  obtain ⟨v3, hv3⟩ : ∃ v, ((v2.setCell ⟨w.heap.size, 0, none⟩ (.int .i64 X.1)).setCell ⟨w.heap.size, 1, none⟩ (.int .i64 X.2.1)).setCell ⟨w.heap.size, 2, none⟩ (.string X.2.2) = v := ⟨_, rfl⟩
  rw [hv3]
  obtain ⟨hr, hg⟩ := box_store R2_0.out X
  rw [hv3] at hr hg
  have hbs : Below w.heap.size v2 v3 := below_of_grown hg (by omega) HB2.out.size
  have R3_0 := Lib.hid hr
  have HE3 := Lib.hid (HEE.out.below (HB2.out.trans hbs))
  have HB3 := Lib.hid (HB2.out.trans hbs)
  clear hv3 hr hg hbs
  clear c00 c01 c02 f00 f01 f02
  go_wp2_with fail
  refine (HS.out _).mono ?_
  rintro e v4 ⟨rfl, hb⟩
  have R4_0 := Lib.hid ((hb.block _ (Array.getElem?_eq_some_iff.1 R3_0.out).1).trans R3_0.out)
  have HE4 := Lib.hid (HE3.out.below hb)
  have HB4 := Lib.hid (HB3.out.trans (hb.mono HB3.out.size))
  clear hb
  obtain ⟨c00, c01, c02, f00, f01, f02⟩ := box_cells R4_0.out
  go_wp2_with fail
  refine (G1.out _ HE4.out).mono ?_
  rintro e v5 ⟨rfl, hb⟩
  clear c00 c01 c02 f00 f01 f02
  have R5_0 := Lib.hid ((hb.block _ (Array.getElem?_eq_some_iff.1 R4_0.out).1).trans R4_0.out)
  have HE5 := Lib.hid (HE4.out.below hb)
  have HB5 := Lib.hid (HB4.out.trans (hb.mono HB4.out.size))
  clear hb
  go_wp2_with fail
  refine (G2.out _ HE5.out).mono ?_
  rintro e v6 ⟨rfl, hb⟩
  have R6_0 := Lib.hid ((hb.block _ (Array.getElem?_eq_some_iff.1 R5_0.out).1).trans R5_0.out)
  have HE6 := Lib.hid (HE5.out.below hb)
  have HB6 := Lib.hid (HB5.out.trans (hb.mono HB5.out.size))
  clear hb
  obtain ⟨c00, c01, c02, f00, f01, f02⟩ := box_cells R6_0.out
  have hlt : w.heap.size < v6.heap.size := (Array.getElem?_eq_some_iff.1 R6_0.out).1
  go_wp2_with fail
  clear hlt
  clear c00 c01 c02 f00 f01 f02
  obtain ⟨b1, hb1⟩ : ∃ b, v6.heap.size = b := ⟨_, rfl⟩
  obtain ⟨v7, hv7⟩ : ∃ v, v6.alloc (scO Y) = v := ⟨_, rfl⟩
  rw [hv7, hb1]
  have hrb1 : v7.heap[b1]? = some (scO Y) := by rw [← hv7, ← hb1]; exact heap_alloc_new v6 _
  have hb : Below v6.heap.size v6 v7 := by rw [← hv7]; exact (Below.refl _ v6).alloc (Nat.le_refl _) _
  have R7_1 := Lib.hid hrb1
  clear hv7 hb1 hrb1
  have R7_0 := Lib.hid ((hb.block _ (Array.getElem?_eq_some_iff.1 R6_0.out).1).trans R6_0.out)
  have HE7 := Lib.hid (HE6.out.below hb)
  have HB7 := Lib.hid (HB6.out.trans (hb.mono HB6.out.size))
  clear hb
  refine (G3.out _ HE7.out).mono ?_
  rintro e v8 ⟨rfl, hb⟩
  have R8_0 := Lib.hid ((hb.block _ (Array.getElem?_eq_some_iff.1 R7_0.out).1).trans R7_0.out)
  have R8_1 := Lib.hid ((hb.block _ (Array.getElem?_eq_some_iff.1 R7_1.out).1).trans R7_1.out)
  have HE8 := Lib.hid (HE7.out.below hb)
  have HB8 := Lib.hid (HB7.out.trans (hb.mono HB7.out.size))
  clear hb
  go_wp2_with fail
  obtain ⟨b2, hb2⟩ : ∃ b, v8.heap.size = b := ⟨_, rfl⟩
  obtain ⟨v9, hv9⟩ : ∃ v, v8.alloc (.cells #[.int .i64 0, .int .i64 0, .string ⟨#[]⟩] 23) = v := ⟨_, rfl⟩
  rw [hv9, hb2]
  have hrb2 : v9.heap[b2]? = some (scO zeroS) := by rw [← hv9, ← hb2]; exact heap_alloc_new v8 _
  have hb : Below v8.heap.size v8 v9 := by rw [← hv9]; exact (Below.refl _ v8).alloc (Nat.le_refl _) _
  have R9_2 := Lib.hid hrb2
  clear hv9 hb2 hrb2
  have R9_0 := Lib.hid ((hb.block _ (Array.getElem?_eq_some_iff.1 R8_0.out).1).trans R8_0.out)
  have R9_1 := Lib.hid ((hb.block _ (Array.getElem?_eq_some_iff.1 R8_1.out).1).trans R8_1.out)
  have HE9 := Lib.hid (HE8.out.below hb)
  have HB9 := Lib.hid (HB8.out.trans (hb.mono HB8.out.size))
  clear hb
  refine (G4.out _ HE9.out).mono ?_
  rintro e v10 ⟨rfl, hb⟩
  have R10_0 := Lib.hid ((hb.block _ (Array.getElem?_eq_some_iff.1 R9_0.out).1).trans R9_0.out)
  have R10_1 := Lib.hid ((hb.block _ (Array.getElem?_eq_some_iff.1 R9_1.out).1).trans R9_1.out)
  have R10_2 := Lib.hid ((hb.block _ (Array.getElem?_eq_some_iff.1 R9_2.out).1).trans R9_2.out)
  have HE10 := Lib.hid (HE9.out.below hb)
  have HB10 := Lib.hid (HB9.out.trans (hb.mono HB9.out.size))
  clear hb
  obtain ⟨c00, c01, c02, f00, f01, f02⟩ := box_cells R10_0.out
  obtain ⟨c20, c21, c22, f20, f21, f22⟩ := box_cells R10_2.out
  simp only [zeroS] at c20 c21 c22
  go_wp2_with fail
  refine (G5.out _ HE10.out).mono ?_
  rintro e v11 ⟨rfl, hb⟩
  clear c00 c01 c02 f00 f01 f02 c20 c21 c22 f20 f21 f22
  have R11_0 := Lib.hid ((hb.block _ (Array.getElem?_eq_some_iff.1 R10_0.out).1).trans R10_0.out)
  have R11_1 := Lib.hid ((hb.block _ (Array.getElem?_eq_some_iff.1 R10_1.out).1).trans R10_1.out)
  have R11_2 := Lib.hid ((hb.block _ (Array.getElem?_eq_some_iff.1 R10_2.out).1).trans R10_2.out)
  have HE11 := Lib.hid (HE10.out.below hb)
  have HB11 := Lib.hid (HB10.out.trans (hb.mono HB10.out.size))
  clear hb
  obtain ⟨c00, c01, c02, f00, f01, f02⟩ := box_cells R11_0.out
  obtain ⟨c20, c21, c22, f20, f21, f22⟩ := box_cells R11_2.out
  simp only [zeroS] at c20 c21 c22
  go_wp2_with fail
  go_ret
  exact ⟨rfl, HB11.out⟩
theorem text_size6 {X : Sc} (h : rightS X = true) (hs : X.2.2.size ≤ 100) : (ofL (textL X)).size ≤ 402 := by
  have := text_len h hs
  show (textL X).toArray.size ≤ 402
  rw [List.size_toArray]
  exact this
theorem ofL_eq {S : ByteArray} {l : List UInt8} (h : l = S.data.toList) : ofL l = S := by
  subst h
  exact ba_ext (by rw [ofL_list])
theorem read_size {S : ByteArray} {Z : Sc} (h : readS S = (Z, 0)) : Z.2.2.size ≤ S.size := by
  unfold readS at h
  cases hs : saidS S with
  | none => rw [hs] at h; simp at h
  | some y =>
    rw [hs] at h
    simp only at h
    split at h
    · cases h; exact said_size hs
    · cases h
theorem walkScalBack (k0 n0 : Int) (s0 s : ByteArray) (w : World) (E : Env w) :
    Calls Tryz.prog 5 #[.agg #[.int .i64 k0, .int .i64 n0, .string s0], .string s] w fun e w' => e = .returned (.bool true) ∧ Below w.heap.size w w' := by
  have zx : (cutS (k0, n0, s0)).2.2.size ≤ 100 := cutT_size s0
  obtain ⟨X, hX⟩ : ∃ X, cutS (k0, n0, s0) = X := ⟨_, rfl⟩
  have hx := fun w => Cut_any (k0, n0, s0) w
  rw [hX] at hx zx
  have zs : (cutT s).size ≤ 100 := cutT_size s
  have hs : ∀ w, Calls Tryz.prog 13 #[.string s] w fun e w' => e = .returned (.string (cutT s)) ∧ Below w.heap.size w w' := fun w => (cut_any s w).mono fun e w' hh => ⟨hh.1, by rw [← hh.2]; exact Below.refl _ _⟩
  obtain ⟨S, hS⟩ : ∃ S, cutT s = S := ⟨_, rfl⟩
  rw [hS] at hs zs
  have g1 := fun w E => Text_any X (by omega) w E
  unfold textT textE at g1
  have g3 := fun w E => SRead_any S (by omega) w E
  have g5 := fun w E => Right_any X.1 X.2.1 X.2.2 (by omega) w E
  have hr5 : rightR X.1 X.2.1 X.2.2.data.toList = rightS X := rfl
  rw [hr5] at g5
  have q1 := fun w => equal_sc X.1 X.2.1 X.2.2 X.1 X.2.1 X.2.2 w
  rw [sameB_iff, decide_eq_true (show ((X.1, X.2.1, X.2.2) : Sc) = (X.1, X.2.1, X.2.2) from rfl)] at q1
  have q2 := fun w => equal_sc 0 0 ⟨#[]⟩ 0 0 ⟨#[]⟩ w
  rw [sameB_iff, decide_eq_true (show ((0, 0, ⟨#[]⟩) : Sc) = (0, 0, ⟨#[]⟩) from rfl)] at q2
  have good : ∀ Z : Sc, readS S = (Z, 0) → rightS Z = true ∧ (∀ w, Env w → Calls Tryz.prog 14 #[aggS Z] w fun e w' => e = .returned (.tuple #[.string S, .int .i64 0]) ∧ Below w.heap.size w w') ∧ (∀ w, Env w → Calls Tryz.prog 26 #[.agg #[.int .i64 Z.1, .int .i64 Z.2.1, .string Z.2.2]] w fun e w' => e = .returned (.bool true) ∧ Below w.heap.size w w') := fun Z hZ => by
    obtain ⟨h1, h2⟩ := read_ok hZ
    have hz := read_size hZ
    refine ⟨h1, fun w E => ?_, fun w E => ?_⟩
    · have := Text_any Z (by omega) w E
      unfold textT textE at this
      rw [h1, if_pos rfl, if_pos rfl, ofL_eq h2] at this
      exact this
    · have := Right_any Z.1 Z.2.1 Z.2.2 (by omega) w E
      rw [show rightR Z.1 Z.2.1 Z.2.2.data.toList = rightS Z from rfl, h1] at this
      exact this
  have bad : ∀ w, Env w → Calls Tryz.prog 14 #[aggS zeroS] w fun e w' => e = .returned (.tuple #[.string (textT zeroS), .int .i64 (textE zeroS)]) ∧ Below w.heap.size w w' := fun w E => Text_any zeroS (by decide) w E
  unfold aggS at hx g1 g3 good bad
  cases h1 : rightS X
  · rw [h1, if_neg (by decide), if_neg (by decide)] at g1
    rw [h1] at g5
    have g2 := fun w E => SRead_any ⟨#[]⟩ (by decide) w E
    unfold aggS at g2
    by_cases hg : (readS S).2 = 0
    · obtain ⟨Z, hZ⟩ : ∃ Z, readS S = (Z, 0) := ⟨(readS S).1, Prod.ext rfl hg⟩
      rw [hZ] at g3
      obtain ⟨_, g4, g6⟩ := good Z hZ
      exact back_bg (k0, n0, s0) X _ Z s S _ ⟨#[]⟩ _ 0 hx hs g1 g2 g3 g4 g5 g6 w E
    · rw [read_no hg] at g3
      exact back_bb (k0, n0, s0) X _ zeroS s S _ _ _ _ hx hs g1 g2 g3 bad g5 q2 w E
  · rw [h1, if_pos rfl, if_pos rfl] at g1
    rw [h1] at g5
    have hz := text_size6 h1 zx
    have g2 := fun w E => SRead_any (ofL (textL X)) (by omega) w E
    rw [read_text h1] at g2
    unfold aggS at g2
    by_cases hg : (readS S).2 = 0
    · obtain ⟨Z, hZ⟩ : ∃ Z, readS S = (Z, 0) := ⟨(readS S).1, Prod.ext rfl hg⟩
      rw [hZ] at g3
      obtain ⟨_, g4, g6⟩ := good Z hZ
      exact back_gg (k0, n0, s0) X X Z s S _ ⟨#[]⟩ 0 0 hx hs g1 g2 g3 g4 g5 g6 q1 w E
    · rw [read_no hg] at g3
      exact back_gb (k0, n0, s0) X X zeroS s S _ _ 0 _ hx hs g1 g2 g3 bad g5 q1 q2 w E
end Go.Proofs.YtkliecngkcjieaaGreatDoor
