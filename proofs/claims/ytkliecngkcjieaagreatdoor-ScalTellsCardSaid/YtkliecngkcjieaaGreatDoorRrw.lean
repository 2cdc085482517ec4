/- A text's scalar, told by the reference: the walks. Conditions: the contracts of what is called. A text's scalar, told by the reference, is as the document tells it. Conditions: the library's tables lie as they are laid; the text is not too long. -/
import Derived.Test.YtkliecngkcjieaaGreatDoorRqr
import Derived.Test.YtkliecngkcjieaaGreatDoorBox
import Derived.Test.YtkliecngkcjieaaGreatDoorRdt
set_option maxRecDepth 100000
namespace Go.Proofs.YtkliecngkcjieaaGreatDoor
open Go.ChangeShapes Go.WideShapes Go.ChangeAt Go.RowKit Go.Shelf
open Go.ChangeMaps (open_string shut_string)
open Pl Quo Scs
set_option maxHeartbeats 8000000 in
theorem r17_good_q (s : ByteArray) (Y : Sc) (e0 N er f : Int) (U T : ByteArray) (g1 : ∀ w, Env w → Calls Tryz.prog 34 #[.string s] w fun e w' => e = .returned (.tuple #[.agg #[.int .i64 Y.1, .int .i64 Y.2.1, .string Y.2.2], .int .i64 e0]) ∧ Below w.heap.size w w')
    (g2 : ∀ w, Calls Tryz.prog 35 #[.string s, .int .i64 0] w fun e w' => e = .returned (.tuple #[.string U, .int .i64 N, .int .i64 er]) ∧ Below w.heap.size w w')
    (g3 : ∀ w, Env w → Calls Tryz.prog 15 #[.agg #[.int .i64 3, .int .i64 0, .string U]] w fun e w' => e = .returned (.tuple #[.string T, .int .i64 f]) ∧ Below w.heap.size w w')
    (hne : s.toList.isEmpty = false) (_hne2 : (!s.toList.isEmpty) = true) (hz : 0 < s.size) (_hz0 : ¬ s.size = 0) (hb0 : s[0]'hz = 34) (x34 : (34 : UInt8).toNat = 34) (he : er = 0) (hf : f = 0) (hT : (T.toList == s.toList) = true) (_hT2 : (!(T.toList == s.toList)) = false) (w : World) (E : Env w) :
    Calls Tryz.prog 17 #[.string s] w fun e w' => e = .returned (.tuple #[.agg #[.int .i64 3, .int .i64 0, .string U], .int .i64 0]) ∧ Below w.heap.size w w' := by
  subst he hf
  have HEE := Lib.hid E
  have G1 := Lib.hid g1
  have G3 := Lib.hid g3
  have G2 := Lib.hid g2
  clear g2
  clear g1 g3
  go_enter Tryz.func17, Tryz.ntmps17
  go_wp2_with fail
  obtain ⟨v0, hv0⟩ : ∃ v, w.alloc (.cells #[.int .i64 0, .int .i64 0, .string ⟨#[]⟩] 23) = v := ⟨_, rfl⟩
  have hb0 : Below w.heap.size w v0 := by rw [← hv0]; exact (Below.refl _ w).alloc (Nat.le_refl _) _
  have r0_0 : v0.heap[w.heap.size]? = some (scO (0, 0, ⟨#[]⟩)) := by rw [← hv0]; exact heap_alloc_new w _
  have R0_0 := Lib.hid r0_0
  have HE0 := Lib.hid (E.below hb0)
  have HB0 := Lib.hid hb0
  rw [hv0]
  clear hv0 hb0 r0_0 E
  refine (G1.out _ HE0.out).mono ?_
  rintro e v1 ⟨rfl, hb⟩
  have R1_0 := Lib.hid ((hb.block _ (Array.getElem?_eq_some_iff.1 R0_0.out).1).trans R0_0.out)
  have HE1 := Lib.hid (HE0.out.below hb)
  have HB1 := Lib.hid (HB0.out.trans (hb.mono HB0.out.size))
  clear hb
  go_wp2_with fail
  obtain ⟨b1, hb1⟩ : ∃ b, v1.heap.size = b := ⟨_, rfl⟩
  obtain ⟨v2, hv2⟩ : ∃ v, v1.alloc (scO Y) = v := ⟨_, rfl⟩
  rw [hv2, hb1]
  have hltb1 : w.heap.size < b1 := by rw [← hb1]; exact (Array.getElem?_eq_some_iff.1 R1_0.out).1
  have hrb1 : v2.heap[b1]? = some (scO Y) := by rw [← hv2, ← hb1]; exact heap_alloc_new v1 _
  have hb : Below v1.heap.size v1 v2 := by rw [← hv2]; exact (Below.refl _ v1).alloc (Nat.le_refl _) _
  have R2_1 := Lib.hid hrb1
  clear hv2 hb1 hrb1
  have R2_0 := Lib.hid ((hb.block _ (Array.getElem?_eq_some_iff.1 R1_0.out).1).trans R1_0.out)
  have HE2 := Lib.hid (HE1.out.below hb)
  have HB2 := Lib.hid (HB1.out.trans (hb.mono HB1.out.size))
  clear hb
  refine (G2.out _).mono ?_
  rintro e v3 ⟨rfl, hb⟩
  have R3_0 := Lib.hid ((hb.block _ (Array.getElem?_eq_some_iff.1 R2_0.out).1).trans R2_0.out)
  have R3_1 := Lib.hid ((hb.block _ (Array.getElem?_eq_some_iff.1 R2_1.out).1).trans R2_1.out)
  have HE3 := Lib.hid (HE2.out.below hb)
  have HB3 := Lib.hid (HB2.out.trans (hb.mono HB2.out.size))
  clear hb
  obtain ⟨c10, c11, c12, f10, f11, f12⟩ := box_cells R3_1.out
  go_upto_region 5 with (fail)
  obtain ⟨v4, hv4⟩ : ∃ v, ((v3.setCell ⟨b1, 0, none⟩ (.int .i64 3)).setCell ⟨b1, 1, none⟩ (.int .i64 0)).setCell ⟨b1, 2, none⟩ (.string U) = v := ⟨_, rfl⟩
  rw [hv4]
  obtain ⟨hr, hg⟩ := box_store R3_1.out (3, 0, U)
  rw [hv4] at hr hg
  have hbs : Below w.heap.size v3 v4 := below_of_grown hg (by omega) HB3.out.size
  have R4_0 := Lib.hid ((hg.block _ (Array.getElem?_eq_some_iff.1 R3_0.out).1 (by simp; try omega)).trans R3_0.out)
  have R4_1 := Lib.hid hr
  have HE4 := Lib.hid (HEE.out.below (HB3.out.trans hbs))
  have HB4 := Lib.hid (HB3.out.trans hbs)
  clear hv4 hr hg hbs
  clear c10 c11 c12 f10 f11 f12
  obtain ⟨c10, c11, c12, f10, f11, f12⟩ := box_cells R4_1.out
  simp only at c10 c11 c12
  go_wp2_with fail
  refine (G3.out _ HE4.out).mono ?_
  rintro e v5 ⟨rfl, hb⟩
  clear c10 c11 c12 f10 f11 f12
  have R5_0 := Lib.hid ((hb.block _ (Array.getElem?_eq_some_iff.1 R4_0.out).1).trans R4_0.out)
  have R5_1 := Lib.hid ((hb.block _ (Array.getElem?_eq_some_iff.1 R4_1.out).1).trans R4_1.out)
  have HE5 := Lib.hid (HE4.out.below hb)
  have HB5 := Lib.hid (HB4.out.trans (hb.mono HB4.out.size))
  clear hb
  obtain ⟨c00, c01, c02, f00, f01, f02⟩ := box_cells R5_0.out
  obtain ⟨c10, c11, c12, f10, f11, f12⟩ := box_cells R5_1.out
  try simp only at c00 c01 c02
  simp only at c10 c11 c12
  go_wp2_with fail
  obtain ⟨v6, hv6⟩ : ∃ v, ((v5.setCell ⟨w.heap.size, 0, none⟩ (.int .i64 3)).setCell ⟨w.heap.size, 1, none⟩ (.int .i64 0)).setCell ⟨w.heap.size, 2, none⟩ (.string U) = v := ⟨_, rfl⟩
  rw [hv6]
  obtain ⟨hr, hg⟩ := box_store R5_0.out (3, 0, U)
  rw [hv6] at hr hg
  have hbs : Below w.heap.size v5 v6 := below_of_grown hg (by omega) HB5.out.size
  have r0 : v6.cell? ⟨w.heap.size, 0, none⟩ = some (.int .i64 3) := cell_of_row _ _ 0 _ _ _ hr
  have r1 : v6.cell? ⟨w.heap.size, 1, none⟩ = some (.int .i64 0) := cell_of_row _ _ 1 _ _ _ hr
  have r2 : v6.cell? ⟨w.heap.size, 2, none⟩ = some (.string U) := cell_of_row _ _ 2 _ _ _ hr
  exact bodyPost_ret (v := .tuple #[.agg #[.int .i64 3, .int .i64 0, .string U], .int .i64 0]) (by simp [results, Tryz.results17, go_sem, r0, r1, r2]) rfl ⟨rfl, HB5.out.trans hbs⟩
set_option maxHeartbeats 8000000 in
theorem r17_bad1_q (s : ByteArray) (Y : Sc) (e0 N er f : Int) (U T : ByteArray) (g1 : ∀ w, Env w → Calls Tryz.prog 34 #[.string s] w fun e w' => e = .returned (.tuple #[.agg #[.int .i64 Y.1, .int .i64 Y.2.1, .string Y.2.2], .int .i64 e0]) ∧ Below w.heap.size w w')
    (g2 : ∀ w, Calls Tryz.prog 35 #[.string s, .int .i64 0] w fun e w' => e = .returned (.tuple #[.string U, .int .i64 N, .int .i64 er]) ∧ Below w.heap.size w w')
    (g3 : ∀ w, Env w → Calls Tryz.prog 15 #[.agg #[.int .i64 3, .int .i64 0, .string U]] w fun e w' => e = .returned (.tuple #[.string T, .int .i64 f]) ∧ Below w.heap.size w w')
    (hne : s.toList.isEmpty = false) (_hne2 : (!s.toList.isEmpty) = true) (hz : 0 < s.size) (_hz0 : ¬ s.size = 0) (hb0 : s[0]'hz = 34) (x34 : (34 : UInt8).toNat = 34) (he : (er != 0) = true) (w : World) (E : Env w) :
    Calls Tryz.prog 17 #[.string s] w fun e w' => e = .returned (.tuple #[.agg #[.int .i64 0, .int .i64 0, .string ⟨#[]⟩], .int .i64 60]) ∧ Below w.heap.size w w' := by
  have HEE := Lib.hid E
  have G1 := Lib.hid g1
  have G3 := Lib.hid g3
  have G2 := Lib.hid g2
  clear g2
  clear g1 g3
  go_enter Tryz.func17, Tryz.ntmps17
  go_wp2_with fail
  obtain ⟨v0, hv0⟩ : ∃ v, w.alloc (.cells #[.int .i64 0, .int .i64 0, .string ⟨#[]⟩] 23) = v := ⟨_, rfl⟩
  have hb0 : Below w.heap.size w v0 := by rw [← hv0]; exact (Below.refl _ w).alloc (Nat.le_refl _) _
  have r0_0 : v0.heap[w.heap.size]? = some (scO (0, 0, ⟨#[]⟩)) := by rw [← hv0]; exact heap_alloc_new w _
  have R0_0 := Lib.hid r0_0
  have HE0 := Lib.hid (E.below hb0)
  have HB0 := Lib.hid hb0
  rw [hv0]
  clear hv0 hb0 r0_0 E
  refine (G1.out _ HE0.out).mono ?_
  rintro e v1 ⟨rfl, hb⟩
  have R1_0 := Lib.hid ((hb.block _ (Array.getElem?_eq_some_iff.1 R0_0.out).1).trans R0_0.out)
  have HE1 := Lib.hid (HE0.out.below hb)
  have HB1 := Lib.hid (HB0.out.trans (hb.mono HB0.out.size))
  clear hb
  go_wp2_with fail
  obtain ⟨b1, hb1⟩ : ∃ b, v1.heap.size = b := ⟨_, rfl⟩
  obtain ⟨v2, hv2⟩ : ∃ v, v1.alloc (scO Y) = v := ⟨_, rfl⟩
  rw [hv2, hb1]
  have hltb1 : w.heap.size < b1 := by rw [← hb1]; exact (Array.getElem?_eq_some_iff.1 R1_0.out).1
  have hrb1 : v2.heap[b1]? = some (scO Y) := by rw [← hv2, ← hb1]; exact heap_alloc_new v1 _
  have hb : Below v1.heap.size v1 v2 := by rw [← hv2]; exact (Below.refl _ v1).alloc (Nat.le_refl _) _
  have R2_1 := Lib.hid hrb1
  clear hv2 hb1 hrb1
  have R2_0 := Lib.hid ((hb.block _ (Array.getElem?_eq_some_iff.1 R1_0.out).1).trans R1_0.out)
  have HE2 := Lib.hid (HE1.out.below hb)
  have HB2 := Lib.hid (HB1.out.trans (hb.mono HB1.out.size))
  clear hb
  refine (G2.out _).mono ?_
  rintro e v3 ⟨rfl, hb⟩
  have R3_0 := Lib.hid ((hb.block _ (Array.getElem?_eq_some_iff.1 R2_0.out).1).trans R2_0.out)
  have R3_1 := Lib.hid ((hb.block _ (Array.getElem?_eq_some_iff.1 R2_1.out).1).trans R2_1.out)
  have HE3 := Lib.hid (HE2.out.below hb)
  have HB3 := Lib.hid (HB2.out.trans (hb.mono HB2.out.size))
  clear hb
  obtain ⟨c10, c11, c12, f10, f11, f12⟩ := box_cells R3_1.out
  go_upto_region 5 with (fail)
  obtain ⟨v4, hv4⟩ : ∃ v, ((v3.setCell ⟨b1, 0, none⟩ (.int .i64 3)).setCell ⟨b1, 1, none⟩ (.int .i64 0)).setCell ⟨b1, 2, none⟩ (.string U) = v := ⟨_, rfl⟩
  rw [hv4]
  obtain ⟨hr, hg⟩ := box_store R3_1.out (3, 0, U)
  rw [hv4] at hr hg
  have hbs : Below w.heap.size v3 v4 := below_of_grown hg (by omega) HB3.out.size
  have R4_0 := Lib.hid ((hg.block _ (Array.getElem?_eq_some_iff.1 R3_0.out).1 (by simp; try omega)).trans R3_0.out)
  have R4_1 := Lib.hid hr
  have HE4 := Lib.hid (HEE.out.below (HB3.out.trans hbs))
  have HB4 := Lib.hid (HB3.out.trans hbs)
  clear hv4 hr hg hbs
  clear c10 c11 c12 f10 f11 f12
  obtain ⟨c10, c11, c12, f10, f11, f12⟩ := box_cells R4_1.out
  simp only at c10 c11 c12
  go_wp2_with fail
  refine (G3.out _ HE4.out).mono ?_
  rintro e v5 ⟨rfl, hb⟩
  clear c10 c11 c12 f10 f11 f12
  have R5_0 := Lib.hid ((hb.block _ (Array.getElem?_eq_some_iff.1 R4_0.out).1).trans R4_0.out)
  have R5_1 := Lib.hid ((hb.block _ (Array.getElem?_eq_some_iff.1 R4_1.out).1).trans R4_1.out)
  have HE5 := Lib.hid (HE4.out.below hb)
  have HB5 := Lib.hid (HB4.out.trans (hb.mono HB4.out.size))
  clear hb
  obtain ⟨c00, c01, c02, f00, f01, f02⟩ := box_cells R5_0.out
  obtain ⟨c10, c11, c12, f10, f11, f12⟩ := box_cells R5_1.out
  try simp only at c00 c01 c02
  simp only at c10 c11 c12
  go_wp2_with fail
  obtain ⟨v6, hv6⟩ : ∃ v, ((v5.setCell ⟨w.heap.size, 0, none⟩ (.int .i64 0)).setCell ⟨w.heap.size, 1, none⟩ (.int .i64 0)).setCell ⟨w.heap.size, 2, none⟩ (.string ⟨#[]⟩) = v := ⟨_, rfl⟩
  rw [hv6]
  obtain ⟨hr, hg⟩ := box_store R5_0.out (0, 0, ⟨#[]⟩)
  rw [hv6] at hr hg
  have hbs : Below w.heap.size v5 v6 := below_of_grown hg (by omega) HB5.out.size
  have r0 : v6.cell? ⟨w.heap.size, 0, none⟩ = some (.int .i64 0) := cell_of_row _ _ 0 _ _ _ hr
  have r1 : v6.cell? ⟨w.heap.size, 1, none⟩ = some (.int .i64 0) := cell_of_row _ _ 1 _ _ _ hr
  have r2 : v6.cell? ⟨w.heap.size, 2, none⟩ = some (.string ⟨#[]⟩) := cell_of_row _ _ 2 _ _ _ hr
  exact bodyPost_ret (v := .tuple #[.agg #[.int .i64 0, .int .i64 0, .string ⟨#[]⟩], .int .i64 60]) (by simp [results, Tryz.results17, go_sem, r0, r1, r2]) rfl ⟨rfl, HB5.out.trans hbs⟩
set_option maxHeartbeats 8000000 in
theorem r17_bad2_q (s : ByteArray) (Y : Sc) (e0 N er f : Int) (U T : ByteArray) (g1 : ∀ w, Env w → Calls Tryz.prog 34 #[.string s] w fun e w' => e = .returned (.tuple #[.agg #[.int .i64 Y.1, .int .i64 Y.2.1, .string Y.2.2], .int .i64 e0]) ∧ Below w.heap.size w w')
    (g2 : ∀ w, Calls Tryz.prog 35 #[.string s, .int .i64 0] w fun e w' => e = .returned (.tuple #[.string U, .int .i64 N, .int .i64 er]) ∧ Below w.heap.size w w')
    (g3 : ∀ w, Env w → Calls Tryz.prog 15 #[.agg #[.int .i64 3, .int .i64 0, .string U]] w fun e w' => e = .returned (.tuple #[.string T, .int .i64 f]) ∧ Below w.heap.size w w')
    (hne : s.toList.isEmpty = false) (_hne2 : (!s.toList.isEmpty) = true) (hz : 0 < s.size) (_hz0 : ¬ s.size = 0) (hb0 : s[0]'hz = 34) (x34 : (34 : UInt8).toNat = 34) (he : er = 0) (hf : (f != 0) = true) (w : World) (E : Env w) :
    Calls Tryz.prog 17 #[.string s] w fun e w' => e = .returned (.tuple #[.agg #[.int .i64 0, .int .i64 0, .string ⟨#[]⟩], .int .i64 60]) ∧ Below w.heap.size w w' := by
  subst he
  have HEE := Lib.hid E
  have G1 := Lib.hid g1
  have G3 := Lib.hid g3
  have G2 := Lib.hid g2
  clear g2
  clear g1 g3
  go_enter Tryz.func17, Tryz.ntmps17
  go_wp2_with fail
  obtain ⟨v0, hv0⟩ : ∃ v, w.alloc (.cells #[.int .i64 0, .int .i64 0, .string ⟨#[]⟩] 23) = v := ⟨_, rfl⟩
  have hb0 : Below w.heap.size w v0 := by rw [← hv0]; exact (Below.refl _ w).alloc (Nat.le_refl _) _
  have r0_0 : v0.heap[w.heap.size]? = some (scO (0, 0, ⟨#[]⟩)) := by rw [← hv0]; exact heap_alloc_new w _
  have R0_0 := Lib.hid r0_0
  have HE0 := Lib.hid (E.below hb0)
  have HB0 := Lib.hid hb0
  rw [hv0]
  clear hv0 hb0 r0_0 E
  refine (G1.out _ HE0.out).mono ?_
  rintro e v1 ⟨rfl, hb⟩
  have R1_0 := Lib.hid ((hb.block _ (Array.getElem?_eq_some_iff.1 R0_0.out).1).trans R0_0.out)
  have HE1 := Lib.hid (HE0.out.below hb)
  have HB1 := Lib.hid (HB0.out.trans (hb.mono HB0.out.size))
  clear hb
  go_wp2_with fail
  obtain ⟨b1, hb1⟩ : ∃ b, v1.heap.size = b := ⟨_, rfl⟩
  obtain ⟨v2, hv2⟩ : ∃ v, v1.alloc (scO Y) = v := ⟨_, rfl⟩
  rw [hv2, hb1]
  have hltb1 : w.heap.size < b1 := by rw [← hb1]; exact (Array.getElem?_eq_some_iff.1 R1_0.out).1
  have hrb1 : v2.heap[b1]? = some (scO Y) := by rw [← hv2, ← hb1]; exact heap_alloc_new v1 _
  have hb : Below v1.heap.size v1 v2 := by rw [← hv2]; exact (Below.refl _ v1).alloc (Nat.le_refl _) _
  have R2_1 := Lib.hid hrb1
  clear hv2 hb1 hrb1
  have R2_0 := Lib.hid ((hb.block _ (Array.getElem?_eq_some_iff.1 R1_0.out).1).trans R1_0.out)
  have HE2 := Lib.hid (HE1.out.below hb)
  have HB2 := Lib.hid (HB1.out.trans (hb.mono HB1.out.size))
  clear hb
  refine (G2.out _).mono ?_
  rintro e v3 ⟨rfl, hb⟩
  have R3_0 := Lib.hid ((hb.block _ (Array.getElem?_eq_some_iff.1 R2_0.out).1).trans R2_0.out)
  have R3_1 := Lib.hid ((hb.block _ (Array.getElem?_eq_some_iff.1 R2_1.out).1).trans R2_1.out)
  have HE3 := Lib.hid (HE2.out.below hb)
  have HB3 := Lib.hid (HB2.out.trans (hb.mono HB2.out.size))
  clear hb
  obtain ⟨c10, c11, c12, f10, f11, f12⟩ := box_cells R3_1.out
  go_upto_region 5 with (fail)
  obtain ⟨v4, hv4⟩ : ∃ v, ((v3.setCell ⟨b1, 0, none⟩ (.int .i64 3)).setCell ⟨b1, 1, none⟩ (.int .i64 0)).setCell ⟨b1, 2, none⟩ (.string U) = v := ⟨_, rfl⟩
  rw [hv4]
  obtain ⟨hr, hg⟩ := box_store R3_1.out (3, 0, U)
  rw [hv4] at hr hg
  have hbs : Below w.heap.size v3 v4 := below_of_grown hg (by omega) HB3.out.size
  have R4_0 := Lib.hid ((hg.block _ (Array.getElem?_eq_some_iff.1 R3_0.out).1 (by simp; try omega)).trans R3_0.out)
  have R4_1 := Lib.hid hr
  have HE4 := Lib.hid (HEE.out.below (HB3.out.trans hbs))
  have HB4 := Lib.hid (HB3.out.trans hbs)
  clear hv4 hr hg hbs
  clear c10 c11 c12 f10 f11 f12
  obtain ⟨c10, c11, c12, f10, f11, f12⟩ := box_cells R4_1.out
  simp only at c10 c11 c12
  go_wp2_with fail
  refine (G3.out _ HE4.out).mono ?_
  rintro e v5 ⟨rfl, hb⟩
  clear c10 c11 c12 f10 f11 f12
  have R5_0 := Lib.hid ((hb.block _ (Array.getElem?_eq_some_iff.1 R4_0.out).1).trans R4_0.out)
  have R5_1 := Lib.hid ((hb.block _ (Array.getElem?_eq_some_iff.1 R4_1.out).1).trans R4_1.out)
  have HE5 := Lib.hid (HE4.out.below hb)
  have HB5 := Lib.hid (HB4.out.trans (hb.mono HB4.out.size))
  clear hb
  obtain ⟨c00, c01, c02, f00, f01, f02⟩ := box_cells R5_0.out
  obtain ⟨c10, c11, c12, f10, f11, f12⟩ := box_cells R5_1.out
  try simp only at c00 c01 c02
  simp only at c10 c11 c12
  go_wp2_with fail
  obtain ⟨v6, hv6⟩ : ∃ v, ((v5.setCell ⟨w.heap.size, 0, none⟩ (.int .i64 0)).setCell ⟨w.heap.size, 1, none⟩ (.int .i64 0)).setCell ⟨w.heap.size, 2, none⟩ (.string ⟨#[]⟩) = v := ⟨_, rfl⟩
  rw [hv6]
  obtain ⟨hr, hg⟩ := box_store R5_0.out (0, 0, ⟨#[]⟩)
  rw [hv6] at hr hg
  have hbs : Below w.heap.size v5 v6 := below_of_grown hg (by omega) HB5.out.size
  have r0 : v6.cell? ⟨w.heap.size, 0, none⟩ = some (.int .i64 0) := cell_of_row _ _ 0 _ _ _ hr
  have r1 : v6.cell? ⟨w.heap.size, 1, none⟩ = some (.int .i64 0) := cell_of_row _ _ 1 _ _ _ hr
  have r2 : v6.cell? ⟨w.heap.size, 2, none⟩ = some (.string ⟨#[]⟩) := cell_of_row _ _ 2 _ _ _ hr
  exact bodyPost_ret (v := .tuple #[.agg #[.int .i64 0, .int .i64 0, .string ⟨#[]⟩], .int .i64 60]) (by simp [results, Tryz.results17, go_sem, r0, r1, r2]) rfl ⟨rfl, HB5.out.trans hbs⟩
set_option maxHeartbeats 8000000 in
theorem r17_bad3_q (s : ByteArray) (Y : Sc) (e0 N er f : Int) (U T : ByteArray) (g1 : ∀ w, Env w → Calls Tryz.prog 34 #[.string s] w fun e w' => e = .returned (.tuple #[.agg #[.int .i64 Y.1, .int .i64 Y.2.1, .string Y.2.2], .int .i64 e0]) ∧ Below w.heap.size w w')
    (g2 : ∀ w, Calls Tryz.prog 35 #[.string s, .int .i64 0] w fun e w' => e = .returned (.tuple #[.string U, .int .i64 N, .int .i64 er]) ∧ Below w.heap.size w w')
    (g3 : ∀ w, Env w → Calls Tryz.prog 15 #[.agg #[.int .i64 3, .int .i64 0, .string U]] w fun e w' => e = .returned (.tuple #[.string T, .int .i64 f]) ∧ Below w.heap.size w w')
    (hne : s.toList.isEmpty = false) (_hne2 : (!s.toList.isEmpty) = true) (hz : 0 < s.size) (_hz0 : ¬ s.size = 0) (hb0 : s[0]'hz = 34) (x34 : (34 : UInt8).toNat = 34) (he : er = 0) (hf : f = 0) (hT : (T.toList == s.toList) = false) (_hT2 : (!(T.toList == s.toList)) = true) (w : World) (E : Env w) :
    Calls Tryz.prog 17 #[.string s] w fun e w' => e = .returned (.tuple #[.agg #[.int .i64 0, .int .i64 0, .string ⟨#[]⟩], .int .i64 60]) ∧ Below w.heap.size w w' := by
  subst he hf
  have HEE := Lib.hid E
  have G1 := Lib.hid g1
  have G3 := Lib.hid g3
  have G2 := Lib.hid g2
  clear g2
  clear g1 g3
  go_enter Tryz.func17, Tryz.ntmps17
  go_wp2_with fail
  obtain ⟨v0, hv0⟩ : ∃ v, w.alloc (.cells #[.int .i64 0, .int .i64 0, .string ⟨#[]⟩] 23) = v := ⟨_, rfl⟩
  have hb0 : Below w.heap.size w v0 := by rw [← hv0]; exact (Below.refl _ w).alloc (Nat.le_refl _) _
  have r0_0 : v0.heap[w.heap.size]? = some (scO (0, 0, ⟨#[]⟩)) := by rw [← hv0]; exact heap_alloc_new w _
  have R0_0 := Lib.hid r0_0
  have HE0 := Lib.hid (E.below hb0)
  have HB0 := Lib.hid hb0
  rw [hv0]
  clear hv0 hb0 r0_0 E
  refine (G1.out _ HE0.out).mono ?_
  rintro e v1 ⟨rfl, hb⟩
  have R1_0 := Lib.hid ((hb.block _ (Array.getElem?_eq_some_iff.1 R0_0.out).1).trans R0_0.out)
  have HE1 := Lib.hid (HE0.out.below hb)
  have HB1 := Lib.hid (HB0.out.trans (hb.mono HB0.out.size))
  clear hb
  go_wp2_with fail
  obtain ⟨b1, hb1⟩ : ∃ b, v1.heap.size = b := ⟨_, rfl⟩
  obtain ⟨v2, hv2⟩ : ∃ v, v1.alloc (scO Y) = v := ⟨_, rfl⟩
  rw [hv2, hb1]
  have hltb1 : w.heap.size < b1 := by rw [← hb1]; exact (Array.getElem?_eq_some_iff.1 R1_0.out).1
  have hrb1 : v2.heap[b1]? = some (scO Y) := by rw [← hv2, ← hb1]; exact heap_alloc_new v1 _
  have hb : Below v1.heap.size v1 v2 := by rw [← hv2]; exact (Below.refl _ v1).alloc (Nat.le_refl _) _
  have R2_1 := Lib.hid hrb1
  clear hv2 hb1 hrb1
  have R2_0 := Lib.hid ((hb.block _ (Array.getElem?_eq_some_iff.1 R1_0.out).1).trans R1_0.out)
  have HE2 := Lib.hid (HE1.out.below hb)
  have HB2 := Lib.hid (HB1.out.trans (hb.mono HB1.out.size))
  clear hb
  refine (G2.out _).mono ?_
  rintro e v3 ⟨rfl, hb⟩
  have R3_0 := Lib.hid ((hb.block _ (Array.getElem?_eq_some_iff.1 R2_0.out).1).trans R2_0.out)
  have R3_1 := Lib.hid ((hb.block _ (Array.getElem?_eq_some_iff.1 R2_1.out).1).trans R2_1.out)
  have HE3 := Lib.hid (HE2.out.below hb)
  have HB3 := Lib.hid (HB2.out.trans (hb.mono HB2.out.size))
  clear hb
  obtain ⟨c10, c11, c12, f10, f11, f12⟩ := box_cells R3_1.out
  go_upto_region 5 with (fail)
  obtain ⟨v4, hv4⟩ : ∃ v, ((v3.setCell ⟨b1, 0, none⟩ (.int .i64 3)).setCell ⟨b1, 1, none⟩ (.int .i64 0)).setCell ⟨b1, 2, none⟩ (.string U) = v := ⟨_, rfl⟩
  rw [hv4]
  obtain ⟨hr, hg⟩ := box_store R3_1.out (3, 0, U)
  rw [hv4] at hr hg
  have hbs : Below w.heap.size v3 v4 := below_of_grown hg (by omega) HB3.out.size
  have R4_0 := Lib.hid ((hg.block _ (Array.getElem?_eq_some_iff.1 R3_0.out).1 (by simp; try omega)).trans R3_0.out)
  have R4_1 := Lib.hid hr
  have HE4 := Lib.hid (HEE.out.below (HB3.out.trans hbs))
  have HB4 := Lib.hid (HB3.out.trans hbs)
  clear hv4 hr hg hbs
  clear c10 c11 c12 f10 f11 f12
  obtain ⟨c10, c11, c12, f10, f11, f12⟩ := box_cells R4_1.out
  simp only at c10 c11 c12
  go_wp2_with fail
  refine (G3.out _ HE4.out).mono ?_
  rintro e v5 ⟨rfl, hb⟩
  clear c10 c11 c12 f10 f11 f12
  have R5_0 := Lib.hid ((hb.block _ (Array.getElem?_eq_some_iff.1 R4_0.out).1).trans R4_0.out)
  have R5_1 := Lib.hid ((hb.block _ (Array.getElem?_eq_some_iff.1 R4_1.out).1).trans R4_1.out)
  have HE5 := Lib.hid (HE4.out.below hb)
  have HB5 := Lib.hid (HB4.out.trans (hb.mono HB4.out.size))
  clear hb
  obtain ⟨c00, c01, c02, f00, f01, f02⟩ := box_cells R5_0.out
  obtain ⟨c10, c11, c12, f10, f11, f12⟩ := box_cells R5_1.out
  try simp only at c00 c01 c02
  simp only at c10 c11 c12
  go_wp2_with fail
  obtain ⟨v6, hv6⟩ : ∃ v, ((v5.setCell ⟨w.heap.size, 0, none⟩ (.int .i64 0)).setCell ⟨w.heap.size, 1, none⟩ (.int .i64 0)).setCell ⟨w.heap.size, 2, none⟩ (.string ⟨#[]⟩) = v := ⟨_, rfl⟩
  rw [hv6]
  obtain ⟨hr, hg⟩ := box_store R5_0.out (0, 0, ⟨#[]⟩)
  rw [hv6] at hr hg
  have hbs : Below w.heap.size v5 v6 := below_of_grown hg (by omega) HB5.out.size
  have r0 : v6.cell? ⟨w.heap.size, 0, none⟩ = some (.int .i64 0) := cell_of_row _ _ 0 _ _ _ hr
  have r1 : v6.cell? ⟨w.heap.size, 1, none⟩ = some (.int .i64 0) := cell_of_row _ _ 1 _ _ _ hr
  have r2 : v6.cell? ⟨w.heap.size, 2, none⟩ = some (.string ⟨#[]⟩) := cell_of_row _ _ 2 _ _ _ hr
  exact bodyPost_ret (v := .tuple #[.agg #[.int .i64 0, .int .i64 0, .string ⟨#[]⟩], .int .i64 60]) (by simp [results, Tryz.results17, go_sem, r0, r1, r2]) rfl ⟨rfl, HB5.out.trans hbs⟩
set_option maxHeartbeats 8000000 in
theorem r17_good_a (s : ByteArray) (X : Sc) (er f : Int) (T : ByteArray) (g1 : ∀ w, Env w → Calls Tryz.prog 34 #[.string s] w fun e w' => e = .returned (.tuple #[.agg #[.int .i64 X.1, .int .i64 X.2.1, .string X.2.2], .int .i64 er]) ∧ Below w.heap.size w w')
    (g3 : ∀ w, Env w → Calls Tryz.prog 15 #[.agg #[.int .i64 X.1, .int .i64 X.2.1, .string X.2.2]] w fun e w' => e = .returned (.tuple #[.string T, .int .i64 f]) ∧ Below w.heap.size w w')
    (hne : s.toList.isEmpty = true) (_hne2 : (!s.toList.isEmpty) = false) (he : er = 0) (hf : f = 0) (hT : (T.toList == s.toList) = true) (_hT2 : (!(T.toList == s.toList)) = false) (w : World) (E : Env w) :
    Calls Tryz.prog 17 #[.string s] w fun e w' => e = .returned (.tuple #[.agg #[.int .i64 X.1, .int .i64 X.2.1, .string X.2.2], .int .i64 0]) ∧ Below w.heap.size w w' := by
  subst he hf
  have HEE := Lib.hid E
  have G1 := Lib.hid g1
  have G3 := Lib.hid g3
  clear g1 g3
  go_enter Tryz.func17, Tryz.ntmps17
  go_wp2_with fail
  obtain ⟨v0, hv0⟩ : ∃ v, w.alloc (.cells #[.int .i64 0, .int .i64 0, .string ⟨#[]⟩] 23) = v := ⟨_, rfl⟩
  have hb0 : Below w.heap.size w v0 := by rw [← hv0]; exact (Below.refl _ w).alloc (Nat.le_refl _) _
  have r0_0 : v0.heap[w.heap.size]? = some (scO (0, 0, ⟨#[]⟩)) := by rw [← hv0]; exact heap_alloc_new w _
  have R0_0 := Lib.hid r0_0
  have HE0 := Lib.hid (E.below hb0)
  have HB0 := Lib.hid hb0
  rw [hv0]
  clear hv0 hb0 r0_0 E
  refine (G1.out _ HE0.out).mono ?_
  rintro e v1 ⟨rfl, hb⟩
  have R1_0 := Lib.hid ((hb.block _ (Array.getElem?_eq_some_iff.1 R0_0.out).1).trans R0_0.out)
  have HE1 := Lib.hid (HE0.out.below hb)
  have HB1 := Lib.hid (HB0.out.trans (hb.mono HB0.out.size))
  clear hb
  go_wp2_with fail
  obtain ⟨b1, hb1⟩ : ∃ b, v1.heap.size = b := ⟨_, rfl⟩
  obtain ⟨v2, hv2⟩ : ∃ v, v1.alloc (scO X) = v := ⟨_, rfl⟩
  rw [hv2, hb1]
  have hltb1 : w.heap.size < b1 := by rw [← hb1]; exact (Array.getElem?_eq_some_iff.1 R1_0.out).1
  have hrb1 : v2.heap[b1]? = some (scO X) := by rw [← hv2, ← hb1]; exact heap_alloc_new v1 _
  have hb : Below v1.heap.size v1 v2 := by rw [← hv2]; exact (Below.refl _ v1).alloc (Nat.le_refl _) _
  have R2_1 := Lib.hid hrb1
  clear hv2 hb1 hrb1
  have R2_0 := Lib.hid ((hb.block _ (Array.getElem?_eq_some_iff.1 R1_0.out).1).trans R1_0.out)
  have HE2 := Lib.hid (HE1.out.below hb)
  have HB2 := Lib.hid (HB1.out.trans (hb.mono HB1.out.size))
  clear hb
  obtain ⟨c10, c11, c12, f10, f11, f12⟩ := box_cells R2_1.out
  go_wp2_with fail
  refine (G3.out _ HE2.out).mono ?_
  rintro e v3 ⟨rfl, hb⟩
  clear c10 c11 c12 f10 f11 f12
  have R3_0 := Lib.hid ((hb.block _ (Array.getElem?_eq_some_iff.1 R2_0.out).1).trans R2_0.out)
  have R3_1 := Lib.hid ((hb.block _ (Array.getElem?_eq_some_iff.1 R2_1.out).1).trans R2_1.out)
  have HE3 := Lib.hid (HE2.out.below hb)
  have HB3 := Lib.hid (HB2.out.trans (hb.mono HB2.out.size))
  clear hb
  obtain ⟨c00, c01, c02, f00, f01, f02⟩ := box_cells R3_0.out
  obtain ⟨c10, c11, c12, f10, f11, f12⟩ := box_cells R3_1.out
  try simp only at c00 c01 c02
  go_wp2_with fail
  obtain ⟨v4, hv4⟩ : ∃ v, ((v3.setCell ⟨w.heap.size, 0, none⟩ (.int .i64 X.1)).setCell ⟨w.heap.size, 1, none⟩ (.int .i64 X.2.1)).setCell ⟨w.heap.size, 2, none⟩ (.string X.2.2) = v := ⟨_, rfl⟩
  rw [hv4]
  obtain ⟨hr, hg⟩ := box_store R3_0.out X
  rw [hv4] at hr hg
  have hbs : Below w.heap.size v3 v4 := below_of_grown hg (by omega) HB3.out.size
  have r0 : v4.cell? ⟨w.heap.size, 0, none⟩ = some (.int .i64 X.1) := cell_of_row _ _ 0 _ _ _ hr
  have r1 : v4.cell? ⟨w.heap.size, 1, none⟩ = some (.int .i64 X.2.1) := cell_of_row _ _ 1 _ _ _ hr
  have r2 : v4.cell? ⟨w.heap.size, 2, none⟩ = some (.string X.2.2) := cell_of_row _ _ 2 _ _ _ hr
  exact bodyPost_ret (v := .tuple #[.agg #[.int .i64 X.1, .int .i64 X.2.1, .string X.2.2], .int .i64 0]) (by simp [results, Tryz.results17, go_sem, r0, r1, r2]) rfl ⟨rfl, HB3.out.trans hbs⟩
set_option maxHeartbeats 8000000 in
theorem r17_bad1_a (s : ByteArray) (X : Sc) (er f : Int) (T : ByteArray) (g1 : ∀ w, Env w → Calls Tryz.prog 34 #[.string s] w fun e w' => e = .returned (.tuple #[.agg #[.int .i64 X.1, .int .i64 X.2.1, .string X.2.2], .int .i64 er]) ∧ Below w.heap.size w w')
    (g3 : ∀ w, Env w → Calls Tryz.prog 15 #[.agg #[.int .i64 X.1, .int .i64 X.2.1, .string X.2.2]] w fun e w' => e = .returned (.tuple #[.string T, .int .i64 f]) ∧ Below w.heap.size w w')
    (hne : s.toList.isEmpty = true) (_hne2 : (!s.toList.isEmpty) = false) (he : (er != 0) = true) (w : World) (E : Env w) :
    Calls Tryz.prog 17 #[.string s] w fun e w' => e = .returned (.tuple #[.agg #[.int .i64 0, .int .i64 0, .string ⟨#[]⟩], .int .i64 60]) ∧ Below w.heap.size w w' := by
  have HEE := Lib.hid E
  have G1 := Lib.hid g1
  have G3 := Lib.hid g3
  clear g1 g3
  go_enter Tryz.func17, Tryz.ntmps17
  go_wp2_with fail
  obtain ⟨v0, hv0⟩ : ∃ v, w.alloc (.cells #[.int .i64 0, .int .i64 0, .string ⟨#[]⟩] 23) = v := ⟨_, rfl⟩
  have hb0 : Below w.heap.size w v0 := by rw [← hv0]; exact (Below.refl _ w).alloc (Nat.le_refl _) _
  have r0_0 : v0.heap[w.heap.size]? = some (scO (0, 0, ⟨#[]⟩)) := by rw [← hv0]; exact heap_alloc_new w _
  have R0_0 := Lib.hid r0_0
  have HE0 := Lib.hid (E.below hb0)
  have HB0 := Lib.hid hb0
  rw [hv0]
  clear hv0 hb0 r0_0 E
  refine (G1.out _ HE0.out).mono ?_
  rintro e v1 ⟨rfl, hb⟩
  have R1_0 := Lib.hid ((hb.block _ (Array.getElem?_eq_some_iff.1 R0_0.out).1).trans R0_0.out)
  have HE1 := Lib.hid (HE0.out.below hb)
  have HB1 := Lib.hid (HB0.out.trans (hb.mono HB0.out.size))
  clear hb
  go_wp2_with fail
  obtain ⟨b1, hb1⟩ : ∃ b, v1.heap.size = b := ⟨_, rfl⟩
  obtain ⟨v2, hv2⟩ : ∃ v, v1.alloc (scO X) = v := ⟨_, rfl⟩
  rw [hv2, hb1]
  have hltb1 : w.heap.size < b1 := by rw [← hb1]; exact (Array.getElem?_eq_some_iff.1 R1_0.out).1
  have hrb1 : v2.heap[b1]? = some (scO X) := by rw [← hv2, ← hb1]; exact heap_alloc_new v1 _
  have hb : Below v1.heap.size v1 v2 := by rw [← hv2]; exact (Below.refl _ v1).alloc (Nat.le_refl _) _
  have R2_1 := Lib.hid hrb1
  clear hv2 hb1 hrb1
  have R2_0 := Lib.hid ((hb.block _ (Array.getElem?_eq_some_iff.1 R1_0.out).1).trans R1_0.out)
  have HE2 := Lib.hid (HE1.out.below hb)
  have HB2 := Lib.hid (HB1.out.trans (hb.mono HB1.out.size))
  clear hb
  obtain ⟨c10, c11, c12, f10, f11, f12⟩ := box_cells R2_1.out
  go_wp2_with fail
  refine (G3.out _ HE2.out).mono ?_
  rintro e v3 ⟨rfl, hb⟩
  clear c10 c11 c12 f10 f11 f12
  have R3_0 := Lib.hid ((hb.block _ (Array.getElem?_eq_some_iff.1 R2_0.out).1).trans R2_0.out)
  have R3_1 := Lib.hid ((hb.block _ (Array.getElem?_eq_some_iff.1 R2_1.out).1).trans R2_1.out)
  have HE3 := Lib.hid (HE2.out.below hb)
  have HB3 := Lib.hid (HB2.out.trans (hb.mono HB2.out.size))
  clear hb
  obtain ⟨c00, c01, c02, f00, f01, f02⟩ := box_cells R3_0.out
  obtain ⟨c10, c11, c12, f10, f11, f12⟩ := box_cells R3_1.out
  try simp only at c00 c01 c02
  go_wp2_with fail
  obtain ⟨v4, hv4⟩ : ∃ v, ((v3.setCell ⟨w.heap.size, 0, none⟩ (.int .i64 0)).setCell ⟨w.heap.size, 1, none⟩ (.int .i64 0)).setCell ⟨w.heap.size, 2, none⟩ (.string ⟨#[]⟩) = v := ⟨_, rfl⟩
  rw [hv4]
  obtain ⟨hr, hg⟩ := box_store R3_0.out (0, 0, ⟨#[]⟩)
  rw [hv4] at hr hg
  have hbs : Below w.heap.size v3 v4 := below_of_grown hg (by omega) HB3.out.size
  have r0 : v4.cell? ⟨w.heap.size, 0, none⟩ = some (.int .i64 0) := cell_of_row _ _ 0 _ _ _ hr
  have r1 : v4.cell? ⟨w.heap.size, 1, none⟩ = some (.int .i64 0) := cell_of_row _ _ 1 _ _ _ hr
  have r2 : v4.cell? ⟨w.heap.size, 2, none⟩ = some (.string ⟨#[]⟩) := cell_of_row _ _ 2 _ _ _ hr
  exact bodyPost_ret (v := .tuple #[.agg #[.int .i64 0, .int .i64 0, .string ⟨#[]⟩], .int .i64 60]) (by simp [results, Tryz.results17, go_sem, r0, r1, r2]) rfl ⟨rfl, HB3.out.trans hbs⟩
set_option maxHeartbeats 8000000 in
theorem r17_bad2_a (s : ByteArray) (X : Sc) (er f : Int) (T : ByteArray) (g1 : ∀ w, Env w → Calls Tryz.prog 34 #[.string s] w fun e w' => e = .returned (.tuple #[.agg #[.int .i64 X.1, .int .i64 X.2.1, .string X.2.2], .int .i64 er]) ∧ Below w.heap.size w w')
    (g3 : ∀ w, Env w → Calls Tryz.prog 15 #[.agg #[.int .i64 X.1, .int .i64 X.2.1, .string X.2.2]] w fun e w' => e = .returned (.tuple #[.string T, .int .i64 f]) ∧ Below w.heap.size w w')
    (hne : s.toList.isEmpty = true) (_hne2 : (!s.toList.isEmpty) = false) (he : er = 0) (hf : (f != 0) = true) (w : World) (E : Env w) :
    Calls Tryz.prog 17 #[.string s] w fun e w' => e = .returned (.tuple #[.agg #[.int .i64 0, .int .i64 0, .string ⟨#[]⟩], .int .i64 60]) ∧ Below w.heap.size w w' := by
  subst he
  have HEE := Lib.hid E
  have G1 := Lib.hid g1
  have G3 := Lib.hid g3
  clear g1 g3
  go_enter Tryz.func17, Tryz.ntmps17
  go_wp2_with fail
  obtain ⟨v0, hv0⟩ : ∃ v, w.alloc (.cells #[.int .i64 0, .int .i64 0, .string ⟨#[]⟩] 23) = v := ⟨_, rfl⟩
  have hb0 : Below w.heap.size w v0 := by rw [← hv0]; exact (Below.refl _ w).alloc (Nat.le_refl _) _
  have r0_0 : v0.heap[w.heap.size]? = some (scO (0, 0, ⟨#[]⟩)) := by rw [← hv0]; exact heap_alloc_new w _
  have R0_0 := Lib.hid r0_0
  have HE0 := Lib.hid (E.below hb0)
  have HB0 := Lib.hid hb0
  rw [hv0]
  clear hv0 hb0 r0_0 E
  refine (G1.out _ HE0.out).mono ?_
  rintro e v1 ⟨rfl, hb⟩
  have R1_0 := Lib.hid ((hb.block _ (Array.getElem?_eq_some_iff.1 R0_0.out).1).trans R0_0.out)
  have HE1 := Lib.hid (HE0.out.below hb)
  have HB1 := Lib.hid (HB0.out.trans (hb.mono HB0.out.size))
  clear hb
  go_wp2_with fail
  obtain ⟨b1, hb1⟩ : ∃ b, v1.heap.size = b := ⟨_, rfl⟩
  obtain ⟨v2, hv2⟩ : ∃ v, v1.alloc (scO X) = v := ⟨_, rfl⟩
  rw [hv2, hb1]
  have hltb1 : w.heap.size < b1 := by rw [← hb1]; exact (Array.getElem?_eq_some_iff.1 R1_0.out).1
  have hrb1 : v2.heap[b1]? = some (scO X) := by rw [← hv2, ← hb1]; exact heap_alloc_new v1 _
  have hb : Below v1.heap.size v1 v2 := by rw [← hv2]; exact (Below.refl _ v1).alloc (Nat.le_refl _) _
  have R2_1 := Lib.hid hrb1
  clear hv2 hb1 hrb1
  have R2_0 := Lib.hid ((hb.block _ (Array.getElem?_eq_some_iff.1 R1_0.out).1).trans R1_0.out)
  have HE2 := Lib.hid (HE1.out.below hb)
  have HB2 := Lib.hid (HB1.out.trans (hb.mono HB1.out.size))
  clear hb
  obtain ⟨c10, c11, c12, f10, f11, f12⟩ := box_cells R2_1.out
  go_wp2_with fail
  refine (G3.out _ HE2.out).mono ?_
  rintro e v3 ⟨rfl, hb⟩
  clear c10 c11 c12 f10 f11 f12
  have R3_0 := Lib.hid ((hb.block _ (Array.getElem?_eq_some_iff.1 R2_0.out).1).trans R2_0.out)
  have R3_1 := Lib.hid ((hb.block _ (Array.getElem?_eq_some_iff.1 R2_1.out).1).trans R2_1.out)
  have HE3 := Lib.hid (HE2.out.below hb)
  have HB3 := Lib.hid (HB2.out.trans (hb.mono HB2.out.size))
  clear hb
  obtain ⟨c00, c01, c02, f00, f01, f02⟩ := box_cells R3_0.out
  obtain ⟨c10, c11, c12, f10, f11, f12⟩ := box_cells R3_1.out
  try simp only at c00 c01 c02
  go_wp2_with fail
  obtain ⟨v4, hv4⟩ : ∃ v, ((v3.setCell ⟨w.heap.size, 0, none⟩ (.int .i64 0)).setCell ⟨w.heap.size, 1, none⟩ (.int .i64 0)).setCell ⟨w.heap.size, 2, none⟩ (.string ⟨#[]⟩) = v := ⟨_, rfl⟩
  rw [hv4]
  obtain ⟨hr, hg⟩ := box_store R3_0.out (0, 0, ⟨#[]⟩)
  rw [hv4] at hr hg
  have hbs : Below w.heap.size v3 v4 := below_of_grown hg (by omega) HB3.out.size
  have r0 : v4.cell? ⟨w.heap.size, 0, none⟩ = some (.int .i64 0) := cell_of_row _ _ 0 _ _ _ hr
  have r1 : v4.cell? ⟨w.heap.size, 1, none⟩ = some (.int .i64 0) := cell_of_row _ _ 1 _ _ _ hr
  have r2 : v4.cell? ⟨w.heap.size, 2, none⟩ = some (.string ⟨#[]⟩) := cell_of_row _ _ 2 _ _ _ hr
  exact bodyPost_ret (v := .tuple #[.agg #[.int .i64 0, .int .i64 0, .string ⟨#[]⟩], .int .i64 60]) (by simp [results, Tryz.results17, go_sem, r0, r1, r2]) rfl ⟨rfl, HB3.out.trans hbs⟩
set_option maxHeartbeats 8000000 in
theorem r17_bad3_a (s : ByteArray) (X : Sc) (er f : Int) (T : ByteArray) (g1 : ∀ w, Env w → Calls Tryz.prog 34 #[.string s] w fun e w' => e = .returned (.tuple #[.agg #[.int .i64 X.1, .int .i64 X.2.1, .string X.2.2], .int .i64 er]) ∧ Below w.heap.size w w')
    (g3 : ∀ w, Env w → Calls Tryz.prog 15 #[.agg #[.int .i64 X.1, .int .i64 X.2.1, .string X.2.2]] w fun e w' => e = .returned (.tuple #[.string T, .int .i64 f]) ∧ Below w.heap.size w w')
    (hne : s.toList.isEmpty = true) (_hne2 : (!s.toList.isEmpty) = false) (he : er = 0) (hf : f = 0) (hT : (T.toList == s.toList) = false) (_hT2 : (!(T.toList == s.toList)) = true) (w : World) (E : Env w) :
    Calls Tryz.prog 17 #[.string s] w fun e w' => e = .returned (.tuple #[.agg #[.int .i64 0, .int .i64 0, .string ⟨#[]⟩], .int .i64 60]) ∧ Below w.heap.size w w' := by
  subst he hf
  have HEE := Lib.hid E
  have G1 := Lib.hid g1
  have G3 := Lib.hid g3
  clear g1 g3
  go_enter Tryz.func17, Tryz.ntmps17
  go_wp2_with fail
  obtain ⟨v0, hv0⟩ : ∃ v, w.alloc (.cells #[.int .i64 0, .int .i64 0, .string ⟨#[]⟩] 23) = v := ⟨_, rfl⟩
  have hb0 : Below w.heap.size w v0 := by rw [← hv0]; exact (Below.refl _ w).alloc (Nat.le_refl _) _
  have r0_0 : v0.heap[w.heap.size]? = some (scO (0, 0, ⟨#[]⟩)) := by rw [← hv0]; exact heap_alloc_new w _
  have R0_0 := Lib.hid r0_0
  have HE0 := Lib.hid (E.below hb0)
  have HB0 := Lib.hid hb0
  rw [hv0]
  clear hv0 hb0 r0_0 E
  refine (G1.out _ HE0.out).mono ?_
  rintro e v1 ⟨rfl, hb⟩
  have R1_0 := Lib.hid ((hb.block _ (Array.getElem?_eq_some_iff.1 R0_0.out).1).trans R0_0.out)
  have HE1 := Lib.hid (HE0.out.below hb)
  have HB1 := Lib.hid (HB0.out.trans (hb.mono HB0.out.size))
  clear hb
  go_wp2_with fail
  obtain ⟨b1, hb1⟩ : ∃ b, v1.heap.size = b := ⟨_, rfl⟩
  obtain ⟨v2, hv2⟩ : ∃ v, v1.alloc (scO X) = v := ⟨_, rfl⟩
  rw [hv2, hb1]
  have hltb1 : w.heap.size < b1 := by rw [← hb1]; exact (Array.getElem?_eq_some_iff.1 R1_0.out).1
  have hrb1 : v2.heap[b1]? = some (scO X) := by rw [← hv2, ← hb1]; exact heap_alloc_new v1 _
  have hb : Below v1.heap.size v1 v2 := by rw [← hv2]; exact (Below.refl _ v1).alloc (Nat.le_refl _) _
  have R2_1 := Lib.hid hrb1
  clear hv2 hb1 hrb1
  have R2_0 := Lib.hid ((hb.block _ (Array.getElem?_eq_some_iff.1 R1_0.out).1).trans R1_0.out)
  have HE2 := Lib.hid (HE1.out.below hb)
  have HB2 := Lib.hid (HB1.out.trans (hb.mono HB1.out.size))
  clear hb
  obtain ⟨c10, c11, c12, f10, f11, f12⟩ := box_cells R2_1.out
  go_wp2_with fail
  refine (G3.out _ HE2.out).mono ?_
  rintro e v3 ⟨rfl, hb⟩
  clear c10 c11 c12 f10 f11 f12
  have R3_0 := Lib.hid ((hb.block _ (Array.getElem?_eq_some_iff.1 R2_0.out).1).trans R2_0.out)
  have R3_1 := Lib.hid ((hb.block _ (Array.getElem?_eq_some_iff.1 R2_1.out).1).trans R2_1.out)
  have HE3 := Lib.hid (HE2.out.below hb)
  have HB3 := Lib.hid (HB2.out.trans (hb.mono HB2.out.size))
  clear hb
  obtain ⟨c00, c01, c02, f00, f01, f02⟩ := box_cells R3_0.out
  obtain ⟨c10, c11, c12, f10, f11, f12⟩ := box_cells R3_1.out
  try simp only at c00 c01 c02
  go_wp2_with fail
  obtain ⟨v4, hv4⟩ : ∃ v, ((v3.setCell ⟨w.heap.size, 0, none⟩ (.int .i64 0)).setCell ⟨w.heap.size, 1, none⟩ (.int .i64 0)).setCell ⟨w.heap.size, 2, none⟩ (.string ⟨#[]⟩) = v := ⟨_, rfl⟩
  rw [hv4]
  obtain ⟨hr, hg⟩ := box_store R3_0.out (0, 0, ⟨#[]⟩)
  rw [hv4] at hr hg
  have hbs : Below w.heap.size v3 v4 := below_of_grown hg (by omega) HB3.out.size
  have r0 : v4.cell? ⟨w.heap.size, 0, none⟩ = some (.int .i64 0) := cell_of_row _ _ 0 _ _ _ hr
  have r1 : v4.cell? ⟨w.heap.size, 1, none⟩ = some (.int .i64 0) := cell_of_row _ _ 1 _ _ _ hr
  have r2 : v4.cell? ⟨w.heap.size, 2, none⟩ = some (.string ⟨#[]⟩) := cell_of_row _ _ 2 _ _ _ hr
  exact bodyPost_ret (v := .tuple #[.agg #[.int .i64 0, .int .i64 0, .string ⟨#[]⟩], .int .i64 60]) (by simp [results, Tryz.results17, go_sem, r0, r1, r2]) rfl ⟨rfl, HB3.out.trans hbs⟩
set_option maxHeartbeats 8000000 in
theorem r17_good_b (s : ByteArray) (X : Sc) (er f : Int) (T : ByteArray) (g1 : ∀ w, Env w → Calls Tryz.prog 34 #[.string s] w fun e w' => e = .returned (.tuple #[.agg #[.int .i64 X.1, .int .i64 X.2.1, .string X.2.2], .int .i64 er]) ∧ Below w.heap.size w w')
    (g3 : ∀ w, Env w → Calls Tryz.prog 15 #[.agg #[.int .i64 X.1, .int .i64 X.2.1, .string X.2.2]] w fun e w' => e = .returned (.tuple #[.string T, .int .i64 f]) ∧ Below w.heap.size w w')
    (hne : s.toList.isEmpty = false) (_hne2 : (!s.toList.isEmpty) = true) (hz : 0 < s.size) (_hz0 : ¬ s.size = 0) (c : UInt8) (hb0 : s[0]'hz = c) (hc : ((c.toNat : Int) == 34) = false) (he : er = 0) (hf : f = 0) (hT : (T.toList == s.toList) = true) (_hT2 : (!(T.toList == s.toList)) = false) (w : World) (E : Env w) :
    Calls Tryz.prog 17 #[.string s] w fun e w' => e = .returned (.tuple #[.agg #[.int .i64 X.1, .int .i64 X.2.1, .string X.2.2], .int .i64 0]) ∧ Below w.heap.size w w' := by
  subst he hf
  have HEE := Lib.hid E
  have G1 := Lib.hid g1
  have G3 := Lib.hid g3
  clear g1 g3
  go_enter Tryz.func17, Tryz.ntmps17
  go_wp2_with fail
  obtain ⟨v0, hv0⟩ : ∃ v, w.alloc (.cells #[.int .i64 0, .int .i64 0, .string ⟨#[]⟩] 23) = v := ⟨_, rfl⟩
  have hb0 : Below w.heap.size w v0 := by rw [← hv0]; exact (Below.refl _ w).alloc (Nat.le_refl _) _
  have r0_0 : v0.heap[w.heap.size]? = some (scO (0, 0, ⟨#[]⟩)) := by rw [← hv0]; exact heap_alloc_new w _
  have R0_0 := Lib.hid r0_0
  have HE0 := Lib.hid (E.below hb0)
  have HB0 := Lib.hid hb0
  rw [hv0]
  clear hv0 hb0 r0_0 E
  refine (G1.out _ HE0.out).mono ?_
  rintro e v1 ⟨rfl, hb⟩
  have R1_0 := Lib.hid ((hb.block _ (Array.getElem?_eq_some_iff.1 R0_0.out).1).trans R0_0.out)
  have HE1 := Lib.hid (HE0.out.below hb)
  have HB1 := Lib.hid (HB0.out.trans (hb.mono HB0.out.size))
  clear hb
  go_wp2_with fail
  obtain ⟨b1, hb1⟩ : ∃ b, v1.heap.size = b := ⟨_, rfl⟩
  obtain ⟨v2, hv2⟩ : ∃ v, v1.alloc (scO X) = v := ⟨_, rfl⟩
  rw [hv2, hb1]
  have hltb1 : w.heap.size < b1 := by rw [← hb1]; exact (Array.getElem?_eq_some_iff.1 R1_0.out).1
  have hrb1 : v2.heap[b1]? = some (scO X) := by rw [← hv2, ← hb1]; exact heap_alloc_new v1 _
  have hb : Below v1.heap.size v1 v2 := by rw [← hv2]; exact (Below.refl _ v1).alloc (Nat.le_refl _) _
  have R2_1 := Lib.hid hrb1
  clear hv2 hb1 hrb1
  have R2_0 := Lib.hid ((hb.block _ (Array.getElem?_eq_some_iff.1 R1_0.out).1).trans R1_0.out)
  have HE2 := Lib.hid (HE1.out.below hb)
  have HB2 := Lib.hid (HB1.out.trans (hb.mono HB1.out.size))
  clear hb
  obtain ⟨c10, c11, c12, f10, f11, f12⟩ := box_cells R2_1.out
  go_wp2_with fail
  refine (G3.out _ HE2.out).mono ?_
  rintro e v3 ⟨rfl, hb⟩
  clear c10 c11 c12 f10 f11 f12
  have R3_0 := Lib.hid ((hb.block _ (Array.getElem?_eq_some_iff.1 R2_0.out).1).trans R2_0.out)
  have R3_1 := Lib.hid ((hb.block _ (Array.getElem?_eq_some_iff.1 R2_1.out).1).trans R2_1.out)
  have HE3 := Lib.hid (HE2.out.below hb)
  have HB3 := Lib.hid (HB2.out.trans (hb.mono HB2.out.size))
  clear hb
  obtain ⟨c00, c01, c02, f00, f01, f02⟩ := box_cells R3_0.out
  obtain ⟨c10, c11, c12, f10, f11, f12⟩ := box_cells R3_1.out
  try simp only at c00 c01 c02
  go_wp2_with fail
  obtain ⟨v4, hv4⟩ : ∃ v, ((v3.setCell ⟨w.heap.size, 0, none⟩ (.int .i64 X.1)).setCell ⟨w.heap.size, 1, none⟩ (.int .i64 X.2.1)).setCell ⟨w.heap.size, 2, none⟩ (.string X.2.2) = v := ⟨_, rfl⟩
  rw [hv4]
  obtain ⟨hr, hg⟩ := box_store R3_0.out X
  rw [hv4] at hr hg
  have hbs : Below w.heap.size v3 v4 := below_of_grown hg (by omega) HB3.out.size
  have r0 : v4.cell? ⟨w.heap.size, 0, none⟩ = some (.int .i64 X.1) := cell_of_row _ _ 0 _ _ _ hr
  have r1 : v4.cell? ⟨w.heap.size, 1, none⟩ = some (.int .i64 X.2.1) := cell_of_row _ _ 1 _ _ _ hr
  have r2 : v4.cell? ⟨w.heap.size, 2, none⟩ = some (.string X.2.2) := cell_of_row _ _ 2 _ _ _ hr
  exact bodyPost_ret (v := .tuple #[.agg #[.int .i64 X.1, .int .i64 X.2.1, .string X.2.2], .int .i64 0]) (by simp [results, Tryz.results17, go_sem, r0, r1, r2]) rfl ⟨rfl, HB3.out.trans hbs⟩
set_option maxHeartbeats 8000000 in
theorem r17_bad1_b (s : ByteArray) (X : Sc) (er f : Int) (T : ByteArray) (g1 : ∀ w, Env w → Calls Tryz.prog 34 #[.string s] w fun e w' => e = .returned (.tuple #[.agg #[.int .i64 X.1, .int .i64 X.2.1, .string X.2.2], .int .i64 er]) ∧ Below w.heap.size w w')
    (g3 : ∀ w, Env w → Calls Tryz.prog 15 #[.agg #[.int .i64 X.1, .int .i64 X.2.1, .string X.2.2]] w fun e w' => e = .returned (.tuple #[.string T, .int .i64 f]) ∧ Below w.heap.size w w')
    (hne : s.toList.isEmpty = false) (_hne2 : (!s.toList.isEmpty) = true) (hz : 0 < s.size) (_hz0 : ¬ s.size = 0) (c : UInt8) (hb0 : s[0]'hz = c) (hc : ((c.toNat : Int) == 34) = false) (he : (er != 0) = true) (w : World) (E : Env w) :
    Calls Tryz.prog 17 #[.string s] w fun e w' => e = .returned (.tuple #[.agg #[.int .i64 0, .int .i64 0, .string ⟨#[]⟩], .int .i64 60]) ∧ Below w.heap.size w w' := by
  have HEE := Lib.hid E
  have G1 := Lib.hid g1
  have G3 := Lib.hid g3
  clear g1 g3
  go_enter Tryz.func17, Tryz.ntmps17
  go_wp2_with fail
  obtain ⟨v0, hv0⟩ : ∃ v, w.alloc (.cells #[.int .i64 0, .int .i64 0, .string ⟨#[]⟩] 23) = v := ⟨_, rfl⟩
  have hb0 : Below w.heap.size w v0 := by rw [← hv0]; exact (Below.refl _ w).alloc (Nat.le_refl _) _
  have r0_0 : v0.heap[w.heap.size]? = some (scO (0, 0, ⟨#[]⟩)) := by rw [← hv0]; exact heap_alloc_new w _
  have R0_0 := Lib.hid r0_0
  have HE0 := Lib.hid (E.below hb0)
  have HB0 := Lib.hid hb0
  rw [hv0]
  clear hv0 hb0 r0_0 E
  refine (G1.out _ HE0.out).mono ?_
  rintro e v1 ⟨rfl, hb⟩
  have R1_0 := Lib.hid ((hb.block _ (Array.getElem?_eq_some_iff.1 R0_0.out).1).trans R0_0.out)
  have HE1 := Lib.hid (HE0.out.below hb)
  have HB1 := Lib.hid (HB0.out.trans (hb.mono HB0.out.size))
  clear hb
  go_wp2_with fail
  obtain ⟨b1, hb1⟩ : ∃ b, v1.heap.size = b := ⟨_, rfl⟩
  obtain ⟨v2, hv2⟩ : ∃ v, v1.alloc (scO X) = v := ⟨_, rfl⟩
  rw [hv2, hb1]
  have hltb1 : w.heap.size < b1 := by rw [← hb1]; exact (Array.getElem?_eq_some_iff.1 R1_0.out).1
  have hrb1 : v2.heap[b1]? = some (scO X) := by rw [← hv2, ← hb1]; exact heap_alloc_new v1 _
  have hb : Below v1.heap.size v1 v2 := by rw [← hv2]; exact (Below.refl _ v1).alloc (Nat.le_refl _) _
  have R2_1 := Lib.hid hrb1
  clear hv2 hb1 hrb1
  have R2_0 := Lib.hid ((hb.block _ (Array.getElem?_eq_some_iff.1 R1_0.out).1).trans R1_0.out)
  have HE2 := Lib.hid (HE1.out.below hb)
  have HB2 := Lib.hid (HB1.out.trans (hb.mono HB1.out.size))
  clear hb
  obtain ⟨c10, c11, c12, f10, f11, f12⟩ := box_cells R2_1.out
  go_wp2_with fail
  refine (G3.out _ HE2.out).mono ?_
  rintro e v3 ⟨rfl, hb⟩
  clear c10 c11 c12 f10 f11 f12
  have R3_0 := Lib.hid ((hb.block _ (Array.getElem?_eq_some_iff.1 R2_0.out).1).trans R2_0.out)
  have R3_1 := Lib.hid ((hb.block _ (Array.getElem?_eq_some_iff.1 R2_1.out).1).trans R2_1.out)
  have HE3 := Lib.hid (HE2.out.below hb)
  have HB3 := Lib.hid (HB2.out.trans (hb.mono HB2.out.size))
  clear hb
  obtain ⟨c00, c01, c02, f00, f01, f02⟩ := box_cells R3_0.out
  obtain ⟨c10, c11, c12, f10, f11, f12⟩ := box_cells R3_1.out
  try simp only at c00 c01 c02
  go_wp2_with fail
  obtain ⟨v4, hv4⟩ : ∃ v, ((v3.setCell ⟨w.heap.size, 0, none⟩ (.int .i64 0)).setCell ⟨w.heap.size, 1, none⟩ (.int .i64 0)).setCell ⟨w.heap.size, 2, none⟩ (.string ⟨#[]⟩) = v := ⟨_, rfl⟩
  rw [hv4]
  obtain ⟨hr, hg⟩ := box_store R3_0.out (0, 0, ⟨#[]⟩)
  rw [hv4] at hr hg
  have hbs : Below w.heap.size v3 v4 := below_of_grown hg (by omega) HB3.out.size
  have r0 : v4.cell? ⟨w.heap.size, 0, none⟩ = some (.int .i64 0) := cell_of_row _ _ 0 _ _ _ hr
  have r1 : v4.cell? ⟨w.heap.size, 1, none⟩ = some (.int .i64 0) := cell_of_row _ _ 1 _ _ _ hr
  have r2 : v4.cell? ⟨w.heap.size, 2, none⟩ = some (.string ⟨#[]⟩) := cell_of_row _ _ 2 _ _ _ hr
  exact bodyPost_ret (v := .tuple #[.agg #[.int .i64 0, .int .i64 0, .string ⟨#[]⟩], .int .i64 60]) (by simp [results, Tryz.results17, go_sem, r0, r1, r2]) rfl ⟨rfl, HB3.out.trans hbs⟩
set_option maxHeartbeats 8000000 in
theorem r17_bad2_b (s : ByteArray) (X : Sc) (er f : Int) (T : ByteArray) (g1 : ∀ w, Env w → Calls Tryz.prog 34 #[.string s] w fun e w' => e = .returned (.tuple #[.agg #[.int .i64 X.1, .int .i64 X.2.1, .string X.2.2], .int .i64 er]) ∧ Below w.heap.size w w')
    (g3 : ∀ w, Env w → Calls Tryz.prog 15 #[.agg #[.int .i64 X.1, .int .i64 X.2.1, .string X.2.2]] w fun e w' => e = .returned (.tuple #[.string T, .int .i64 f]) ∧ Below w.heap.size w w')
    (hne : s.toList.isEmpty = false) (_hne2 : (!s.toList.isEmpty) = true) (hz : 0 < s.size) (_hz0 : ¬ s.size = 0) (c : UInt8) (hb0 : s[0]'hz = c) (hc : ((c.toNat : Int) == 34) = false) (he : er = 0) (hf : (f != 0) = true) (w : World) (E : Env w) :
    Calls Tryz.prog 17 #[.string s] w fun e w' => e = .returned (.tuple #[.agg #[.int .i64 0, .int .i64 0, .string ⟨#[]⟩], .int .i64 60]) ∧ Below w.heap.size w w' := by
  subst he
  have HEE := Lib.hid E
  have G1 := Lib.hid g1
  have G3 := Lib.hid g3
  clear g1 g3
  go_enter Tryz.func17, Tryz.ntmps17
  go_wp2_with fail
  obtain ⟨v0, hv0⟩ : ∃ v, w.alloc (.cells #[.int .i64 0, .int .i64 0, .string ⟨#[]⟩] 23) = v := ⟨_, rfl⟩
  have hb0 : Below w.heap.size w v0 := by rw [← hv0]; exact (Below.refl _ w).alloc (Nat.le_refl _) _
  have r0_0 : v0.heap[w.heap.size]? = some (scO (0, 0, ⟨#[]⟩)) := by rw [← hv0]; exact heap_alloc_new w _
  have R0_0 := Lib.hid r0_0
  have HE0 := Lib.hid (E.below hb0)
  have HB0 := Lib.hid hb0
  rw [hv0]
  clear hv0 hb0 r0_0 E
  refine (G1.out _ HE0.out).mono ?_
  rintro e v1 ⟨rfl, hb⟩
  have R1_0 := Lib.hid ((hb.block _ (Array.getElem?_eq_some_iff.1 R0_0.out).1).trans R0_0.out)
  have HE1 := Lib.hid (HE0.out.below hb)
  have HB1 := Lib.hid (HB0.out.trans (hb.mono HB0.out.size))
  clear hb
  go_wp2_with fail
  obtain ⟨b1, hb1⟩ : ∃ b, v1.heap.size = b := ⟨_, rfl⟩
  obtain ⟨v2, hv2⟩ : ∃ v, v1.alloc (scO X) = v := ⟨_, rfl⟩
  rw [hv2, hb1]
  have hltb1 : w.heap.size < b1 := by rw [← hb1]; exact (Array.getElem?_eq_some_iff.1 R1_0.out).1
  have hrb1 : v2.heap[b1]? = some (scO X) := by rw [← hv2, ← hb1]; exact heap_alloc_new v1 _
  have hb : Below v1.heap.size v1 v2 := by rw [← hv2]; exact (Below.refl _ v1).alloc (Nat.le_refl _) _
  have R2_1 := Lib.hid hrb1
  clear hv2 hb1 hrb1
  have R2_0 := Lib.hid ((hb.block _ (Array.getElem?_eq_some_iff.1 R1_0.out).1).trans R1_0.out)
  have HE2 := Lib.hid (HE1.out.below hb)
  have HB2 := Lib.hid (HB1.out.trans (hb.mono HB1.out.size))
  clear hb
  obtain ⟨c10, c11, c12, f10, f11, f12⟩ := box_cells R2_1.out
  go_wp2_with fail
  refine (G3.out _ HE2.out).mono ?_
  rintro e v3 ⟨rfl, hb⟩
  clear c10 c11 c12 f10 f11 f12
  have R3_0 := Lib.hid ((hb.block _ (Array.getElem?_eq_some_iff.1 R2_0.out).1).trans R2_0.out)
  have R3_1 := Lib.hid ((hb.block _ (Array.getElem?_eq_some_iff.1 R2_1.out).1).trans R2_1.out)
  have HE3 := Lib.hid (HE2.out.below hb)
  have HB3 := Lib.hid (HB2.out.trans (hb.mono HB2.out.size))
  clear hb
  obtain ⟨c00, c01, c02, f00, f01, f02⟩ := box_cells R3_0.out
  obtain ⟨c10, c11, c12, f10, f11, f12⟩ := box_cells R3_1.out
  try simp only at c00 c01 c02
  go_wp2_with fail
  obtain ⟨v4, hv4⟩ : ∃ v, ((v3.setCell ⟨w.heap.size, 0, none⟩ (.int .i64 0)).setCell ⟨w.heap.size, 1, none⟩ (.int .i64 0)).setCell ⟨w.heap.size, 2, none⟩ (.string ⟨#[]⟩) = v := ⟨_, rfl⟩
  rw [hv4]
  obtain ⟨hr, hg⟩ := box_store R3_0.out (0, 0, ⟨#[]⟩)
  rw [hv4] at hr hg
  have hbs : Below w.heap.size v3 v4 := below_of_grown hg (by omega) HB3.out.size
  have r0 : v4.cell? ⟨w.heap.size, 0, none⟩ = some (.int .i64 0) := cell_of_row _ _ 0 _ _ _ hr
  have r1 : v4.cell? ⟨w.heap.size, 1, none⟩ = some (.int .i64 0) := cell_of_row _ _ 1 _ _ _ hr
  have r2 : v4.cell? ⟨w.heap.size, 2, none⟩ = some (.string ⟨#[]⟩) := cell_of_row _ _ 2 _ _ _ hr
  exact bodyPost_ret (v := .tuple #[.agg #[.int .i64 0, .int .i64 0, .string ⟨#[]⟩], .int .i64 60]) (by simp [results, Tryz.results17, go_sem, r0, r1, r2]) rfl ⟨rfl, HB3.out.trans hbs⟩
set_option maxHeartbeats 8000000 in
theorem r17_bad3_b (s : ByteArray) (X : Sc) (er f : Int) (T : ByteArray) (g1 : ∀ w, Env w → Calls Tryz.prog 34 #[.string s] w fun e w' => e = .returned (.tuple #[.agg #[.int .i64 X.1, .int .i64 X.2.1, .string X.2.2], .int .i64 er]) ∧ Below w.heap.size w w')
    (g3 : ∀ w, Env w → Calls Tryz.prog 15 #[.agg #[.int .i64 X.1, .int .i64 X.2.1, .string X.2.2]] w fun e w' => e = .returned (.tuple #[.string T, .int .i64 f]) ∧ Below w.heap.size w w')
    (hne : s.toList.isEmpty = false) (_hne2 : (!s.toList.isEmpty) = true) (hz : 0 < s.size) (_hz0 : ¬ s.size = 0) (c : UInt8) (hb0 : s[0]'hz = c) (hc : ((c.toNat : Int) == 34) = false) (he : er = 0) (hf : f = 0) (hT : (T.toList == s.toList) = false) (_hT2 : (!(T.toList == s.toList)) = true) (w : World) (E : Env w) :
    Calls Tryz.prog 17 #[.string s] w fun e w' => e = .returned (.tuple #[.agg #[.int .i64 0, .int .i64 0, .string ⟨#[]⟩], .int .i64 60]) ∧ Below w.heap.size w w' := by
  subst he hf
  have HEE := Lib.hid E
  have G1 := Lib.hid g1
  have G3 := Lib.hid g3
  clear g1 g3
  go_enter Tryz.func17, Tryz.ntmps17
  go_wp2_with fail
  obtain ⟨v0, hv0⟩ : ∃ v, w.alloc (.cells #[.int .i64 0, .int .i64 0, .string ⟨#[]⟩] 23) = v := ⟨_, rfl⟩
  have hb0 : Below w.heap.size w v0 := by rw [← hv0]; exact (Below.refl _ w).alloc (Nat.le_refl _) _
  have r0_0 : v0.heap[w.heap.size]? = some (scO (0, 0, ⟨#[]⟩)) := by rw [← hv0]; exact heap_alloc_new w _
  have R0_0 := Lib.hid r0_0
  have HE0 := Lib.hid (E.below hb0)
  have HB0 := Lib.hid hb0
  rw [hv0]
  clear hv0 hb0 r0_0 E
  refine (G1.out _ HE0.out).mono ?_
  rintro e v1 ⟨rfl, hb⟩
  have R1_0 := Lib.hid ((hb.block _ (Array.getElem?_eq_some_iff.1 R0_0.out).1).trans R0_0.out)
  have HE1 := Lib.hid (HE0.out.below hb)
  have HB1 := Lib.hid (HB0.out.trans (hb.mono HB0.out.size))
  clear hb
  go_wp2_with fail
  obtain ⟨b1, hb1⟩ : ∃ b, v1.heap.size = b := ⟨_, rfl⟩
  obtain ⟨v2, hv2⟩ : ∃ v, v1.alloc (scO X) = v := ⟨_, rfl⟩
  rw [hv2, hb1]
  have hltb1 : w.heap.size < b1 := by rw [← hb1]; exact (Array.getElem?_eq_some_iff.1 R1_0.out).1
  have hrb1 : v2.heap[b1]? = some (scO X) := by rw [← hv2, ← hb1]; exact heap_alloc_new v1 _
  have hb : Below v1.heap.size v1 v2 := by rw [← hv2]; exact (Below.refl _ v1).alloc (Nat.le_refl _) _
  have R2_1 := Lib.hid hrb1
  clear hv2 hb1 hrb1
  have R2_0 := Lib.hid ((hb.block _ (Array.getElem?_eq_some_iff.1 R1_0.out).1).trans R1_0.out)
  have HE2 := Lib.hid (HE1.out.below hb)
  have HB2 := Lib.hid (HB1.out.trans (hb.mono HB1.out.size))
  clear hb
  obtain ⟨c10, c11, c12, f10, f11, f12⟩ := box_cells R2_1.out
  go_wp2_with fail
  refine (G3.out _ HE2.out).mono ?_
  rintro e v3 ⟨rfl, hb⟩
  clear c10 c11 c12 f10 f11 f12
  have R3_0 := Lib.hid ((hb.block _ (Array.getElem?_eq_some_iff.1 R2_0.out).1).trans R2_0.out)
  have R3_1 := Lib.hid ((hb.block _ (Array.getElem?_eq_some_iff.1 R2_1.out).1).trans R2_1.out)
  have HE3 := Lib.hid (HE2.out.below hb)
  have HB3 := Lib.hid (HB2.out.trans (hb.mono HB2.out.size))
  clear hb
  obtain ⟨c00, c01, c02, f00, f01, f02⟩ := box_cells R3_0.out
  obtain ⟨c10, c11, c12, f10, f11, f12⟩ := box_cells R3_1.out
  try simp only at c00 c01 c02
  go_wp2_with fail
  obtain ⟨v4, hv4⟩ : ∃ v, ((v3.setCell ⟨w.heap.size, 0, none⟩ (.int .i64 0)).setCell ⟨w.heap.size, 1, none⟩ (.int .i64 0)).setCell ⟨w.heap.size, 2, none⟩ (.string ⟨#[]⟩) = v := ⟨_, rfl⟩
  rw [hv4]
  obtain ⟨hr, hg⟩ := box_store R3_0.out (0, 0, ⟨#[]⟩)
  rw [hv4] at hr hg
  have hbs : Below w.heap.size v3 v4 := below_of_grown hg (by omega) HB3.out.size
  have r0 : v4.cell? ⟨w.heap.size, 0, none⟩ = some (.int .i64 0) := cell_of_row _ _ 0 _ _ _ hr
  have r1 : v4.cell? ⟨w.heap.size, 1, none⟩ = some (.int .i64 0) := cell_of_row _ _ 1 _ _ _ hr
  have r2 : v4.cell? ⟨w.heap.size, 2, none⟩ = some (.string ⟨#[]⟩) := cell_of_row _ _ 2 _ _ _ hr
  exact bodyPost_ret (v := .tuple #[.agg #[.int .i64 0, .int .i64 0, .string ⟨#[]⟩], .int .i64 60]) (by simp [results, Tryz.results17, go_sem, r0, r1, r2]) rfl ⟨rfl, HB3.out.trans hbs⟩
end Go.Proofs.YtkliecngkcjieaaGreatDoor

set_option maxRecDepth 100000
namespace Go.Proofs.YtkliecngkcjieaaGreatDoor
open Go.RowKit
open Pl On Quo Scs
theorem read_eq (s : ByteArray) (x : Sc) (e : Int) (h : saidS s = if e = 0 then some x else none) : readS s = if e = 0 ∧ textE x = 0 ∧ textT x = s then (x, 0) else (zeroS, 60) := by
  by_cases he : e = 0
  · rw [if_pos he] at h
    by_cases hr : rightS x = true
    · have hT : textT x = ofL (textL x) := by unfold textT; rw [if_pos hr]
      have hE : textE x = 0 := by unfold textE; rw [if_pos hr]
      unfold readS
      rw [h]
      simp only
      by_cases ht : textL x = s.data.toList
      · rw [if_pos ht, if_pos ⟨he, hE, by rw [hT]; exact ba_ext (by rw [ofL_list, ht])⟩]
      · rw [if_neg ht, if_neg (fun hh => ht (by
          have := hh.2.2
          rw [hT] at this
          rw [← this, ofL_list]))]
    · have hE : textE x = 60 := by unfold textE; rw [if_neg hr]
      rw [if_neg (fun hh => by rw [hE] at hh; exact absurd hh.2.1 (by decide))]
      by_cases ht : textL x = s.data.toList
      · have h1 : readS s = (x, 0) := by
          unfold readS
          rw [h]
          simp only
          rw [if_pos ht]
        exact absurd (read_ok h1).1 hr
      · unfold readS
        rw [h]
        simp only
        rw [if_neg ht]
  · rw [if_neg he] at h
    rw [if_neg (fun hh => he hh.1)]
    unfold readS
    rw [h]
theorem said_qs (s : ByteArray) (t : List UInt8) (hst : s.data.toList = 34 :: t) : saidS s = if rdE (qtR s) = 0 then some (3, 0, rdT (qtR s)) else none := by
  have hh : s.data.toList.head? = some 34 := by rw [hst]; rfl
  unfold saidS qtR
  rw [if_pos hh]
  by_cases hv : Go.Lib.validD s.data.toList = true
  · rw [if_pos hv, if_pos hv]
    cases hr : readL (s.data.toList.drop 1) with
    | ok T n =>
      simp only [Rd.put, rdE, rdT, if_true, List.nil_append]
      rfl
    | err e =>
      have := readL_err _ _ _ (Nat.le_refl _) hr
      have h0 : ¬ rdE ((Rd.err e).put [] 1) = 0 := by
        show ¬ e = 0
        omega
      exact (if_neg h0).symm
  · rw [if_neg hv, if_neg hv]
    rfl
theorem beq_ba (T s : ByteArray) : (T.toList == s.toList) = decide (T = s) := by
  rw [ByteArray.toList_eq, ByteArray.toList_eq]
  by_cases h : T = s
  · subst h; simp
  · have h2 : ¬ T.data.toList = s.data.toList := fun e => h (ba_ext e)
    rw [decide_eq_false h]
    simp only [beq_eq_false_iff_ne]
    exact h2
theorem isE (s : ByteArray) : s.toList.isEmpty = decide (s.size = 0) := by
  rw [ByteArray.toList_eq, ← len_list s]
  cases s.data.toList <;> simp
theorem qt_size (s : ByteArray) (t : List UInt8) (_hst : s.data.toList = 34 :: t) : (rdT (qtR s)).size ≤ s.size := by
  unfold qtR
  split
  · cases hr : readL (s.data.toList.drop 1) with
    | ok T n =>
      have h1 := readL_len _ _ _ _ (Nat.le_refl _) hr
      rw [List.length_drop, len_list] at h1
      simp only [Rd.put, rdT, List.nil_append]
      show T.toArray.size ≤ _
      rw [List.size_toArray]
      omega
    | err e => exact Nat.zero_le _
  · exact Nat.zero_le _
theorem bne_of {e : Int} (h : ¬ e = 0) : (e != 0) = true := by simp [h]
theorem Read17_any (s : ByteArray) (hs : s.size ≤ 1000000) (w : World) (E : Env w) : Calls Tryz.prog 17 #[.string s] w fun e w' => e = .returned (.tuple #[aggS (readS s).1, .int .i64 (readS s).2]) ∧ Below w.heap.size w w' := by
  have hg1 := fun w E => Resolve5_any s (by omega) w E
  unfold Res.val at hg1
  by_cases hq : s.data.toList.head? = some 34
  · obtain ⟨t, ht⟩ : ∃ t, s.data.toList = 34 :: t := by
      cases hl : s.data.toList with
      | nil => rw [hl] at hq; cases hq
      | cons b t =>
        rw [hl] at hq
        injection hq with h
        exact ⟨t, by rw [h]⟩
    have hz : 0 < s.size := by rw [← len_list, ht]; simp
    have hne : s.toList.isEmpty = false := by rw [isE]; exact decide_eq_false (by omega)
    have hne2 : (!s.toList.isEmpty) = true := by rw [hne]; rfl
    have hb0 : s[0]'hz = 34 := by rw [← atD s 0 hz, ht]; rfl
    rw [read_eq s (3, 0, rdT (qtR s)) (rdE (qtR s)) (said_qs s t ht)]
    have hU := qt_size s t ht
    have g2 := fun w => Read35_any s t ht hs w
    have g3 := fun w E => Text15_any (3, 0, rdT (qtR s)) (by show (rdT (qtR s)).size ≤ _; omega) w E
    obtain ⟨U, hUU⟩ : ∃ U, rdT (qtR s) = U := ⟨_, rfl⟩
    obtain ⟨N, hN⟩ : ∃ U, rdN (qtR s) = U := ⟨_, rfl⟩
    obtain ⟨er, her⟩ : ∃ U, rdE (qtR s) = U := ⟨_, rfl⟩
    rw [hUU, hN, her] at g2
    rw [hUU] at g3
    rw [hUU, her]
    obtain ⟨T, hT⟩ : ∃ T, textT (3, 0, U) = T := ⟨_, rfl⟩
    obtain ⟨f, hf⟩ : ∃ T, textE (3, 0, U) = T := ⟨_, rfl⟩
    rw [hT, hf] at g3 ⊢
    by_cases h1 : er = 0
    · by_cases h2 : f = 0
      · by_cases h3 : T = s
        · rw [if_pos ⟨h1, h2, h3⟩]
          exact r17_good_q s ((resolveR s).k, (resolveR s).n, (resolveR s).s) _ N er f U T hg1 g2 g3 hne hne2 hz (by omega) hb0 rfl h1 h2 (by rw [beq_ba]; exact decide_eq_true h3) (by rw [beq_ba, decide_eq_true h3]; rfl) w E
        · rw [if_neg (fun hh => h3 hh.2.2)]
          exact r17_bad3_q s ((resolveR s).k, (resolveR s).n, (resolveR s).s) _ N er f U T hg1 g2 g3 hne hne2 hz (by omega) hb0 rfl h1 h2 (by rw [beq_ba]; exact decide_eq_false h3) (by rw [beq_ba, decide_eq_false h3]; rfl) w E
      · rw [if_neg (fun hh => h2 hh.2.1)]
        exact r17_bad2_q s ((resolveR s).k, (resolveR s).n, (resolveR s).s) _ N er f U T hg1 g2 g3 hne hne2 hz (by omega) hb0 rfl h1 (bne_of h2) w E
    · rw [if_neg (fun hh => h1 hh.1)]
      exact r17_bad1_q s ((resolveR s).k, (resolveR s).n, (resolveR s).s) _ N er f U T hg1 g2 g3 hne hne2 hz (by omega) hb0 rfl (bne_of h1) w E
  · have hsd : saidS s = if (resolveR s).e = 0 then some ((resolveR s).k, (resolveR s).n, (resolveR s).s) else none := by
      unfold saidS
      rw [if_neg hq]
    rw [read_eq s _ _ hsd]
    have hU := res_size s
    obtain ⟨X, hX⟩ : ∃ X : Sc, ((resolveR s).k, (resolveR s).n, (resolveR s).s) = X := ⟨_, rfl⟩
    have hX1 : (resolveR s).k = X.1 := by rw [← hX]
    have hX2 : (resolveR s).n = X.2.1 := by rw [← hX]
    have hX3 : (resolveR s).s = X.2.2 := by rw [← hX]
    obtain ⟨er, her⟩ : ∃ U, (resolveR s).e = U := ⟨_, rfl⟩
    rw [hX1, hX2, hX3, her] at hg1
    rw [hX3] at hU
    rw [hX, her]
    have g3 := fun w E => Text15_any X (by omega) w E
    obtain ⟨T, hT⟩ : ∃ T, textT X = T := ⟨_, rfl⟩
    obtain ⟨f, hf⟩ : ∃ T, textE X = T := ⟨_, rfl⟩
    rw [hT, hf] at g3 ⊢
    by_cases h0 : s.size = 0
    · have hne : s.toList.isEmpty = true := by rw [isE]; exact decide_eq_true h0
      have hne2 : (!s.toList.isEmpty) = false := by rw [hne]; rfl
      by_cases h1 : er = 0
      · by_cases h2 : f = 0
        · by_cases h3 : T = s
          · rw [if_pos ⟨h1, h2, h3⟩]
            exact r17_good_a s X er f T hg1 g3 hne hne2 h1 h2 (by rw [beq_ba]; exact decide_eq_true h3) (by rw [beq_ba, decide_eq_true h3]; rfl) w E
          · rw [if_neg (fun hh => h3 hh.2.2)]
            exact r17_bad3_a s X er f T hg1 g3 hne hne2 h1 h2 (by rw [beq_ba]; exact decide_eq_false h3) (by rw [beq_ba, decide_eq_false h3]; rfl) w E
        · rw [if_neg (fun hh => h2 hh.2.1)]
          exact r17_bad2_a s X er f T hg1 g3 hne hne2 h1 (bne_of h2) w E
      · rw [if_neg (fun hh => h1 hh.1)]
        exact r17_bad1_a s X er f T hg1 g3 hne hne2 (bne_of h1) w E
    · have hz : 0 < s.size := by omega
      have hne : s.toList.isEmpty = false := by rw [isE]; exact decide_eq_false h0
      have hne2 : (!s.toList.isEmpty) = true := by rw [hne]; rfl
      obtain ⟨c, t, hc, hl⟩ := head_of s hz
      have hcz : ((c.toNat : Int) == 34) = false := by
        have h34 : ¬ (c.toNat : Int) = 34 := fun h => hq (by rw [hl, show c = 34 from UInt8.toNat_inj.1 (by show c.toNat = 34; omega)]; rfl)
        simp [h34]
      by_cases h1 : er = 0
      · by_cases h2 : f = 0
        · by_cases h3 : T = s
          · rw [if_pos ⟨h1, h2, h3⟩]
            exact r17_good_b s X er f T hg1 g3 hne hne2 hz h0 c hc hcz h1 h2 (by rw [beq_ba]; exact decide_eq_true h3) (by rw [beq_ba, decide_eq_true h3]; rfl) w E
          · rw [if_neg (fun hh => h3 hh.2.2)]
            exact r17_bad3_b s X er f T hg1 g3 hne hne2 hz h0 c hc hcz h1 h2 (by rw [beq_ba]; exact decide_eq_false h3) (by rw [beq_ba, decide_eq_false h3]; rfl) w E
        · rw [if_neg (fun hh => h2 hh.2.1)]
          exact r17_bad2_b s X er f T hg1 g3 hne hne2 hz h0 c hc hcz h1 (bne_of h2) w E
      · rw [if_neg (fun hh => h1 hh.1)]
        exact r17_bad1_b s X er f T hg1 g3 hne hne2 hz h0 c hc hcz (bne_of h1) w E
end Go.Proofs.YtkliecngkcjieaaGreatDoor
