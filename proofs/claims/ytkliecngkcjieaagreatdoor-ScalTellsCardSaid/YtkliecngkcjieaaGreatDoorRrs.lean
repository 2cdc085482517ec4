/- The reference's value of a text is the program's, or its error. Conditions: the library's tables lie as they are laid; the text is not too long. -/
import Derived.Test.YtkliecngkcjieaaGreatDoorRqe
import Derived.Test.YtkliecngkcjieaaGreatDoorDoor
set_option maxRecDepth 100000
namespace Go.Proofs.YtkliecngkcjieaaGreatDoor
open Go.RowKit Go.Shelf
open Pl Seqo On
theorem May15_any (s : ByteArray) (hs : s.size ≤ 1099511627776) (flow : Bool) (w : World) (_E : Env w) : Calls Tryz.prog 52 #[.string s, .bool flow] w fun e w' => e = .returned (.bool (mayR flow s.data.toList)) ∧ Below w.heap.size w w' := by
  have h := May5_any s hs flow w
  rw [mayS_eq] at h
  exact h
theorem looks21_any (s : ByteArray) (hs : s.size ≤ 1099511627776) (w : World) : Calls Tryz.prog 53 #[.string s] w fun e w' => e = .returned (.bool (looksR s.data.toList)) ∧ w = w' := by
  have h := looks5_any s hs w
  rw [looksS_eq] at h
  exact h
theorem number22_any (s : ByteArray) (hs : s.size ≤ 1099511627776) (w : World) : Calls Tryz.prog 54 #[.string s] w fun e w' => e = .returned (numV (numB s.data.toList)) ∧ w = w' := by
  have h := number5_any s hs w
  rw [numS_eq] at h
  exact h
theorem lookW_ne {l : List UInt8} : ∀ (ps : List (List UInt8 × Val)), lookW l ps = none → ∀ p ∈ ps, l ≠ p.1
  | [], _, p, hp => by cases hp
  | (k, v) :: t, h, p, hp => by
    unfold lookW at h
    split at h
    · cases h
    · rename_i hne
      rcases List.mem_cons.1 hp with rfl | hp
      · exact hne
      · exact lookW_ne t h p hp
theorem Res5_no (s : ByteArray) (hs : s.size ≤ 1099511627776) (w : World) (E : Env w) (hne : s.data.toList ≠ []) (hm : mayR false s.data.toList = false) :
    Calls Tryz.prog 34 #[.string s] w fun e w' => e = .returned (.tuple #[.agg #[.int .i64 0, .int .i64 0, .string ⟨#[]⟩], .int .i64 51]) ∧ Below w.heap.size w w' := by
  have hM := May15_any s hs false _ (E.below ((Below.refl _ w).alloc (Nat.le_refl _) zero3))
  rw [hm] at hM
  have HM := Lib.hid hM
  have h1 : s.toList.isEmpty = false := by rw [ByteArray.toList_eq]; simpa using hne
  have h2 : (!s.toList.isEmpty) = true := by rw [h1]; rfl
  clear E hM hne hm
  go_enter Tryz.func34, Tryz.ntmps34
  go_wp2_with fail
  refine HM.out.mono ?_
  rintro e w1 ⟨rfl, hb1⟩
  obtain ⟨hx1, hz1, hb⟩ := res_cells hb1
  have HB1 := Lib.hid hb
  have c0 := cell_of_row _ _ 0 _ _ _ hx1
  have c1 := cell_of_row _ _ 1 _ _ _ hx1
  have c2 := cell_of_row _ _ 2 _ _ _ hx1
  have f0 := frozen_of_row _ _ 0 _ _ hx1
  have f1 := frozen_of_row _ _ 1 _ _ hx1
  have f2 := frozen_of_row _ _ 2 _ _ hx1
  simp at c0 c1 c2
  have HX1 := Lib.hid hx1
  clear hb1 hx1 hb
  go_wp2_with fail
  have hr := store3 HX1.out (.int .i64 0) (.int .i64 0) (.string ⟨#[]⟩)
  have hbb := ((HB1.out.setCell (p := ⟨w.heap.size, 0, none⟩) (Nat.le_refl _) (.int .i64 0)).setCell (p := ⟨w.heap.size, 1, none⟩) (Nat.le_refl _) (.int .i64 0)).setCell (p := ⟨w.heap.size, 2, none⟩) (Nat.le_refl _) (.string ⟨#[]⟩)
  clear c0 c1 c2 f0 f1 f2
  generalize (((w1).setCell ⟨w.heap.size, 0, none⟩ (.int .i64 0)).setCell ⟨w.heap.size, 1, none⟩ (.int .i64 0)).setCell ⟨w.heap.size, 2, none⟩ (.string ⟨#[]⟩) = wz at hr hbb ⊢
  have r0 := cell_of_row _ _ 0 _ _ _ hr
  have r1 := cell_of_row _ _ 1 _ _ _ hr
  have r2 := cell_of_row _ _ 2 _ _ _ hr
  exact bodyPost_ret (v := .tuple #[.agg #[.int .i64 0, .int .i64 0, .string ⟨#[]⟩], .int .i64 51]) (by simp [results, Tryz.results34, go_sem, r0, r1, r2]) rfl ⟨rfl, hbb⟩
theorem Res5_w0 (s : ByteArray) (_hs : s.size ≤ 1099511627776) (w : World) (_E : Env w) (hl : s.data.toList = []) :
    Calls Tryz.prog 34 #[.string s] w fun e w' => e = .returned (.tuple #[.agg #[.int .i64 0, .int .i64 0, .string ⟨#[]⟩], .int .i64 0]) ∧ Below w.heap.size w w' := by
  have h1 : s.toList.isEmpty = true := by rw [ByteArray.toList_eq, hl]; rfl
  have h2 : (!s.toList.isEmpty) = false := by rw [h1]; rfl
  have hx1 : (w.alloc zero3).heap[w.heap.size]? = some zero3 := heap_alloc_new w _
  have HB1 := Lib.hid ((Below.refl _ w).alloc (Nat.le_refl _) zero3)
  have HX1 := Lib.hid hx1
  clear hl hx1
  go_enter Tryz.func34, Tryz.ntmps34
  go_wp2_with fail
  exact bodyPost_ret (v := .tuple #[.agg #[.int .i64 0, .int .i64 0, .string ⟨#[]⟩], .int .i64 0]) (by simp [results, Tryz.results34, go_sem]) rfl ⟨rfl, HB1.out⟩
theorem mayw1 : mayR false [110, 117, 108, 108] = true := by decide +kernel
theorem Res5_w1 (s : ByteArray) (hs : s.size ≤ 1099511627776) (w : World) (E : Env w) (hl : s.data.toList = [110, 117, 108, 108]) :
    Calls Tryz.prog 34 #[.string s] w fun e w' => e = .returned (.tuple #[.agg #[.int .i64 0, .int .i64 0, .string ⟨#[]⟩], .int .i64 0]) ∧ Below w.heap.size w w' := by
  have hm : mayR false s.data.toList = true := by rw [hl]; exact mayw1
  have hM := May15_any s hs false _ (E.below ((Below.refl _ w).alloc (Nat.le_refl _) zero3))
  rw [hm] at hM
  have HM := Lib.hid hM
  have h1 : s.toList.isEmpty = false := by rw [ByteArray.toList_eq, hl]; rfl
  have h2 : (!s.toList.isEmpty) = true := by rw [h1]; rfl
  have q1 : (s.toList == [110, 117, 108, 108]) = true := by rw [ByteArray.toList_eq, hl]; rfl
  clear E hM hm hl
  go_enter Tryz.func34, Tryz.ntmps34
  go_wp2_with fail
  refine HM.out.mono ?_
  rintro e w1 ⟨rfl, hb1⟩
  obtain ⟨hx1, hz1, hb⟩ := res_cells hb1
  have HB1 := Lib.hid hb
  have c0 := cell_of_row _ _ 0 _ _ _ hx1
  have c1 := cell_of_row _ _ 1 _ _ _ hx1
  have c2 := cell_of_row _ _ 2 _ _ _ hx1
  have f0 := frozen_of_row _ _ 0 _ _ hx1
  have f1 := frozen_of_row _ _ 1 _ _ hx1
  have f2 := frozen_of_row _ _ 2 _ _ hx1
  simp at c0 c1 c2
  have HX1 := Lib.hid hx1
  clear hb1 hx1 hb
  go_wp2_with fail
  have hr := store3 HX1.out (.int .i64 0) (.int .i64 0) (.string ⟨#[]⟩)
  have hbb := ((HB1.out.setCell (p := ⟨w.heap.size, 0, none⟩) (Nat.le_refl _) (.int .i64 0)).setCell (p := ⟨w.heap.size, 1, none⟩) (Nat.le_refl _) (.int .i64 0)).setCell (p := ⟨w.heap.size, 2, none⟩) (Nat.le_refl _) (.string ⟨#[]⟩)
  clear c0 c1 c2 f0 f1 f2
  generalize (((w1).setCell ⟨w.heap.size, 0, none⟩ (.int .i64 0)).setCell ⟨w.heap.size, 1, none⟩ (.int .i64 0)).setCell ⟨w.heap.size, 2, none⟩ (.string ⟨#[]⟩) = wz at hr hbb ⊢
  have r0 := cell_of_row _ _ 0 _ _ _ hr
  have r1 := cell_of_row _ _ 1 _ _ _ hr
  have r2 := cell_of_row _ _ 2 _ _ _ hr
  exact bodyPost_ret (v := .tuple #[.agg #[.int .i64 0, .int .i64 0, .string ⟨#[]⟩], .int .i64 0]) (by simp [results, Tryz.results34, go_sem, r0, r1, r2]) rfl ⟨rfl, hbb⟩
theorem mayw2 : mayR false [126] = true := by decide +kernel
theorem Res5_w2 (s : ByteArray) (hs : s.size ≤ 1099511627776) (w : World) (E : Env w) (hl : s.data.toList = [126]) :
    Calls Tryz.prog 34 #[.string s] w fun e w' => e = .returned (.tuple #[.agg #[.int .i64 0, .int .i64 0, .string ⟨#[]⟩], .int .i64 0]) ∧ Below w.heap.size w w' := by
  have hm : mayR false s.data.toList = true := by rw [hl]; exact mayw2
  have hM := May15_any s hs false _ (E.below ((Below.refl _ w).alloc (Nat.le_refl _) zero3))
  rw [hm] at hM
  have HM := Lib.hid hM
  have h1 : s.toList.isEmpty = false := by rw [ByteArray.toList_eq, hl]; rfl
  have h2 : (!s.toList.isEmpty) = true := by rw [h1]; rfl
  have q1 : (s.toList == [110, 117, 108, 108]) = false := by rw [ByteArray.toList_eq, hl]; rfl
  have q2 : (s.toList == [126]) = true := by rw [ByteArray.toList_eq, hl]; rfl
  clear E hM hm hl
  go_enter Tryz.func34, Tryz.ntmps34
  go_wp2_with fail
  refine HM.out.mono ?_
  rintro e w1 ⟨rfl, hb1⟩
  obtain ⟨hx1, hz1, hb⟩ := res_cells hb1
  have HB1 := Lib.hid hb
  have c0 := cell_of_row _ _ 0 _ _ _ hx1
  have c1 := cell_of_row _ _ 1 _ _ _ hx1
  have c2 := cell_of_row _ _ 2 _ _ _ hx1
  have f0 := frozen_of_row _ _ 0 _ _ hx1
  have f1 := frozen_of_row _ _ 1 _ _ hx1
  have f2 := frozen_of_row _ _ 2 _ _ hx1
  simp at c0 c1 c2
  have HX1 := Lib.hid hx1
  clear hb1 hx1 hb
  go_wp2_with fail
  have hr := store3 HX1.out (.int .i64 0) (.int .i64 0) (.string ⟨#[]⟩)
  have hbb := ((HB1.out.setCell (p := ⟨w.heap.size, 0, none⟩) (Nat.le_refl _) (.int .i64 0)).setCell (p := ⟨w.heap.size, 1, none⟩) (Nat.le_refl _) (.int .i64 0)).setCell (p := ⟨w.heap.size, 2, none⟩) (Nat.le_refl _) (.string ⟨#[]⟩)
  clear c0 c1 c2 f0 f1 f2
  generalize (((w1).setCell ⟨w.heap.size, 0, none⟩ (.int .i64 0)).setCell ⟨w.heap.size, 1, none⟩ (.int .i64 0)).setCell ⟨w.heap.size, 2, none⟩ (.string ⟨#[]⟩) = wz at hr hbb ⊢
  have r0 := cell_of_row _ _ 0 _ _ _ hr
  have r1 := cell_of_row _ _ 1 _ _ _ hr
  have r2 := cell_of_row _ _ 2 _ _ _ hr
  exact bodyPost_ret (v := .tuple #[.agg #[.int .i64 0, .int .i64 0, .string ⟨#[]⟩], .int .i64 0]) (by simp [results, Tryz.results34, go_sem, r0, r1, r2]) rfl ⟨rfl, hbb⟩
theorem mayw3 : mayR false [116, 114, 117, 101] = true := by decide +kernel
theorem Res5_w3 (s : ByteArray) (hs : s.size ≤ 1099511627776) (w : World) (E : Env w) (hl : s.data.toList = [116, 114, 117, 101]) :
    Calls Tryz.prog 34 #[.string s] w fun e w' => e = .returned (.tuple #[.agg #[.int .i64 1, .int .i64 1, .string ⟨#[]⟩], .int .i64 0]) ∧ Below w.heap.size w w' := by
  have hm : mayR false s.data.toList = true := by rw [hl]; exact mayw3
  have hM := May15_any s hs false _ (E.below ((Below.refl _ w).alloc (Nat.le_refl _) zero3))
  rw [hm] at hM
  have HM := Lib.hid hM
  have h1 : s.toList.isEmpty = false := by rw [ByteArray.toList_eq, hl]; rfl
  have h2 : (!s.toList.isEmpty) = true := by rw [h1]; rfl
  have q1 : (s.toList == [110, 117, 108, 108]) = false := by rw [ByteArray.toList_eq, hl]; rfl
  have q2 : (s.toList == [126]) = false := by rw [ByteArray.toList_eq, hl]; rfl
  have q3 : (s.toList == [116, 114, 117, 101]) = true := by rw [ByteArray.toList_eq, hl]; rfl
  clear E hM hm hl
  go_enter Tryz.func34, Tryz.ntmps34
  go_wp2_with fail
  refine HM.out.mono ?_
  rintro e w1 ⟨rfl, hb1⟩
  obtain ⟨hx1, hz1, hb⟩ := res_cells hb1
  have HB1 := Lib.hid hb
  have c0 := cell_of_row _ _ 0 _ _ _ hx1
  have c1 := cell_of_row _ _ 1 _ _ _ hx1
  have c2 := cell_of_row _ _ 2 _ _ _ hx1
  have f0 := frozen_of_row _ _ 0 _ _ hx1
  have f1 := frozen_of_row _ _ 1 _ _ hx1
  have f2 := frozen_of_row _ _ 2 _ _ hx1
  simp at c0 c1 c2
  have HX1 := Lib.hid hx1
  clear hb1 hx1 hb
  go_wp2_with fail
  have hr := store3 HX1.out (.int .i64 1) (.int .i64 1) (.string ⟨#[]⟩)
  have hbb := ((HB1.out.setCell (p := ⟨w.heap.size, 0, none⟩) (Nat.le_refl _) (.int .i64 1)).setCell (p := ⟨w.heap.size, 1, none⟩) (Nat.le_refl _) (.int .i64 1)).setCell (p := ⟨w.heap.size, 2, none⟩) (Nat.le_refl _) (.string ⟨#[]⟩)
  clear c0 c1 c2 f0 f1 f2
  generalize (((w1).setCell ⟨w.heap.size, 0, none⟩ (.int .i64 1)).setCell ⟨w.heap.size, 1, none⟩ (.int .i64 1)).setCell ⟨w.heap.size, 2, none⟩ (.string ⟨#[]⟩) = wz at hr hbb ⊢
  have r0 := cell_of_row _ _ 0 _ _ _ hr
  have r1 := cell_of_row _ _ 1 _ _ _ hr
  have r2 := cell_of_row _ _ 2 _ _ _ hr
  exact bodyPost_ret (v := .tuple #[.agg #[.int .i64 1, .int .i64 1, .string ⟨#[]⟩], .int .i64 0]) (by simp [results, Tryz.results34, go_sem, r0, r1, r2]) rfl ⟨rfl, hbb⟩
theorem mayw4 : mayR false [102, 97, 108, 115, 101] = true := by decide +kernel
theorem Res5_w4 (s : ByteArray) (hs : s.size ≤ 1099511627776) (w : World) (E : Env w) (hl : s.data.toList = [102, 97, 108, 115, 101]) :
    Calls Tryz.prog 34 #[.string s] w fun e w' => e = .returned (.tuple #[.agg #[.int .i64 1, .int .i64 0, .string ⟨#[]⟩], .int .i64 0]) ∧ Below w.heap.size w w' := by
  have hm : mayR false s.data.toList = true := by rw [hl]; exact mayw4
  have hM := May15_any s hs false _ (E.below ((Below.refl _ w).alloc (Nat.le_refl _) zero3))
  rw [hm] at hM
  have HM := Lib.hid hM
  have h1 : s.toList.isEmpty = false := by rw [ByteArray.toList_eq, hl]; rfl
  have h2 : (!s.toList.isEmpty) = true := by rw [h1]; rfl
  have q1 : (s.toList == [110, 117, 108, 108]) = false := by rw [ByteArray.toList_eq, hl]; rfl
  have q2 : (s.toList == [126]) = false := by rw [ByteArray.toList_eq, hl]; rfl
  have q3 : (s.toList == [116, 114, 117, 101]) = false := by rw [ByteArray.toList_eq, hl]; rfl
  have q4 : (s.toList == [102, 97, 108, 115, 101]) = true := by rw [ByteArray.toList_eq, hl]; rfl
  clear E hM hm hl
  go_enter Tryz.func34, Tryz.ntmps34
  go_wp2_with fail
  refine HM.out.mono ?_
  rintro e w1 ⟨rfl, hb1⟩
  obtain ⟨hx1, hz1, hb⟩ := res_cells hb1
  have HB1 := Lib.hid hb
  have c0 := cell_of_row _ _ 0 _ _ _ hx1
  have c1 := cell_of_row _ _ 1 _ _ _ hx1
  have c2 := cell_of_row _ _ 2 _ _ _ hx1
  have f0 := frozen_of_row _ _ 0 _ _ hx1
  have f1 := frozen_of_row _ _ 1 _ _ hx1
  have f2 := frozen_of_row _ _ 2 _ _ hx1
  simp at c0 c1 c2
  have HX1 := Lib.hid hx1
  clear hb1 hx1 hb
  go_wp2_with fail
  have hr := store3 HX1.out (.int .i64 1) (.int .i64 0) (.string ⟨#[]⟩)
  have hbb := ((HB1.out.setCell (p := ⟨w.heap.size, 0, none⟩) (Nat.le_refl _) (.int .i64 1)).setCell (p := ⟨w.heap.size, 1, none⟩) (Nat.le_refl _) (.int .i64 0)).setCell (p := ⟨w.heap.size, 2, none⟩) (Nat.le_refl _) (.string ⟨#[]⟩)
  clear c0 c1 c2 f0 f1 f2
  generalize (((w1).setCell ⟨w.heap.size, 0, none⟩ (.int .i64 1)).setCell ⟨w.heap.size, 1, none⟩ (.int .i64 0)).setCell ⟨w.heap.size, 2, none⟩ (.string ⟨#[]⟩) = wz at hr hbb ⊢
  have r0 := cell_of_row _ _ 0 _ _ _ hr
  have r1 := cell_of_row _ _ 1 _ _ _ hr
  have r2 := cell_of_row _ _ 2 _ _ _ hr
  exact bodyPost_ret (v := .tuple #[.agg #[.int .i64 1, .int .i64 0, .string ⟨#[]⟩], .int .i64 0]) (by simp [results, Tryz.results34, go_sem, r0, r1, r2]) rfl ⟨rfl, hbb⟩
theorem mayw5 : mayR false [46, 105, 110, 102] = true := by decide +kernel
theorem Res5_w5 (s : ByteArray) (hs : s.size ≤ 1099511627776) (w : World) (E : Env w) (hl : s.data.toList = [46, 105, 110, 102]) :
    Calls Tryz.prog 34 #[.string s] w fun e w' => e = .returned (.tuple #[.agg #[.int .i64 0, .int .i64 0, .string ⟨#[]⟩], .int .i64 50]) ∧ Below w.heap.size w w' := by
  have hm : mayR false s.data.toList = true := by rw [hl]; exact mayw5
  have hM := May15_any s hs false _ (E.below ((Below.refl _ w).alloc (Nat.le_refl _) zero3))
  rw [hm] at hM
  have HM := Lib.hid hM
  have h1 : s.toList.isEmpty = false := by rw [ByteArray.toList_eq, hl]; rfl
  have h2 : (!s.toList.isEmpty) = true := by rw [h1]; rfl
  have q1 : (s.toList == [110, 117, 108, 108]) = false := by rw [ByteArray.toList_eq, hl]; rfl
  have q2 : (s.toList == [126]) = false := by rw [ByteArray.toList_eq, hl]; rfl
  have q3 : (s.toList == [116, 114, 117, 101]) = false := by rw [ByteArray.toList_eq, hl]; rfl
  have q4 : (s.toList == [102, 97, 108, 115, 101]) = false := by rw [ByteArray.toList_eq, hl]; rfl
  have q5 : (s.toList == [46, 105, 110, 102]) = true := by rw [ByteArray.toList_eq, hl]; rfl
  clear E hM hm hl
  go_enter Tryz.func34, Tryz.ntmps34
  go_wp2_with fail
  refine HM.out.mono ?_
  rintro e w1 ⟨rfl, hb1⟩
  obtain ⟨hx1, hz1, hb⟩ := res_cells hb1
  have HB1 := Lib.hid hb
  have c0 := cell_of_row _ _ 0 _ _ _ hx1
  have c1 := cell_of_row _ _ 1 _ _ _ hx1
  have c2 := cell_of_row _ _ 2 _ _ _ hx1
  have f0 := frozen_of_row _ _ 0 _ _ hx1
  have f1 := frozen_of_row _ _ 1 _ _ hx1
  have f2 := frozen_of_row _ _ 2 _ _ hx1
  simp at c0 c1 c2
  have HX1 := Lib.hid hx1
  clear hb1 hx1 hb
  go_wp2_with fail
  have hr := store3 HX1.out (.int .i64 0) (.int .i64 0) (.string ⟨#[]⟩)
  have hbb := ((HB1.out.setCell (p := ⟨w.heap.size, 0, none⟩) (Nat.le_refl _) (.int .i64 0)).setCell (p := ⟨w.heap.size, 1, none⟩) (Nat.le_refl _) (.int .i64 0)).setCell (p := ⟨w.heap.size, 2, none⟩) (Nat.le_refl _) (.string ⟨#[]⟩)
  clear c0 c1 c2 f0 f1 f2
  generalize (((w1).setCell ⟨w.heap.size, 0, none⟩ (.int .i64 0)).setCell ⟨w.heap.size, 1, none⟩ (.int .i64 0)).setCell ⟨w.heap.size, 2, none⟩ (.string ⟨#[]⟩) = wz at hr hbb ⊢
  have r0 := cell_of_row _ _ 0 _ _ _ hr
  have r1 := cell_of_row _ _ 1 _ _ _ hr
  have r2 := cell_of_row _ _ 2 _ _ _ hr
  exact bodyPost_ret (v := .tuple #[.agg #[.int .i64 0, .int .i64 0, .string ⟨#[]⟩], .int .i64 50]) (by simp [results, Tryz.results34, go_sem, r0, r1, r2]) rfl ⟨rfl, hbb⟩
theorem mayw6 : mayR false [43, 46, 105, 110, 102] = true := by decide +kernel
theorem Res5_w6 (s : ByteArray) (hs : s.size ≤ 1099511627776) (w : World) (E : Env w) (hl : s.data.toList = [43, 46, 105, 110, 102]) :
    Calls Tryz.prog 34 #[.string s] w fun e w' => e = .returned (.tuple #[.agg #[.int .i64 0, .int .i64 0, .string ⟨#[]⟩], .int .i64 50]) ∧ Below w.heap.size w w' := by
  have hm : mayR false s.data.toList = true := by rw [hl]; exact mayw6
  have hM := May15_any s hs false _ (E.below ((Below.refl _ w).alloc (Nat.le_refl _) zero3))
  rw [hm] at hM
  have HM := Lib.hid hM
  have h1 : s.toList.isEmpty = false := by rw [ByteArray.toList_eq, hl]; rfl
  have h2 : (!s.toList.isEmpty) = true := by rw [h1]; rfl
  have q1 : (s.toList == [110, 117, 108, 108]) = false := by rw [ByteArray.toList_eq, hl]; rfl
  have q2 : (s.toList == [126]) = false := by rw [ByteArray.toList_eq, hl]; rfl
  have q3 : (s.toList == [116, 114, 117, 101]) = false := by rw [ByteArray.toList_eq, hl]; rfl
  have q4 : (s.toList == [102, 97, 108, 115, 101]) = false := by rw [ByteArray.toList_eq, hl]; rfl
  have q5 : (s.toList == [46, 105, 110, 102]) = false := by rw [ByteArray.toList_eq, hl]; rfl
  have q6 : (s.toList == [43, 46, 105, 110, 102]) = true := by rw [ByteArray.toList_eq, hl]; rfl
  clear E hM hm hl
  go_enter Tryz.func34, Tryz.ntmps34
  go_wp2_with fail
  refine HM.out.mono ?_
  rintro e w1 ⟨rfl, hb1⟩
  obtain ⟨hx1, hz1, hb⟩ := res_cells hb1
  have HB1 := Lib.hid hb
  have c0 := cell_of_row _ _ 0 _ _ _ hx1
  have c1 := cell_of_row _ _ 1 _ _ _ hx1
  have c2 := cell_of_row _ _ 2 _ _ _ hx1
  have f0 := frozen_of_row _ _ 0 _ _ hx1
  have f1 := frozen_of_row _ _ 1 _ _ hx1
  have f2 := frozen_of_row _ _ 2 _ _ hx1
  simp at c0 c1 c2
  have HX1 := Lib.hid hx1
  clear hb1 hx1 hb
  go_wp2_with fail
  have hr := store3 HX1.out (.int .i64 0) (.int .i64 0) (.string ⟨#[]⟩)
  have hbb := ((HB1.out.setCell (p := ⟨w.heap.size, 0, none⟩) (Nat.le_refl _) (.int .i64 0)).setCell (p := ⟨w.heap.size, 1, none⟩) (Nat.le_refl _) (.int .i64 0)).setCell (p := ⟨w.heap.size, 2, none⟩) (Nat.le_refl _) (.string ⟨#[]⟩)
  clear c0 c1 c2 f0 f1 f2
  generalize (((w1).setCell ⟨w.heap.size, 0, none⟩ (.int .i64 0)).setCell ⟨w.heap.size, 1, none⟩ (.int .i64 0)).setCell ⟨w.heap.size, 2, none⟩ (.string ⟨#[]⟩) = wz at hr hbb ⊢
  have r0 := cell_of_row _ _ 0 _ _ _ hr
  have r1 := cell_of_row _ _ 1 _ _ _ hr
  have r2 := cell_of_row _ _ 2 _ _ _ hr
  exact bodyPost_ret (v := .tuple #[.agg #[.int .i64 0, .int .i64 0, .string ⟨#[]⟩], .int .i64 50]) (by simp [results, Tryz.results34, go_sem, r0, r1, r2]) rfl ⟨rfl, hbb⟩
theorem mayw7 : mayR false [45, 46, 105, 110, 102] = true := by decide +kernel
theorem Res5_w7 (s : ByteArray) (hs : s.size ≤ 1099511627776) (w : World) (E : Env w) (hl : s.data.toList = [45, 46, 105, 110, 102]) :
    Calls Tryz.prog 34 #[.string s] w fun e w' => e = .returned (.tuple #[.agg #[.int .i64 0, .int .i64 0, .string ⟨#[]⟩], .int .i64 50]) ∧ Below w.heap.size w w' := by
  have hm : mayR false s.data.toList = true := by rw [hl]; exact mayw7
  have hM := May15_any s hs false _ (E.below ((Below.refl _ w).alloc (Nat.le_refl _) zero3))
  rw [hm] at hM
  have HM := Lib.hid hM
  have h1 : s.toList.isEmpty = false := by rw [ByteArray.toList_eq, hl]; rfl
  have h2 : (!s.toList.isEmpty) = true := by rw [h1]; rfl
  have q1 : (s.toList == [110, 117, 108, 108]) = false := by rw [ByteArray.toList_eq, hl]; rfl
  have q2 : (s.toList == [126]) = false := by rw [ByteArray.toList_eq, hl]; rfl
  have q3 : (s.toList == [116, 114, 117, 101]) = false := by rw [ByteArray.toList_eq, hl]; rfl
  have q4 : (s.toList == [102, 97, 108, 115, 101]) = false := by rw [ByteArray.toList_eq, hl]; rfl
  have q5 : (s.toList == [46, 105, 110, 102]) = false := by rw [ByteArray.toList_eq, hl]; rfl
  have q6 : (s.toList == [43, 46, 105, 110, 102]) = false := by rw [ByteArray.toList_eq, hl]; rfl
  have q7 : (s.toList == [45, 46, 105, 110, 102]) = true := by rw [ByteArray.toList_eq, hl]; rfl
  clear E hM hm hl
  go_enter Tryz.func34, Tryz.ntmps34
  go_wp2_with fail
  refine HM.out.mono ?_
  rintro e w1 ⟨rfl, hb1⟩
  obtain ⟨hx1, hz1, hb⟩ := res_cells hb1
  have HB1 := Lib.hid hb
  have c0 := cell_of_row _ _ 0 _ _ _ hx1
  have c1 := cell_of_row _ _ 1 _ _ _ hx1
  have c2 := cell_of_row _ _ 2 _ _ _ hx1
  have f0 := frozen_of_row _ _ 0 _ _ hx1
  have f1 := frozen_of_row _ _ 1 _ _ hx1
  have f2 := frozen_of_row _ _ 2 _ _ hx1
  simp at c0 c1 c2
  have HX1 := Lib.hid hx1
  clear hb1 hx1 hb
  go_wp2_with fail
  have hr := store3 HX1.out (.int .i64 0) (.int .i64 0) (.string ⟨#[]⟩)
  have hbb := ((HB1.out.setCell (p := ⟨w.heap.size, 0, none⟩) (Nat.le_refl _) (.int .i64 0)).setCell (p := ⟨w.heap.size, 1, none⟩) (Nat.le_refl _) (.int .i64 0)).setCell (p := ⟨w.heap.size, 2, none⟩) (Nat.le_refl _) (.string ⟨#[]⟩)
  clear c0 c1 c2 f0 f1 f2
  generalize (((w1).setCell ⟨w.heap.size, 0, none⟩ (.int .i64 0)).setCell ⟨w.heap.size, 1, none⟩ (.int .i64 0)).setCell ⟨w.heap.size, 2, none⟩ (.string ⟨#[]⟩) = wz at hr hbb ⊢
  have r0 := cell_of_row _ _ 0 _ _ _ hr
  have r1 := cell_of_row _ _ 1 _ _ _ hr
  have r2 := cell_of_row _ _ 2 _ _ _ hr
  exact bodyPost_ret (v := .tuple #[.agg #[.int .i64 0, .int .i64 0, .string ⟨#[]⟩], .int .i64 50]) (by simp [results, Tryz.results34, go_sem, r0, r1, r2]) rfl ⟨rfl, hbb⟩
theorem mayw8 : mayR false [46, 110, 97, 110] = true := by decide +kernel
theorem Res5_w8 (s : ByteArray) (hs : s.size ≤ 1099511627776) (w : World) (E : Env w) (hl : s.data.toList = [46, 110, 97, 110]) :
    Calls Tryz.prog 34 #[.string s] w fun e w' => e = .returned (.tuple #[.agg #[.int .i64 0, .int .i64 0, .string ⟨#[]⟩], .int .i64 50]) ∧ Below w.heap.size w w' := by
  have hm : mayR false s.data.toList = true := by rw [hl]; exact mayw8
  have hM := May15_any s hs false _ (E.below ((Below.refl _ w).alloc (Nat.le_refl _) zero3))
  rw [hm] at hM
  have HM := Lib.hid hM
  have h1 : s.toList.isEmpty = false := by rw [ByteArray.toList_eq, hl]; rfl
  have h2 : (!s.toList.isEmpty) = true := by rw [h1]; rfl
  have q1 : (s.toList == [110, 117, 108, 108]) = false := by rw [ByteArray.toList_eq, hl]; rfl
  have q2 : (s.toList == [126]) = false := by rw [ByteArray.toList_eq, hl]; rfl
  have q3 : (s.toList == [116, 114, 117, 101]) = false := by rw [ByteArray.toList_eq, hl]; rfl
  have q4 : (s.toList == [102, 97, 108, 115, 101]) = false := by rw [ByteArray.toList_eq, hl]; rfl
  have q5 : (s.toList == [46, 105, 110, 102]) = false := by rw [ByteArray.toList_eq, hl]; rfl
  have q6 : (s.toList == [43, 46, 105, 110, 102]) = false := by rw [ByteArray.toList_eq, hl]; rfl
  have q7 : (s.toList == [45, 46, 105, 110, 102]) = false := by rw [ByteArray.toList_eq, hl]; rfl
  have q8 : (s.toList == [46, 110, 97, 110]) = true := by rw [ByteArray.toList_eq, hl]; rfl
  clear E hM hm hl
  go_enter Tryz.func34, Tryz.ntmps34
  go_wp2_with fail
  refine HM.out.mono ?_
  rintro e w1 ⟨rfl, hb1⟩
  obtain ⟨hx1, hz1, hb⟩ := res_cells hb1
  have HB1 := Lib.hid hb
  have c0 := cell_of_row _ _ 0 _ _ _ hx1
  have c1 := cell_of_row _ _ 1 _ _ _ hx1
  have c2 := cell_of_row _ _ 2 _ _ _ hx1
  have f0 := frozen_of_row _ _ 0 _ _ hx1
  have f1 := frozen_of_row _ _ 1 _ _ hx1
  have f2 := frozen_of_row _ _ 2 _ _ hx1
  simp at c0 c1 c2
  have HX1 := Lib.hid hx1
  clear hb1 hx1 hb
  go_wp2_with fail
  have hr := store3 HX1.out (.int .i64 0) (.int .i64 0) (.string ⟨#[]⟩)
  have hbb := ((HB1.out.setCell (p := ⟨w.heap.size, 0, none⟩) (Nat.le_refl _) (.int .i64 0)).setCell (p := ⟨w.heap.size, 1, none⟩) (Nat.le_refl _) (.int .i64 0)).setCell (p := ⟨w.heap.size, 2, none⟩) (Nat.le_refl _) (.string ⟨#[]⟩)
  clear c0 c1 c2 f0 f1 f2
  generalize (((w1).setCell ⟨w.heap.size, 0, none⟩ (.int .i64 0)).setCell ⟨w.heap.size, 1, none⟩ (.int .i64 0)).setCell ⟨w.heap.size, 2, none⟩ (.string ⟨#[]⟩) = wz at hr hbb ⊢
  have r0 := cell_of_row _ _ 0 _ _ _ hr
  have r1 := cell_of_row _ _ 1 _ _ _ hr
  have r2 := cell_of_row _ _ 2 _ _ _ hr
  exact bodyPost_ret (v := .tuple #[.agg #[.int .i64 0, .int .i64 0, .string ⟨#[]⟩], .int .i64 50]) (by simp [results, Tryz.results34, go_sem, r0, r1, r2]) rfl ⟨rfl, hbb⟩
theorem Res5_text (s : ByteArray) (hs : s.size ≤ 1099511627776) (w : World) (E : Env w) (hne : s.data.toList ≠ []) (hm : mayR false s.data.toList = true) (hw : lookW s.data.toList wordsW = none) (hk : looksR s.data.toList = false) :
    Calls Tryz.prog 34 #[.string s] w fun e w' => e = .returned (.tuple #[.agg #[.int .i64 3, .int .i64 0, .string s], .int .i64 0]) ∧ Below w.heap.size w w' := by
  have hM := May15_any s hs false _ (E.below ((Below.refl _ w).alloc (Nat.le_refl _) zero3))
  rw [hm] at hM
  have HM := Lib.hid hM
  have h1 : s.toList.isEmpty = false := by rw [ByteArray.toList_eq]; simpa using hne
  have h2 : (!s.toList.isEmpty) = true := by rw [h1]; rfl
  have q1 : (s.toList == [110, 117, 108, 108]) = false := by rw [ByteArray.toList_eq]; exact beq_eq_false_iff_ne.2 (lookW_ne _ hw ([110, 117, 108, 108], .null) (by simp [wordsW]))
  have q2 : (s.toList == [126]) = false := by rw [ByteArray.toList_eq]; exact beq_eq_false_iff_ne.2 (lookW_ne _ hw ([126], .null) (by simp [wordsW]))
  have q3 : (s.toList == [116, 114, 117, 101]) = false := by rw [ByteArray.toList_eq]; exact beq_eq_false_iff_ne.2 (lookW_ne _ hw ([116, 114, 117, 101], .bool true) (by simp [wordsW]))
  have q4 : (s.toList == [102, 97, 108, 115, 101]) = false := by rw [ByteArray.toList_eq]; exact beq_eq_false_iff_ne.2 (lookW_ne _ hw ([102, 97, 108, 115, 101], .bool false) (by simp [wordsW]))
  have q5 : (s.toList == [46, 105, 110, 102]) = false := by rw [ByteArray.toList_eq]; exact beq_eq_false_iff_ne.2 (lookW_ne _ hw ([46, 105, 110, 102], .none) (by simp [wordsW]))
  have q6 : (s.toList == [43, 46, 105, 110, 102]) = false := by rw [ByteArray.toList_eq]; exact beq_eq_false_iff_ne.2 (lookW_ne _ hw ([43, 46, 105, 110, 102], .none) (by simp [wordsW]))
  have q7 : (s.toList == [45, 46, 105, 110, 102]) = false := by rw [ByteArray.toList_eq]; exact beq_eq_false_iff_ne.2 (lookW_ne _ hw ([45, 46, 105, 110, 102], .none) (by simp [wordsW]))
  have q8 : (s.toList == [46, 110, 97, 110]) = false := by rw [ByteArray.toList_eq]; exact beq_eq_false_iff_ne.2 (lookW_ne _ hw ([46, 110, 97, 110], .none) (by simp [wordsW]))
  have hL := fun w => looks21_any s hs w
  rw [hk] at hL
  have HL := Lib.hid hL
  clear E hM hm hw hne hk hL
  go_enter Tryz.func34, Tryz.ntmps34
  go_wp2_with fail
  refine HM.out.mono ?_
  rintro e w1 ⟨rfl, hb1⟩
  obtain ⟨hx1, hz1, hb⟩ := res_cells hb1
  have HB1 := Lib.hid hb
  have c0 := cell_of_row _ _ 0 _ _ _ hx1
  have c1 := cell_of_row _ _ 1 _ _ _ hx1
  have c2 := cell_of_row _ _ 2 _ _ _ hx1
  have f0 := frozen_of_row _ _ 0 _ _ hx1
  have f1 := frozen_of_row _ _ 1 _ _ hx1
  have f2 := frozen_of_row _ _ 2 _ _ hx1
  simp at c0 c1 c2
  have HX1 := Lib.hid hx1
  clear hb1 hx1 hb
  go_wp2_with fail
  refine (HL.out _).mono ?_
  rintro e w' ⟨rfl, rfl⟩
  go_wp2_with fail
  have hr := store3 HX1.out (.int .i64 3) (.int .i64 0) (.string s)
  have hbb := ((HB1.out.setCell (p := ⟨w.heap.size, 0, none⟩) (Nat.le_refl _) (.int .i64 3)).setCell (p := ⟨w.heap.size, 1, none⟩) (Nat.le_refl _) (.int .i64 0)).setCell (p := ⟨w.heap.size, 2, none⟩) (Nat.le_refl _) (.string s)
  clear c0 c1 c2 f0 f1 f2
  generalize (((w1).setCell ⟨w.heap.size, 0, none⟩ (.int .i64 3)).setCell ⟨w.heap.size, 1, none⟩ (.int .i64 0)).setCell ⟨w.heap.size, 2, none⟩ (.string s) = wz at hr hbb ⊢
  have r0 := cell_of_row _ _ 0 _ _ _ hr
  have r1 := cell_of_row _ _ 1 _ _ _ hr
  have r2 := cell_of_row _ _ 2 _ _ _ hr
  exact bodyPost_ret (v := .tuple #[.agg #[.int .i64 3, .int .i64 0, .string s], .int .i64 0]) (by simp [results, Tryz.results34, go_sem, r0, r1, r2]) rfl ⟨rfl, hbb⟩
theorem Res5_none (s : ByteArray) (hs : s.size ≤ 1099511627776) (w : World) (E : Env w) (hne : s.data.toList ≠ []) (hm : mayR false s.data.toList = true) (hw : lookW s.data.toList wordsW = none) (hk : looksR s.data.toList = true) (hn : numB s.data.toList = none) :
    Calls Tryz.prog 34 #[.string s] w fun e w' => e = .returned (.tuple #[.agg #[.int .i64 0, .int .i64 0, .string ⟨#[]⟩], .int .i64 50]) ∧ Below w.heap.size w w' := by
  have hM := May15_any s hs false _ (E.below ((Below.refl _ w).alloc (Nat.le_refl _) zero3))
  rw [hm] at hM
  have HM := Lib.hid hM
  have h1 : s.toList.isEmpty = false := by rw [ByteArray.toList_eq]; simpa using hne
  have h2 : (!s.toList.isEmpty) = true := by rw [h1]; rfl
  have q1 : (s.toList == [110, 117, 108, 108]) = false := by rw [ByteArray.toList_eq]; exact beq_eq_false_iff_ne.2 (lookW_ne _ hw ([110, 117, 108, 108], .null) (by simp [wordsW]))
  have q2 : (s.toList == [126]) = false := by rw [ByteArray.toList_eq]; exact beq_eq_false_iff_ne.2 (lookW_ne _ hw ([126], .null) (by simp [wordsW]))
  have q3 : (s.toList == [116, 114, 117, 101]) = false := by rw [ByteArray.toList_eq]; exact beq_eq_false_iff_ne.2 (lookW_ne _ hw ([116, 114, 117, 101], .bool true) (by simp [wordsW]))
  have q4 : (s.toList == [102, 97, 108, 115, 101]) = false := by rw [ByteArray.toList_eq]; exact beq_eq_false_iff_ne.2 (lookW_ne _ hw ([102, 97, 108, 115, 101], .bool false) (by simp [wordsW]))
  have q5 : (s.toList == [46, 105, 110, 102]) = false := by rw [ByteArray.toList_eq]; exact beq_eq_false_iff_ne.2 (lookW_ne _ hw ([46, 105, 110, 102], .none) (by simp [wordsW]))
  have q6 : (s.toList == [43, 46, 105, 110, 102]) = false := by rw [ByteArray.toList_eq]; exact beq_eq_false_iff_ne.2 (lookW_ne _ hw ([43, 46, 105, 110, 102], .none) (by simp [wordsW]))
  have q7 : (s.toList == [45, 46, 105, 110, 102]) = false := by rw [ByteArray.toList_eq]; exact beq_eq_false_iff_ne.2 (lookW_ne _ hw ([45, 46, 105, 110, 102], .none) (by simp [wordsW]))
  have q8 : (s.toList == [46, 110, 97, 110]) = false := by rw [ByteArray.toList_eq]; exact beq_eq_false_iff_ne.2 (lookW_ne _ hw ([46, 110, 97, 110], .none) (by simp [wordsW]))
  have hL := fun w => looks21_any s hs w
  rw [hk] at hL
  have HL := Lib.hid hL
  have hN := fun w => number22_any s hs w
  rw [hn] at hN
  unfold numV at hN
  have HN := Lib.hid hN
  clear E hM hm hw hne hk hL hn hN
  go_enter Tryz.func34, Tryz.ntmps34
  go_wp2_with fail
  refine HM.out.mono ?_
  rintro e w1 ⟨rfl, hb1⟩
  obtain ⟨hx1, hz1, hb⟩ := res_cells hb1
  have HB1 := Lib.hid hb
  have c0 := cell_of_row _ _ 0 _ _ _ hx1
  have c1 := cell_of_row _ _ 1 _ _ _ hx1
  have c2 := cell_of_row _ _ 2 _ _ _ hx1
  have f0 := frozen_of_row _ _ 0 _ _ hx1
  have f1 := frozen_of_row _ _ 1 _ _ hx1
  have f2 := frozen_of_row _ _ 2 _ _ hx1
  simp at c0 c1 c2
  have HX1 := Lib.hid hx1
  clear hb1 hx1 hb
  go_wp2_with fail
  refine (HL.out _).mono ?_
  rintro e w' ⟨rfl, rfl⟩
  go_wp2_with fail
  refine (HN.out _).mono ?_
  rintro e w' ⟨rfl, rfl⟩
  go_wp2_with fail
  have hr := store3 HX1.out (.int .i64 0) (.int .i64 0) (.string ⟨#[]⟩)
  have hbb := ((HB1.out.setCell (p := ⟨w.heap.size, 0, none⟩) (Nat.le_refl _) (.int .i64 0)).setCell (p := ⟨w.heap.size, 1, none⟩) (Nat.le_refl _) (.int .i64 0)).setCell (p := ⟨w.heap.size, 2, none⟩) (Nat.le_refl _) (.string ⟨#[]⟩)
  clear c0 c1 c2 f0 f1 f2
  generalize (((w1).setCell ⟨w.heap.size, 0, none⟩ (.int .i64 0)).setCell ⟨w.heap.size, 1, none⟩ (.int .i64 0)).setCell ⟨w.heap.size, 2, none⟩ (.string ⟨#[]⟩) = wz at hr hbb ⊢
  have r0 := cell_of_row _ _ 0 _ _ _ hr
  have r1 := cell_of_row _ _ 1 _ _ _ hr
  have r2 := cell_of_row _ _ 2 _ _ _ hr
  exact bodyPost_ret (v := .tuple #[.agg #[.int .i64 0, .int .i64 0, .string ⟨#[]⟩], .int .i64 50]) (by simp [results, Tryz.results34, go_sem, r0, r1, r2]) rfl ⟨rfl, hbb⟩
theorem Res5_int (s : ByteArray) (hs : s.size ≤ 1099511627776) (w : World) (E : Env w) (n : Int) (hne : s.data.toList ≠ []) (hm : mayR false s.data.toList = true) (hw : lookW s.data.toList wordsW = none) (hk : looksR s.data.toList = true) (hn : numB s.data.toList = some n) :
    Calls Tryz.prog 34 #[.string s] w fun e w' => e = .returned (.tuple #[.agg #[.int .i64 2, .int .i64 n, .string ⟨#[]⟩], .int .i64 0]) ∧ Below w.heap.size w w' := by
  have hM := May15_any s hs false _ (E.below ((Below.refl _ w).alloc (Nat.le_refl _) zero3))
  rw [hm] at hM
  have HM := Lib.hid hM
  have h1 : s.toList.isEmpty = false := by rw [ByteArray.toList_eq]; simpa using hne
  have h2 : (!s.toList.isEmpty) = true := by rw [h1]; rfl
  have q1 : (s.toList == [110, 117, 108, 108]) = false := by rw [ByteArray.toList_eq]; exact beq_eq_false_iff_ne.2 (lookW_ne _ hw ([110, 117, 108, 108], .null) (by simp [wordsW]))
  have q2 : (s.toList == [126]) = false := by rw [ByteArray.toList_eq]; exact beq_eq_false_iff_ne.2 (lookW_ne _ hw ([126], .null) (by simp [wordsW]))
  have q3 : (s.toList == [116, 114, 117, 101]) = false := by rw [ByteArray.toList_eq]; exact beq_eq_false_iff_ne.2 (lookW_ne _ hw ([116, 114, 117, 101], .bool true) (by simp [wordsW]))
  have q4 : (s.toList == [102, 97, 108, 115, 101]) = false := by rw [ByteArray.toList_eq]; exact beq_eq_false_iff_ne.2 (lookW_ne _ hw ([102, 97, 108, 115, 101], .bool false) (by simp [wordsW]))
  have q5 : (s.toList == [46, 105, 110, 102]) = false := by rw [ByteArray.toList_eq]; exact beq_eq_false_iff_ne.2 (lookW_ne _ hw ([46, 105, 110, 102], .none) (by simp [wordsW]))
  have q6 : (s.toList == [43, 46, 105, 110, 102]) = false := by rw [ByteArray.toList_eq]; exact beq_eq_false_iff_ne.2 (lookW_ne _ hw ([43, 46, 105, 110, 102], .none) (by simp [wordsW]))
  have q7 : (s.toList == [45, 46, 105, 110, 102]) = false := by rw [ByteArray.toList_eq]; exact beq_eq_false_iff_ne.2 (lookW_ne _ hw ([45, 46, 105, 110, 102], .none) (by simp [wordsW]))
  have q8 : (s.toList == [46, 110, 97, 110]) = false := by rw [ByteArray.toList_eq]; exact beq_eq_false_iff_ne.2 (lookW_ne _ hw ([46, 110, 97, 110], .none) (by simp [wordsW]))
  have hL := fun w => looks21_any s hs w
  rw [hk] at hL
  have HL := Lib.hid hL
  have hN := fun w => number22_any s hs w
  rw [hn] at hN
  unfold numV at hN
  have HN := Lib.hid hN
  clear E hM hm hw hne hk hL hn hN
  go_enter Tryz.func34, Tryz.ntmps34
  go_wp2_with fail
  refine HM.out.mono ?_
  rintro e w1 ⟨rfl, hb1⟩
  obtain ⟨hx1, hz1, hb⟩ := res_cells hb1
  have HB1 := Lib.hid hb
  have c0 := cell_of_row _ _ 0 _ _ _ hx1
  have c1 := cell_of_row _ _ 1 _ _ _ hx1
  have c2 := cell_of_row _ _ 2 _ _ _ hx1
  have f0 := frozen_of_row _ _ 0 _ _ hx1
  have f1 := frozen_of_row _ _ 1 _ _ hx1
  have f2 := frozen_of_row _ _ 2 _ _ hx1
  simp at c0 c1 c2
  have HX1 := Lib.hid hx1
  clear hb1 hx1 hb
  go_wp2_with fail
  refine (HL.out _).mono ?_
  rintro e w' ⟨rfl, rfl⟩
  go_wp2_with fail
  refine (HN.out _).mono ?_
  rintro e w' ⟨rfl, rfl⟩
  go_wp2_with fail
  have hr := store3 HX1.out (.int .i64 2) (.int .i64 n) (.string ⟨#[]⟩)
  have hbb := ((HB1.out.setCell (p := ⟨w.heap.size, 0, none⟩) (Nat.le_refl _) (.int .i64 2)).setCell (p := ⟨w.heap.size, 1, none⟩) (Nat.le_refl _) (.int .i64 n)).setCell (p := ⟨w.heap.size, 2, none⟩) (Nat.le_refl _) (.string ⟨#[]⟩)
  clear c0 c1 c2 f0 f1 f2
  generalize (((w1).setCell ⟨w.heap.size, 0, none⟩ (.int .i64 2)).setCell ⟨w.heap.size, 1, none⟩ (.int .i64 n)).setCell ⟨w.heap.size, 2, none⟩ (.string ⟨#[]⟩) = wz at hr hbb ⊢
  have r0 := cell_of_row _ _ 0 _ _ _ hr
  have r1 := cell_of_row _ _ 1 _ _ _ hr
  have r2 := cell_of_row _ _ 2 _ _ _ hr
  exact bodyPost_ret (v := .tuple #[.agg #[.int .i64 2, .int .i64 n, .string ⟨#[]⟩], .int .i64 0]) (by simp [results, Tryz.results34, go_sem, r0, r1, r2]) rfl ⟨rfl, hbb⟩
theorem lookW_cases {l : List UInt8} (h : lookW l wordsW ≠ none) : l = [] ∨ l = [110, 117, 108, 108] ∨ l = [126] ∨ l = [116, 114, 117, 101] ∨ l = [102, 97, 108, 115, 101] ∨ l = [46, 105, 110, 102] ∨ l = [43, 46, 105, 110, 102] ∨ l = [45, 46, 105, 110, 102] ∨ l = [46, 110, 97, 110] := by
  simp only [wordsW, lookW] at h
  repeat' split at h
  all_goals first | (simp only [*, true_or, or_true]; done) | exact absurd rfl h
theorem Resolve5_any (s : ByteArray) (hs : s.size ≤ 1099511627776) (w : World) (E : Env w) : Calls Tryz.prog 34 #[.string s] w fun e w' => e = .returned (resolveR s).val ∧ Below w.heap.size w w' := by
  unfold resolveR
  by_cases hne : s.data.toList = []
  · rw [if_neg (fun h => h.1 hne), show valOf s.data.toList = .null by rw [hne]; rfl]
    exact Res5_w0 s hs w E hne
  · cases hm : mayR false s.data.toList
    · rw [if_pos ⟨hne, rfl⟩]
      exact Res5_no s hs w E hne hm
    · rw [if_neg (fun h => by have := h.2; cases this)]
      by_cases hw : lookW s.data.toList wordsW = none
      · cases hk : looksR s.data.toList
        · rw [show valOf s.data.toList = .text by unfold valOf; rw [hw]; simp only [hk, Bool.false_eq_true, if_false]]
          exact Res5_text s hs w E hne hm hw hk
        · rw [valOf_num hw hk]
          cases hn : numB s.data.toList with
          | none => exact Res5_none s hs w E hne hm hw hk hn
          | some n => exact Res5_int s hs w E n hne hm hw hk hn
      · rcases lookW_cases hw with h | h | h | h | h | h | h | h | h
        · exact absurd h hne
        · rw [show valOf s.data.toList = .null by rw [h]; rfl]
          exact Res5_w1 s hs w E h
        · rw [show valOf s.data.toList = .null by rw [h]; rfl]
          exact Res5_w2 s hs w E h
        · rw [show valOf s.data.toList = .bool true by rw [h]; rfl]
          exact Res5_w3 s hs w E h
        · rw [show valOf s.data.toList = .bool false by rw [h]; rfl]
          exact Res5_w4 s hs w E h
        · rw [show valOf s.data.toList = .none by rw [h]; rfl]
          exact Res5_w5 s hs w E h
        · rw [show valOf s.data.toList = .none by rw [h]; rfl]
          exact Res5_w6 s hs w E h
        · rw [show valOf s.data.toList = .none by rw [h]; rfl]
          exact Res5_w7 s hs w E h
        · rw [show valOf s.data.toList = .none by rw [h]; rfl]
          exact Res5_w8 s hs w E h
set_option maxRecDepth 100000 in
set_option maxHeartbeats 4000000 in
theorem Right5_any (k n : Int) (s : ByteArray) (hs : s.size ≤ 1099511627776) (w : World) (E : Env w) :
    Calls Tryz.prog 29 #[.agg #[.int .i64 k, .int .i64 n, .string s]] w fun e w' => e = .returned (.bool (rightR k n s.data.toList)) ∧ Below w.heap.size w w' := by
  by_cases h0 : n = 0
  all_goals
    try subst h0
    first
      | have hR := right4_any s hs (w.alloc (.cells #[.int .i64 k, .int .i64 0, .string s] 23))
      | skip
    have HR := Lib.hid hR
    have HE := Lib.hid E
    obtain ⟨l, hl⟩ : ∃ l, s.data.toList = l := ⟨_, rfl⟩
    have hle : s.toList.isEmpty = l.isEmpty := by rw [ByteArray.toList_eq, hl]
    rw [hl] at HR ⊢
    clear hR E hl
    go_enter Tryz.func29, Tryz.ntmps29
    go_wp2_with (go_at_call 47; refine HR.out.mono ?_; rintro e w1 ⟨rfl, hb1⟩; have HB1 := Lib.hid hb1; clear hb1)
    all_goals
      go_ret
      first
        | (refine ⟨ret_bool ?_, (Below.refl _ _).alloc (Nat.le_refl _) _⟩; unfold rightR; simp [*]; done)
        | (refine ⟨ret_bool ?_, (Below.refl _ _).alloc (Nat.le_refl _) _⟩; unfold rightR; simp [*]; omega)
        | (refine ⟨ret_bool ?_, ((Below.refl _ w).alloc (Nat.le_refl _) _).trans (HB1.out.mono (by simp))⟩; unfold rightR; simp [*]; done)

end Go.Proofs.YtkliecngkcjieaaGreatDoor
