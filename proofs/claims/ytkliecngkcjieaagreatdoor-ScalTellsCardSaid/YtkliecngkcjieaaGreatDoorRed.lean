/- What a text says where it may stand plain, in a flow or elsewhere, is told as the document tells it. Conditions: the library's tables lie as they are laid; the text is not too long. -/
import Derived.Test.YtkliecngkcjieaaGreatDoorRes
set_option maxRecDepth 100000
namespace Go.Proofs.YtkliecngkcjieaaGreatDoor
open Go.RowKit Go.Shelf
open Pl Seqo
theorem Read_no (s : ByteArray) (hs : s.size ≤ 1099511627776) (flow : Bool) (w : World) (E : Env w) (hm : mayR flow s.data.toList = false) :
    Calls Tryz.prog 27 #[.string s, .bool flow] w fun e w' => e = .returned (.tuple #[.agg #[.int .i64 0, .int .i64 0, .string ⟨#[]⟩], .int .i64 51]) ∧ Below w.heap.size w w' := by
  have hM := May_any s hs flow _ (E.below ((Below.refl _ w).alloc (Nat.le_refl _) zero3))
  rw [hm] at hM
  have HM := Lib.hid hM
  have HE0 := Lib.hid (E.below ((Below.refl _ w).alloc (Nat.le_refl _) zero3))
  clear E hM hm
  go_enter Tryz.func27, Tryz.ntmps27
  go_wp2_with fail
  refine HM.out.mono ?_
  rintro e w1 ⟨rfl, hb1⟩
  obtain ⟨hx1, hz1, hb⟩ := res_cells hb1
  have HB1 := Lib.hid hb
  have HE1 := Lib.hid (HE0.out.below hb1)
  have c0 := cell_of_row _ _ 0 _ _ _ hx1
  have c1 := cell_of_row _ _ 1 _ _ _ hx1
  have c2 := cell_of_row _ _ 2 _ _ _ hx1
  have f0 := frozen_of_row _ _ 0 _ _ hx1
  have f1 := frozen_of_row _ _ 1 _ _ hx1
  have f2 := frozen_of_row _ _ 2 _ _ hx1
  simp at c0 c1 c2
  have HX1 := Lib.hid hx1
  clear hb1 hx1 hb
  go_wp2_with fail
  have hr := store3 HX1.out (.int .i64 0) (.int .i64 0) (.string ⟨#[]⟩)
  have hbb := ((HB1.out.setCell (p := ⟨w.heap.size, 0, none⟩) (Nat.le_refl _) (.int .i64 0)).setCell (p := ⟨w.heap.size, 1, none⟩) (Nat.le_refl _) (.int .i64 0)).setCell (p := ⟨w.heap.size, 2, none⟩) (Nat.le_refl _) (.string ⟨#[]⟩)
  clear c0 c1 c2 f0 f1 f2
  generalize ((w1.setCell ⟨w.heap.size, 0, none⟩ (.int .i64 0)).setCell ⟨w.heap.size, 1, none⟩ (.int .i64 0)).setCell ⟨w.heap.size, 2, none⟩ (.string ⟨#[]⟩) = wz at hr hbb ⊢
  have r0 := cell_of_row _ _ 0 _ _ _ hr
  have r1 := cell_of_row _ _ 1 _ _ _ hr
  have r2 := cell_of_row _ _ 2 _ _ _ hr
  exact bodyPost_ret (v := .tuple #[.agg #[.int .i64 0, .int .i64 0, .string ⟨#[]⟩], .int .i64 51]) (by simp [results, Tryz.results27, go_sem, r0, r1, r2]) rfl ⟨rfl, hbb⟩
theorem Read_yes (s : ByteArray) (hs : s.size ≤ 1099511627776) (flow : Bool) (w : World) (E : Env w) (hm : mayR flow s.data.toList = true) (k n : Int) (S : ByteArray) (er : Int) (hr : resolveR s = ⟨k, n, S, er⟩) :
    Calls Tryz.prog 27 #[.string s, .bool flow] w fun e w' => e = .returned (.tuple #[.agg #[.int .i64 k, .int .i64 n, .string S], .int .i64 er]) ∧ Below w.heap.size w w' := by
  have HR := Lib.hid hr
  clear hr
  have hM := May_any s hs flow _ (E.below ((Below.refl _ w).alloc (Nat.le_refl _) zero3))
  rw [hm] at hM
  have HM := Lib.hid hM
  have HE0 := Lib.hid (E.below ((Below.refl _ w).alloc (Nat.le_refl _) zero3))
  clear E hM hm
  go_enter Tryz.func27, Tryz.ntmps27
  go_wp2_with fail
  refine HM.out.mono ?_
  rintro e w1 ⟨rfl, hb1⟩
  obtain ⟨hx1, hz1, hb⟩ := res_cells hb1
  have HB1 := Lib.hid hb
  have HE1 := Lib.hid (HE0.out.below hb1)
  have c0 := cell_of_row _ _ 0 _ _ _ hx1
  have c1 := cell_of_row _ _ 1 _ _ _ hx1
  have c2 := cell_of_row _ _ 2 _ _ _ hx1
  have f0 := frozen_of_row _ _ 0 _ _ hx1
  have f1 := frozen_of_row _ _ 1 _ _ hx1
  have f2 := frozen_of_row _ _ 2 _ _ hx1
  simp at c0 c1 c2
  have HX1 := Lib.hid hx1
  clear hb1 hx1 hb
  have hV := Resolve_any s hs w1 HE1.out
  rw [HR.out] at hV
  unfold Res.val at hV
  have HV := Lib.hid hV
  clear hV
  go_wp2_with fail
  refine HV.out.mono ?_
  rintro e w2 ⟨rfl, hb2⟩
  have hx2 := (hb2.block w.heap.size (by omega)).trans HX1.out
  have hz2 : w.heap.size < w2.heap.size := by have := hb2.size; omega
  have HB2 := Lib.hid (HB1.out.trans (hb2.mono (by omega)))
  have HE2 := Lib.hid (HE1.out.below hb2)
  clear c0 c1 c2 f0 f1 f2
  clear hb2
  have c0 := cell_of_row _ _ 0 _ _ _ hx2
  have c1 := cell_of_row _ _ 1 _ _ _ hx2
  have c2 := cell_of_row _ _ 2 _ _ _ hx2
  have f0 := frozen_of_row _ _ 0 _ _ hx2
  have f1 := frozen_of_row _ _ 1 _ _ hx2
  have f2 := frozen_of_row _ _ 2 _ _ hx2
  simp at c0 c1 c2
  have HX2 := Lib.hid hx2
  clear hx2
  go_wp2_with fail
  have hr := store3 HX2.out (.int .i64 k) (.int .i64 n) (.string S)
  have hbb := ((HB2.out.setCell (p := ⟨w.heap.size, 0, none⟩) (Nat.le_refl _) (.int .i64 k)).setCell (p := ⟨w.heap.size, 1, none⟩) (Nat.le_refl _) (.int .i64 n)).setCell (p := ⟨w.heap.size, 2, none⟩) (Nat.le_refl _) (.string S)
  clear c0 c1 c2 f0 f1 f2
  generalize ((w2.setCell ⟨w.heap.size, 0, none⟩ (.int .i64 k)).setCell ⟨w.heap.size, 1, none⟩ (.int .i64 n)).setCell ⟨w.heap.size, 2, none⟩ (.string S) = wz at hr hbb ⊢
  have r0 := cell_of_row _ _ 0 _ _ _ hr
  have r1 := cell_of_row _ _ 1 _ _ _ hr
  have r2 := cell_of_row _ _ 2 _ _ _ hr
  exact bodyPost_ret (v := .tuple #[.agg #[.int .i64 k, .int .i64 n, .string S], .int .i64 er]) (by simp [results, Tryz.results27, go_sem, r0, r1, r2]) rfl ⟨rfl, hbb⟩
theorem Read_any (s : ByteArray) (hs : s.size ≤ 1099511627776) (flow : Bool) (w : World) (E : Env w) : Calls Tryz.prog 27 #[.string s, .bool flow] w fun e w' => e = .returned (readR s flow).val ∧ Below w.heap.size w w' := by
  unfold readR
  cases hm : mayR flow s.data.toList
  · rw [if_pos rfl]
    exact Read_no s hs flow w E hm
  · rw [if_neg (by decide)]
    exact Read_yes s hs flow w E hm _ _ _ _ rfl
end Go.Proofs.YtkliecngkcjieaaGreatDoor
