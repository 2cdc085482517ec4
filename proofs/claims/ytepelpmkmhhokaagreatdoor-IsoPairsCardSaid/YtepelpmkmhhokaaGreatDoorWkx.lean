/- Two graphs' sides are made, or the first one's error is told, then the second one's. Conditions: the graphs lie. A walk asks its rules of each pair, up to the first one that breaks one. Conditions: both graphs are right and lie; the rules are those of the two calls. -/
import Derived.Test.YtepelpmkmhhokaaGreatDoorMtx
import Derived.Test.YtepelpmkmhhokaaGreatDoorAtx
import Derived.Test.YtepelpmkmhhokaaGreatDoorPrx
set_option maxRecDepth 100000
namespace Go.Proofs.YtepelpmkmhhokaaGreatDoor
open Go.RowKit Go.Shelf
open Scs
set_option maxHeartbeats 8000000 in
theorem side_ok (root : Int) (L : Array Fn) (m : Nat) (p : Option Addr) (cap : Nat) (w : World) (hm : L.size = m) (E : Env w) (hg : Gl w p L) (he : (checkG root L.toList).2 = 0) :
    Calls Tryz.prog 41 #[.agg #[.int .i64 root, .slice p m cap]] w fun e w' => ∃ K, e = .returned (.tuple #[.agg #[.int .i64 root, .slice p m cap, .map (some K)], .int .i64 0]) ∧ w.heap.size ≤ K ∧ HasM w' K [] ∧ Below w.heap.size w w' := by
  obtain ⟨W, hW, hz, hb, hr0, hr1⟩ := at2 w (.cells #[.int .i64 root, .slice p m cap] 24) (.cells #[.int .i64 0, .slice none 0 0, .map none] 55)
  have hC := Check_any root L p cap W (E.below hb) (hg.below hb)
  rw [hm] at hC
  obtain ⟨e1, he1⟩ : ∃ e1, (checkG root L.toList).1 = e1 := ⟨_, rfl⟩
  rw [he, he1] at hC
  have q0 := cell_of_row _ _ 0 _ _ _ hr0
  have q1 := cell_of_row _ _ 1 _ _ _ hr0
  have HC := Lib.hid hC
  have HW := Lib.hid hW
  have HZ := Lib.hid hz
  have HB := Lib.hid hb
  have HR0 := Lib.hid hr0
  have HR1 := Lib.hid hr1
  clear hC hW hb hr0 hr1 hg E he he1 hm hz
  have hmm := @run_makeMap Tryz.prog
  go_enter Tryz.func41, Tryz.ntmps41
  go_upto_region 1 with fail
  rw [HW.out]
  go_wp2_with fail
  refine HC.out.mono ?_
  rintro e w5 ⟨rfl, hb5⟩
  have hz := HZ.out
  have hz5 := hb5.size
  have r0 := (hb5.block _ (by omega)).trans HR0.out
  have r1 := (hb5.block _ (by omega)).trans HR1.out
  have q0 := cell_of_row _ _ 0 _ _ _ r0
  have q1 := cell_of_row _ _ 1 _ _ _ r0
  have r6 : (w5.alloc (.map #[] 0)).heap[w.heap.size + 1]? = some (.cells #[.int .i64 0, .slice none 0 0, .map none] 55 (0, 0)) := (Below.heap_alloc _ _ _ (by omega)).trans r1
  have hm6 : (w5.alloc (.map #[] 0)).heap[w5.heap.size]? = some (.map #[] 0) := heap_alloc_new w5 _
  have hb6 : Below w.heap.size w (w5.alloc (.map #[] 0)) := (HB.out.trans (hb5.mono (by omega))).alloc (by omega) _
  have hz6 : (w5.alloc (.map #[] 0)).heap.size = w5.heap.size + 1 := by simp
  have s0 := cell_of_row _ _ 0 _ _ _ r6
  have s1 := cell_of_row _ _ 1 _ _ _ r6
  have s2 := cell_of_row _ _ 2 _ _ _ r6
  have f0 := frozen_of_row _ _ 0 _ _ r6
  have f1 := frozen_of_row _ _ 1 _ _ r6
  have f2 := frozen_of_row _ _ 2 _ _ r6
  have HB6 := Lib.hid hb6
  have R6 := Lib.hid r6
  have HM6 := Lib.hid hm6
  have HZ5 := Lib.hid (show w.heap.size + 2 ≤ w5.heap.size by omega)
  have HZ6 := Lib.hid hz6
  clear hb5 r0 r1 hz hz5 r6 hm6 hb6 hz6
  go_wp2_with fail
  obtain ⟨w9, hw9⟩ : ∃ w9, ((((w5.alloc (.map #[] 0)).setCell ⟨w.heap.size + 1, 0, none⟩ (.int .i64 root)).setCell ⟨w.heap.size + 1, 1, none⟩ (.slice p m cap)).setCell ⟨w.heap.size + 1, 2, none⟩ (.map (some w5.heap.size))) = w9 := ⟨_, rfl⟩
  rw [hw9]
  have r9 : w9.heap[w.heap.size + 1]? = some (.cells #[.int .i64 root, .slice p m cap, .map (some w5.heap.size)] 55 (0, 0)) := by
    rw [← hw9]
    exact heap_setCell_same _ _ 2 _ _ _ (heap_setCell_same _ _ 1 _ _ _ (heap_setCell_same _ _ 0 _ _ _ R6.out))
  have g9 : (w5.alloc (.map #[] 0)).grownBy w9 (some (w.heap.size + 1)) := by rw [← hw9]; exact gB_setCell (gB_setCell (gB_setCell (gB_refl _ _) _ _) _ _) _ _
  have t0 := cell_of_row _ _ 0 _ _ _ r9
  have t1 := cell_of_row _ _ 1 _ _ _ r9
  have t2 := cell_of_row _ _ 2 _ _ _ r9
  have G9 := Lib.hid g9
  clear hw9 r9 g9 s0 s1 s2 f0 f1 f2
  have h5 := HZ5.out
  have h6 := HZ6.out
  refine bodyPost_ret (v := .tuple #[.agg #[.int .i64 root, .slice p m cap, .map (some w5.heap.size)], .int .i64 0]) (by simp [results, Tryz.results41, go_sem, t0, t1, t2]) rfl ?_
  exact ⟨w5.heap.size, rfl, by omega, (G9.out.block _ (by omega) (by simp; omega)).trans HM6.out, HB6.out.trans (below_of_grown G9.out (by omega) (by omega))⟩
set_option maxHeartbeats 8000000 in
theorem side_bad (root : Int) (L : Array Fn) (m : Nat) (p : Option Addr) (cap : Nat) (w : World) (hm : L.size = m) (E : Env w) (hg : Gl w p L) (e0 : Int) (he : (checkG root L.toList).2 = e0) (h0 : e0 ≠ 0) :
    Calls Tryz.prog 41 #[.agg #[.int .i64 root, .slice p m cap]] w fun e w' => e = .returned (.tuple #[.agg #[.int .i64 0, .slice none 0 0, .map none], .int .i64 e0]) ∧ Below w.heap.size w w' := by
  obtain ⟨W, hW, hz, hb, hr0, hr1⟩ := at2 w (.cells #[.int .i64 root, .slice p m cap] 24) (.cells #[.int .i64 0, .slice none 0 0, .map none] 55)
  have hC := Check_any root L p cap W (E.below hb) (hg.below hb)
  rw [hm] at hC
  obtain ⟨e1, he1⟩ : ∃ e1, (checkG root L.toList).1 = e1 := ⟨_, rfl⟩
  rw [he, he1] at hC
  have q0 := cell_of_row _ _ 0 _ _ _ hr0
  have q1 := cell_of_row _ _ 1 _ _ _ hr0
  have hne : (e0 != 0) = true := by simp [h0]
  have HC := Lib.hid hC
  have HW := Lib.hid hW
  have HZ := Lib.hid hz
  have HB := Lib.hid hb
  have HR0 := Lib.hid hr0
  have HR1 := Lib.hid hr1
  clear hC hW hb hr0 hr1 hg E he he1 hm hz
  go_enter Tryz.func41, Tryz.ntmps41
  go_upto_region 1 with fail
  rw [HW.out]
  go_wp2_with fail
  refine HC.out.mono ?_
  rintro e w5 ⟨rfl, hb5⟩
  have hz := HZ.out
  have hz5 := hb5.size
  have r0 := (hb5.block _ (by omega)).trans HR0.out
  have r1 := (hb5.block _ (by omega)).trans HR1.out
  have s0 := cell_of_row _ _ 0 _ _ _ r1
  have s1 := cell_of_row _ _ 1 _ _ _ r1
  have s2 := cell_of_row _ _ 2 _ _ _ r1
  have f0 := frozen_of_row _ _ 0 _ _ r1
  have f1 := frozen_of_row _ _ 1 _ _ r1
  have f2 := frozen_of_row _ _ 2 _ _ r1
  have HB5 := Lib.hid hb5
  have R1 := Lib.hid r1
  clear hb5 r0 r1 hz hz5
  go_wp2_with fail
  obtain ⟨w9, hw9⟩ : ∃ w9, (((w5.setCell ⟨w.heap.size + 1, 0, none⟩ (.int .i64 0)).setCell ⟨w.heap.size + 1, 1, none⟩ (.slice none 0 0)).setCell ⟨w.heap.size + 1, 2, none⟩ (.map none)) = w9 := ⟨_, rfl⟩
  rw [hw9]
  have r9 : w9.heap[w.heap.size + 1]? = some (.cells #[.int .i64 0, .slice none 0 0, .map none] 55 (0, 0)) := by
    rw [← hw9]
    exact heap_setCell_same _ _ 2 _ _ _ (heap_setCell_same _ _ 1 _ _ _ (heap_setCell_same _ _ 0 _ _ _ R1.out))
  have g9 : w5.grownBy w9 (some (w.heap.size + 1)) := by rw [← hw9]; exact gB_setCell (gB_setCell (gB_setCell (gB_refl _ _) _ _) _ _) _ _
  have t0 := cell_of_row _ _ 0 _ _ _ r9
  have t1 := cell_of_row _ _ 1 _ _ _ r9
  have t2 := cell_of_row _ _ 2 _ _ _ r9
  have G9 := Lib.hid g9
  clear hw9 r9 g9 s0 s1 s2 f0 f1 f2
  have hz := HZ.out
  have hz5 := HB5.out.size
  refine bodyPost_ret (v := .tuple #[.agg #[.int .i64 0, .slice none 0 0, .map none], .int .i64 e0]) (by simp [results, Tryz.results41, go_sem, t0, t1, t2]) rfl ?_
  exact ⟨rfl, (HB.out.trans (HB5.out.mono (by omega))).trans (below_of_grown G9.out (by omega) (by omega))⟩
abbrev Z59 : Obj := .cells #[.int .i64 0, .slice none 0 0, .map none, .int .i64 0, .slice none 0 0, .map none] 59
abbrev zW : Value := .agg #[.int .i64 0, .slice none 0 0, .map none, .int .i64 0, .slice none 0 0, .map none]
set_option maxHeartbeats 8000000 in
theorem walkerOf_bad1 (ra rb : Int) (D _E : Array Fn) (ma mb : Nat) (pa pb : Option Addr) (ca cb : Nat) (w : World) (hm : D.size = ma) (Ev : Env w) (hg : Gl w pa D) (e0 : Int) (he : (checkG ra D.toList).2 = e0) (hn0 : e0 ≠ 0) :
    Calls Tryz.prog 23 #[.agg #[.int .i64 ra, .slice pa ma ca], .agg #[.int .i64 rb, .slice pb mb cb]] w fun e w' => e = .returned (.tuple #[zW, .int .i64 e0]) ∧ Below w.heap.size w w' := by
  obtain ⟨W, hW, hz, hb, h0, h1, h2⟩ := at3r w (.cells #[.int .i64 ra, .slice pa ma ca] 24) (.cells #[.int .i64 rb, .slice pb mb cb] 24) Z59
  have hS := side_bad ra D ma pa ca W hm (Ev.below hb) (hg.below hb) e0 he hn0
  have q0 := cell_of_row _ _ 0 _ _ _ h0
  have q1 := cell_of_row _ _ 1 _ _ _ h0
  have hne : (e0 != 0) = true := by simp [hn0]
  have HS := Lib.hid hS
  have HW := Lib.hid hW
  have HB := Lib.hid hb
  have HZ := Lib.hid (show w.heap.size + 2 < W.heap.size by omega)
  have HR := Lib.hid h2
  clear hS hW hb h0 h1 h2 hz hg Ev hm he hn0
  go_enter Tryz.func23, Tryz.ntmps23
  go_upto_region 1 with fail
  rw [HW.out]
  go_wp2_with fail
  refine HS.out.mono ?_
  rintro e w5 ⟨rfl, hb5⟩
  obtain ⟨w6, hw6, hz6, hb6, hr6⟩ := at1 w5 (.cells #[.int .i64 0, .slice none 0 0, .map none] 55)
  have hz5 := hb5.size
  have hZ := HZ.out
  have rR := (hb6.block _ (by omega)).trans ((hb5.block _ hZ).trans HR.out)
  have r6 := row6 rR
  obtain ⟨d0, d1, d2, d3, d4, d5, f0, f1, f2, f3, f4, f5⟩ := r6
  have S9 := Lib.hid (set6 w6 (w.heap.size + 1 + 1) 59 (.int .i64 0) (.slice none 0 0) (.map none) (.int .i64 0) (.slice none 0 0) (.map none) rR)
  have HB6 := Lib.hid (HB.out.trans ((hb5.mono HB.out.size).trans (hb6.mono (by have := HB.out.size; omega))))
  have HW6 := Lib.hid hw6
  clear hb5 hz5 hb6 rR hr6 hw6 hz6 hZ q0 q1
  go_upto_region 2 with fail
  rw [HW6.out]
  go_wp2_with fail
  obtain ⟨W9, h9, hr9, hg9, hz9⟩ := S9.out
  rw [h9]
  have r9 := row6 hr9
  refine bodyPost_ret (v := .tuple #[zW, .int .i64 e0]) (by simp [results, Tryz.results23, go_sem, r9.c0, r9.c1, r9.c2, r9.c3, r9.c4, r9.c5]) rfl ?_
  exact ⟨rfl, HB6.out.trans (below_of_grown hg9 (by omega) HB6.out.size)⟩
set_option maxHeartbeats 8000000 in
theorem walkerOf_bad2 (ra rb : Int) (D E : Array Fn) (ma mb : Nat) (pa pb : Option Addr) (ca cb : Nat) (w : World) (hma : D.size = ma) (hmb : E.size = mb) (Ev : Env w) (hga : Gl w pa D) (hgb : Gl w pb E) (hea : (checkG ra D.toList).2 = 0) (e0 : Int) (heb : (checkG rb E.toList).2 = e0) (hn0 : e0 ≠ 0) :
    Calls Tryz.prog 23 #[.agg #[.int .i64 ra, .slice pa ma ca], .agg #[.int .i64 rb, .slice pb mb cb]] w fun e w' => e = .returned (.tuple #[zW, .int .i64 e0]) ∧ Below w.heap.size w w' := by
  obtain ⟨W, hW, hz, hb, h0, h1, h2⟩ := at3r w (.cells #[.int .i64 ra, .slice pa ma ca] 24) (.cells #[.int .i64 rb, .slice pb mb cb] 24) Z59
  have hS := side_ok ra D ma pa ca W hma (Ev.below hb) (hga.below hb) hea
  have q0 := cell_of_row _ _ 0 _ _ _ h0
  have q1 := cell_of_row _ _ 1 _ _ _ h0
  have HT := Lib.hid fun W' (hb' : Below w.heap.size w W') => side_bad rb E mb pb cb W' hmb (Ev.below hb') (hgb.below hb') e0 heb hn0
  have HS := Lib.hid hS
  have HW := Lib.hid hW
  have HB := Lib.hid hb
  have HZ := Lib.hid (show w.heap.size + 2 < W.heap.size by omega)
  have HR1 := Lib.hid h1
  have HR := Lib.hid h2
  have hne : (e0 != 0) = true := by simp [hn0]
  clear hS hW hb h0 h1 h2 hz Ev hga hgb hea heb hn0 hma hmb
  go_enter Tryz.func23, Tryz.ntmps23
  go_upto_region 1 with fail
  rw [HW.out]
  go_wp2_with fail
  refine HS.out.mono ?_
  rintro e w5 ⟨Ka, rfl, hKa, hmK, hb5⟩
  obtain ⟨w6, hw6, hz6, hb6, hr6⟩ := at1 w5 (.cells #[.int .i64 ra, .slice pa ma ca, .map (some Ka)] 55)
  have hz5 := hb5.size
  have hZ := HZ.out
  have hZB := HB.out.size
  have r16 := (hb6.block _ (by omega)).trans ((hb5.block (w.heap.size + 1) (by omega)).trans HR1.out)
  have rR := (hb6.block _ (by omega)).trans ((hb5.block _ hZ).trans HR.out)
  have s0 := cell_of_row _ _ 0 _ _ _ r16
  have s1 := cell_of_row _ _ 1 _ _ _ r16
  have hbw6 := HB.out.trans ((hb5.mono HB.out.size).trans (hb6.mono (by omega)))
  have HKA := Lib.hid (show w.heap.size ≤ Ka by omega)
  have HMK := Lib.hid (hmK.keep (hb6.block _ hmK.lt))
  have HB6 := Lib.hid hbw6
  have HW6 := Lib.hid hw6
  have HR6 := Lib.hid hr6
  have HRR := Lib.hid rR
  have HLR := Lib.hid (show w.heap.size + 1 + 1 < w5.heap.size by omega)
  have HZ6 := Lib.hid hz6
  clear hb5 hz5 hb6 r16 rR hr6 hw6 hz6 hZ q0 q1 hKa hmK hbw6 hZB
  go_upto_region 4 with fail
  rw [HW6.out]
  go_wp2_with fail
  refine (HT.out w6 HB6.out).mono ?_
  rintro e w7 ⟨rfl, hb7⟩
  obtain ⟨w8, hw8, hz8, hb8, hr8⟩ := at1 w7 (.cells #[.int .i64 0, .slice none 0 0, .map none] 55)
  have hz7 := hb7.size
  have hLR := HLR.out
  have hZ6 := HZ6.out
  have rR8 := (hb8.block _ (by omega)).trans ((hb7.block _ (by omega)).trans HRR.out)
  obtain ⟨d0, d1, d2, d3, d4, d5, f0, f1, f2, f3, f4, f5⟩ := row6 rR8
  have S9 := Lib.hid (set6 w8 (w.heap.size + 1 + 1) 59 (.int .i64 0) (.slice none 0 0) (.map none) (.int .i64 0) (.slice none 0 0) (.map none) rR8)
  have HB8 := Lib.hid (HB6.out.trans ((hb7.mono HB6.out.size).trans (hb8.mono (by have := HB6.out.size; omega))))
  have HW8 := Lib.hid hw8
  clear hb7 hz7 hb8 rR8 hr8 hw8 hz8 s0 s1 hLR hZ6
  go_upto_region 5 with fail
  rw [HW8.out]
  go_wp2_with fail
  obtain ⟨W9, h9, hr9, hg9, hz9⟩ := S9.out
  rw [h9]
  have r9 := row6 hr9
  refine bodyPost_ret (v := .tuple #[zW, .int .i64 e0]) (by simp [results, Tryz.results23, go_sem, r9.c0, r9.c1, r9.c2, r9.c3, r9.c4, r9.c5]) rfl ?_
  exact ⟨rfl, HB8.out.trans (below_of_grown hg9 (by omega) HB8.out.size)⟩
set_option maxHeartbeats 8000000 in
theorem walkerOf_good (ra rb : Int) (D E : Array Fn) (ma mb : Nat) (pa pb : Option Addr) (ca cb : Nat) (w : World) (hma : D.size = ma) (hmb : E.size = mb) (Ev : Env w) (hga : Gl w pa D) (hgb : Gl w pb E) (hea : (checkG ra D.toList).2 = 0) (heb : (checkG rb E.toList).2 = 0) :
    Calls Tryz.prog 23 #[.agg #[.int .i64 ra, .slice pa ma ca], .agg #[.int .i64 rb, .slice pb mb cb]] w fun e w' => ∃ Ka Kb, e = .returned (.tuple #[.agg #[.int .i64 ra, .slice pa ma ca, .map (some Ka), .int .i64 rb, .slice pb mb cb, .map (some Kb)], .int .i64 0]) ∧ w.heap.size ≤ Ka ∧ w.heap.size ≤ Kb ∧ Ka ≠ Kb ∧ HasM w' Ka [] ∧ HasM w' Kb [] ∧ Below w.heap.size w w' := by
  obtain ⟨W, hW, hz, hb, h0, h1, h2⟩ := at3r w (.cells #[.int .i64 ra, .slice pa ma ca] 24) (.cells #[.int .i64 rb, .slice pb mb cb] 24) Z59
  have hS := side_ok ra D ma pa ca W hma (Ev.below hb) (hga.below hb) hea
  have q0 := cell_of_row _ _ 0 _ _ _ h0
  have q1 := cell_of_row _ _ 1 _ _ _ h0
  have HT := Lib.hid fun W' (hb' : Below w.heap.size w W') => side_ok rb E mb pb cb W' hmb (Ev.below hb') (hgb.below hb') heb
  have HS := Lib.hid hS
  have HW := Lib.hid hW
  have HB := Lib.hid hb
  have HZ := Lib.hid (show w.heap.size + 2 < W.heap.size by omega)
  have HR1 := Lib.hid h1
  have HR := Lib.hid h2
  clear hS hW hb h0 h1 h2 hz Ev hga hgb hea heb hma hmb
  go_enter Tryz.func23, Tryz.ntmps23
  go_upto_region 1 with fail
  rw [HW.out]
  go_wp2_with fail
  refine HS.out.mono ?_
  rintro e w5 ⟨Ka, rfl, hKa, hmK, hb5⟩
  obtain ⟨w6, hw6, hz6, hb6, hr6⟩ := at1 w5 (.cells #[.int .i64 ra, .slice pa ma ca, .map (some Ka)] 55)
  have hz5 := hb5.size
  have hZ := HZ.out
  have hZB := HB.out.size
  have r16 := (hb6.block _ (by omega)).trans ((hb5.block (w.heap.size + 1) (by omega)).trans HR1.out)
  have rR := (hb6.block _ (by omega)).trans ((hb5.block _ hZ).trans HR.out)
  have s0 := cell_of_row _ _ 0 _ _ _ r16
  have s1 := cell_of_row _ _ 1 _ _ _ r16
  have hbw6 := HB.out.trans ((hb5.mono HB.out.size).trans (hb6.mono (by omega)))
  have HKA := Lib.hid (show w.heap.size ≤ Ka by omega)
  have HMK := Lib.hid (hmK.keep (hb6.block _ hmK.lt))
  have HB6 := Lib.hid hbw6
  have HW6 := Lib.hid hw6
  have HR6 := Lib.hid hr6
  have HRR := Lib.hid rR
  have HLR := Lib.hid (show w.heap.size + 1 + 1 < w5.heap.size by omega)
  have HZ6 := Lib.hid hz6
  clear hb5 hz5 hb6 r16 rR hr6 hw6 hz6 hZ q0 q1 hKa hmK hbw6 hZB
  go_upto_region 4 with fail
  rw [HW6.out]
  go_wp2_with fail
  refine (HT.out w6 HB6.out).mono ?_
  rintro e w7 ⟨Kb, rfl, hKb, hmK, hb7⟩
  obtain ⟨w8, hw8, hz8, hb8, hr8⟩ := at1 w7 (.cells #[.int .i64 rb, .slice pb mb cb, .map (some Kb)] 55)
  have hz7 := hb7.size
  have hLR := HLR.out
  have hZ6 := HZ6.out
  have rR8 := (hb8.block _ (by omega)).trans ((hb7.block _ (by omega)).trans HRR.out)
  have r68 := (hb8.block _ (by omega)).trans ((hb7.block w5.heap.size (by omega)).trans HR6.out)
  obtain ⟨d0, d1, d2, d3, d4, d5, f0, f1, f2, f3, f4, f5⟩ := row6 rR8
  obtain ⟨a0, a1, a2⟩ := cell3 r68
  obtain ⟨b0, b1, b2⟩ := cell3 hr8
  have S9 := Lib.hid (set6 w8 (w.heap.size + 1 + 1) 59 (.int .i64 ra) (.slice pa ma ca) (.map (some Ka)) (.int .i64 rb) (.slice pb mb cb) (.map (some Kb)) rR8)
  have HB8 := Lib.hid (HB6.out.trans ((hb7.mono HB6.out.size).trans (hb8.mono (by have := HB6.out.size; omega))))
  have HW8 := Lib.hid hw8
  have hKal := HMK.out.lt
  have HMA := Lib.hid (HMK.out.keep ((hb8.block Ka (by omega)).trans (hb7.block Ka hKal)))
  have HMB := Lib.hid (hmK.keep (hb8.block Kb hmK.lt))
  have HNE := Lib.hid (show Ka ≠ Kb by omega)
  have HKB := Lib.hid (show w.heap.size ≤ Kb by have := HB6.out.size; omega)
  have HNA := Lib.hid (show Ka ≠ w.heap.size + 1 + 1 from fun e => by
    have h1 := HMK.out
    unfold HasM at h1
    rw [e, HRR.out] at h1
    cases h1)
  have HNB := Lib.hid (show Kb ≠ w.heap.size + 1 + 1 by omega)
  clear hb7 hz7 hb8 rR8 hr8 hw8 hz8 s0 s1 hLR hZ6 r68 hKb hmK hKal
  go_upto_region 5 with fail
  rw [HW8.out]
  go_wp2_with fail
  obtain ⟨W9, h9, hr9, hg9, hz9⟩ := S9.out
  rw [h9]
  have r9 := row6 hr9
  refine bodyPost_ret (v := .tuple #[.agg #[.int .i64 ra, .slice pa ma ca, .map (some Ka), .int .i64 rb, .slice pb mb cb, .map (some Kb)], .int .i64 0]) (by simp [results, Tryz.results23, go_sem, r9.c0, r9.c1, r9.c2, r9.c3, r9.c4, r9.c5]) rfl ?_
  exact ⟨Ka, Kb, rfl, HKA.out, HKB.out, HNE.out, HMA.out.keep (hg9.block Ka HMA.out.lt (by have := HNA.out; simp; omega)), HMB.out.keep (hg9.block Kb HMB.out.lt (by have := HNB.out; simp; omega)), HB8.out.trans (below_of_grown hg9 (by omega) HB8.out.size)⟩
end Go.Proofs.YtepelpmkmhhokaaGreatDoor

set_option maxRecDepth 100000
namespace Go.Proofs.YtepelpmkmhhokaaGreatDoor
open Go.RowKit Go.Shelf
open Scs Dfs Seqk
attribute [local go_sem] Oper.semAt_some
theorem info39 : (Tryz.prog.info? 39).map (fun i => (i.zero, i.size, i.bytes)) = some (some (.agg #[.int .i64 0, .int .i64 0]), 2, 16) := by kernel_rfl
theorem pairs42_any (x0 x1 x2 x3 x4 x5 : Value) (w : World) : Calls Tryz.prog 42 #[.agg #[x0, x1, x2, x3, x4, x5]] w fun e w' => e = .returned (.func (.func 61) #[] #[.pointer (some ⟨w.heap.size, 0, none⟩)]) ∧ w' = w.alloc (.cells #[x0, x1, x2, x3, x4, x5] 59) := by
  go_enter Tryz.func42, Tryz.ntmps42
  go_wp2
  go_ret
  exact ⟨rfl, rfl⟩
/-- pairs as cells -/
def pairV (M : Nat) (ps : List Nat) : List Value := ps.flatMap fun p => [.int .i64 ((p / M : Nat) : Int), .int .i64 ((p % M : Nat) : Int)]
theorem pairV_len (M : Nat) (ps : List Nat) : (pairV M ps).length = ps.length * 2 := by
  induction ps with
  | nil => rfl
  | cons q t ih => simp [pairV] at ih ⊢; omega
theorem pairV_snoc (M : Nat) (ps : List Nat) (p : Nat) : pairV M (ps ++ [p]) = pairV M ps ++ [.int .i64 ((p / M : Nat) : Int), .int .i64 ((p % M : Nat) : Int)] := by simp [pairV]
/-- what the match has met -/
def mtA (M : Nat) (ps : List Nat) : List (Int × Value) := ps.map fun p => (((p / M : Nat) : Int), .int .i64 ((p % M : Nat) : Int))
def mtB (M : Nat) (ps : List Nat) : List (Int × Value) := ps.map fun p => (((p % M : Nat) : Int), .int .i64 ((p / M : Nat) : Int))
/-- the match's maps, where there is one -/
def Mt (two : Bool) (M mA mB : Nat) (ps : List Nat) (W : World) : Prop := two = true → HasM W mA (mtA M ps) ∧ HasM W mB (mtB M ps) ∧ mA ≠ mB ∧ OneTo M ps
/-- what is so ahead of each pair -/
structure Iw (two : Bool) (w0 : World) (D E : Array Fn) (Ka Kb M : Nat) (R : List Nat) (w : World) (rb : Nat) (nr : Nat) (rl : Array Value) (mA mB : Nat) (a0 : Addr) (x0 x1 x2 x3 x4 x5 : Value) (t : Nat) (O : Nat → Prop) (W : World) : Prop where
  vs : ∃ v, W.heap[w.heap.size + 2]? = some (.cells #[v] 27 (0, 0)) ∧ W.ownsRow w.heap.size 39 2 v t (pairV M (R.take t)) ∧ (∀ g, v.ownBlock = some g → ¬ O g ∧ w.heap.size + 5 ≤ g) ∧ Vs w0 D E Ka Kb (fun k => O k ∨ k = w.heap.size + 2 ∨ k = w.heap.size + 3 ∨ k = mA ∨ k = mB ∨ v.ownBlock = some k) W
  end_ : W.heap[w.heap.size + 3]? = some (.cells #[.iface 242 (.pointer (some a0))] 63 (0, 0))
  wbox : W.heap[w.heap.size + 4]? = some (.cells #[x0, x1, x2, x3, x4, x5] 59 (0, 0))
  rbox : W.heap[w.heap.size + 1]? = some (.cells #[.slice (some ⟨rb, 0, none⟩) nr nr] 95 (0, 0))
  rrow : W.heap[rb]? = some (.cells rl 99 (0, 0))
  nO : ∀ k, (k = w.heap.size + 1 ∨ k = w.heap.size + 2 ∨ k = w.heap.size + 3 ∨ k = w.heap.size + 4 ∨ k < w.heap.size) → ¬ O k
  good : ∀ s, s < t → fitG D E (R[s]! / M) (R[s]! % M) = true
  kn : ∀ t', t = t' + 1 → (∃ qk ck qd cd, Kv Ka (R[t']! / M) (ndV D[R[t']! / M]! qk (keysOf D[R[t']! / M]!).length ck qd (kidsOf D[R[t']! / M]!).length cd) W) ∧ ∃ qk ck qd cd, Kv Kb (R[t']! % M) (ndV E[R[t']! % M]! qk (keysOf E[R[t']! % M]!).length ck qd (kidsOf E[R[t']! % M]!).length cd) W
  mt : Mt two M mA mB (R.take t) W
  grw : Grw (fun k => k = Ka ∨ k = Kb ∨ (two = true ∧ (k = mA ∨ k = mB))) w W
  lt : ∀ k, O k → k < W.heap.size
/-- the walk is over at a pair that breaks a rule -/
def Ex (two : Bool) (w0 : World) (D E : Array Fn) (Ka Kb M : Nat) (R : List Nat) (w : World) (mA mB : Nat) (a0 : Addr) (W : World) : Prop :=
  ∃ t v ae, t < R.length ∧ ae ≠ a0 ∧ (∃ c T, W.heap[ae.block]? = some (.cells c T (0, 0))) ∧ ae.block < w.heap.size ∧ (∀ g, v.ownBlock = some g → g ≠ w.heap.size + 5 ∧ g ≠ w.heap.size + 6) ∧ W.heap[w.heap.size + 2]? = some (.cells #[v] 27 (0, 0)) ∧ W.ownsRow w.heap.size 39 2 v (t + 1) (pairV M (R.take (t + 1))) ∧ W.heap[w.heap.size + 3]? = some (.cells #[.iface 242 (.pointer (some ae))] 63 (0, 0)) ∧
    Below w0.heap.size w0 W ∧ Grw (fun k => k = Ka ∨ k = Kb ∨ (two = true ∧ (k = mA ∨ k = mB))) w W ∧ (∀ s, s < t → fitG D E (R[s]! / M) (R[s]! % M) = true) ∧ (fitG D E (R[t]! / M) (R[t]! % M) = false ∨ (two = true ∧ ¬ OneTo M (R.take (t + 1))))
theorem iw_stab {two : Bool} {w0 : World} {D E : Array Fn} {Ka Kb M : Nat} {R : List Nat} {w : World} {rb : Nat} {nr : Nat} {rl : Array Value} {mA mB : Nat} {a0 : Addr} {x0 x1 x2 x3 x4 x5 : Value} (hKa : Ka < w.heap.size) (hKb : Kb < w.heap.size) (hrb : rb < w.heap.size) (hmA : mA < w.heap.size) (hmB : mB < w.heap.size) (hw0 : w0.heap.size ≤ w.heap.size) : Stab (Iw two w0 D E Ka Kb M R w rb nr rl mA mB a0 x0 x1 x2 x3 x4 x5) := by
  intro t O O' A B h hg hO'
  have hz := hg.size
  have same : ∀ k, (k = w.heap.size + 1 ∨ k = w.heap.size + 2 ∨ k = w.heap.size + 3 ∨ k = w.heap.size + 4 ∨ k < w.heap.size) → k < A.heap.size → B.heap[k]? = A.heap[k]? := fun k hk hl => hg.block k hl (h.nO k hk)
  have hzA := h.grw.size
  obtain ⟨v, v1, v2, v3, v4⟩ := h.vs
  have l2 := (Array.getElem?_eq_some_iff.1 v1).1
  have l3 := (Array.getElem?_eq_some_iff.1 h.end_).1
  have l4 := (Array.getElem?_eq_some_iff.1 h.wbox).1
  have l1 := (Array.getElem?_eq_some_iff.1 h.rbox).1
  have hlow : Below w0.heap.size w0 B := ⟨hg.os.trans v4.low.os, hg.tape.trans v4.low.tape, hg.output.trans v4.low.output, Nat.le_trans v4.low.size hz, fun k hk => (same k (by omega) (by omega)).trans (v4.low.block k hk)⟩
  refine ⟨⟨v, (same _ (by omega) l2).trans v1, own_keepG v2 fun g hg' => hg.block g (own_lt v2 g hg').2 (v3 g hg').1, fun g hg' => ⟨fun e => ?_, (v3 g hg').2⟩, ?_⟩, (same _ (by omega) l3).trans h.end_, (same _ (by omega) l4).trans h.wbox, (same _ (by omega) l1).trans h.rbox, (same _ (by omega) (by omega)).trans h.rrow, fun k hk e => ?_, h.good, fun t' e => ?_, fun e => ?_, ?_, ?_⟩
  · rcases hO' g e with e | e
    · exact (v3 g hg').1 e
    · have := (own_lt v2 g hg').2; omega
  · refine v4.keep hlow hz (same _ (by omega) (by omega)) (same _ (by omega) (by omega)) (fun k hk hl => hg.block k hl fun e => hk (.inl e)) fun k hk => ?_
    rcases hk with hk | hk
    · rcases hO' k hk with e | e
      · exact .inl (.inl e)
      · exact .inr e.1
    · exact .inl (.inr hk)
  · rcases hO' k e with e | e
    · exact h.nO k hk e
    · omega
  · obtain ⟨⟨qk, ck, qd, cd, M1, m1, m2⟩, qk', ck', qd', cd', M2, m3, m4⟩ := h.kn t' e
    exact ⟨⟨qk, ck, qd, cd, M1, m1.keep (same _ (by omega) (by omega)), m2⟩, qk', ck', qd', cd', M2, m3.keep (same _ (by omega) (by omega)), m4⟩
  · obtain ⟨m1, m2, m3, m4⟩ := h.mt e
    exact ⟨m1.keep (same _ (by omega) (by omega)), m2.keep (same _ (by omega) (by omega)), m3, m4⟩
  · exact ⟨hg.os.trans h.grw.os, hg.tape.trans h.grw.tape, hg.output.trans h.grw.output, by omega, fun k hk hne => (same k (by omega) (by omega)).trans (h.grw.block k hk hne)⟩
  · intro k hk
    rcases hO' k hk with e | e
    · have := h.lt k e; omega
    · exact e.2
/-- the body's blocks, and the iterator's -/
def OV (OO : Nat → Prop) (B mA mB : Nat) (v : Value) : Nat → Prop := fun k => OO k ∨ k = B + 2 ∨ k = B + 3 ∨ k = mA ∨ k = mB ∨ v.ownBlock = some k
/-- a pair has been laid behind the others, and is asked about -/
structure Md (two : Bool) (w0 : World) (D E : Array Fn) (Ka Kb M : Nat) (R : List Nat) (w : World) (rb : Nat) (nr : Nat) (rl : Array Value) (mA mB : Nat) (a0 : Addr) (x0 x1 x2 x3 x4 x5 : Value) (t : Nat) (OO : Nat → Prop) (W : World) (Bp : Nat) (a b : Int) (v : Value) (V : World) : Prop where
  lbox : V.heap[w.heap.size + 2]? = some (.cells #[v] 27 (0, 0))
  own : V.ownsRow w.heap.size 39 2 v (t + 1) (pairV M (R.take (t + 1)))
  far : ∀ g, v.ownBlock = some g → ¬ OO g ∧ w.heap.size + 5 ≤ g
  vs : Vs w0 D E Ka Kb (OV OO w.heap.size mA mB v) V
  end_ : V.heap[w.heap.size + 3]? = some (.cells #[.iface 242 (.pointer (some a0))] 63 (0, 0))
  wbox : V.heap[w.heap.size + 4]? = some (.cells #[x0, x1, x2, x3, x4, x5] 59 (0, 0))
  rbox : V.heap[w.heap.size + 1]? = some (.cells #[.slice (some ⟨rb, 0, none⟩) nr nr] 95 (0, 0))
  rrow : V.heap[rb]? = some (.cells rl 99 (0, 0))
  pair : V.heap[Bp]? = some (.cells #[.int .i64 a, .int .i64 b] 39 (0, 0))
  keep : KeepsP OO W V
  up : Up W V
  mt : Mt two M mA mB (R.take t) V
  grw : Grw (fun k => k = Ka ∨ k = Kb ∨ (two = true ∧ (k = mA ∨ k = mB))) w V
section
variable {two : Bool} {w0 : World} {D E : Array Fn} {Ka Kb M : Nat} {R : List Nat} {w : World} {rb : Nat} {nr : Nat} {rl : Array Value} {mA mB : Nat} {a0 : Addr} {x0 x1 x2 x3 x4 x5 : Value} {t : Nat} {OO : Nat → Prop} {W : World} {Bp : Nat} {a b : Int} {v : Value} {V V' : World}
theorem Md.below (h : Md two w0 D E Ka Kb M R w rb nr rl mA mB a0 x0 x1 x2 x3 x4 x5 t OO W Bp a b v V) (hO : ∀ k, OO k → k < W.heap.size) (hb : Below V.heap.size V V') : Md two w0 D E Ka Kb M R w rb nr rl mA mB a0 x0 x1 x2 x3 x4 x5 t OO W Bp a b v V' := by
  have s : ∀ {k x}, V.heap[k]? = some x → V'.heap[k]? = some x := fun {k x} e => (hb.block k (Array.getElem?_eq_some_iff.1 e).1).trans e
  have hz := h.keep.1
  exact ⟨s h.lbox, own_keepG h.own fun g hg => hb.block g (own_lt h.own g hg).2, h.far, h.vs.below hb, s h.end_, s h.wbox, s h.rbox, s h.rrow, s h.pair, ⟨Nat.le_trans h.keep.1 hb.size, fun k hk => (hb.block k (by have := hO k hk; omega)).trans (h.keep.2 k hk)⟩, h.up.trans (Up.of_below hb),
    fun e => by
      obtain ⟨m1, m2, m3, m4⟩ := h.mt e
      exact ⟨m1.keep (hb.block _ m1.lt), m2.keep (hb.block _ m2.lt), m3, m4⟩, h.grw.trans (Grw.of_below hb)⟩
theorem Md.ch (h : Md two w0 D E Ka Kb M R w rb nr rl mA mB a0 x0 x1 x2 x3 x4 x5 t OO W Bp a b v V) (hO : ∀ k, OO k → k ≠ Ka ∧ k ≠ Kb ∧ k < W.heap.size) (hm : two = true → (mA ≠ Ka ∧ mA ≠ Kb) ∧ mB ≠ Ka ∧ mB ≠ Kb) (hv : Vs w0 D E Ka Kb (OV OO w.heap.size mA mB v) V') (hc : Ch Ka Kb V V') : Md two w0 D E Ka Kb M R w rb nr rl mA mB a0 x0 x1 x2 x3 x4 x5 t OO W Bp a b v V' := by
  obtain ⟨M1, hM1⟩ := h.vs.ka
  obtain ⟨N1, hN1⟩ := h.vs.kb
  have s : ∀ {k cs T q}, V.heap[k]? = some (Obj.cells cs T q) → V'.heap[k]? = some (Obj.cells cs T q) := fun {k cs T q} e => hc.cells hM1.has hN1.has k cs T q e
  have hz := h.keep.1
  refine ⟨s h.lbox, ?_, h.far, hv, s h.end_, s h.wbox, s h.rbox, s h.rrow, s h.pair, ⟨Nat.le_trans h.keep.1 hc.grw.size, fun k hk => ?_⟩, h.up.trans ⟨hc.grw.size, fun k cs e => s e⟩, fun e => ?_, h.grw.trans (hc.grw.wide fun k _ e => by rcases e with e | e; exact .inl e; exact .inr (.inl e))⟩
  · rcases h.own with ⟨l1, ⟨e1, e2⟩ | ⟨g, cp, cur, e1, e2, e3, e4⟩⟩
    · exact ⟨l1, .inl ⟨e1, e2⟩⟩
    · exact ⟨l1, .inr ⟨g, cp, cur, e1, e2, s e3, e4⟩⟩
  · have := hO k hk
    exact (hc.grw.block k (by omega) (by omega)).trans (h.keep.2 k hk)
  · obtain ⟨m1, m2, m3, m4⟩ := h.mt e
    obtain ⟨n1, n2⟩ := hm e
    exact ⟨m1.keep (hc.grw.block _ m1.lt (by omega)), m2.keep (hc.grw.block _ m2.lt (by omega)), m3, m4⟩
end
section
variable {two : Bool} {w0 : World} {D E : Array Fn} {Ka Kb M : Nat} {R : List Nat} {w : World} {rb : Nat} {nr : Nat} {rl : Array Value} {mA mB : Nat} {a0 : Addr} {x0 x1 x2 x3 x4 x5 : Value} {t : Nat} {OO : Nat → Prop} {W : World} {Bp : Nat} {a b : Int} {v : Value} {V V' : World}
/-- the pair keeps its rules -/
theorem Md.done (h : Md two w0 D E Ka Kb M R w rb nr rl mA mB a0 x0 x1 x2 x3 x4 x5 t OO W Bp a b v V) (hI : Iw two w0 D E Ka Kb M R w rb nr rl mA mB a0 x0 x1 x2 x3 x4 x5 t OO W) (hO : ∀ k, OO k → k < W.heap.size) (hf : fitG D E (R[t]! / M) (R[t]! % M) = true)
    (ka : ∃ qk ck qd cd, Kv Ka (R[t]! / M) (ndV D[R[t]! / M]! qk (keysOf D[R[t]! / M]!).length ck qd (kidsOf D[R[t]! / M]!).length cd) V) (kb : ∃ qk ck qd cd, Kv Kb (R[t]! % M) (ndV E[R[t]! % M]! qk (keysOf E[R[t]! % M]!).length ck qd (kidsOf E[R[t]! % M]!).length cd) V) (hm : Mt two M mA mB (R.take (t + 1)) V) :
    KeepsP OO W V ∧ Up W V ∧ Iw two w0 D E Ka Kb M R w rb nr rl mA mB a0 x0 x1 x2 x3 x4 x5 (t + 1) OO V := by
  refine ⟨h.keep, h.up, ⟨v, h.lbox, h.own, h.far, h.vs⟩, h.end_, h.wbox, h.rbox, h.rrow, hI.nO, fun s hs => ?_, fun t' e => ?_, hm, h.grw, fun k hk => by have := hO k hk; have := h.keep.1; omega⟩
  · by_cases e : s < t
    · exact hI.good s e
    · have : s = t := by omega
      rw [this]; exact hf
  · have : t' = t := by omega
    rw [this]
    exact ⟨ka, kb⟩
/-- the pair keeps both rules -/
theorem Md.done2 (h : Md two w0 D E Ka Kb M R w rb nr rl mA mB a0 x0 x1 x2 x3 x4 x5 t OO W Bp a b v V) (hI : Iw two w0 D E Ka Kb M R w rb nr rl mA mB a0 x0 x1 x2 x3 x4 x5 t OO W) (hO : ∀ k, OO k → k < W.heap.size) (hf : fitG D E (R[t]! / M) (R[t]! % M) = true)
    (ka : ∃ qk ck qd cd, Kv Ka (R[t]! / M) (ndV D[R[t]! / M]! qk (keysOf D[R[t]! / M]!).length ck qd (kidsOf D[R[t]! / M]!).length cd) V) (kb : ∃ qk ck qd cd, Kv Kb (R[t]! % M) (ndV E[R[t]! % M]! qk (keysOf E[R[t]! % M]!).length ck qd (kidsOf E[R[t]! % M]!).length cd) V)
    (e2 : two = true) (hm : (mA ≠ Ka ∧ mA ≠ Kb) ∧ mB ≠ Ka ∧ mB ≠ Kb) (hl : mA < w.heap.size ∧ mB < w.heap.size) (hw : w0.heap.size ≤ mA ∧ w0.heap.size ≤ mB) (g : Grw (fun k => k = mA ∨ k = mB) V V') (hm' : Mt two M mA mB (R.take (t + 1)) V') :
    KeepsP OO W V' ∧ Up W V' ∧ Iw two w0 D E Ka Kb M R w rb nr rl mA mB a0 x0 x1 x2 x3 x4 x5 (t + 1) OO V' := by
  obtain ⟨m1, m2, _, _⟩ := h.mt e2
  have s : ∀ {k : Nat} {cs : Array Value} {T : TypeId} {q : Nat × Nat}, V.heap[k]? = some (Obj.cells cs T q) → V'.heap[k]? = some (Obj.cells cs T q) := fun {k cs T q} e => (g.block k (Array.getElem?_eq_some_iff.1 e).1 (by
    rintro (r | r)
    · subst r
      unfold HasM at m1
      rw [e] at m1
      cases m1
    · subst r
      unfold HasM at m2
      rw [e] at m2
      cases m2)).trans e
  have hk := h.keep.1
  have hz := g.size
  obtain ⟨M1, hM1⟩ := h.vs.ka
  obtain ⟨N1, hN1⟩ := h.vs.kb
  obtain ⟨n1, n2, n3, n4⟩ := hm'  e2
  have kA : V'.heap[Ka]? = V.heap[Ka]? := g.block _ hM1.has.lt (by omega)
  have kB : V'.heap[Kb]? = V.heap[Kb]? := g.block _ hN1.has.lt (by omega)
  have hvs : Vs w0 D E Ka Kb (OV OO w.heap.size mA mB v) V' := h.vs.keep (h.vs.low.trans (g.below h.vs.low.size (by rintro k (e | e) <;> omega))) hz kA kB (fun k hk hl => g.block k hl fun e => hk (by
    rcases e with e | e
    · exact .inr (.inr (.inr (.inl e)))
    · exact .inr (.inr (.inr (.inr (.inl e)))))) fun k hk => .inl hk
  refine ⟨⟨by omega, fun k hk => (g.block k (by have := hO k hk; omega) (by
    rintro (e | e)
    · exact hI.nO k (by omega) hk
    · exact hI.nO k (by omega) hk)).trans (h.keep.2 k hk)⟩, h.up.trans ⟨hz, fun k cs e => s e⟩, ⟨v, s h.lbox, ?_, h.far, hvs⟩, s h.end_, s h.wbox, s h.rbox, s h.rrow, hI.nO, fun x hs => ?_, fun t' e => ?_, hm', h.grw.trans (g.wide fun k _ e => .inr (.inr ⟨e2, e⟩)), fun k hk => by have := hO k hk; omega⟩
  · rcases h.own with ⟨l1, ⟨f1, f2⟩ | ⟨g', cp, cur, f1, f2, f3, f4⟩⟩
    · exact ⟨l1, .inl ⟨f1, f2⟩⟩
    · exact ⟨l1, .inr ⟨g', cp, cur, f1, f2, s f3, f4⟩⟩
  · by_cases e : x < t
    · exact hI.good x e
    · have : x = t := by omega
      rw [this]; exact hf
  · have : t' = t := by omega
    rw [this]
    obtain ⟨qk, ck, qd, cd, P, p1, p2⟩ := ka
    obtain ⟨qk', ck', qd', cd', P', p3, p4⟩ := kb
    exact ⟨⟨qk, ck, qd, cd, P, p1.keep kA, p2⟩, qk', ck', qd', cd', P', p3.keep kB, p4⟩
/-- the pair breaks one -/
theorem Md.stop (h : Md two w0 D E Ka Kb M R w rb nr rl mA mB a0 x0 x1 x2 x3 x4 x5 t OO W Bp a b v V) (hI : Iw two w0 D E Ka Kb M R w rb nr rl mA mB a0 x0 x1 x2 x3 x4 x5 t OO W) (hO : ∀ k, OO k → k < W.heap.size) (hD : OO (w.heap.size + 5) ∧ OO (w.heap.size + 6)) (hw : w0.heap.size ≤ w.heap.size) (_hab : Ka < w.heap.size ∧ Kb < w.heap.size) {ae : Addr} (he : ∃ c T, w0.heap[ae.block]? = some (.cells c T (0, 0))) (hne : ae ≠ a0) (ht : t < R.length)
    (hbad : fitG D E (R[t]! / M) (R[t]! % M) = false ∨ (two = true ∧ ¬ OneTo M (R.take (t + 1)))) :
    KeepsP OO W (V.setCell ⟨w.heap.size + 3, 0, none⟩ (.iface 242 (.pointer (some ae)))) ∧ Ex two w0 D E Ka Kb M R w mA mB a0 (V.setCell ⟨w.heap.size + 3, 0, none⟩ (.iface 242 (.pointer (some ae)))) := by
  have h3 := heap_setCell_same V (w.heap.size + 3) 0 _ _ (.iface 242 (.pointer (some ae))) h.end_
  have hg : V.grownBy (V.setCell ⟨w.heap.size + 3, 0, none⟩ (.iface 242 (.pointer (some ae)))) (some (w.heap.size + 3)) := gB_setCell (gB_refl _ _) _ _
  obtain ⟨V', hV'⟩ : ∃ V', V.setCell ⟨w.heap.size + 3, 0, none⟩ (.iface 242 (.pointer (some ae))) = V' := ⟨_, rfl⟩
  rw [hV'] at h3 hg ⊢
  obtain ⟨c, T, hrow⟩ := he
  have hz := hg.size
  have hk1 := h.keep.1
  have hgz := h.grw.size
  have ne : ∀ k, k ≠ w.heap.size + 3 → k < V.heap.size → V'.heap[k]? = V.heap[k]? := fun k hk hl => hg.block k hl (by simp; omega)
  have hl0 := (Array.getElem?_eq_some_iff.1 hrow).1
  have hzv := h.vs.low.size
  have l2 := (Array.getElem?_eq_some_iff.1 h.lbox).1
  refine ⟨⟨by omega, fun k hk => (ne k (fun e => hI.nO k (by omega) hk) (by have := hO k hk; omega)).trans (h.keep.2 k hk)⟩, t, v, ae, ht, hne, ⟨c, T, (ne _ (by omega) (by omega)).trans ((h.vs.low.block _ hl0).trans hrow)⟩, by omega, fun g hg' => ⟨fun e => (h.far g hg').1 (e ▸ hD.1), fun e => (h.far g hg').1 (e ▸ hD.2)⟩, (ne _ (by omega) l2).trans h.lbox, own_keepG h.own fun g hg' => ne g (by have := (h.far g hg').2; omega) (own_lt h.own g hg').2, h3,
    ⟨hg.os.trans h.vs.low.os, hg.tape.trans h.vs.low.tape, hg.output.trans h.vs.low.output, by omega, fun k hk => (ne k (by omega) (by omega)).trans (h.vs.low.block k hk)⟩,
    ⟨hg.os.trans h.grw.os, hg.tape.trans h.grw.tape, hg.output.trans h.grw.output, by omega, fun k hk hn => (ne k (by omega) (by omega)).trans (h.grw.block k hk hn)⟩, hI.good, hbad⟩
end
theorem find_mt {f g : Nat → Nat} {L : List Nat} {x : Nat} : (∃ q ∈ L, f q = x ∧ findI (x : Int) (L.map fun p => (((f p : Nat) : Int), Value.int .i64 ((g p : Nat) : Int))) = some (.int .i64 ((g q : Nat) : Int))) ∨ (findI (x : Int) (L.map fun p => (((f p : Nat) : Int), Value.int .i64 ((g p : Nat) : Int))) = none ∧ ∀ q ∈ L, f q ≠ x) := by
  induction L with
  | nil => exact .inr ⟨rfl, fun q h => by cases h⟩
  | cons y t ih =>
    rw [List.map_cons]
    unfold findI
    by_cases e : (x : Int) = ((f y : Nat) : Int)
    · rw [if_pos e]
      exact .inl ⟨y, by simp, by omega, rfl⟩
    · rw [if_neg e]
      rcases ih with ⟨q, h1, h2, h3⟩ | ⟨h1, h2⟩
      · exact .inl ⟨q, by simp [h1], h2, h3⟩
      · refine .inr ⟨h1, fun q hq => ?_⟩
        rcases List.mem_cons.1 hq with h | h
        · subst h; omega
        · exact h2 q h
theorem mt_cases {M p : Nat} {L : List Nat} (hp : p ∉ L) (hL : OneTo M L) :
    (findI ((p / M : Nat) : Int) (mtA M L) = none ∧ findI ((p % M : Nat) : Int) (mtB M L) = none ∧ OneTo M (L ++ [p])) ∨
    (((∃ b, findI ((p / M : Nat) : Int) (mtA M L) = some (.int .i64 b) ∧ b ≠ ((p % M : Nat) : Int)) ∨ (findI ((p / M : Nat) : Int) (mtA M L) = none ∧ ∃ a, findI ((p % M : Nat) : Int) (mtB M L) = some (.int .i64 a) ∧ a ≠ ((p / M : Nat) : Int))) ∧ ¬ OneTo M (L ++ [p])) := by
  have hA := find_mt (f := (· / M)) (g := (· % M)) (L := L) (x := p / M)
  have hB := find_mt (f := (· % M)) (g := (· / M)) (L := L) (x := p % M)
  have self : ∀ q, q / M = p / M → q % M = p % M → q = p := fun q h1 h2 => by rw [← pair_self M q, ← pair_self M p, h1, h2]
  rcases hA with ⟨q, hq, e1, e2⟩ | ⟨e1, e2⟩
  · have hne : q % M ≠ p % M := fun e => hp (self q e1 e ▸ hq)
    refine .inr ⟨.inl ⟨_, e2, by omega⟩, fun h => hne ((h q (by simp [hq]) p (by simp)).1 e1)⟩
  · rcases hB with ⟨q, hq, f1, f2⟩ | ⟨f1, f2⟩
    · refine .inr ⟨.inr ⟨e1, _, f2, fun e => e2 q hq (show q / M = p / M by omega)⟩, fun h => e2 q hq ((h q (by simp [hq]) p (by simp)).2 f1)⟩
    · refine .inl ⟨e1, f1, fun x hx y hy => ?_⟩
      rcases List.mem_append.1 hx with hx | hx <;> rcases List.mem_append.1 hy with hy | hy
      · exact hL x hx y hy
      · rw [List.mem_singleton.1 hy]
        exact ⟨fun e => (e2 x hx e).elim, fun e => (f2 x hx e).elim⟩
      · rw [List.mem_singleton.1 hx]
        exact ⟨fun e => (e2 y hy e.symm).elim, fun e => (f2 y hy e.symm).elim⟩
      · rw [List.mem_singleton.1 hx, List.mem_singleton.1 hy]
        simp
theorem prs_run {D E : Array Fn} {ma mb : Nat} {pa pb : Option Addr} {Ka Kb : Nat} (ra rb ca cb Bw : Nat) (hma : D.size = ma) (hmb : E.size = mb) (hba : badFrom D.size D.toList 0 = none) (hbb : badFrom E.size E.toList 0 = none) (hra : ra < ma) (hrb : rb < mb) (h200 : ma ≤ 200) (h201 : mb ≤ 200) (R : List Nat) (hR : pw ma mb (KN D) (KN E) ra rb = R) :
    SeqT Fence.wide 5 Tryz.prog 61 #[.pointer (some ⟨Bw, 0, none⟩)] (fun t => #[aggP (prI mb R[t]!)]) R.length (fun t _ A => Sp D E Ka Kb mb R Bw (.int .i64 ra) (.slice pa ma ca) (.map (some Ka)) (.int .i64 rb) (.slice pb mb cb) (.map (some Kb)) t A) (fun _ => False) (fun _ => True) (fun _ _ => True) Up :=
  fun l J Jx W hJ hS hY h0 _ => prs_in ra rb ca cb Bw hma hmb hba hbb hra hrb h200 h201 l J Jx W R hR hJ hS hY h0
theorem iw_sp {two : Bool} {w0 : World} {D E : Array Fn} {Ka Kb M : Nat} {R : List Nat} {w : World} {rb : Nat} {nr : Nat} {rl : Array Value} {mA mB : Nat} {a0 : Addr} {x0 x1 x2 x3 x4 x5 : Value} {t : Nat} {O : Nat → Prop} {W : World} (h : Iw two w0 D E Ka Kb M R w rb nr rl mA mB a0 x0 x1 x2 x3 x4 x5 t O W) : Sp D E Ka Kb M R (w.heap.size + 4) x0 x1 x2 x3 x4 x5 t W := by
  refine ⟨h.wbox, fun t' e => ?_⟩
  obtain ⟨⟨qk, ck, qd, cd, k1⟩, qk', ck', qd', cd', k2⟩ := h.kn t' e
  obtain ⟨v, _, _, _, v4⟩ := h.vs
  obtain ⟨M1, m1⟩ := v4.ka
  obtain ⟨M2, m2⟩ := v4.kb
  have n1 := nv_of m1 k1
  have n2 := nv_of m2 k2
  exact ⟨qk, ck, qd, cd, qk', ck', qd', cd', k1, k2, h.good t' (by omega), ⟨n1.ds, n1.cap, n1.tag⟩, ⟨n2.ds, n2.cap, n2.tag⟩⟩
set_option maxHeartbeats 32000000 in
theorem walk24_in (two : Bool) {w0 : World} {D E : Array Fn} {ma mb : Nat} {pa pb : Option Addr} {Ka Kb : Nat} (H : Vw w0 D E ma mb pa pb Ka Kb) (ra rb ca cb : Nat) (hba : badFrom D.size D.toList 0 = none) (hbb : badFrom E.size E.toList 0 = none) (hra : ra < ma) (hrb : rb < mb) (h200 : ma ≤ 200) (h201 : mb ≤ 200) (R : List Nat) (hR : pw ma mb (KN D) (KN E) ra rb = R) {a0 a1 a2 : Addr} (hE : Is3 w0 a0 a1 a2)
    (mA mB br nr : Nat) (rl : Array Value) (w : World) (hv : Vs w0 D E Ka Kb (fun k => k = mA ∨ k = mB) w) (hrl : w.heap[br]? = some (.cells rl 99 (0, 0))) (hmA : mA < w.heap.size) (hmB : mB < w.heap.size) (hmt : Mt two mb mA mB [] w) (hne : two = true → (mA ≠ Ka ∧ mA ≠ Kb) ∧ mB ≠ Ka ∧ mB ≠ Kb) (hmw : two = true → w0.heap.size ≤ mA ∧ w0.heap.size ≤ mB)
    (hrs : rl = if two then #[.func (.func 25) #[.agg #[.int .i64 ra, .slice pa ma ca, .map (some Ka), .int .i64 rb, .slice pb mb cb, .map (some Kb)]] #[], .func (.func 30) #[.agg #[.map (some mA), .map (some mB)]] #[]] else #[.func (.func 25) #[.agg #[.int .i64 ra, .slice pa ma ca, .map (some Ka), .int .i64 rb, .slice pb mb cb, .map (some Kb)]] #[]]) (hnr : rl.size = nr) :
    Calls Tryz.prog 24 #[.agg #[.int .i64 ra, .slice pa ma ca, .map (some Ka), .int .i64 rb, .slice pb mb cb, .map (some Kb)], .slice (some ⟨br, 0, none⟩) nr nr] w fun e w' => ∃ v ae L, e = .returned (.tuple #[v, .iface 242 (.pointer (some ae))]) ∧ w'.ownsRow w.heap.size 39 2 v L.length (pairV mb L) ∧ (∃ c T, w'.heap[ae.block]? = some (.cells c T (0, 0))) ∧ Below w0.heap.size w0 w' ∧ Grw (fun k => k = Ka ∨ k = Kb ∨ (two = true ∧ (k = mA ∨ k = mB))) w w' ∧
      ((ae = a0 ∧ L = R ∧ (∀ s, s < R.length → fitG D E (R[s]! / mb) (R[s]! % mb) = true) ∧ (two = true → OneTo mb R)) ∨ (ae ≠ a0 ∧ ∃ t, t < R.length ∧ L = R.take (t + 1) ∧ (∀ s, s < t → fitG D E (R[s]! / mb) (R[s]! % mb) = true) ∧ (fitG D E (R[t]! / mb) (R[t]! % mb) = false ∨ (two = true ∧ ¬ OneTo mb (R.take (t + 1)))))) := by
  obtain ⟨i0, hi0, hi1, hi2, hi3⟩ := info_parts info39
  have hw0 := hv.low.size
  obtain ⟨M1, hM1⟩ := hv.ka
  obtain ⟨N1, hN1⟩ := hv.kb
  have hKal := hM1.has.lt
  have hKbl := hN1.has.lt
  have hbrl : br < w.heap.size := (Array.getElem?_eq_some_iff.1 hrl).1
  have e0 := (hE.all.below hv.low).1
  obtain ⟨W2, hW2, hz2, hb2, hr20, hr21⟩ := at2 w (.cells #[.int .i64 ra, .slice pa ma ca, .map (some Ka), .int .i64 rb, .slice pb mb cb, .map (some Kb)] 59) (.cells #[.slice (some ⟨br, 0, none⟩) nr nr] 95)
  obtain ⟨W4, hW4, hz4, hb4, hr42, hr43⟩ := at2 W2 (.cells #[.slice none 0 0] 27) (.cells #[.iface 242 (.pointer (some a0))] 63)
  obtain ⟨W5, hW5, hz5, hb5, hr54⟩ := at1 W4 (.cells #[.int .i64 ra, .slice pa ma ca, .map (some Ka), .int .i64 rb, .slice pb mb cb, .map (some Kb)] 59)
  have e02 := (hb2.cell (p := ⟨0, 0, none⟩) (World.block_lt_of_cell? w ⟨0, 0, none⟩ (by rw [e0]))).trans e0
  have l02 : 0 < W2.heap.size := World.block_lt_of_cell? W2 ⟨0, 0, none⟩ (by rw [e02])
  have hr40 := (hb4.block w.heap.size (by omega)).trans hr20
  obtain ⟨c0, c1, c2, c3, c4, c5⟩ := cell6 hr40
  have HP := Lib.hid fun w => pairs42_any (.int .i64 ra) (.slice pa ma ca) (.map (some Ka)) (.int .i64 rb) (.slice pb mb cb) (.map (some Kb)) w
  have HW2 := Lib.hid hW2
  have HW4 := Lib.hid hW4
  have HW5 := Lib.hid hW5
  refine (callsIn_wide (n := 6)).1 ?_
  refine callsIn_of_wp_marks Tryz.func24 rfl trivial ?_ rfl
  simp only [Tryz.ntmps24, List.size_toArray, List.length_cons, List.length_nil, Nat.reduceAdd, Nat.reduceSub, Array.replicate_succ, Array.replicate_zero, List.push_toArray, List.append_toArray, List.nil_append, List.cons_append]
  refine wpIn_wide.2 ?_
  go_wp2_with fail
  apply wp_scope_straight
  go_wp2_with fail
  apply wp_label
  go_wp2_with (go_at_call 42; refine (HP.out _).mono ?_; rintro e w' ⟨rfl, rfl⟩)
  rw [show w.heap.size + 2 + 1 = w.heap.size + 3 from rfl, show w.heap.size + 2 + 2 = w.heap.size + 4 from rfl]
  have hb05 : Below w.heap.size w W5 := hb2.trans ((hb4.mono (by omega)).trans (hb5.mono (by omega)))
  have h05 : Iw two w0 D E Ka Kb mb R w br nr rl mA mB a0 (.int .i64 ra) (.slice pa ma ca) (.map (some Ka)) (.int .i64 rb) (.slice pb mb cb) (.map (some Kb)) 0 (fun _ => False) W5 := by
    have r2 : W5.heap[w.heap.size + 2]? = some (.cells #[.slice none 0 0] 27 (0, 0)) := (hb5.block _ (by omega)).trans (by rw [← hz2]; exact hr42)
    refine ⟨⟨.slice none 0 0, r2, World.ownsRow_nil _ _ _ _, (fun g hg => by cases hg), ?_⟩, (hb5.block _ (by omega)).trans (by rw [show w.heap.size + 3 = W2.heap.size + 1 by omega]; exact hr43), by rw [show w.heap.size + 4 = W4.heap.size by omega]; exact hr54, (hb5.block _ (by omega)).trans ((hb4.block _ (by omega)).trans hr21), (hb05.block _ hbrl).trans hrl, fun k _ h => h, fun s hs => by omega, fun t' e => by omega, fun e => ?_, Grw.of_below hb05, fun k h => h.elim⟩
    · refine hv.keep (hv.low.trans (hb05.mono hw0)) hb05.size (hb05.block _ hKal) (hb05.block _ hKbl) (fun k _ hk => hb05.block k hk) fun k hk => ?_
      rcases hk with hk | hk | hk | hk | hk | hk
      · exact hk.elim
      · exact .inr (by omega)
      · exact .inr (by omega)
      · exact .inl (.inl hk)
      · exact .inl (.inr hk)
      · cases hk
    · obtain ⟨m1, m2, m3, m4⟩ := hmt e
      exact ⟨m1.keep (hb05.block _ hmA), m2.keep (hb05.block _ hmB), m3, m4⟩
  have HRUN := Lib.hid (prs_run (pa := pa) (pb := pb) (Ka := Ka) (Kb := Kb) ra rb ca cb (w.heap.size + 4) H.hma H.hmb hba hbb hra hrb h200 h201 R hR)
  have HSTAB := Lib.hid (iw_stab (two := two) (w0 := w0) (D := D) (E := E) (M := mb) (R := R) (rb := br) (nr := nr) (rl := rl) (a0 := a0) (x0 := .int .i64 ra) (x1 := .slice pa ma ca) (x2 := .map (some Ka)) (x3 := .int .i64 rb) (x4 := .slice pb mb cb) (x5 := .map (some Kb)) hKal hKbl hbrl hmA hmB hw0)
  have hrlen : R.length ≤ 40000 := by
    have h1 := few_len _ _ (walk_went (pk_lt (KN_lt hba) (KN_lt hbb)) (pair_lt (show ra < D.size by rw [H.hma]; exact hra) (show rb < E.size by rw [H.hmb]; exact hrb))).few
    have h2 : (walk (pk E.size (KN D) (KN E)) (D.size * E.size) (ra * E.size + rb)) = R := by rw [← hR, ← H.hma, ← H.hmb]; rfl
    rw [h2, H.hma, H.hmb] at h1
    have h3 : ma * mb ≤ 200 * 200 := Nat.mul_le_mul h200 h201
    omega
  have HRL := Lib.hid hrlen
  have HRS := Lib.hid hrs
  have HMT := Lib.hid hmt
  have HMW := Lib.hid hmw
  have HH := Lib.hid H
  have HBA := Lib.hid (show _ ∧ _ from ⟨hba, hbb⟩)
  have HRR := Lib.hid (show _ ∧ _ ∧ _ from ⟨hra, hrb, hR⟩)
  have HNR := Lib.hid hnr
  clear hrs hnr hrlen
  have HZ5 := Lib.hid (show W5.heap.size = w.heap.size + 5 by omega)
  have HE := Lib.hid hE
  have HWW := Lib.hid hw0
  refine (wpIn_wide (n := 6)).1 ?_
  refine wpIn_rangeFunc_seqt rfl (by decide) (gf := 61) (lb := #[.pointer (some ⟨w.heap.size + 4, 0, none⟩)]) rfl trivial (enters_of Tryz.func61 (by kernel_rfl) rfl)
    HRUN.out (fun _ _ _ => Up.trans) (fun _ _ _ h => Up.of_below h) (fun _ _ h hn => Up.of_grown h fun cs e => hn cs 3 (0, 0) e) (fun _ _ _ h => h) (fun _ => rfl) (.exit 0) (fun _ h => h.elim) (fun _ _ => trivial) (fun _ _ _ _ _ _ _ => trivial)
    (Iw two w0 D E Ka Kb mb R w br nr rl mA mB a0 (.int .i64 ra) (.slice pa ma ca) (.map (some Ka)) (.int .i64 rb) (.slice pb mb cb) (.map (some Kb))) (Ex two w0 D E Ka Kb mb R w mA mB a0) HSTAB.out ?hIx (fun _ _ _ h => iw_sp h) h05
    (fun t a W => ∃ B, W.heap[B]? = some (.cells #[.int .i64 ((R[t]! / mb : Nat) : Int), .int .i64 ((R[t]! % mb : Nat) : Int)] 39 (0, 0)) ∧ (∃ v, W.heap[w.heap.size + 2]? = some (.cells #[v] 27 (0, 0)) ∧ ∀ g, v.ownBlock = some g → g ≠ B) ∧ a = { tmps := #[.agg #[.int .i64 ra, .slice pa ma ca, .map (some Ka), .int .i64 rb, .slice pb mb cb, .map (some Kb)], .slice (some ⟨br, 0, none⟩) nr nr, .pointer (some ⟨w.heap.size, 0, none⟩), .pointer (some ⟨w.heap.size + 1, 0, none⟩), .slice none 0 0, .nilIface, .pointer (some ⟨w.heap.size + 2, 0, none⟩), .pointer (some ⟨w.heap.size + 3, 0, none⟩), .pointer (some ⟨B, 0, none⟩), undef, undef, undef, .iface 242 (.pointer (some a0)), .agg #[.int .i64 ra, .slice pa ma ca, .map (some Ka), .int .i64 rb, .slice pb mb cb, .map (some Kb)], .func (.func 61) #[] #[.pointer (some ⟨w.heap.size + 4, 0, none⟩)], .agg #[.int .i64 ((R[t]! / mb : Nat) : Int), .int .i64 ((R[t]! % mb : Nat) : Int)], undef, undef, undef, undef, undef, undef, undef, undef, undef, undef, undef, undef, undef, undef, undef, undef, undef, undef, undef, undef], defers := [] })
    ?hAx ?hassign ?hbody ?hdone ?hstop
  case hIx =>
    rintro A B r ⟨t, v, ae, h1, h2, ⟨c, T, h3⟩, h4, h5, h6, h7, h8, h9, h10, h11, h12⟩ hg rfl
    have hzg := hg.size
    have hzA := h10.size
    have ne : ∀ k, k ≠ w.heap.size + 6 → k < A.heap.size → B.heap[k]? = A.heap[k]? := fun k hk hl => hg.block k hl (by simp; omega)
    have l2 := (Array.getElem?_eq_some_iff.1 h6).1
    have l3 := (Array.getElem?_eq_some_iff.1 h8).1
    exact ⟨t, v, ae, h1, h2, ⟨c, T, (ne _ (by omega) (by omega)).trans h3⟩, h4, h5, (ne _ (by omega) l2).trans h6, own_keepG h7 fun g hg' => ne g (h5 g hg').2 (own_lt h7 g hg').2, (ne _ (by omega) l3).trans h8,
      ⟨hg.os.trans h9.os, hg.tape.trans h9.tape, hg.output.trans h9.output, by have := h9.size; omega, fun k hk => (ne k (by omega) (by have := h9.size; omega)).trans (h9.block k hk)⟩,
      ⟨hg.os.trans h10.os, hg.tape.trans h10.tape, hg.output.trans h10.output, by omega, fun k hk hne => (ne k (by omega) (by omega)).trans (h10.block k hk hne)⟩, h11, h12⟩
  case hAx =>
    rintro t a A B r ⟨b, hb, ⟨v, hv1, hv2⟩, rfl⟩ hg hn
    exact ⟨b, (hg.block b (Array.getElem?_eq_some_iff.1 hb).1 (by simp; intro e; subst e; exact hn _ _ _ hb)).trans hb, ⟨v, (hg.block _ (Array.getElem?_eq_some_iff.1 hv1).1 (by simp; intro e; subst e; exact hn _ _ _ hv1)).trans hv1, hv2⟩, rfl⟩
  case hassign =>
    intro l t O W K ht hI hK
    obtain ⟨a, ha⟩ : ∃ a : Int, ((R[t]! / mb : Nat) : Int) = a := ⟨_, rfl⟩
    obtain ⟨b, hb⟩ : ∃ a : Int, ((R[t]! % mb : Nat) : Int) = a := ⟨_, rfl⟩
    unfold aggP prI
    simp only [ha, hb] at hK ⊢
    have HKK := Lib.hid hK
    obtain ⟨v, v1, v2, _, _⟩ := hI.vs
    have HV := Lib.hid (show _ ∧ _ from ⟨v1, v2⟩)
    clear hK ha hb hI v1 v2
    gi_wp2
    exact HKK.out _ _ ((Below.refl _ W).alloc (Nat.le_refl _) _) ⟨W.heap.size, heap_alloc_new W _, ⟨v, (Below.heap_alloc _ _ _ (Array.getElem?_eq_some_iff.1 HV.out.1).1).trans HV.out.1, fun g hg e => by have := (own_lt HV.out.2 g hg).2; omega⟩, rfl⟩
  case hbody =>
    rintro l t O a' W ht hI hOW ⟨Bp, hbp, ⟨vv, hvv, hvb⟩, rfl⟩
    have hz5 := HZ5.out
    rw [hz5] at hI hOW ⊢
    obtain ⟨v, v1, v2, v3, v4⟩ := hI.vs
    obtain rfl : v = vv := by
      have h1 := cell_of_row _ _ 0 _ _ _ hvv
      rw [cell_of_row _ _ 0 _ _ _ v1] at h1
      simpa using h1
    have htk : R.take (t + 1) = R.take t ++ [R[t]!] := by rw [List.take_succ_eq_append_getElem ht, getElem!_pos R t ht]
    have hrt := pairV_snoc mb (R.take t) R[t]!
    rw [← htk] at hrt
    obtain ⟨p, hp⟩ : ∃ p, R[t]! = p := ⟨_, rfl⟩
    simp only [hp] at hrt hbp htk ⊢
    obtain ⟨a, ha⟩ : ∃ a : Int, ((p / mb : Nat) : Int) = a := ⟨_, rfl⟩
    obtain ⟨b, hb⟩ : ∃ a : Int, ((p % mb : Nat) : Int) = a := ⟨_, rfl⟩
    rw [ha, hb] at hbp hrt ⊢
    have htm : t ≤ 40000 := by have := HRL.out; omega
    have c1 : W.cell? ⟨w.heap.size + 2, 0, none⟩ = some v := cell_of_row _ _ 0 _ _ _ v1
    have d0 := cell_of_row _ _ 0 _ _ _ hbp
    have d1 := cell_of_row _ _ 1 _ _ _ hbp
    have hgx' := own_neX v2 v1 (by decide)
    have hxl := (Array.getElem?_eq_some_iff.1 v1).1
    have HI := Lib.hid hI
    have HV1 := Lib.hid v1
    have HV2 := Lib.hid v2
    have HV3 := Lib.hid v3
    have HV4 := Lib.hid v4
    have HOW := Lib.hid hOW
    have HVB := Lib.hid hvb
    have HBP := Lib.hid hbp
    have HTK := Lib.hid htk
    have HRT := Lib.hid hrt
    have HPP := Lib.hid hp
    have HA := Lib.hid ha
    have HB := Lib.hid hb
    have HT := Lib.hid ht
    have hzW := hI.grw.size
    clear hI v1 v2 v3 v4 hOW hbp htk hrt hp ha hb ht hvb hvv
    clear hv hmt H hba hbb hra hrb hR e0 hM1 hN1 hrl
    gi_upto_region 6 with (first
      | (gi_at_builtin
         refine wpListIn_append_own_at _ rfl _ _ 27 rfl w.heap.size 39 i0 (.agg #[.int .i64 0, .int .i64 0]) 2 16 Tryz.underlying27 hi0 hi1 hi2 hi3 rfl (by decide) v t _ rfl (HV2.out.alloc _) ⟨W.heap.size, 0, none⟩ 1 1 [.int .i64 a, .int .i64 b] rfl rfl (World.news_of_block (heap_alloc_new W _)) (by intro u hu; simp at hu; rcases hu with rfl | rfl <;> rfl) (by unfold maxLen; omega) (by omega) (by simp; omega) ?_
         intro v8 w8 hown8 hg8 _ hat8
         obtain ⟨g8, cap8, rfl, hb8, hl8⟩ := hown8.form (by omega)
         have x8 := (hg8.block (w.heap.size + 2) (by simp; omega) (fun e => hgx' _ e.symm rfl)).trans ((Below.heap_alloc W _ (w.heap.size + 2) hxl).trans HV1.out)
         have c8 : w8.cell? ⟨w.heap.size + 2, 0, none⟩ = some v := cell_of_row _ _ 0 _ _ _ x8
         have f8 := frozen_of_row _ _ 0 _ _ x8
         have X8 := Lib.hid x8
         have HOW8 := Lib.hid hown8
         have HG8 := Lib.hid hg8
         have HAT8 := Lib.hid hat8
         have HL8 := Lib.hid hl8
         clear x8 hown8 hg8 hat8 hb8 hl8))
    have hz5 := HZ5.out
    have h9 := heap_setCell_same w8 (w.heap.size + 2) 0 _ _ (.slice (some ⟨g8, 0, none⟩) (t + 1) cap8) X8.out
    obtain ⟨w9, hw9⟩ : ∃ w9, w8.setCell ⟨w.heap.size + 2, 0, none⟩ (.slice (some ⟨g8, 0, none⟩) (t + 1) cap8) = w9 := ⟨_, rfl⟩
    have hg9 : w8.grownBy w9 (some (w.heap.size + 2)) := by rw [← hw9]; exact gB_setCell (gB_refl _ _) _ _
    rw [hw9] at h9 ⊢
    have hz8 := HG8.out.size
    have hz9 := hg9.size
    simp only [World.size_alloc] at hz8
    have hI := HI.out
    have hKK : ∀ k, k < W.heap.size → k ≠ w.heap.size + 2 → v.ownBlock ≠ some k → w9.heap[k]? = W.heap[k]? := fun k hk h1 h2 =>
      (hg9.block k (by omega) (by simpa using h1)).trans ((HG8.out.block k (by simp; omega) (fun e => h2 e.symm)).trans (Below.heap_alloc W _ k hk))
    have hfx : ∀ k, k < W.heap.size → k ≠ w.heap.size + 2 → k < w.heap.size + 5 → w9.heap[k]? = W.heap[k]? := fun k hk h1 h2 => hKK k hk h1 fun e => by have := (HV3.out k e).2; omega
    have l1 := (Array.getElem?_eq_some_iff.1 hI.rbox).1
    have l3 := (Array.getElem?_eq_some_iff.1 hI.end_).1
    have l4 := (Array.getElem?_eq_some_iff.1 hI.wbox).1
    have hgr9 : Grw (fun k => k = w.heap.size + 2 ∨ v.ownBlock = some k) W w9 := ⟨hg9.os.trans HG8.out.os, hg9.tape.trans HG8.out.tape, hg9.output.trans HG8.out.output, by omega, fun k hk hn => hKK k hk (fun e => hn (.inl e)) fun e => hn (.inr e)⟩
    have hat : g8 = W.heap.size + 1 ∨ v.ownBlock = some g8 := by
      rcases HAT8.out with e | e
      · exact .inr (by rw [← e]; rfl)
      · refine .inl ?_
        simpa [Value.ownBlock] using e
    have hfar : ∀ g, (Value.slice (some ⟨g8, 0, none⟩) (t + 1) cap8).ownBlock = some g → ¬ withD (w.heap.size + 5) O g ∧ w.heap.size + 5 ≤ g := fun g hg => by
      have e : g8 = g := by simpa [Value.ownBlock] using hg
      subst e
      rcases hat with e | e
      · exact ⟨fun h => by have := HOW.out g8 h; omega, by omega⟩
      · exact HV3.out g8 e
    have hmd : Md two w0 D E Ka Kb mb R w br nr rl mA mB a0 (.int .i64 ra) (.slice pa ma ca) (.map (some Ka)) (.int .i64 rb) (.slice pb mb cb) (.map (some Kb)) t (withD (w.heap.size + 5) O) W Bp a b (.slice (some ⟨g8, 0, none⟩) (t + 1) cap8) w9 := by
      refine ⟨h9, ?_, hfar, ?_, (hfx _ l3 (by omega) (by omega)).trans hI.end_, (hfx _ l4 (by omega) (by omega)).trans hI.wbox, (hfx _ l1 (by omega) (by omega)).trans hI.rbox, (hfx _ (by omega) (by omega) (by omega)).trans hI.rrow, ?_, ⟨by omega, fun k hk => hKK k (HOW.out k hk) (fun e => hI.nO k (by omega) hk) fun e => (HV3.out k e).1 hk⟩, ?_, ?_, ?_⟩
      · rw [HRT.out]
        exact own_keepG HOW8.out fun g hg => hg9.block g (own_lt HOW8.out g hg).2 (by simpa using own_neX HOW8.out X8.out (by decide) g hg)
      · refine HV4.out.keep ?_ (by omega) (hKK _ (by omega) (by omega) fun e => by have := (HV3.out _ e).2; omega) (hKK _ (by omega) (by omega) fun e => by have := (HV3.out _ e).2; omega) (fun k hk hl => hKK k hl (fun e => hk (.inr (.inl e))) fun e => hk (.inr (.inr (.inr (.inr (.inr e)))))) fun k hk => ?_
        · exact HV4.out.low.trans (hgr9.below HV4.out.low.size fun k hk => by
            have := HWW.out
            rcases hk with e | e
            · omega
            · have := (HV3.out k e).2; omega)
        · rcases hk with e | e | e | e | e | e
          · exact .inl (.inl e)
          · exact .inl (.inr (.inl e))
          · exact .inl (.inr (.inr (.inl e)))
          · exact .inl (.inr (.inr (.inr (.inl e))))
          · exact .inl (.inr (.inr (.inr (.inr (.inl e)))))
          · have e1 : g8 = k := by simpa [Value.ownBlock] using e
            subst e1
            rcases hat with e | e
            · exact .inr (by omega)
            · exact .inl (.inr (.inr (.inr (.inr (.inr e)))))
      · exact (hKK Bp (Array.getElem?_eq_some_iff.1 HBP.out).1 (fun e => by
          have h1 := HBP.out
          rw [e, HV1.out] at h1
          simp at h1) fun e => HVB.out Bp e rfl).trans HBP.out
      · refine ⟨by omega, fun k cs e => (hKK k (Array.getElem?_eq_some_iff.1 e).1 (fun e2 => ?_) fun e2 => ?_).trans e⟩
        · rw [e2, HV1.out] at e
          simp at e
        · exact own_neX HV2.out e (by decide) k e2 rfl
      · intro e
        obtain ⟨m1, m2, m3, m4⟩ := hI.mt e
        exact ⟨m1.keep (hKK _ m1.lt (by omega) fun e => by have := (HV3.out _ e).2; omega), m2.keep (hKK _ m2.lt (by omega) fun e => by have := (HV3.out _ e).2; omega), m3, m4⟩
      · exact ⟨hgr9.os.trans hI.grw.os, hgr9.tape.trans hI.grw.tape, hgr9.output.trans hI.grw.output, by omega, fun k hk hn => (hKK k (by omega) (by omega) fun e => by have := (HV3.out _ e).2; omega).trans (hI.grw.block k hk hn)⟩
    have hpN : p < ma * mb := by
      have h1 := pw_lt (N := D.size) (M := E.size) (ra := ra) (rb := rb) (KN_lt HBA.out.1) (KN_lt HBA.out.2) (by rw [HH.out.hma]; exact HRR.out.1) (by rw [HH.out.hmb]; exact HRR.out.2.1) p (by
        rw [HH.out.hma, HH.out.hmb, HRR.out.2.2, ← HPP.out, getElem!_pos R t HT.out]
        exact List.getElem_mem HT.out)
      rwa [HH.out.hma, HH.out.hmb] at h1
    have hOO : ∀ k, withD (w.heap.size + 5) O k → k ≠ Ka ∧ k ≠ Kb ∧ k < W.heap.size := fun k hk => ⟨fun e => hI.nO k (by omega) hk, fun e => hI.nO k (by omega) hk, HOW.out k hk⟩
    have hov : ∀ k, OV (withD (w.heap.size + 5) O) w.heap.size mA mB (.slice (some ⟨g8, 0, none⟩) (t + 1) cap8) k → k < w9.heap.size := fun k hk => by
      rcases hk with e | e | e | e | e | e
      · have := HOW.out k e; omega
      · omega
      · omega
      · omega
      · omega
      · exact (own_lt hmd.own k e).2
    obtain ⟨v8, hv8⟩ : ∃ v8, Value.slice (some ⟨g8, 0, none⟩) (t + 1) cap8 = v8 := ⟨_, rfl⟩
    rw [hv8] at hmd hov hfar
    have hmd10 := hmd.below (fun k hk => (hOO k hk).2.2) ((Below.refl _ w9).alloc (Nat.le_refl _) (.cells #[.int .i64 a, .int .i64 b] 39))
    have h10 := heap_alloc_new w9 (.cells #[.int .i64 a, .int .i64 b] 39)
    have hft := fit25_any HH.out ra rb ca cb (p / mb) (p % mb) (OV (withD (w.heap.size + 5) O) w.heap.size mA mB v8) w9.heap.size 0 1 a1 (w9.alloc (.cells #[.int .i64 a, .int .i64 b] 39)) (by rw [HH.out.hma]; exact fst_lt hpN) (by rw [HH.out.hmb]; exact snd_lt hpN) (fun k hk => by have := hov k hk; simp; omega) hmd10.vs HBA.out.1 HBA.out.2 (by rw [HA.out]; exact cell_of_row _ _ 0 _ _ _ h10) (by rw [HB.out]; exact cell_of_row _ _ 1 _ _ _ h10) HE.out.unfit
    have r1 := cell_of_row _ _ 0 _ _ _ hmd.rbox
    have d0' := cell_of_row _ _ 0 _ _ _ hmd.pair
    have d1' := cell_of_row _ _ 1 _ _ _ hmd.pair
    have hrr := hmd.rrow
    have HFT := Lib.hid hft
    have HMD := Lib.hid hmd
    have HMD10 := Lib.hid hmd10
    have HOO := Lib.hid hOO
    have HFAR := Lib.hid hfar
    have HPN := Lib.hid hpN
    have HHI := Lib.hid hI
    clear hft hmd hmd10 hOO hfar hov hI hKK hfx hgr9 hat h9 hg9 hz8 hz9 hw9 h10 l1 l3 l4 d0 d1 c1 c8 f8 hgx' hxl hv8 hpN
    cases htw : two with
    | false =>
      have hrs := HRS.out
      have hnr := HNR.out
      rw [htw] at hrs
      simp only [Bool.false_eq_true, if_false] at hrs
      rw [hrs] at hnr hrr
      simp only [List.size_toArray, List.length_cons, List.length_nil, Nat.zero_add] at hnr
      rw [← hnr] at r1
      have k0 := cell_of_row _ _ 0 _ _ _ hrr
      have HTW := Lib.hid htw
      clear hrs hnr hrr htw
      gi_upto_region 7 with fail
      refine wpIn_loop_rounds 2 ?_
      rw [roundsIn_succ]
      gi_upto_region 9 with fail
      gi_wp2
      refine ⟨trivial, ?_⟩
      refine (CallsIn.inRound l (callsIn_wide.2 HFT.out)).mono ?_
      rintro e w11 ⟨rfl, hv11, hc11, hka, hkb⟩
      have hmd11 := HMD10.out.ch HOO.out hne hv11 hc11
      have HMD11 := Lib.hid hmd11
      have HKA := Lib.hid hka
      have HKB := Lib.hid hkb
      have c3 := cell_of_row _ _ 0 _ _ _ hmd11.end_
      have f3 := frozen_of_row _ _ 0 _ _ hmd11.end_
      clear hv11 hc11 hmd11 hka hkb d0' d1' r1 k0
      cases hfit : fitG D E (p / mb) (p % mb) with
      | true =>
        have HFIT := Lib.hid hfit
        clear hfit
        unfold fitE
        gi_wp2
        rw [roundsIn_succ]
        gi_wp2
        exact HMD11.out.done HHI.out (fun k hk => (HOO.out k hk).2.2) (by rw [HPP.out]; exact HFIT.out) (by rw [HPP.out]; exact HKA.out) (by rw [HPP.out]; exact HKB.out) (fun e => by rw [HTW.out] at e; cases e)
      | false =>
        have HFIT := Lib.hid hfit
        clear hfit
        unfold fitE
        gi_wp2
        exact ⟨rfl, HMD11.out.stop HHI.out (fun k hk => (HOO.out k hk).2.2) ⟨.inr (.inl rfl), .inr (.inr rfl)⟩ HWW.out ⟨hKal, hKbl⟩ HE.out.unfit.2 HE.out.ne1 HT.out (.inl (by rw [HPP.out]; exact HFIT.out))⟩
    | true =>
      have hrs := HRS.out
      have hnr := HNR.out
      rw [htw] at hrs
      simp only [if_true] at hrs
      rw [hrs] at hnr hrr
      simp only [List.size_toArray, List.length_cons, List.length_nil, Nat.zero_add, Nat.reduceAdd] at hnr
      rw [← hnr] at r1
      have k0 := cell_of_row _ _ 0 _ _ _ hrr
      have HTW := Lib.hid htw
      clear hrs hnr hrr htw
      gi_upto_region 7 with fail
      refine wpIn_loop_rounds 3 ?_
      rw [roundsIn_succ]
      gi_upto_region 9 with fail
      gi_wp2
      refine ⟨trivial, ?_⟩
      refine (CallsIn.inRound l (callsIn_wide.2 HFT.out)).mono ?_
      rintro e w11 ⟨rfl, hv11, hc11, hka, hkb⟩
      have hmd11 := HMD10.out.ch HOO.out hne hv11 hc11
      have hmd12 := hmd11.below (fun k hk => (HOO.out k hk).2.2) ((Below.refl _ w11).alloc (Nat.le_refl _) (.cells #[.int .i64 a, .int .i64 b] 39))
      have h12 := heap_alloc_new w11 (.cells #[.int .i64 a, .int .i64 b] 39)
      have HMD11 := Lib.hid hmd11
      have HMD12 := Lib.hid hmd12
      have HH12 := Lib.hid h12
      have HKA := Lib.hid hka
      have HKB := Lib.hid hkb
      have c3 := cell_of_row _ _ 0 _ _ _ hmd11.end_
      have f3 := frozen_of_row _ _ 0 _ _ hmd11.end_
      have d0' := cell_of_row _ _ 0 _ _ _ hmd11.pair
      have d1' := cell_of_row _ _ 1 _ _ _ hmd11.pair
      have hrr := hmd11.rrow
      rw [HRS.out, HTW.out] at hrr
      simp only [if_true] at hrr
      have k1 := cell_of_row _ _ 1 _ _ _ hrr
      clear hv11 hc11 hmd11 hmd12 h12 hka hkb r1 k0 hrr
      cases hfit : fitG D E (p / mb) (p % mb) with
      | true =>
        have HFIT := Lib.hid hfit
        clear hfit
        unfold fitE
        gi_wp2
        rw [roundsIn_succ]
        gi_upto_region 9 with fail
        obtain ⟨m1, m2, m3, m4⟩ := HMD12.out.mt HTW.out
        have hpn : p ∉ R.take t := by
          have hnd := (walk_went (pk_lt (KN_lt HBA.out.1) (KN_lt HBA.out.2)) (pair_lt (show ra < D.size by rw [HH.out.hma]; exact HRR.out.1) (show rb < E.size by rw [HH.out.hmb]; exact HRR.out.2.1))).few.1
          have hR2 : walk (pk E.size (KN D) (KN E)) (D.size * E.size) (ra * E.size + rb) = R := by rw [← HRR.out.2.2, ← HH.out.hma, ← HH.out.hmb]; rfl
          rw [hR2] at hnd
          have h2 : (R.take (t + 1)).Nodup := (List.take_sublist (t + 1) R).nodup hnd
          rw [HTK.out] at h2
          have := (List.nodup_append.1 h2).2.2
          intro hc
          exact this p hc p (by simp) rfl
        have q0 := cell_of_row _ _ 0 _ _ _ HH12.out
        have q1 := cell_of_row _ _ 1 _ _ _ HH12.out
        have hmc := mt_cases hpn m4
        rw [HA.out, HB.out] at hmc
        rcases hmc with ⟨f1, f2, f3⟩ | ⟨hbad, f3⟩
        · have htk30 := take30_good mA mB _ _ a b w11.heap.size 0 1 (w11.alloc (.cells #[.int .i64 a, .int .i64 b] 39)) m1 m2 m3 q0 q1 f1 f2
          have HT30 := Lib.hid htk30
          have HF3 := Lib.hid f3
          have HM3 := Lib.hid m3
          clear htk30 f1 f2 f3 m1 m2 m3 m4 hpn q0 q1
          gi_wp2
          refine ⟨trivial, ?_⟩
          refine (CallsIn.inRound l (callsIn_wide.2 HT30.out)).mono ?_
          rintro e w13 ⟨rfl, n1, n2, g13⟩
          have HN := Lib.hid (show _ ∧ _ ∧ _ from ⟨n1, n2, g13⟩)
          clear n1 n2 g13 c3 f3 d0' d1' k1
          gi_wp2
          rw [roundsIn_succ]
          gi_wp2
          refine HMD12.out.done2 HHI.out (fun k hk => (HOO.out k hk).2.2) (by rw [HPP.out]; exact HFIT.out) ?_ ?_ HTW.out (hne HTW.out) ⟨hmA, hmB⟩ (HMW.out HTW.out) HN.out.2.2 (fun _ => ⟨?_, ?_, HM3.out, by rw [HTK.out]; exact HF3.out⟩)
          · rw [HPP.out]
            obtain ⟨x1, x2, x3, x4, h⟩ := HKA.out
            exact ⟨x1, x2, x3, x4, h.upA (Kb := Kb) (Ch.of_below ((Below.refl _ w11).alloc (Nat.le_refl _) _))⟩
          · rw [HPP.out]
            obtain ⟨x1, x2, x3, x4, h⟩ := HKB.out
            exact ⟨x1, x2, x3, x4, h.upB (Ka := Ka) (Ch.of_below ((Below.refl _ w11).alloc (Nat.le_refl _) _))⟩
          · have := HN.out.1
            rw [HTK.out]
            unfold mtA at this ⊢
            rw [List.map_append, List.map_singleton, HA.out, HB.out]
            exact this
          · have := HN.out.2.1
            rw [HTK.out]
            unfold mtB at this ⊢
            rw [List.map_append, List.map_singleton, HA.out, HB.out]
            exact this
        · have htk30 := take30_bad mA mB _ _ a b w11.heap.size 0 1 a2 (w11.alloc (.cells #[.int .i64 a, .int .i64 b] 39)) m1 m2 q0 q1 (HE.out.other.below HMD12.out.vs.low) hbad
          have HT30 := Lib.hid htk30
          have HF3 := Lib.hid f3
          clear htk30 f3 m1 m2 m3 m4 hpn q0 q1 hbad
          gi_wp2
          refine ⟨trivial, ?_⟩
          refine (CallsIn.inRound l (callsIn_wide.2 HT30.out)).mono ?_
          rintro e w13 ⟨rfl, hb13⟩
          have hmd13 := HMD12.out.below (fun k hk => (HOO.out k hk).2.2) hb13
          have HMD13 := Lib.hid hmd13
          clear c3 f3 d0' d1' k1
          have c3 := cell_of_row _ _ 0 _ _ _ hmd13.end_
          have f3 := frozen_of_row _ _ 0 _ _ hmd13.end_
          clear hmd13 hb13
          gi_wp2
          exact ⟨rfl, HMD13.out.stop HHI.out (fun k hk => (HOO.out k hk).2.2) ⟨.inr (.inl rfl), .inr (.inr rfl)⟩ HWW.out ⟨hKal, hKbl⟩ HE.out.other.2 HE.out.ne2 HT.out (.inr ⟨HTW.out, by rw [HTK.out]; exact HF3.out⟩)⟩
      | false =>
        have HFIT := Lib.hid hfit
        clear hfit d0' d1' k1
        unfold fitE
        gi_wp2
        exact ⟨rfl, HMD11.out.stop HHI.out (fun k hk => (HOO.out k hk).2.2) ⟨.inr (.inl rfl), .inr (.inr rfl)⟩ HWW.out ⟨hKal, hKbl⟩ HE.out.unfit.2 HE.out.ne1 HT.out (.inl (by rw [HPP.out]; exact HFIT.out))⟩
  case hdone =>
    rintro O W hI _ hz hnD hK
    obtain ⟨v, v1, v2, v3, v4⟩ := hI.vs
    have hend := hI.end_
    have c2 : W.cell? ⟨w.heap.size + 2, 0, none⟩ = some v := cell_of_row _ _ 0 _ _ _ v1
    have c3 : W.cell? ⟨w.heap.size + 3, 0, none⟩ = some (.iface 242 (.pointer (some a0))) := cell_of_row _ _ 0 _ _ _ hend
    have HI := Lib.hid hI
    have HK := Lib.hid hK
    have HZ := Lib.hid hz
    clear hI hK hz hnD v1 v2 v3 v4 hend
    go_wp2
    go_region
    go_wp2
    refine ⟨by simp, .inl ⟨_, _, rfl, run_takeDeferred (w := W.drew) HK.out, ?_⟩⟩
    have gD : W.drew.grownBy (W.drew.putObj W5.heap.size (.deferred none)) (some W5.heap.size) := Seqo.turn W.drew _ _
    have hI := HI.out
    have hz5 : W5.heap.size = w.heap.size + 5 := HZ5.out
    have hzW := HZ.out
    have ne : ∀ k, k ≠ W5.heap.size → k < W.heap.size → (W.drew.putObj W5.heap.size (.deferred none)).heap[k]? = W.heap[k]? := fun k hk hl => gD.block k hl (by simp; omega)
    obtain ⟨v', v1, v2, v3, v4⟩ := hI.vs
    have hvv : v' = v := by
      have := cell_of_row _ _ 0 _ _ _ v1
      rw [c2] at this
      simpa using this.symm
    subst hvv
    obtain ⟨_, c, T, hrow⟩ := HE.out.all
    have hl0 := (Array.getElem?_eq_some_iff.1 hrow).1
    have hlw := v4.low.size
    have hww := HWW.out
    rw [List.take_of_length_le (Nat.le_refl _)] at v2
    refine ⟨.tuple #[v', .iface 242 (.pointer (some a0))], by simp [results, Tryz.results24, go_sem], v', a0, R, rfl, own_keepG v2 fun g hg => ne g (fun e => (v3 g hg).1 (.inr (.inl e))) (own_lt v2 g hg).2, ⟨c, T, (ne _ (by omega) (by omega)).trans ((v4.low.block _ hl0).trans hrow)⟩,
      ⟨gD.os.trans v4.low.os, gD.tape.trans v4.low.tape, gD.output.trans v4.low.output, Nat.le_trans hlw gD.size, fun k hk => (ne k (by omega) (by omega)).trans (v4.low.block k hk)⟩,
      ⟨gD.os.trans hI.grw.os, gD.tape.trans hI.grw.tape, gD.output.trans hI.grw.output, Nat.le_trans hI.grw.size gD.size, fun k hk hne => (ne k (by omega) (by have := hI.grw.size; omega)).trans (hI.grw.block k hk hne)⟩, .inl ⟨rfl, rfl, hI.good, fun e => ?_⟩⟩
    have := (hI.mt e).2.2.2
    rwa [List.take_of_length_le (Nat.le_refl _)] at this
  case hstop =>
    rintro W ⟨t, v, ae, h1, h2, ⟨c, T, h3⟩, h4, h5, h6, h7, h8, h9, h10, h11, h12⟩ hK
    have c2 : W.cell? ⟨w.heap.size + 2, 0, none⟩ = some v := cell_of_row _ _ 0 _ _ _ h6
    have c3 : W.cell? ⟨w.heap.size + 3, 0, none⟩ = some (.iface 242 (.pointer (some ae))) := cell_of_row _ _ 0 _ _ _ h8
    have HEX := Lib.hid (show _ ∧ _ from ⟨h3, h7⟩)
    have HEY := Lib.hid (show _ ∧ _ ∧ _ from ⟨h9, h10, h11⟩)
    have HEZ := Lib.hid (show _ ∧ _ ∧ _ ∧ _ ∧ _ from ⟨h1, h2, h4, h5, h12⟩)
    have HK := Lib.hid hK
    clear h1 h2 h3 h4 h5 h6 h7 h8 h9 h10 h11 h12 hK
    gi_wp2
    go_wp2
    go_region
    go_wp2
    refine ⟨by simp, .inl ⟨_, _, rfl, run_takeDeferred (w := W.drew) HK.out, ?_⟩⟩
    have gD : W.drew.grownBy (W.drew.putObj W5.heap.size (.deferred none)) (some W5.heap.size) := Seqo.turn W.drew _ _
    have hz5 : W5.heap.size = w.heap.size + 5 := HZ5.out
    obtain ⟨h3, h7⟩ := HEX.out
    obtain ⟨h9, h10, h11⟩ := HEY.out
    obtain ⟨h1, h2, h4, h5, h12⟩ := HEZ.out
    have ne : ∀ k, k ≠ W5.heap.size → k < W.heap.size → (W.drew.putObj W5.heap.size (.deferred none)).heap[k]? = W.heap[k]? := fun k hk hl => gD.block k hl (by simp; omega)
    have hww := HWW.out
    have hz9 := h9.size
    have hz10 := h10.size
    have htl : (R.take (t + 1)).length = t + 1 := by rw [List.length_take]; omega
    refine ⟨.tuple #[v, .iface 242 (.pointer (some ae))], by simp [results, Tryz.results24, go_sem], v, ae, R.take (t + 1), rfl, ?_, ⟨c, T, (ne _ (by omega) (by omega)).trans h3⟩,
      ⟨gD.os.trans h9.os, gD.tape.trans h9.tape, gD.output.trans h9.output, Nat.le_trans hz9 gD.size, fun k hk => (ne k (by omega) (by omega)).trans (h9.block k hk)⟩,
      ⟨gD.os.trans h10.os, gD.tape.trans h10.tape, gD.output.trans h10.output, Nat.le_trans hz10 gD.size, fun k hk hne => (ne k (by omega) (by omega)).trans (h10.block k hk hne)⟩, .inr ⟨h2, t, h1, rfl, h11, h12⟩⟩
    rw [htl]
    exact own_keepG h7 fun g hg => ne g (fun e => (h5 g hg).1 (by omega)) (own_lt h7 g hg).2
end Go.Proofs.YtepelpmkmhhokaaGreatDoor
