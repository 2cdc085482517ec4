/- What is told of a text is a scalar; what may stand in a flow may stand elsewhere, and has the same value: for every text. Conditions: the laid variables, as the statement lists them. -/
import Derived.Test.YtimbidbpfdaocaaDoorDoor
namespace Go.Proofs.YtimbidbpfdaocaaDoor
open Go.ChangeShapes Go.WideShapes Go.ChangeAt Go.RowKit Go.Shelf
open Go.ChangeMaps (open_string shut_string)
open Pl Seqo

theorem sameB_self (k n : Int) (s : ByteArray) : sameB k n s k n s = true := by simp [sameB]
theorem ba_nil (S : ByteArray) (h : S.data.toList = []) : S = ⟨#[]⟩ := by
  cases S with
  | mk d => congr 1; exact Array.toList_inj.1 h
set_option maxRecDepth 100000 in
set_option maxHeartbeats 4000000 in
theorem right1 (S s : ByteArray) (_hSs : S.size ≤ 100) (hc1 : ∀ w, Calls Tryd.prog 9 #[.string s] w fun e w' => e = .returned (.string S) ∧ w = w') (w : World) (E : Env w)
    (hA : ∀ w, Env w → Calls Tryd.prog 10 #[.string S] w fun e w' => e = .returned (.tuple #[.agg #[.int .i64 0, .int .i64 0, .string ⟨#[]⟩], .int .i64 0]) ∧ Below w.heap.size w w')
    (hB : ∀ w, Env w → Calls Tryd.prog 12 #[.string S, .bool true] w fun e w' => e = .returned (.tuple #[.agg #[.int .i64 0, .int .i64 0, .string ⟨#[]⟩], .int .i64 51]) ∧ Below w.heap.size w w')
    (hC : ∀ w, Env w → Calls Tryd.prog 12 #[.string S, .bool false] w fun e w' => e = .returned (.tuple #[.agg #[.int .i64 0, .int .i64 0, .string ⟨#[]⟩], .int .i64 51]) ∧ Below w.heap.size w w')
    (hM1 : ∀ w, Env w → Calls Tryd.prog 14 #[.string S, .bool true] w fun e w' => e = .returned (.bool false) ∧ Below w.heap.size w w')
    (hM2 : ∀ w, Env w → Calls Tryd.prog 14 #[.string S, .bool false] w fun e w' => e = .returned (.bool false) ∧ Below w.heap.size w w')
    (hR : ∀ w, Env w → Calls Tryd.prog 16 #[.agg #[.int .i64 0, .int .i64 0, .string ⟨#[]⟩]] w fun e w' => e = .returned (.bool true) ∧ Below w.heap.size w w')
    (h0 : S.data.toList = []) :
    Calls Tryd.prog 4 #[.string s] w fun e w' => e = .returned (.bool true) ∧ Below w.heap.size w w' := by
  have HE0 := Lib.hid E
  have HCU := Lib.hid hc1
  have HA := Lib.hid hA
  have HBB := Lib.hid hB
  have HCC := Lib.hid hC
  have HM1 := Lib.hid hM1
  have HM2 := Lib.hid hM2
  have HRR := Lib.hid hR
  have z1 : S.toList.isEmpty = true := by rw [ByteArray.toList_eq, h0]; rfl
  have z2 : S.toList = [] := by rw [ByteArray.toList_eq, h0]
  have H0 := Lib.hid h0
  clear h0
  clear E hc1 hA hB hC hM1 hM2 hR
  go_enter Tryd.func4, Tryd.ntmps4
  go_wp2_with fail
  refine (shown_any _ HE0.out).mono ?_
  rintro e w1 ⟨rfl, hb1⟩
  have HB1 := Lib.hid hb1
  have HE1 := Lib.hid (HE0.out.below hb1)
  clear hb1
  go_wp2_with fail
  refine (HCU.out _).mono ?_
  rintro e w' ⟨rfl, rfl⟩
  go_wp2_with fail
  refine (HA.out _ HE1.out).mono ?_
  rintro e v2 ⟨rfl, hb2⟩
  have HC2 := Lib.hid hb2
  clear hb2
  go_wp2_with fail
  obtain ⟨u2, hu2⟩ : ∃ u, v2.alloc (.cells #[.int .i64 0, .int .i64 0, .string ⟨#[]⟩] 23) = u := ⟨_, rfl⟩
  rw [hu2]
  have hx2 : u2.heap[v2.heap.size]? = some (.cells #[.int .i64 0, .int .i64 0, .string ⟨#[]⟩] 23) := by rw [← hu2]; exact heap_alloc_new v2 _
  have hc2 := HC2.out.alloc HC2.out.size (.cells #[.int .i64 0, .int .i64 0, .string ⟨#[]⟩] 23)
  rw [hu2] at hc2
  have HX2 := Lib.hid hx2
  have HE2 := Lib.hid (HE1.out.below hc2)
  have HB2 := Lib.hid (HB1.out.trans (hc2.mono HB1.out.size))
  have L2_2 := HX2
  clear hu2 hc2 hx2 HX2
  refine (HBB.out _ HE2.out).mono ?_
  rintro e v3 ⟨rfl, hb3⟩
  have HC3 := Lib.hid hb3
  clear hb3
  go_wp2_with fail
  obtain ⟨u3, hu3⟩ : ∃ u, v3.alloc (.cells #[.int .i64 0, .int .i64 0, .string ⟨#[]⟩] 23) = u := ⟨_, rfl⟩
  rw [hu3]
  have hx3 : u3.heap[v3.heap.size]? = some (.cells #[.int .i64 0, .int .i64 0, .string ⟨#[]⟩] 23) := by rw [← hu3]; exact heap_alloc_new v3 _
  have hc3 := HC3.out.alloc HC3.out.size (.cells #[.int .i64 0, .int .i64 0, .string ⟨#[]⟩] 23)
  rw [hu3] at hc3
  have HX3 := Lib.hid hx3
  have HE3 := Lib.hid (HE2.out.below hc3)
  have HB3 := Lib.hid (HB2.out.trans (hc3.mono HB2.out.size))
  have L2_3 := Lib.hid ((hc3.block _ (Array.getElem?_eq_some_iff.1 L2_2.out).1).trans L2_2.out)
  have L3_3 := HX3
  clear hu3 hc3 hx3 HX3
  refine (HCC.out _ HE3.out).mono ?_
  rintro e v4 ⟨rfl, hb4⟩
  have HC4 := Lib.hid hb4
  clear hb4
  go_wp2_with fail
  obtain ⟨u4, hu4⟩ : ∃ u, v4.alloc (.cells #[.int .i64 0, .int .i64 0, .string ⟨#[]⟩] 23) = u := ⟨_, rfl⟩
  rw [hu4]
  have hx4 : u4.heap[v4.heap.size]? = some (.cells #[.int .i64 0, .int .i64 0, .string ⟨#[]⟩] 23) := by rw [← hu4]; exact heap_alloc_new v4 _
  have hc4 := HC4.out.alloc HC4.out.size (.cells #[.int .i64 0, .int .i64 0, .string ⟨#[]⟩] 23)
  rw [hu4] at hc4
  have HX4 := Lib.hid hx4
  have HE4 := Lib.hid (HE3.out.below hc4)
  have HB4 := Lib.hid (HB3.out.trans (hc4.mono HB3.out.size))
  have L2_4 := Lib.hid ((hc4.block _ (Array.getElem?_eq_some_iff.1 L2_3.out).1).trans L2_3.out)
  have L3_4 := Lib.hid ((hc4.block _ (Array.getElem?_eq_some_iff.1 L3_3.out).1).trans L3_3.out)
  have L4_4 := HX4
  clear hu4 hc4 hx4 HX4
  refine (HM1.out _ HE4.out).mono ?_
  rintro e w5 ⟨rfl, hb5⟩
  have HE5 := Lib.hid (HE4.out.below hb5)
  have HB5 := Lib.hid (HB4.out.trans (hb5.mono HB4.out.size))
  have L2_5 := Lib.hid ((hb5.block _ (Array.getElem?_eq_some_iff.1 L2_4.out).1).trans L2_4.out)
  have L3_5 := Lib.hid ((hb5.block _ (Array.getElem?_eq_some_iff.1 L3_4.out).1).trans L3_4.out)
  have L4_5 := Lib.hid ((hb5.block _ (Array.getElem?_eq_some_iff.1 L4_4.out).1).trans L4_4.out)
  clear hb5
  have q := eq_sc
  have q2 := equal_sc
  have qg := guard_sc
  have s0 := sameB_self (0) (0) (⟨#[]⟩)
  have l2c0 := cell_of_row _ _ 0 _ _ _ L2_5.out
  have l2c1 := cell_of_row _ _ 1 _ _ _ L2_5.out
  have l2c2 := cell_of_row _ _ 2 _ _ _ L2_5.out
  have l3c0 := cell_of_row _ _ 0 _ _ _ L3_5.out
  have l3c1 := cell_of_row _ _ 1 _ _ _ L3_5.out
  have l3c2 := cell_of_row _ _ 2 _ _ _ L3_5.out
  have l4c0 := cell_of_row _ _ 0 _ _ _ L4_5.out
  have l4c1 := cell_of_row _ _ 1 _ _ _ L4_5.out
  have l4c2 := cell_of_row _ _ 2 _ _ _ L4_5.out
  simp at l2c0 l2c1 l2c2 l3c0 l3c1 l3c2 l4c0 l4c1 l4c2
  go_wp2_with fail
  clear l2c0 l2c1 l2c2 l3c0 l3c1 l3c2 l4c0 l4c1 l4c2
  refine (HRR.out _ HE5.out).mono ?_
  rintro e w7 ⟨rfl, hb7⟩
  have HE7 := Lib.hid (HE5.out.below hb7)
  have HB7 := Lib.hid (HB5.out.trans (hb7.mono HB5.out.size))
  have L2_7 := Lib.hid ((hb7.block _ (Array.getElem?_eq_some_iff.1 L2_5.out).1).trans L2_5.out)
  have L3_7 := Lib.hid ((hb7.block _ (Array.getElem?_eq_some_iff.1 L3_5.out).1).trans L3_5.out)
  have L4_7 := Lib.hid ((hb7.block _ (Array.getElem?_eq_some_iff.1 L4_5.out).1).trans L4_5.out)
  clear hb7
  have l2c0 := cell_of_row _ _ 0 _ _ _ L2_7.out
  have l2c1 := cell_of_row _ _ 1 _ _ _ L2_7.out
  have l2c2 := cell_of_row _ _ 2 _ _ _ L2_7.out
  have l4c0 := cell_of_row _ _ 0 _ _ _ L4_7.out
  have l4c1 := cell_of_row _ _ 1 _ _ _ L4_7.out
  have l4c2 := cell_of_row _ _ 2 _ _ _ L4_7.out
  simp at l2c0 l2c1 l2c2 l4c0 l4c1 l4c2
  go_wp2_with fail
  go_ret
  exact ⟨rfl, HB7.out⟩
set_option maxRecDepth 100000 in
set_option maxHeartbeats 4000000 in
theorem right2 (S s : ByteArray) (_hSs : S.size ≤ 100) (hc1 : ∀ w, Calls Tryd.prog 9 #[.string s] w fun e w' => e = .returned (.string S) ∧ w = w') (w : World) (E : Env w)
    (hA : ∀ w, Env w → Calls Tryd.prog 10 #[.string S] w fun e w' => e = .returned (.tuple #[.agg #[.int .i64 0, .int .i64 0, .string ⟨#[]⟩], .int .i64 51]) ∧ Below w.heap.size w w')
    (hB : ∀ w, Env w → Calls Tryd.prog 12 #[.string S, .bool true] w fun e w' => e = .returned (.tuple #[.agg #[.int .i64 0, .int .i64 0, .string ⟨#[]⟩], .int .i64 51]) ∧ Below w.heap.size w w')
    (hC : ∀ w, Env w → Calls Tryd.prog 12 #[.string S, .bool false] w fun e w' => e = .returned (.tuple #[.agg #[.int .i64 0, .int .i64 0, .string ⟨#[]⟩], .int .i64 51]) ∧ Below w.heap.size w w')
    (hM1 : ∀ w, Env w → Calls Tryd.prog 14 #[.string S, .bool true] w fun e w' => e = .returned (.bool false) ∧ Below w.heap.size w w')
    (hM2 : ∀ w, Env w → Calls Tryd.prog 14 #[.string S, .bool false] w fun e w' => e = .returned (.bool false) ∧ Below w.heap.size w w')
    (hR : ∀ w, Env w → Calls Tryd.prog 16 #[.agg #[.int .i64 0, .int .i64 0, .string ⟨#[]⟩]] w fun e w' => e = .returned (.bool true) ∧ Below w.heap.size w w')
    (h0 : S.data.toList ≠ []) :
    Calls Tryd.prog 4 #[.string s] w fun e w' => e = .returned (.bool true) ∧ Below w.heap.size w w' := by
  have HE0 := Lib.hid E
  have HCU := Lib.hid hc1
  have HA := Lib.hid hA
  have HBB := Lib.hid hB
  have HCC := Lib.hid hC
  have HM1 := Lib.hid hM1
  have HM2 := Lib.hid hM2
  have HRR := Lib.hid hR
  have z1 : S.toList.isEmpty = false := by rw [ByteArray.toList_eq]; simpa using h0
  have H0 := Lib.hid h0
  clear h0
  clear E hc1 hA hB hC hM1 hM2 hR
  go_enter Tryd.func4, Tryd.ntmps4
  go_wp2_with fail
  refine (shown_any _ HE0.out).mono ?_
  rintro e w1 ⟨rfl, hb1⟩
  have HB1 := Lib.hid hb1
  have HE1 := Lib.hid (HE0.out.below hb1)
  clear hb1
  go_wp2_with fail
  refine (HCU.out _).mono ?_
  rintro e w' ⟨rfl, rfl⟩
  go_wp2_with fail
  refine (HA.out _ HE1.out).mono ?_
  rintro e v2 ⟨rfl, hb2⟩
  have HC2 := Lib.hid hb2
  clear hb2
  go_wp2_with fail
  obtain ⟨u2, hu2⟩ : ∃ u, v2.alloc (.cells #[.int .i64 0, .int .i64 0, .string ⟨#[]⟩] 23) = u := ⟨_, rfl⟩
  rw [hu2]
  have hx2 : u2.heap[v2.heap.size]? = some (.cells #[.int .i64 0, .int .i64 0, .string ⟨#[]⟩] 23) := by rw [← hu2]; exact heap_alloc_new v2 _
  have hc2 := HC2.out.alloc HC2.out.size (.cells #[.int .i64 0, .int .i64 0, .string ⟨#[]⟩] 23)
  rw [hu2] at hc2
  have HX2 := Lib.hid hx2
  have HE2 := Lib.hid (HE1.out.below hc2)
  have HB2 := Lib.hid (HB1.out.trans (hc2.mono HB1.out.size))
  have L2_2 := HX2
  clear hu2 hc2 hx2 HX2
  refine (HBB.out _ HE2.out).mono ?_
  rintro e v3 ⟨rfl, hb3⟩
  have HC3 := Lib.hid hb3
  clear hb3
  go_wp2_with fail
  obtain ⟨u3, hu3⟩ : ∃ u, v3.alloc (.cells #[.int .i64 0, .int .i64 0, .string ⟨#[]⟩] 23) = u := ⟨_, rfl⟩
  rw [hu3]
  have hx3 : u3.heap[v3.heap.size]? = some (.cells #[.int .i64 0, .int .i64 0, .string ⟨#[]⟩] 23) := by rw [← hu3]; exact heap_alloc_new v3 _
  have hc3 := HC3.out.alloc HC3.out.size (.cells #[.int .i64 0, .int .i64 0, .string ⟨#[]⟩] 23)
  rw [hu3] at hc3
  have HX3 := Lib.hid hx3
  have HE3 := Lib.hid (HE2.out.below hc3)
  have HB3 := Lib.hid (HB2.out.trans (hc3.mono HB2.out.size))
  have L2_3 := Lib.hid ((hc3.block _ (Array.getElem?_eq_some_iff.1 L2_2.out).1).trans L2_2.out)
  have L3_3 := HX3
  clear hu3 hc3 hx3 HX3
  refine (HCC.out _ HE3.out).mono ?_
  rintro e v4 ⟨rfl, hb4⟩
  have HC4 := Lib.hid hb4
  clear hb4
  go_wp2_with fail
  obtain ⟨u4, hu4⟩ : ∃ u, v4.alloc (.cells #[.int .i64 0, .int .i64 0, .string ⟨#[]⟩] 23) = u := ⟨_, rfl⟩
  rw [hu4]
  have hx4 : u4.heap[v4.heap.size]? = some (.cells #[.int .i64 0, .int .i64 0, .string ⟨#[]⟩] 23) := by rw [← hu4]; exact heap_alloc_new v4 _
  have hc4 := HC4.out.alloc HC4.out.size (.cells #[.int .i64 0, .int .i64 0, .string ⟨#[]⟩] 23)
  rw [hu4] at hc4
  have HX4 := Lib.hid hx4
  have HE4 := Lib.hid (HE3.out.below hc4)
  have HB4 := Lib.hid (HB3.out.trans (hc4.mono HB3.out.size))
  have L2_4 := Lib.hid ((hc4.block _ (Array.getElem?_eq_some_iff.1 L2_3.out).1).trans L2_3.out)
  have L3_4 := Lib.hid ((hc4.block _ (Array.getElem?_eq_some_iff.1 L3_3.out).1).trans L3_3.out)
  have L4_4 := HX4
  clear hu4 hc4 hx4 HX4
  refine (HM1.out _ HE4.out).mono ?_
  rintro e w5 ⟨rfl, hb5⟩
  have HE5 := Lib.hid (HE4.out.below hb5)
  have HB5 := Lib.hid (HB4.out.trans (hb5.mono HB4.out.size))
  have L2_5 := Lib.hid ((hb5.block _ (Array.getElem?_eq_some_iff.1 L2_4.out).1).trans L2_4.out)
  have L3_5 := Lib.hid ((hb5.block _ (Array.getElem?_eq_some_iff.1 L3_4.out).1).trans L3_4.out)
  have L4_5 := Lib.hid ((hb5.block _ (Array.getElem?_eq_some_iff.1 L4_4.out).1).trans L4_4.out)
  clear hb5
  have q := eq_sc
  have q2 := equal_sc
  have qg := guard_sc
  have s0 := sameB_self (0) (0) (⟨#[]⟩)
  have l2c0 := cell_of_row _ _ 0 _ _ _ L2_5.out
  have l2c1 := cell_of_row _ _ 1 _ _ _ L2_5.out
  have l2c2 := cell_of_row _ _ 2 _ _ _ L2_5.out
  have l3c0 := cell_of_row _ _ 0 _ _ _ L3_5.out
  have l3c1 := cell_of_row _ _ 1 _ _ _ L3_5.out
  have l3c2 := cell_of_row _ _ 2 _ _ _ L3_5.out
  have l4c0 := cell_of_row _ _ 0 _ _ _ L4_5.out
  have l4c1 := cell_of_row _ _ 1 _ _ _ L4_5.out
  have l4c2 := cell_of_row _ _ 2 _ _ _ L4_5.out
  simp at l2c0 l2c1 l2c2 l3c0 l3c1 l3c2 l4c0 l4c1 l4c2
  go_wp2_with fail
  clear l2c0 l2c1 l2c2 l3c0 l3c1 l3c2 l4c0 l4c1 l4c2
  refine (HRR.out _ HE5.out).mono ?_
  rintro e w7 ⟨rfl, hb7⟩
  have HE7 := Lib.hid (HE5.out.below hb7)
  have HB7 := Lib.hid (HB5.out.trans (hb7.mono HB5.out.size))
  have L2_7 := Lib.hid ((hb7.block _ (Array.getElem?_eq_some_iff.1 L2_5.out).1).trans L2_5.out)
  have L3_7 := Lib.hid ((hb7.block _ (Array.getElem?_eq_some_iff.1 L3_5.out).1).trans L3_5.out)
  have L4_7 := Lib.hid ((hb7.block _ (Array.getElem?_eq_some_iff.1 L4_5.out).1).trans L4_5.out)
  clear hb7
  have l2c0 := cell_of_row _ _ 0 _ _ _ L2_7.out
  have l2c1 := cell_of_row _ _ 1 _ _ _ L2_7.out
  have l2c2 := cell_of_row _ _ 2 _ _ _ L2_7.out
  have l4c0 := cell_of_row _ _ 0 _ _ _ L4_7.out
  have l4c1 := cell_of_row _ _ 1 _ _ _ L4_7.out
  have l4c2 := cell_of_row _ _ 2 _ _ _ L4_7.out
  simp at l2c0 l2c1 l2c2 l4c0 l4c1 l4c2
  go_wp2_with fail
  go_ret
  exact ⟨rfl, HB7.out⟩
set_option maxRecDepth 100000 in
set_option maxHeartbeats 4000000 in
theorem right3t (S s : ByteArray) (_hSs : S.size ≤ 100) (hc1 : ∀ w, Calls Tryd.prog 9 #[.string s] w fun e w' => e = .returned (.string S) ∧ w = w') (w : World) (E : Env w)
    (hA : ∀ w, Env w → Calls Tryd.prog 10 #[.string S] w fun e w' => e = .returned (.tuple #[.agg #[.int .i64 0, .int .i64 0, .string ⟨#[]⟩], .int .i64 50]) ∧ Below w.heap.size w w')
    (hB : ∀ w, Env w → Calls Tryd.prog 12 #[.string S, .bool true] w fun e w' => e = .returned (.tuple #[.agg #[.int .i64 0, .int .i64 0, .string ⟨#[]⟩], .int .i64 50]) ∧ Below w.heap.size w w')
    (hC : ∀ w, Env w → Calls Tryd.prog 12 #[.string S, .bool false] w fun e w' => e = .returned (.tuple #[.agg #[.int .i64 0, .int .i64 0, .string ⟨#[]⟩], .int .i64 50]) ∧ Below w.heap.size w w')
    (hM1 : ∀ w, Env w → Calls Tryd.prog 14 #[.string S, .bool true] w fun e w' => e = .returned (.bool true) ∧ Below w.heap.size w w')
    (hM2 : ∀ w, Env w → Calls Tryd.prog 14 #[.string S, .bool false] w fun e w' => e = .returned (.bool true) ∧ Below w.heap.size w w')
    (hR : ∀ w, Env w → Calls Tryd.prog 16 #[.agg #[.int .i64 0, .int .i64 0, .string ⟨#[]⟩]] w fun e w' => e = .returned (.bool true) ∧ Below w.heap.size w w')
    (h0 : S.data.toList ≠ []) :
    Calls Tryd.prog 4 #[.string s] w fun e w' => e = .returned (.bool true) ∧ Below w.heap.size w w' := by
  have HE0 := Lib.hid E
  have HCU := Lib.hid hc1
  have HA := Lib.hid hA
  have HBB := Lib.hid hB
  have HCC := Lib.hid hC
  have HM1 := Lib.hid hM1
  have HM2 := Lib.hid hM2
  have HRR := Lib.hid hR
  have z1 : S.toList.isEmpty = false := by rw [ByteArray.toList_eq]; simpa using h0
  have H0 := Lib.hid h0
  clear h0
  clear E hc1 hA hB hC hM1 hM2 hR
  go_enter Tryd.func4, Tryd.ntmps4
  go_wp2_with fail
  refine (shown_any _ HE0.out).mono ?_
  rintro e w1 ⟨rfl, hb1⟩
  have HB1 := Lib.hid hb1
  have HE1 := Lib.hid (HE0.out.below hb1)
  clear hb1
  go_wp2_with fail
  refine (HCU.out _).mono ?_
  rintro e w' ⟨rfl, rfl⟩
  go_wp2_with fail
  refine (HA.out _ HE1.out).mono ?_
  rintro e v2 ⟨rfl, hb2⟩
  have HC2 := Lib.hid hb2
  clear hb2
  go_wp2_with fail
  obtain ⟨u2, hu2⟩ : ∃ u, v2.alloc (.cells #[.int .i64 0, .int .i64 0, .string ⟨#[]⟩] 23) = u := ⟨_, rfl⟩
  rw [hu2]
  have hx2 : u2.heap[v2.heap.size]? = some (.cells #[.int .i64 0, .int .i64 0, .string ⟨#[]⟩] 23) := by rw [← hu2]; exact heap_alloc_new v2 _
  have hc2 := HC2.out.alloc HC2.out.size (.cells #[.int .i64 0, .int .i64 0, .string ⟨#[]⟩] 23)
  rw [hu2] at hc2
  have HX2 := Lib.hid hx2
  have HE2 := Lib.hid (HE1.out.below hc2)
  have HB2 := Lib.hid (HB1.out.trans (hc2.mono HB1.out.size))
  have L2_2 := HX2
  clear hu2 hc2 hx2 HX2
  refine (HBB.out _ HE2.out).mono ?_
  rintro e v3 ⟨rfl, hb3⟩
  have HC3 := Lib.hid hb3
  clear hb3
  go_wp2_with fail
  obtain ⟨u3, hu3⟩ : ∃ u, v3.alloc (.cells #[.int .i64 0, .int .i64 0, .string ⟨#[]⟩] 23) = u := ⟨_, rfl⟩
  rw [hu3]
  have hx3 : u3.heap[v3.heap.size]? = some (.cells #[.int .i64 0, .int .i64 0, .string ⟨#[]⟩] 23) := by rw [← hu3]; exact heap_alloc_new v3 _
  have hc3 := HC3.out.alloc HC3.out.size (.cells #[.int .i64 0, .int .i64 0, .string ⟨#[]⟩] 23)
  rw [hu3] at hc3
  have HX3 := Lib.hid hx3
  have HE3 := Lib.hid (HE2.out.below hc3)
  have HB3 := Lib.hid (HB2.out.trans (hc3.mono HB2.out.size))
  have L2_3 := Lib.hid ((hc3.block _ (Array.getElem?_eq_some_iff.1 L2_2.out).1).trans L2_2.out)
  have L3_3 := HX3
  clear hu3 hc3 hx3 HX3
  refine (HCC.out _ HE3.out).mono ?_
  rintro e v4 ⟨rfl, hb4⟩
  have HC4 := Lib.hid hb4
  clear hb4
  go_wp2_with fail
  obtain ⟨u4, hu4⟩ : ∃ u, v4.alloc (.cells #[.int .i64 0, .int .i64 0, .string ⟨#[]⟩] 23) = u := ⟨_, rfl⟩
  rw [hu4]
  have hx4 : u4.heap[v4.heap.size]? = some (.cells #[.int .i64 0, .int .i64 0, .string ⟨#[]⟩] 23) := by rw [← hu4]; exact heap_alloc_new v4 _
  have hc4 := HC4.out.alloc HC4.out.size (.cells #[.int .i64 0, .int .i64 0, .string ⟨#[]⟩] 23)
  rw [hu4] at hc4
  have HX4 := Lib.hid hx4
  have HE4 := Lib.hid (HE3.out.below hc4)
  have HB4 := Lib.hid (HB3.out.trans (hc4.mono HB3.out.size))
  have L2_4 := Lib.hid ((hc4.block _ (Array.getElem?_eq_some_iff.1 L2_3.out).1).trans L2_3.out)
  have L3_4 := Lib.hid ((hc4.block _ (Array.getElem?_eq_some_iff.1 L3_3.out).1).trans L3_3.out)
  have L4_4 := HX4
  clear hu4 hc4 hx4 HX4
  refine (HM1.out _ HE4.out).mono ?_
  rintro e w5 ⟨rfl, hb5⟩
  have HE5 := Lib.hid (HE4.out.below hb5)
  have HB5 := Lib.hid (HB4.out.trans (hb5.mono HB4.out.size))
  have L2_5 := Lib.hid ((hb5.block _ (Array.getElem?_eq_some_iff.1 L2_4.out).1).trans L2_4.out)
  have L3_5 := Lib.hid ((hb5.block _ (Array.getElem?_eq_some_iff.1 L3_4.out).1).trans L3_4.out)
  have L4_5 := Lib.hid ((hb5.block _ (Array.getElem?_eq_some_iff.1 L4_4.out).1).trans L4_4.out)
  clear hb5
  go_wp2_with fail
  refine (HM2.out _ HE5.out).mono ?_
  rintro e w6 ⟨rfl, hb6⟩
  have HE6 := Lib.hid (HE5.out.below hb6)
  have HB6 := Lib.hid (HB5.out.trans (hb6.mono HB5.out.size))
  have L2_6 := Lib.hid ((hb6.block _ (Array.getElem?_eq_some_iff.1 L2_5.out).1).trans L2_5.out)
  have L3_6 := Lib.hid ((hb6.block _ (Array.getElem?_eq_some_iff.1 L3_5.out).1).trans L3_5.out)
  have L4_6 := Lib.hid ((hb6.block _ (Array.getElem?_eq_some_iff.1 L4_5.out).1).trans L4_5.out)
  clear hb6
  have q := eq_sc
  have q2 := equal_sc
  have qg := guard_sc
  have s0 := sameB_self (0) (0) (⟨#[]⟩)
  have l2c0 := cell_of_row _ _ 0 _ _ _ L2_6.out
  have l2c1 := cell_of_row _ _ 1 _ _ _ L2_6.out
  have l2c2 := cell_of_row _ _ 2 _ _ _ L2_6.out
  have l3c0 := cell_of_row _ _ 0 _ _ _ L3_6.out
  have l3c1 := cell_of_row _ _ 1 _ _ _ L3_6.out
  have l3c2 := cell_of_row _ _ 2 _ _ _ L3_6.out
  have l4c0 := cell_of_row _ _ 0 _ _ _ L4_6.out
  have l4c1 := cell_of_row _ _ 1 _ _ _ L4_6.out
  have l4c2 := cell_of_row _ _ 2 _ _ _ L4_6.out
  simp at l2c0 l2c1 l2c2 l3c0 l3c1 l3c2 l4c0 l4c1 l4c2
  go_wp2_with fail
  clear l2c0 l2c1 l2c2 l3c0 l3c1 l3c2 l4c0 l4c1 l4c2
  refine (HRR.out _ HE6.out).mono ?_
  rintro e w7 ⟨rfl, hb7⟩
  have HE7 := Lib.hid (HE6.out.below hb7)
  have HB7 := Lib.hid (HB6.out.trans (hb7.mono HB6.out.size))
  have L2_7 := Lib.hid ((hb7.block _ (Array.getElem?_eq_some_iff.1 L2_6.out).1).trans L2_6.out)
  have L3_7 := Lib.hid ((hb7.block _ (Array.getElem?_eq_some_iff.1 L3_6.out).1).trans L3_6.out)
  have L4_7 := Lib.hid ((hb7.block _ (Array.getElem?_eq_some_iff.1 L4_6.out).1).trans L4_6.out)
  clear hb7
  have l2c0 := cell_of_row _ _ 0 _ _ _ L2_7.out
  have l2c1 := cell_of_row _ _ 1 _ _ _ L2_7.out
  have l2c2 := cell_of_row _ _ 2 _ _ _ L2_7.out
  have l4c0 := cell_of_row _ _ 0 _ _ _ L4_7.out
  have l4c1 := cell_of_row _ _ 1 _ _ _ L4_7.out
  have l4c2 := cell_of_row _ _ 2 _ _ _ L4_7.out
  simp at l2c0 l2c1 l2c2 l4c0 l4c1 l4c2
  go_wp2_with fail
  go_ret
  exact ⟨rfl, HB7.out⟩
set_option maxRecDepth 100000 in
set_option maxHeartbeats 4000000 in
theorem right3f (S s : ByteArray) (_hSs : S.size ≤ 100) (hc1 : ∀ w, Calls Tryd.prog 9 #[.string s] w fun e w' => e = .returned (.string S) ∧ w = w') (w : World) (E : Env w)
    (hA : ∀ w, Env w → Calls Tryd.prog 10 #[.string S] w fun e w' => e = .returned (.tuple #[.agg #[.int .i64 0, .int .i64 0, .string ⟨#[]⟩], .int .i64 50]) ∧ Below w.heap.size w w')
    (hB : ∀ w, Env w → Calls Tryd.prog 12 #[.string S, .bool true] w fun e w' => e = .returned (.tuple #[.agg #[.int .i64 0, .int .i64 0, .string ⟨#[]⟩], .int .i64 51]) ∧ Below w.heap.size w w')
    (hC : ∀ w, Env w → Calls Tryd.prog 12 #[.string S, .bool false] w fun e w' => e = .returned (.tuple #[.agg #[.int .i64 0, .int .i64 0, .string ⟨#[]⟩], .int .i64 50]) ∧ Below w.heap.size w w')
    (hM1 : ∀ w, Env w → Calls Tryd.prog 14 #[.string S, .bool true] w fun e w' => e = .returned (.bool false) ∧ Below w.heap.size w w')
    (hM2 : ∀ w, Env w → Calls Tryd.prog 14 #[.string S, .bool false] w fun e w' => e = .returned (.bool true) ∧ Below w.heap.size w w')
    (hR : ∀ w, Env w → Calls Tryd.prog 16 #[.agg #[.int .i64 0, .int .i64 0, .string ⟨#[]⟩]] w fun e w' => e = .returned (.bool true) ∧ Below w.heap.size w w')
    (h0 : S.data.toList ≠ []) :
    Calls Tryd.prog 4 #[.string s] w fun e w' => e = .returned (.bool true) ∧ Below w.heap.size w w' := by
  have HE0 := Lib.hid E
  have HCU := Lib.hid hc1
  have HA := Lib.hid hA
  have HBB := Lib.hid hB
  have HCC := Lib.hid hC
  have HM1 := Lib.hid hM1
  have HM2 := Lib.hid hM2
  have HRR := Lib.hid hR
  have z1 : S.toList.isEmpty = false := by rw [ByteArray.toList_eq]; simpa using h0
  have H0 := Lib.hid h0
  clear h0
  clear E hc1 hA hB hC hM1 hM2 hR
  go_enter Tryd.func4, Tryd.ntmps4
  go_wp2_with fail
  refine (shown_any _ HE0.out).mono ?_
  rintro e w1 ⟨rfl, hb1⟩
  have HB1 := Lib.hid hb1
  have HE1 := Lib.hid (HE0.out.below hb1)
  clear hb1
  go_wp2_with fail
  refine (HCU.out _).mono ?_
  rintro e w' ⟨rfl, rfl⟩
  go_wp2_with fail
  refine (HA.out _ HE1.out).mono ?_
  rintro e v2 ⟨rfl, hb2⟩
  have HC2 := Lib.hid hb2
  clear hb2
  go_wp2_with fail
  obtain ⟨u2, hu2⟩ : ∃ u, v2.alloc (.cells #[.int .i64 0, .int .i64 0, .string ⟨#[]⟩] 23) = u := ⟨_, rfl⟩
  rw [hu2]
  have hx2 : u2.heap[v2.heap.size]? = some (.cells #[.int .i64 0, .int .i64 0, .string ⟨#[]⟩] 23) := by rw [← hu2]; exact heap_alloc_new v2 _
  have hc2 := HC2.out.alloc HC2.out.size (.cells #[.int .i64 0, .int .i64 0, .string ⟨#[]⟩] 23)
  rw [hu2] at hc2
  have HX2 := Lib.hid hx2
  have HE2 := Lib.hid (HE1.out.below hc2)
  have HB2 := Lib.hid (HB1.out.trans (hc2.mono HB1.out.size))
  have L2_2 := HX2
  clear hu2 hc2 hx2 HX2
  refine (HBB.out _ HE2.out).mono ?_
  rintro e v3 ⟨rfl, hb3⟩
  have HC3 := Lib.hid hb3
  clear hb3
  go_wp2_with fail
  obtain ⟨u3, hu3⟩ : ∃ u, v3.alloc (.cells #[.int .i64 0, .int .i64 0, .string ⟨#[]⟩] 23) = u := ⟨_, rfl⟩
  rw [hu3]
  have hx3 : u3.heap[v3.heap.size]? = some (.cells #[.int .i64 0, .int .i64 0, .string ⟨#[]⟩] 23) := by rw [← hu3]; exact heap_alloc_new v3 _
  have hc3 := HC3.out.alloc HC3.out.size (.cells #[.int .i64 0, .int .i64 0, .string ⟨#[]⟩] 23)
  rw [hu3] at hc3
  have HX3 := Lib.hid hx3
  have HE3 := Lib.hid (HE2.out.below hc3)
  have HB3 := Lib.hid (HB2.out.trans (hc3.mono HB2.out.size))
  have L2_3 := Lib.hid ((hc3.block _ (Array.getElem?_eq_some_iff.1 L2_2.out).1).trans L2_2.out)
  have L3_3 := HX3
  clear hu3 hc3 hx3 HX3
  refine (HCC.out _ HE3.out).mono ?_
  rintro e v4 ⟨rfl, hb4⟩
  have HC4 := Lib.hid hb4
  clear hb4
  go_wp2_with fail
  obtain ⟨u4, hu4⟩ : ∃ u, v4.alloc (.cells #[.int .i64 0, .int .i64 0, .string ⟨#[]⟩] 23) = u := ⟨_, rfl⟩
  rw [hu4]
  have hx4 : u4.heap[v4.heap.size]? = some (.cells #[.int .i64 0, .int .i64 0, .string ⟨#[]⟩] 23) := by rw [← hu4]; exact heap_alloc_new v4 _
  have hc4 := HC4.out.alloc HC4.out.size (.cells #[.int .i64 0, .int .i64 0, .string ⟨#[]⟩] 23)
  rw [hu4] at hc4
  have HX4 := Lib.hid hx4
  have HE4 := Lib.hid (HE3.out.below hc4)
  have HB4 := Lib.hid (HB3.out.trans (hc4.mono HB3.out.size))
  have L2_4 := Lib.hid ((hc4.block _ (Array.getElem?_eq_some_iff.1 L2_3.out).1).trans L2_3.out)
  have L3_4 := Lib.hid ((hc4.block _ (Array.getElem?_eq_some_iff.1 L3_3.out).1).trans L3_3.out)
  have L4_4 := HX4
  clear hu4 hc4 hx4 HX4
  refine (HM1.out _ HE4.out).mono ?_
  rintro e w5 ⟨rfl, hb5⟩
  have HE5 := Lib.hid (HE4.out.below hb5)
  have HB5 := Lib.hid (HB4.out.trans (hb5.mono HB4.out.size))
  have L2_5 := Lib.hid ((hb5.block _ (Array.getElem?_eq_some_iff.1 L2_4.out).1).trans L2_4.out)
  have L3_5 := Lib.hid ((hb5.block _ (Array.getElem?_eq_some_iff.1 L3_4.out).1).trans L3_4.out)
  have L4_5 := Lib.hid ((hb5.block _ (Array.getElem?_eq_some_iff.1 L4_4.out).1).trans L4_4.out)
  clear hb5
  have q := eq_sc
  have q2 := equal_sc
  have qg := guard_sc
  have s0 := sameB_self (0) (0) (⟨#[]⟩)
  have l2c0 := cell_of_row _ _ 0 _ _ _ L2_5.out
  have l2c1 := cell_of_row _ _ 1 _ _ _ L2_5.out
  have l2c2 := cell_of_row _ _ 2 _ _ _ L2_5.out
  have l3c0 := cell_of_row _ _ 0 _ _ _ L3_5.out
  have l3c1 := cell_of_row _ _ 1 _ _ _ L3_5.out
  have l3c2 := cell_of_row _ _ 2 _ _ _ L3_5.out
  have l4c0 := cell_of_row _ _ 0 _ _ _ L4_5.out
  have l4c1 := cell_of_row _ _ 1 _ _ _ L4_5.out
  have l4c2 := cell_of_row _ _ 2 _ _ _ L4_5.out
  simp at l2c0 l2c1 l2c2 l3c0 l3c1 l3c2 l4c0 l4c1 l4c2
  go_wp2_with fail
  clear l2c0 l2c1 l2c2 l3c0 l3c1 l3c2 l4c0 l4c1 l4c2
  refine (HRR.out _ HE5.out).mono ?_
  rintro e w7 ⟨rfl, hb7⟩
  have HE7 := Lib.hid (HE5.out.below hb7)
  have HB7 := Lib.hid (HB5.out.trans (hb7.mono HB5.out.size))
  have L2_7 := Lib.hid ((hb7.block _ (Array.getElem?_eq_some_iff.1 L2_5.out).1).trans L2_5.out)
  have L3_7 := Lib.hid ((hb7.block _ (Array.getElem?_eq_some_iff.1 L3_5.out).1).trans L3_5.out)
  have L4_7 := Lib.hid ((hb7.block _ (Array.getElem?_eq_some_iff.1 L4_5.out).1).trans L4_5.out)
  clear hb7
  have l2c0 := cell_of_row _ _ 0 _ _ _ L2_7.out
  have l2c1 := cell_of_row _ _ 1 _ _ _ L2_7.out
  have l2c2 := cell_of_row _ _ 2 _ _ _ L2_7.out
  have l4c0 := cell_of_row _ _ 0 _ _ _ L4_7.out
  have l4c1 := cell_of_row _ _ 1 _ _ _ L4_7.out
  have l4c2 := cell_of_row _ _ 2 _ _ _ L4_7.out
  simp at l2c0 l2c1 l2c2 l4c0 l4c1 l4c2
  go_wp2_with fail
  go_ret
  exact ⟨rfl, HB7.out⟩
set_option maxRecDepth 100000 in
set_option maxHeartbeats 4000000 in
theorem right4t (S s : ByteArray) (k n : Int) (_hSs : S.size ≤ 100) (hc1 : ∀ w, Calls Tryd.prog 9 #[.string s] w fun e w' => e = .returned (.string S) ∧ w = w') (w : World) (E : Env w)
    (hA : ∀ w, Env w → Calls Tryd.prog 10 #[.string S] w fun e w' => e = .returned (.tuple #[.agg #[.int .i64 k, .int .i64 n, .string ⟨#[]⟩], .int .i64 0]) ∧ Below w.heap.size w w')
    (hB : ∀ w, Env w → Calls Tryd.prog 12 #[.string S, .bool true] w fun e w' => e = .returned (.tuple #[.agg #[.int .i64 k, .int .i64 n, .string ⟨#[]⟩], .int .i64 0]) ∧ Below w.heap.size w w')
    (hC : ∀ w, Env w → Calls Tryd.prog 12 #[.string S, .bool false] w fun e w' => e = .returned (.tuple #[.agg #[.int .i64 k, .int .i64 n, .string ⟨#[]⟩], .int .i64 0]) ∧ Below w.heap.size w w')
    (hM1 : ∀ w, Env w → Calls Tryd.prog 14 #[.string S, .bool true] w fun e w' => e = .returned (.bool true) ∧ Below w.heap.size w w')
    (hM2 : ∀ w, Env w → Calls Tryd.prog 14 #[.string S, .bool false] w fun e w' => e = .returned (.bool true) ∧ Below w.heap.size w w')
    (hR : ∀ w, Env w → Calls Tryd.prog 16 #[.agg #[.int .i64 k, .int .i64 n, .string ⟨#[]⟩]] w fun e w' => e = .returned (.bool true) ∧ Below w.heap.size w w')
    (h0 : S.data.toList ≠ []) (hk : k ≠ 3) :
    Calls Tryd.prog 4 #[.string s] w fun e w' => e = .returned (.bool true) ∧ Below w.heap.size w w' := by
  have HE0 := Lib.hid E
  have HCU := Lib.hid hc1
  have HA := Lib.hid hA
  have HBB := Lib.hid hB
  have HCC := Lib.hid hC
  have HM1 := Lib.hid hM1
  have HM2 := Lib.hid hM2
  have HRR := Lib.hid hR
  have z1 : S.toList.isEmpty = false := by rw [ByteArray.toList_eq]; simpa using h0
  have H0 := Lib.hid h0
  clear h0
  have hk1 : (k == 3) = false := beq_eq_false_iff_ne.2 hk
  have hk2 : (k != 3) = true := by simp [bne, hk1]
  clear hk
  clear E hc1 hA hB hC hM1 hM2 hR
  go_enter Tryd.func4, Tryd.ntmps4
  go_wp2_with fail
  refine (shown_any _ HE0.out).mono ?_
  rintro e w1 ⟨rfl, hb1⟩
  have HB1 := Lib.hid hb1
  have HE1 := Lib.hid (HE0.out.below hb1)
  clear hb1
  go_wp2_with fail
  refine (HCU.out _).mono ?_
  rintro e w' ⟨rfl, rfl⟩
  go_wp2_with fail
  refine (HA.out _ HE1.out).mono ?_
  rintro e v2 ⟨rfl, hb2⟩
  have HC2 := Lib.hid hb2
  clear hb2
  go_wp2_with fail
  obtain ⟨u2, hu2⟩ : ∃ u, v2.alloc (.cells #[.int .i64 k, .int .i64 n, .string ⟨#[]⟩] 23) = u := ⟨_, rfl⟩
  rw [hu2]
  have hx2 : u2.heap[v2.heap.size]? = some (.cells #[.int .i64 k, .int .i64 n, .string ⟨#[]⟩] 23) := by rw [← hu2]; exact heap_alloc_new v2 _
  have hc2 := HC2.out.alloc HC2.out.size (.cells #[.int .i64 k, .int .i64 n, .string ⟨#[]⟩] 23)
  rw [hu2] at hc2
  have HX2 := Lib.hid hx2
  have HE2 := Lib.hid (HE1.out.below hc2)
  have HB2 := Lib.hid (HB1.out.trans (hc2.mono HB1.out.size))
  have L2_2 := HX2
  clear hu2 hc2 hx2 HX2
  refine (HBB.out _ HE2.out).mono ?_
  rintro e v3 ⟨rfl, hb3⟩
  have HC3 := Lib.hid hb3
  clear hb3
  go_wp2_with fail
  obtain ⟨u3, hu3⟩ : ∃ u, v3.alloc (.cells #[.int .i64 k, .int .i64 n, .string ⟨#[]⟩] 23) = u := ⟨_, rfl⟩
  rw [hu3]
  have hx3 : u3.heap[v3.heap.size]? = some (.cells #[.int .i64 k, .int .i64 n, .string ⟨#[]⟩] 23) := by rw [← hu3]; exact heap_alloc_new v3 _
  have hc3 := HC3.out.alloc HC3.out.size (.cells #[.int .i64 k, .int .i64 n, .string ⟨#[]⟩] 23)
  rw [hu3] at hc3
  have HX3 := Lib.hid hx3
  have HE3 := Lib.hid (HE2.out.below hc3)
  have HB3 := Lib.hid (HB2.out.trans (hc3.mono HB2.out.size))
  have L2_3 := Lib.hid ((hc3.block _ (Array.getElem?_eq_some_iff.1 L2_2.out).1).trans L2_2.out)
  have L3_3 := HX3
  clear hu3 hc3 hx3 HX3
  refine (HCC.out _ HE3.out).mono ?_
  rintro e v4 ⟨rfl, hb4⟩
  have HC4 := Lib.hid hb4
  clear hb4
  go_wp2_with fail
  obtain ⟨u4, hu4⟩ : ∃ u, v4.alloc (.cells #[.int .i64 k, .int .i64 n, .string ⟨#[]⟩] 23) = u := ⟨_, rfl⟩
  rw [hu4]
  have hx4 : u4.heap[v4.heap.size]? = some (.cells #[.int .i64 k, .int .i64 n, .string ⟨#[]⟩] 23) := by rw [← hu4]; exact heap_alloc_new v4 _
  have hc4 := HC4.out.alloc HC4.out.size (.cells #[.int .i64 k, .int .i64 n, .string ⟨#[]⟩] 23)
  rw [hu4] at hc4
  have HX4 := Lib.hid hx4
  have HE4 := Lib.hid (HE3.out.below hc4)
  have HB4 := Lib.hid (HB3.out.trans (hc4.mono HB3.out.size))
  have L2_4 := Lib.hid ((hc4.block _ (Array.getElem?_eq_some_iff.1 L2_3.out).1).trans L2_3.out)
  have L3_4 := Lib.hid ((hc4.block _ (Array.getElem?_eq_some_iff.1 L3_3.out).1).trans L3_3.out)
  have L4_4 := HX4
  clear hu4 hc4 hx4 HX4
  refine (HM1.out _ HE4.out).mono ?_
  rintro e w5 ⟨rfl, hb5⟩
  have HE5 := Lib.hid (HE4.out.below hb5)
  have HB5 := Lib.hid (HB4.out.trans (hb5.mono HB4.out.size))
  have L2_5 := Lib.hid ((hb5.block _ (Array.getElem?_eq_some_iff.1 L2_4.out).1).trans L2_4.out)
  have L3_5 := Lib.hid ((hb5.block _ (Array.getElem?_eq_some_iff.1 L3_4.out).1).trans L3_4.out)
  have L4_5 := Lib.hid ((hb5.block _ (Array.getElem?_eq_some_iff.1 L4_4.out).1).trans L4_4.out)
  clear hb5
  go_wp2_with fail
  refine (HM2.out _ HE5.out).mono ?_
  rintro e w6 ⟨rfl, hb6⟩
  have HE6 := Lib.hid (HE5.out.below hb6)
  have HB6 := Lib.hid (HB5.out.trans (hb6.mono HB5.out.size))
  have L2_6 := Lib.hid ((hb6.block _ (Array.getElem?_eq_some_iff.1 L2_5.out).1).trans L2_5.out)
  have L3_6 := Lib.hid ((hb6.block _ (Array.getElem?_eq_some_iff.1 L3_5.out).1).trans L3_5.out)
  have L4_6 := Lib.hid ((hb6.block _ (Array.getElem?_eq_some_iff.1 L4_5.out).1).trans L4_5.out)
  clear hb6
  have q := eq_sc
  have q2 := equal_sc
  have qg := guard_sc
  have s0 := sameB_self (0) (0) (⟨#[]⟩)
  have s1 := sameB_self (k) (n) (⟨#[]⟩)
  have l2c0 := cell_of_row _ _ 0 _ _ _ L2_6.out
  have l2c1 := cell_of_row _ _ 1 _ _ _ L2_6.out
  have l2c2 := cell_of_row _ _ 2 _ _ _ L2_6.out
  have l3c0 := cell_of_row _ _ 0 _ _ _ L3_6.out
  have l3c1 := cell_of_row _ _ 1 _ _ _ L3_6.out
  have l3c2 := cell_of_row _ _ 2 _ _ _ L3_6.out
  have l4c0 := cell_of_row _ _ 0 _ _ _ L4_6.out
  have l4c1 := cell_of_row _ _ 1 _ _ _ L4_6.out
  have l4c2 := cell_of_row _ _ 2 _ _ _ L4_6.out
  simp at l2c0 l2c1 l2c2 l3c0 l3c1 l3c2 l4c0 l4c1 l4c2
  go_wp2_with fail
  clear l2c0 l2c1 l2c2 l3c0 l3c1 l3c2 l4c0 l4c1 l4c2
  refine (HRR.out _ HE6.out).mono ?_
  rintro e w7 ⟨rfl, hb7⟩
  have HE7 := Lib.hid (HE6.out.below hb7)
  have HB7 := Lib.hid (HB6.out.trans (hb7.mono HB6.out.size))
  have L2_7 := Lib.hid ((hb7.block _ (Array.getElem?_eq_some_iff.1 L2_6.out).1).trans L2_6.out)
  have L3_7 := Lib.hid ((hb7.block _ (Array.getElem?_eq_some_iff.1 L3_6.out).1).trans L3_6.out)
  have L4_7 := Lib.hid ((hb7.block _ (Array.getElem?_eq_some_iff.1 L4_6.out).1).trans L4_6.out)
  clear hb7
  have l2c0 := cell_of_row _ _ 0 _ _ _ L2_7.out
  have l2c1 := cell_of_row _ _ 1 _ _ _ L2_7.out
  have l2c2 := cell_of_row _ _ 2 _ _ _ L2_7.out
  have l4c0 := cell_of_row _ _ 0 _ _ _ L4_7.out
  have l4c1 := cell_of_row _ _ 1 _ _ _ L4_7.out
  have l4c2 := cell_of_row _ _ 2 _ _ _ L4_7.out
  simp at l2c0 l2c1 l2c2 l4c0 l4c1 l4c2
  go_wp2_with fail
  go_ret
  exact ⟨rfl, HB7.out⟩
set_option maxRecDepth 100000 in
set_option maxHeartbeats 4000000 in
theorem right4f (S s : ByteArray) (k n : Int) (_hSs : S.size ≤ 100) (hc1 : ∀ w, Calls Tryd.prog 9 #[.string s] w fun e w' => e = .returned (.string S) ∧ w = w') (w : World) (E : Env w)
    (hA : ∀ w, Env w → Calls Tryd.prog 10 #[.string S] w fun e w' => e = .returned (.tuple #[.agg #[.int .i64 k, .int .i64 n, .string ⟨#[]⟩], .int .i64 0]) ∧ Below w.heap.size w w')
    (hB : ∀ w, Env w → Calls Tryd.prog 12 #[.string S, .bool true] w fun e w' => e = .returned (.tuple #[.agg #[.int .i64 0, .int .i64 0, .string ⟨#[]⟩], .int .i64 51]) ∧ Below w.heap.size w w')
    (hC : ∀ w, Env w → Calls Tryd.prog 12 #[.string S, .bool false] w fun e w' => e = .returned (.tuple #[.agg #[.int .i64 k, .int .i64 n, .string ⟨#[]⟩], .int .i64 0]) ∧ Below w.heap.size w w')
    (hM1 : ∀ w, Env w → Calls Tryd.prog 14 #[.string S, .bool true] w fun e w' => e = .returned (.bool false) ∧ Below w.heap.size w w')
    (hM2 : ∀ w, Env w → Calls Tryd.prog 14 #[.string S, .bool false] w fun e w' => e = .returned (.bool true) ∧ Below w.heap.size w w')
    (hR : ∀ w, Env w → Calls Tryd.prog 16 #[.agg #[.int .i64 k, .int .i64 n, .string ⟨#[]⟩]] w fun e w' => e = .returned (.bool true) ∧ Below w.heap.size w w')
    (h0 : S.data.toList ≠ []) (hk : k ≠ 3) :
    Calls Tryd.prog 4 #[.string s] w fun e w' => e = .returned (.bool true) ∧ Below w.heap.size w w' := by
  have HE0 := Lib.hid E
  have HCU := Lib.hid hc1
  have HA := Lib.hid hA
  have HBB := Lib.hid hB
  have HCC := Lib.hid hC
  have HM1 := Lib.hid hM1
  have HM2 := Lib.hid hM2
  have HRR := Lib.hid hR
  have z1 : S.toList.isEmpty = false := by rw [ByteArray.toList_eq]; simpa using h0
  have H0 := Lib.hid h0
  clear h0
  have hk1 : (k == 3) = false := beq_eq_false_iff_ne.2 hk
  have hk2 : (k != 3) = true := by simp [bne, hk1]
  clear hk
  clear E hc1 hA hB hC hM1 hM2 hR
  go_enter Tryd.func4, Tryd.ntmps4
  go_wp2_with fail
  refine (shown_any _ HE0.out).mono ?_
  rintro e w1 ⟨rfl, hb1⟩
  have HB1 := Lib.hid hb1
  have HE1 := Lib.hid (HE0.out.below hb1)
  clear hb1
  go_wp2_with fail
  refine (HCU.out _).mono ?_
  rintro e w' ⟨rfl, rfl⟩
  go_wp2_with fail
  refine (HA.out _ HE1.out).mono ?_
  rintro e v2 ⟨rfl, hb2⟩
  have HC2 := Lib.hid hb2
  clear hb2
  go_wp2_with fail
  obtain ⟨u2, hu2⟩ : ∃ u, v2.alloc (.cells #[.int .i64 k, .int .i64 n, .string ⟨#[]⟩] 23) = u := ⟨_, rfl⟩
  rw [hu2]
  have hx2 : u2.heap[v2.heap.size]? = some (.cells #[.int .i64 k, .int .i64 n, .string ⟨#[]⟩] 23) := by rw [← hu2]; exact heap_alloc_new v2 _
  have hc2 := HC2.out.alloc HC2.out.size (.cells #[.int .i64 k, .int .i64 n, .string ⟨#[]⟩] 23)
  rw [hu2] at hc2
  have HX2 := Lib.hid hx2
  have HE2 := Lib.hid (HE1.out.below hc2)
  have HB2 := Lib.hid (HB1.out.trans (hc2.mono HB1.out.size))
  have L2_2 := HX2
  clear hu2 hc2 hx2 HX2
  refine (HBB.out _ HE2.out).mono ?_
  rintro e v3 ⟨rfl, hb3⟩
  have HC3 := Lib.hid hb3
  clear hb3
  go_wp2_with fail
  obtain ⟨u3, hu3⟩ : ∃ u, v3.alloc (.cells #[.int .i64 0, .int .i64 0, .string ⟨#[]⟩] 23) = u := ⟨_, rfl⟩
  rw [hu3]
  have hx3 : u3.heap[v3.heap.size]? = some (.cells #[.int .i64 0, .int .i64 0, .string ⟨#[]⟩] 23) := by rw [← hu3]; exact heap_alloc_new v3 _
  have hc3 := HC3.out.alloc HC3.out.size (.cells #[.int .i64 0, .int .i64 0, .string ⟨#[]⟩] 23)
  rw [hu3] at hc3
  have HX3 := Lib.hid hx3
  have HE3 := Lib.hid (HE2.out.below hc3)
  have HB3 := Lib.hid (HB2.out.trans (hc3.mono HB2.out.size))
  have L2_3 := Lib.hid ((hc3.block _ (Array.getElem?_eq_some_iff.1 L2_2.out).1).trans L2_2.out)
  have L3_3 := HX3
  clear hu3 hc3 hx3 HX3
  refine (HCC.out _ HE3.out).mono ?_
  rintro e v4 ⟨rfl, hb4⟩
  have HC4 := Lib.hid hb4
  clear hb4
  go_wp2_with fail
  obtain ⟨u4, hu4⟩ : ∃ u, v4.alloc (.cells #[.int .i64 k, .int .i64 n, .string ⟨#[]⟩] 23) = u := ⟨_, rfl⟩
  rw [hu4]
  have hx4 : u4.heap[v4.heap.size]? = some (.cells #[.int .i64 k, .int .i64 n, .string ⟨#[]⟩] 23) := by rw [← hu4]; exact heap_alloc_new v4 _
  have hc4 := HC4.out.alloc HC4.out.size (.cells #[.int .i64 k, .int .i64 n, .string ⟨#[]⟩] 23)
  rw [hu4] at hc4
  have HX4 := Lib.hid hx4
  have HE4 := Lib.hid (HE3.out.below hc4)
  have HB4 := Lib.hid (HB3.out.trans (hc4.mono HB3.out.size))
  have L2_4 := Lib.hid ((hc4.block _ (Array.getElem?_eq_some_iff.1 L2_3.out).1).trans L2_3.out)
  have L3_4 := Lib.hid ((hc4.block _ (Array.getElem?_eq_some_iff.1 L3_3.out).1).trans L3_3.out)
  have L4_4 := HX4
  clear hu4 hc4 hx4 HX4
  refine (HM1.out _ HE4.out).mono ?_
  rintro e w5 ⟨rfl, hb5⟩
  have HE5 := Lib.hid (HE4.out.below hb5)
  have HB5 := Lib.hid (HB4.out.trans (hb5.mono HB4.out.size))
  have L2_5 := Lib.hid ((hb5.block _ (Array.getElem?_eq_some_iff.1 L2_4.out).1).trans L2_4.out)
  have L3_5 := Lib.hid ((hb5.block _ (Array.getElem?_eq_some_iff.1 L3_4.out).1).trans L3_4.out)
  have L4_5 := Lib.hid ((hb5.block _ (Array.getElem?_eq_some_iff.1 L4_4.out).1).trans L4_4.out)
  clear hb5
  have q := eq_sc
  have q2 := equal_sc
  have qg := guard_sc
  have s0 := sameB_self (0) (0) (⟨#[]⟩)
  have s1 := sameB_self (k) (n) (⟨#[]⟩)
  have l2c0 := cell_of_row _ _ 0 _ _ _ L2_5.out
  have l2c1 := cell_of_row _ _ 1 _ _ _ L2_5.out
  have l2c2 := cell_of_row _ _ 2 _ _ _ L2_5.out
  have l3c0 := cell_of_row _ _ 0 _ _ _ L3_5.out
  have l3c1 := cell_of_row _ _ 1 _ _ _ L3_5.out
  have l3c2 := cell_of_row _ _ 2 _ _ _ L3_5.out
  have l4c0 := cell_of_row _ _ 0 _ _ _ L4_5.out
  have l4c1 := cell_of_row _ _ 1 _ _ _ L4_5.out
  have l4c2 := cell_of_row _ _ 2 _ _ _ L4_5.out
  simp at l2c0 l2c1 l2c2 l3c0 l3c1 l3c2 l4c0 l4c1 l4c2
  go_wp2_with fail
  clear l2c0 l2c1 l2c2 l3c0 l3c1 l3c2 l4c0 l4c1 l4c2
  refine (HRR.out _ HE5.out).mono ?_
  rintro e w7 ⟨rfl, hb7⟩
  have HE7 := Lib.hid (HE5.out.below hb7)
  have HB7 := Lib.hid (HB5.out.trans (hb7.mono HB5.out.size))
  have L2_7 := Lib.hid ((hb7.block _ (Array.getElem?_eq_some_iff.1 L2_5.out).1).trans L2_5.out)
  have L3_7 := Lib.hid ((hb7.block _ (Array.getElem?_eq_some_iff.1 L3_5.out).1).trans L3_5.out)
  have L4_7 := Lib.hid ((hb7.block _ (Array.getElem?_eq_some_iff.1 L4_5.out).1).trans L4_5.out)
  clear hb7
  have l2c0 := cell_of_row _ _ 0 _ _ _ L2_7.out
  have l2c1 := cell_of_row _ _ 1 _ _ _ L2_7.out
  have l2c2 := cell_of_row _ _ 2 _ _ _ L2_7.out
  have l4c0 := cell_of_row _ _ 0 _ _ _ L4_7.out
  have l4c1 := cell_of_row _ _ 1 _ _ _ L4_7.out
  have l4c2 := cell_of_row _ _ 2 _ _ _ L4_7.out
  simp at l2c0 l2c1 l2c2 l4c0 l4c1 l4c2
  go_wp2_with fail
  go_ret
  exact ⟨rfl, HB7.out⟩
set_option maxRecDepth 100000 in
set_option maxHeartbeats 4000000 in
theorem right5t (S s : ByteArray) (_hSs : S.size ≤ 100) (hc1 : ∀ w, Calls Tryd.prog 9 #[.string s] w fun e w' => e = .returned (.string S) ∧ w = w') (w : World) (E : Env w)
    (hA : ∀ w, Env w → Calls Tryd.prog 10 #[.string S] w fun e w' => e = .returned (.tuple #[.agg #[.int .i64 3, .int .i64 0, .string S], .int .i64 0]) ∧ Below w.heap.size w w')
    (hB : ∀ w, Env w → Calls Tryd.prog 12 #[.string S, .bool true] w fun e w' => e = .returned (.tuple #[.agg #[.int .i64 3, .int .i64 0, .string S], .int .i64 0]) ∧ Below w.heap.size w w')
    (hC : ∀ w, Env w → Calls Tryd.prog 12 #[.string S, .bool false] w fun e w' => e = .returned (.tuple #[.agg #[.int .i64 3, .int .i64 0, .string S], .int .i64 0]) ∧ Below w.heap.size w w')
    (hM1 : ∀ w, Env w → Calls Tryd.prog 14 #[.string S, .bool true] w fun e w' => e = .returned (.bool true) ∧ Below w.heap.size w w')
    (hM2 : ∀ w, Env w → Calls Tryd.prog 14 #[.string S, .bool false] w fun e w' => e = .returned (.bool true) ∧ Below w.heap.size w w')
    (hR : ∀ w, Env w → Calls Tryd.prog 16 #[.agg #[.int .i64 3, .int .i64 0, .string S]] w fun e w' => e = .returned (.bool true) ∧ Below w.heap.size w w')
    (h0 : S.data.toList ≠ []) :
    Calls Tryd.prog 4 #[.string s] w fun e w' => e = .returned (.bool true) ∧ Below w.heap.size w w' := by
  have HE0 := Lib.hid E
  have HCU := Lib.hid hc1
  have HA := Lib.hid hA
  have HBB := Lib.hid hB
  have HCC := Lib.hid hC
  have HM1 := Lib.hid hM1
  have HM2 := Lib.hid hM2
  have HRR := Lib.hid hR
  have z1 : S.toList.isEmpty = false := by rw [ByteArray.toList_eq]; simpa using h0
  have H0 := Lib.hid h0
  clear h0
  clear E hc1 hA hB hC hM1 hM2 hR
  go_enter Tryd.func4, Tryd.ntmps4
  go_wp2_with fail
  refine (shown_any _ HE0.out).mono ?_
  rintro e w1 ⟨rfl, hb1⟩
  have HB1 := Lib.hid hb1
  have HE1 := Lib.hid (HE0.out.below hb1)
  clear hb1
  go_wp2_with fail
  refine (HCU.out _).mono ?_
  rintro e w' ⟨rfl, rfl⟩
  go_wp2_with fail
  refine (HA.out _ HE1.out).mono ?_
  rintro e v2 ⟨rfl, hb2⟩
  have HC2 := Lib.hid hb2
  clear hb2
  go_wp2_with fail
  obtain ⟨u2, hu2⟩ : ∃ u, v2.alloc (.cells #[.int .i64 3, .int .i64 0, .string S] 23) = u := ⟨_, rfl⟩
  rw [hu2]
  have hx2 : u2.heap[v2.heap.size]? = some (.cells #[.int .i64 3, .int .i64 0, .string S] 23) := by rw [← hu2]; exact heap_alloc_new v2 _
  have hc2 := HC2.out.alloc HC2.out.size (.cells #[.int .i64 3, .int .i64 0, .string S] 23)
  rw [hu2] at hc2
  have HX2 := Lib.hid hx2
  have HE2 := Lib.hid (HE1.out.below hc2)
  have HB2 := Lib.hid (HB1.out.trans (hc2.mono HB1.out.size))
  have L2_2 := HX2
  clear hu2 hc2 hx2 HX2
  refine (HBB.out _ HE2.out).mono ?_
  rintro e v3 ⟨rfl, hb3⟩
  have HC3 := Lib.hid hb3
  clear hb3
  go_wp2_with fail
  obtain ⟨u3, hu3⟩ : ∃ u, v3.alloc (.cells #[.int .i64 3, .int .i64 0, .string S] 23) = u := ⟨_, rfl⟩
  rw [hu3]
  have hx3 : u3.heap[v3.heap.size]? = some (.cells #[.int .i64 3, .int .i64 0, .string S] 23) := by rw [← hu3]; exact heap_alloc_new v3 _
  have hc3 := HC3.out.alloc HC3.out.size (.cells #[.int .i64 3, .int .i64 0, .string S] 23)
  rw [hu3] at hc3
  have HX3 := Lib.hid hx3
  have HE3 := Lib.hid (HE2.out.below hc3)
  have HB3 := Lib.hid (HB2.out.trans (hc3.mono HB2.out.size))
  have L2_3 := Lib.hid ((hc3.block _ (Array.getElem?_eq_some_iff.1 L2_2.out).1).trans L2_2.out)
  have L3_3 := HX3
  clear hu3 hc3 hx3 HX3
  refine (HCC.out _ HE3.out).mono ?_
  rintro e v4 ⟨rfl, hb4⟩
  have HC4 := Lib.hid hb4
  clear hb4
  go_wp2_with fail
  obtain ⟨u4, hu4⟩ : ∃ u, v4.alloc (.cells #[.int .i64 3, .int .i64 0, .string S] 23) = u := ⟨_, rfl⟩
  rw [hu4]
  have hx4 : u4.heap[v4.heap.size]? = some (.cells #[.int .i64 3, .int .i64 0, .string S] 23) := by rw [← hu4]; exact heap_alloc_new v4 _
  have hc4 := HC4.out.alloc HC4.out.size (.cells #[.int .i64 3, .int .i64 0, .string S] 23)
  rw [hu4] at hc4
  have HX4 := Lib.hid hx4
  have HE4 := Lib.hid (HE3.out.below hc4)
  have HB4 := Lib.hid (HB3.out.trans (hc4.mono HB3.out.size))
  have L2_4 := Lib.hid ((hc4.block _ (Array.getElem?_eq_some_iff.1 L2_3.out).1).trans L2_3.out)
  have L3_4 := Lib.hid ((hc4.block _ (Array.getElem?_eq_some_iff.1 L3_3.out).1).trans L3_3.out)
  have L4_4 := HX4
  clear hu4 hc4 hx4 HX4
  refine (HM1.out _ HE4.out).mono ?_
  rintro e w5 ⟨rfl, hb5⟩
  have HE5 := Lib.hid (HE4.out.below hb5)
  have HB5 := Lib.hid (HB4.out.trans (hb5.mono HB4.out.size))
  have L2_5 := Lib.hid ((hb5.block _ (Array.getElem?_eq_some_iff.1 L2_4.out).1).trans L2_4.out)
  have L3_5 := Lib.hid ((hb5.block _ (Array.getElem?_eq_some_iff.1 L3_4.out).1).trans L3_4.out)
  have L4_5 := Lib.hid ((hb5.block _ (Array.getElem?_eq_some_iff.1 L4_4.out).1).trans L4_4.out)
  clear hb5
  go_wp2_with fail
  refine (HM2.out _ HE5.out).mono ?_
  rintro e w6 ⟨rfl, hb6⟩
  have HE6 := Lib.hid (HE5.out.below hb6)
  have HB6 := Lib.hid (HB5.out.trans (hb6.mono HB5.out.size))
  have L2_6 := Lib.hid ((hb6.block _ (Array.getElem?_eq_some_iff.1 L2_5.out).1).trans L2_5.out)
  have L3_6 := Lib.hid ((hb6.block _ (Array.getElem?_eq_some_iff.1 L3_5.out).1).trans L3_5.out)
  have L4_6 := Lib.hid ((hb6.block _ (Array.getElem?_eq_some_iff.1 L4_5.out).1).trans L4_5.out)
  clear hb6
  have q := eq_sc
  have q2 := equal_sc
  have qg := guard_sc
  have s0 := sameB_self (0) (0) (⟨#[]⟩)
  have s1 := sameB_self (3) (0) (S)
  have l2c0 := cell_of_row _ _ 0 _ _ _ L2_6.out
  have l2c1 := cell_of_row _ _ 1 _ _ _ L2_6.out
  have l2c2 := cell_of_row _ _ 2 _ _ _ L2_6.out
  have l3c0 := cell_of_row _ _ 0 _ _ _ L3_6.out
  have l3c1 := cell_of_row _ _ 1 _ _ _ L3_6.out
  have l3c2 := cell_of_row _ _ 2 _ _ _ L3_6.out
  have l4c0 := cell_of_row _ _ 0 _ _ _ L4_6.out
  have l4c1 := cell_of_row _ _ 1 _ _ _ L4_6.out
  have l4c2 := cell_of_row _ _ 2 _ _ _ L4_6.out
  simp at l2c0 l2c1 l2c2 l3c0 l3c1 l3c2 l4c0 l4c1 l4c2
  go_wp2_with fail
  clear l2c0 l2c1 l2c2 l3c0 l3c1 l3c2 l4c0 l4c1 l4c2
  refine (HRR.out _ HE6.out).mono ?_
  rintro e w7 ⟨rfl, hb7⟩
  have HE7 := Lib.hid (HE6.out.below hb7)
  have HB7 := Lib.hid (HB6.out.trans (hb7.mono HB6.out.size))
  have L2_7 := Lib.hid ((hb7.block _ (Array.getElem?_eq_some_iff.1 L2_6.out).1).trans L2_6.out)
  have L3_7 := Lib.hid ((hb7.block _ (Array.getElem?_eq_some_iff.1 L3_6.out).1).trans L3_6.out)
  have L4_7 := Lib.hid ((hb7.block _ (Array.getElem?_eq_some_iff.1 L4_6.out).1).trans L4_6.out)
  clear hb7
  have l2c0 := cell_of_row _ _ 0 _ _ _ L2_7.out
  have l2c1 := cell_of_row _ _ 1 _ _ _ L2_7.out
  have l2c2 := cell_of_row _ _ 2 _ _ _ L2_7.out
  have l4c0 := cell_of_row _ _ 0 _ _ _ L4_7.out
  have l4c1 := cell_of_row _ _ 1 _ _ _ L4_7.out
  have l4c2 := cell_of_row _ _ 2 _ _ _ L4_7.out
  simp at l2c0 l2c1 l2c2 l4c0 l4c1 l4c2
  go_wp2_with fail
  go_ret
  exact ⟨rfl, HB7.out⟩
set_option maxRecDepth 100000 in
set_option maxHeartbeats 4000000 in
theorem right5f (S s : ByteArray) (_hSs : S.size ≤ 100) (hc1 : ∀ w, Calls Tryd.prog 9 #[.string s] w fun e w' => e = .returned (.string S) ∧ w = w') (w : World) (E : Env w)
    (hA : ∀ w, Env w → Calls Tryd.prog 10 #[.string S] w fun e w' => e = .returned (.tuple #[.agg #[.int .i64 3, .int .i64 0, .string S], .int .i64 0]) ∧ Below w.heap.size w w')
    (hB : ∀ w, Env w → Calls Tryd.prog 12 #[.string S, .bool true] w fun e w' => e = .returned (.tuple #[.agg #[.int .i64 0, .int .i64 0, .string ⟨#[]⟩], .int .i64 51]) ∧ Below w.heap.size w w')
    (hC : ∀ w, Env w → Calls Tryd.prog 12 #[.string S, .bool false] w fun e w' => e = .returned (.tuple #[.agg #[.int .i64 3, .int .i64 0, .string S], .int .i64 0]) ∧ Below w.heap.size w w')
    (hM1 : ∀ w, Env w → Calls Tryd.prog 14 #[.string S, .bool true] w fun e w' => e = .returned (.bool false) ∧ Below w.heap.size w w')
    (hM2 : ∀ w, Env w → Calls Tryd.prog 14 #[.string S, .bool false] w fun e w' => e = .returned (.bool true) ∧ Below w.heap.size w w')
    (hR : ∀ w, Env w → Calls Tryd.prog 16 #[.agg #[.int .i64 3, .int .i64 0, .string S]] w fun e w' => e = .returned (.bool true) ∧ Below w.heap.size w w')
    (h0 : S.data.toList ≠ []) :
    Calls Tryd.prog 4 #[.string s] w fun e w' => e = .returned (.bool true) ∧ Below w.heap.size w w' := by
  have HE0 := Lib.hid E
  have HCU := Lib.hid hc1
  have HA := Lib.hid hA
  have HBB := Lib.hid hB
  have HCC := Lib.hid hC
  have HM1 := Lib.hid hM1
  have HM2 := Lib.hid hM2
  have HRR := Lib.hid hR
  have z1 : S.toList.isEmpty = false := by rw [ByteArray.toList_eq]; simpa using h0
  have H0 := Lib.hid h0
  clear h0
  clear E hc1 hA hB hC hM1 hM2 hR
  go_enter Tryd.func4, Tryd.ntmps4
  go_wp2_with fail
  refine (shown_any _ HE0.out).mono ?_
  rintro e w1 ⟨rfl, hb1⟩
  have HB1 := Lib.hid hb1
  have HE1 := Lib.hid (HE0.out.below hb1)
  clear hb1
  go_wp2_with fail
  refine (HCU.out _).mono ?_
  rintro e w' ⟨rfl, rfl⟩
  go_wp2_with fail
  refine (HA.out _ HE1.out).mono ?_
  rintro e v2 ⟨rfl, hb2⟩
  have HC2 := Lib.hid hb2
  clear hb2
  go_wp2_with fail
  obtain ⟨u2, hu2⟩ : ∃ u, v2.alloc (.cells #[.int .i64 3, .int .i64 0, .string S] 23) = u := ⟨_, rfl⟩
  rw [hu2]
  have hx2 : u2.heap[v2.heap.size]? = some (.cells #[.int .i64 3, .int .i64 0, .string S] 23) := by rw [← hu2]; exact heap_alloc_new v2 _
  have hc2 := HC2.out.alloc HC2.out.size (.cells #[.int .i64 3, .int .i64 0, .string S] 23)
  rw [hu2] at hc2
  have HX2 := Lib.hid hx2
  have HE2 := Lib.hid (HE1.out.below hc2)
  have HB2 := Lib.hid (HB1.out.trans (hc2.mono HB1.out.size))
  have L2_2 := HX2
  clear hu2 hc2 hx2 HX2
  refine (HBB.out _ HE2.out).mono ?_
  rintro e v3 ⟨rfl, hb3⟩
  have HC3 := Lib.hid hb3
  clear hb3
  go_wp2_with fail
  obtain ⟨u3, hu3⟩ : ∃ u, v3.alloc (.cells #[.int .i64 0, .int .i64 0, .string ⟨#[]⟩] 23) = u := ⟨_, rfl⟩
  rw [hu3]
  have hx3 : u3.heap[v3.heap.size]? = some (.cells #[.int .i64 0, .int .i64 0, .string ⟨#[]⟩] 23) := by rw [← hu3]; exact heap_alloc_new v3 _
  have hc3 := HC3.out.alloc HC3.out.size (.cells #[.int .i64 0, .int .i64 0, .string ⟨#[]⟩] 23)
  rw [hu3] at hc3
  have HX3 := Lib.hid hx3
  have HE3 := Lib.hid (HE2.out.below hc3)
  have HB3 := Lib.hid (HB2.out.trans (hc3.mono HB2.out.size))
  have L2_3 := Lib.hid ((hc3.block _ (Array.getElem?_eq_some_iff.1 L2_2.out).1).trans L2_2.out)
  have L3_3 := HX3
  clear hu3 hc3 hx3 HX3
  refine (HCC.out _ HE3.out).mono ?_
  rintro e v4 ⟨rfl, hb4⟩
  have HC4 := Lib.hid hb4
  clear hb4
  go_wp2_with fail
  obtain ⟨u4, hu4⟩ : ∃ u, v4.alloc (.cells #[.int .i64 3, .int .i64 0, .string S] 23) = u := ⟨_, rfl⟩
  rw [hu4]
  have hx4 : u4.heap[v4.heap.size]? = some (.cells #[.int .i64 3, .int .i64 0, .string S] 23) := by rw [← hu4]; exact heap_alloc_new v4 _
  have hc4 := HC4.out.alloc HC4.out.size (.cells #[.int .i64 3, .int .i64 0, .string S] 23)
  rw [hu4] at hc4
  have HX4 := Lib.hid hx4
  have HE4 := Lib.hid (HE3.out.below hc4)
  have HB4 := Lib.hid (HB3.out.trans (hc4.mono HB3.out.size))
  have L2_4 := Lib.hid ((hc4.block _ (Array.getElem?_eq_some_iff.1 L2_3.out).1).trans L2_3.out)
  have L3_4 := Lib.hid ((hc4.block _ (Array.getElem?_eq_some_iff.1 L3_3.out).1).trans L3_3.out)
  have L4_4 := HX4
  clear hu4 hc4 hx4 HX4
  refine (HM1.out _ HE4.out).mono ?_
  rintro e w5 ⟨rfl, hb5⟩
  have HE5 := Lib.hid (HE4.out.below hb5)
  have HB5 := Lib.hid (HB4.out.trans (hb5.mono HB4.out.size))
  have L2_5 := Lib.hid ((hb5.block _ (Array.getElem?_eq_some_iff.1 L2_4.out).1).trans L2_4.out)
  have L3_5 := Lib.hid ((hb5.block _ (Array.getElem?_eq_some_iff.1 L3_4.out).1).trans L3_4.out)
  have L4_5 := Lib.hid ((hb5.block _ (Array.getElem?_eq_some_iff.1 L4_4.out).1).trans L4_4.out)
  clear hb5
  have q := eq_sc
  have q2 := equal_sc
  have qg := guard_sc
  have s0 := sameB_self (0) (0) (⟨#[]⟩)
  have s1 := sameB_self (3) (0) (S)
  have l2c0 := cell_of_row _ _ 0 _ _ _ L2_5.out
  have l2c1 := cell_of_row _ _ 1 _ _ _ L2_5.out
  have l2c2 := cell_of_row _ _ 2 _ _ _ L2_5.out
  have l3c0 := cell_of_row _ _ 0 _ _ _ L3_5.out
  have l3c1 := cell_of_row _ _ 1 _ _ _ L3_5.out
  have l3c2 := cell_of_row _ _ 2 _ _ _ L3_5.out
  have l4c0 := cell_of_row _ _ 0 _ _ _ L4_5.out
  have l4c1 := cell_of_row _ _ 1 _ _ _ L4_5.out
  have l4c2 := cell_of_row _ _ 2 _ _ _ L4_5.out
  simp at l2c0 l2c1 l2c2 l3c0 l3c1 l3c2 l4c0 l4c1 l4c2
  go_wp2_with fail
  clear l2c0 l2c1 l2c2 l3c0 l3c1 l3c2 l4c0 l4c1 l4c2
  refine (HRR.out _ HE5.out).mono ?_
  rintro e w7 ⟨rfl, hb7⟩
  have HE7 := Lib.hid (HE5.out.below hb7)
  have HB7 := Lib.hid (HB5.out.trans (hb7.mono HB5.out.size))
  have L2_7 := Lib.hid ((hb7.block _ (Array.getElem?_eq_some_iff.1 L2_5.out).1).trans L2_5.out)
  have L3_7 := Lib.hid ((hb7.block _ (Array.getElem?_eq_some_iff.1 L3_5.out).1).trans L3_5.out)
  have L4_7 := Lib.hid ((hb7.block _ (Array.getElem?_eq_some_iff.1 L4_5.out).1).trans L4_5.out)
  clear hb7
  have l2c0 := cell_of_row _ _ 0 _ _ _ L2_7.out
  have l2c1 := cell_of_row _ _ 1 _ _ _ L2_7.out
  have l2c2 := cell_of_row _ _ 2 _ _ _ L2_7.out
  have l4c0 := cell_of_row _ _ 0 _ _ _ L4_7.out
  have l4c1 := cell_of_row _ _ 1 _ _ _ L4_7.out
  have l4c2 := cell_of_row _ _ 2 _ _ _ L4_7.out
  simp at l2c0 l2c1 l2c2 l4c0 l4c1 l4c2
  go_wp2_with fail
  go_ret
  exact ⟨rfl, HB7.out⟩
end Go.Proofs.YtimbidbpfdaocaaDoor
