/- The statements' own check of some known values holds, and the texts that they cut. Conditions: the library's tables lie as they are laid. -/
import Derived.Test.YtimbidbpfdaocaaDoorShn
namespace Go.Proofs.YtimbidbpfdaocaaDoor
open Go.RowKit Go.Shelf
open Pl Seqo
/-- a text's first one hundred bytes -/
def cutT (s : ByteArray) : ByteArray := if 100 < s.size then s.extract 0 100 else s
theorem cutT_size (s : ByteArray) : (cutT s).size ≤ 100 := by
  unfold cutT
  split
  · simp [ByteArray.size_extract]; omega
  · omega
theorem cut_any (s : ByteArray) (w : World) :
    Calls Tryd.prog 9 #[.string s] w fun e w' => e = .returned (.string (cutT s)) ∧ w = w' := by
  by_cases h : 100 < s.size
  · have h1 : min (s.size : Int) 100 = 100 := by omega
    have h2 : (100 : Int) ≤ (s.size : Int) := by omega
    have e : cutT s = s.extract 0 100 := by unfold cutT; rw [if_pos h]
    rw [e]
    go_enter Tryd.func9, Tryd.ntmps9
    go_wp2
    go_ret
    exact ⟨rfl, rfl⟩
  · have h1 : min (s.size : Int) 100 = (s.size : Int) := by omega
    have e : cutT s = s.extract 0 s.size := by
      unfold cutT
      rw [if_neg h]
      exact (ByteArray.extract_zero_size).symm
    rw [e, ByteArray.extract_zero_size]
    go_enter Tryd.func9, Tryd.ntmps9
    go_wp2
    go_ret
    exact ⟨rfl, rfl⟩
/-- what a call of Resolve, or of Read, hands back, laid in a variable of the caller's -/
theorem laid_next {w w1 : World} {o : Obj} (h : Below w.heap.size w w1) : (w1.alloc o).heap[w1.heap.size]? = some o ∧ Below w.heap.size w (w1.alloc o) :=
  ⟨heap_alloc_new w1 o, h.alloc h.size _⟩
theorem tell1 (w : World) (E : Env w) : Calls Tryd.prog 10 #[.string ⟨#[45, 49, 50]⟩] w fun e w' => e = .returned (.tuple #[.agg #[.int .i64 2, .int .i64 (-12), .string ⟨#[]⟩], .int .i64 0]) ∧ Below w.heap.size w w' := by
  have h := Resolve_any ⟨#[45, 49, 50]⟩ (by decide) w E
  rwa [res_m12] at h
theorem tell2 (w : World) (E : Env w) : Calls Tryd.prog 10 #[.string ⟨#[97, 58, 98]⟩] w fun e w' => e = .returned (.tuple #[.agg #[.int .i64 3, .int .i64 0, .string ⟨#[97, 58, 98]⟩], .int .i64 0]) ∧ Below w.heap.size w w' := by
  have h := Resolve_any ⟨#[97, 58, 98]⟩ (by decide) w E
  rwa [res_acb] at h
theorem tell3 (w : World) (E : Env w) : Calls Tryd.prog 10 #[.string ⟨#[49, 46, 53]⟩] w fun e w' => e = .returned (.tuple #[.agg #[.int .i64 0, .int .i64 0, .string ⟨#[]⟩], .int .i64 50]) ∧ Below w.heap.size w w' := by
  have h := Resolve_any ⟨#[49, 46, 53]⟩ (by decide) w E
  rwa [res_15] at h
theorem tell4 (w : World) (E : Env w) : Calls Tryd.prog 10 #[.string ⟨#[97, 58, 32, 98]⟩] w fun e w' => e = .returned (.tuple #[.agg #[.int .i64 0, .int .i64 0, .string ⟨#[]⟩], .int .i64 51]) ∧ Below w.heap.size w w' := by
  have h := Resolve_any ⟨#[97, 58, 32, 98]⟩ (by decide) w E
  rwa [res_acbb] at h
theorem tell5 (w : World) (E : Env w) : Calls Tryd.prog 12 #[.string ⟨#[126]⟩, .bool true] w fun e w' => e = .returned (.tuple #[.agg #[.int .i64 0, .int .i64 0, .string ⟨#[]⟩], .int .i64 0]) ∧ Below w.heap.size w w' := by
  have h := Read_any ⟨#[126]⟩ (by decide) true w E
  rwa [read_tilde] at h
theorem tell6 (w : World) (E : Env w) : Calls Tryd.prog 12 #[.string ⟨#[97, 44, 98]⟩, .bool true] w fun e w' => e = .returned (.tuple #[.agg #[.int .i64 0, .int .i64 0, .string ⟨#[]⟩], .int .i64 51]) ∧ Below w.heap.size w w' := by
  have h := Read_any ⟨#[97, 44, 98]⟩ (by decide) true w E
  rwa [read_comma] at h
theorem tell7 (w : World) (E : Env w) : Calls Tryd.prog 14 #[.string ⟨#[97, 44, 98]⟩, .bool false] w fun e w' => e = .returned (.bool true) ∧ Below w.heap.size w w' := by
  have h := May_any ⟨#[97, 44, 98]⟩ (by decide) false w E
  rwa [show mayR false (⟨#[97, 44, 98]⟩ : ByteArray).data.toList = true from may_comma2] at h
theorem tell8 (w : World) (E : Env w) : Calls Tryd.prog 16 #[.agg #[.int .i64 2, .int .i64 (-12), .string ⟨#[]⟩]] w fun e w' => e = .returned (.bool true) ∧ Below w.heap.size w w' := by
  have h := Right_any 2 (-12) ⟨#[]⟩ (by decide) w E
  rwa [show rightR 2 (-12) (⟨#[]⟩ : ByteArray).data.toList = true by decide] at h
theorem tell9 (w : World) (E : Env w) : Calls Tryd.prog 16 #[.agg #[.int .i64 1, .int .i64 2, .string ⟨#[]⟩]] w fun e w' => e = .returned (.bool false) ∧ Below w.heap.size w w' := by
  have h := Right_any 1 2 ⟨#[]⟩ (by decide) w E
  rwa [show rightR 1 2 (⟨#[]⟩ : ByteArray).data.toList = false by decide] at h
set_option maxRecDepth 100000 in
set_option maxHeartbeats 4000000 in
theorem shown_any (w : World) (E : Env w) : Calls Tryd.prog 8 #[] w fun e w' => e = .returned (.bool true) ∧ Below w.heap.size w w' := by
  have HE0 := Lib.hid E
  have HB0 := Lib.hid (Below.refl w.heap.size w)
  clear E
  have q := eq_sc
  have q2 := equal_sc
  have qg := guard_sc
  go_enter Tryd.func8, Tryd.ntmps8
  go_wp2_with fail
  refine (tell1 _ HE0.out).mono ?_
  rintro e v1 ⟨rfl, hb1⟩
  have HC1 := Lib.hid hb1
  clear hb1
  go_wp2_with fail
  obtain ⟨u1, hu1⟩ : ∃ u, v1.alloc (.cells #[.int .i64 2, .int .i64 (-12), .string ⟨#[]⟩] 23) = u := ⟨_, rfl⟩
  rw [hu1]
  have hx1 : u1.heap[v1.heap.size]? = some (.cells #[.int .i64 2, .int .i64 (-12), .string ⟨#[]⟩] 23) := by rw [← hu1]; exact heap_alloc_new v1 _
  have hc1 : Below w.heap.size w u1 := by rw [← hu1]; exact HC1.out.alloc HC1.out.size _
  have HX1 := Lib.hid hx1
  have HE1 := Lib.hid (HE0.out.below hc1)
  have HB1 := Lib.hid (HB0.out.trans (hc1.mono HB0.out.size))
  have L1_1 := HX1
  clear hu1 hc1 hx1 HX1
  refine (tell2 _ HE1.out).mono ?_
  rintro e v2 ⟨rfl, hb2⟩
  have HC2 := Lib.hid hb2
  clear hb2
  go_wp2_with fail
  obtain ⟨u2, hu2⟩ : ∃ u, v2.alloc (.cells #[.int .i64 3, .int .i64 0, .string ⟨#[97, 58, 98]⟩] 23) = u := ⟨_, rfl⟩
  rw [hu2]
  have hx2 : u2.heap[v2.heap.size]? = some (.cells #[.int .i64 3, .int .i64 0, .string ⟨#[97, 58, 98]⟩] 23) := by rw [← hu2]; exact heap_alloc_new v2 _
  have hc2 : Below u1.heap.size u1 u2 := by rw [← hu2]; exact HC2.out.alloc HC2.out.size _
  have HX2 := Lib.hid hx2
  have HE2 := Lib.hid (HE1.out.below hc2)
  have HB2 := Lib.hid (HB1.out.trans (hc2.mono HB1.out.size))
  have L1_2 := Lib.hid ((hc2.block _ (Array.getElem?_eq_some_iff.1 L1_1.out).1).trans L1_1.out)
  have L2_2 := HX2
  clear hu2 hc2 hx2 HX2
  refine (tell3 _ HE2.out).mono ?_
  rintro e v3 ⟨rfl, hb3⟩
  have HC3 := Lib.hid hb3
  clear hb3
  go_wp2_with fail
  obtain ⟨u3, hu3⟩ : ∃ u, v3.alloc (.cells #[.int .i64 0, .int .i64 0, .string ⟨#[]⟩] 23) = u := ⟨_, rfl⟩
  rw [hu3]
  have hx3 : u3.heap[v3.heap.size]? = some (.cells #[.int .i64 0, .int .i64 0, .string ⟨#[]⟩] 23) := by rw [← hu3]; exact heap_alloc_new v3 _
  have hc3 : Below u2.heap.size u2 u3 := by rw [← hu3]; exact HC3.out.alloc HC3.out.size _
  have HX3 := Lib.hid hx3
  have HE3 := Lib.hid (HE2.out.below hc3)
  have HB3 := Lib.hid (HB2.out.trans (hc3.mono HB2.out.size))
  have L1_3 := Lib.hid ((hc3.block _ (Array.getElem?_eq_some_iff.1 L1_2.out).1).trans L1_2.out)
  have L2_3 := Lib.hid ((hc3.block _ (Array.getElem?_eq_some_iff.1 L2_2.out).1).trans L2_2.out)
  have L3_3 := HX3
  clear hu3 hc3 hx3 HX3
  refine (tell4 _ HE3.out).mono ?_
  rintro e v4 ⟨rfl, hb4⟩
  have HC4 := Lib.hid hb4
  clear hb4
  go_wp2_with fail
  obtain ⟨u4, hu4⟩ : ∃ u, v4.alloc (.cells #[.int .i64 0, .int .i64 0, .string ⟨#[]⟩] 23) = u := ⟨_, rfl⟩
  rw [hu4]
  have hx4 : u4.heap[v4.heap.size]? = some (.cells #[.int .i64 0, .int .i64 0, .string ⟨#[]⟩] 23) := by rw [← hu4]; exact heap_alloc_new v4 _
  have hc4 : Below u3.heap.size u3 u4 := by rw [← hu4]; exact HC4.out.alloc HC4.out.size _
  have HX4 := Lib.hid hx4
  have HE4 := Lib.hid (HE3.out.below hc4)
  have HB4 := Lib.hid (HB3.out.trans (hc4.mono HB3.out.size))
  have L1_4 := Lib.hid ((hc4.block _ (Array.getElem?_eq_some_iff.1 L1_3.out).1).trans L1_3.out)
  have L2_4 := Lib.hid ((hc4.block _ (Array.getElem?_eq_some_iff.1 L2_3.out).1).trans L2_3.out)
  have L3_4 := Lib.hid ((hc4.block _ (Array.getElem?_eq_some_iff.1 L3_3.out).1).trans L3_3.out)
  have L4_4 := HX4
  clear hu4 hc4 hx4 HX4
  refine (tell5 _ HE4.out).mono ?_
  rintro e v5 ⟨rfl, hb5⟩
  have HC5 := Lib.hid hb5
  clear hb5
  go_wp2_with fail
  obtain ⟨u5, hu5⟩ : ∃ u, v5.alloc (.cells #[.int .i64 0, .int .i64 0, .string ⟨#[]⟩] 23) = u := ⟨_, rfl⟩
  rw [hu5]
  have hx5 : u5.heap[v5.heap.size]? = some (.cells #[.int .i64 0, .int .i64 0, .string ⟨#[]⟩] 23) := by rw [← hu5]; exact heap_alloc_new v5 _
  have hc5 : Below u4.heap.size u4 u5 := by rw [← hu5]; exact HC5.out.alloc HC5.out.size _
  have HX5 := Lib.hid hx5
  have HE5 := Lib.hid (HE4.out.below hc5)
  have HB5 := Lib.hid (HB4.out.trans (hc5.mono HB4.out.size))
  have L1_5 := Lib.hid ((hc5.block _ (Array.getElem?_eq_some_iff.1 L1_4.out).1).trans L1_4.out)
  have L2_5 := Lib.hid ((hc5.block _ (Array.getElem?_eq_some_iff.1 L2_4.out).1).trans L2_4.out)
  have L3_5 := Lib.hid ((hc5.block _ (Array.getElem?_eq_some_iff.1 L3_4.out).1).trans L3_4.out)
  have L4_5 := Lib.hid ((hc5.block _ (Array.getElem?_eq_some_iff.1 L4_4.out).1).trans L4_4.out)
  have L5_5 := HX5
  clear hu5 hc5 hx5 HX5
  refine (tell6 _ HE5.out).mono ?_
  rintro e v6 ⟨rfl, hb6⟩
  have HC6 := Lib.hid hb6
  clear hb6
  go_upto_region 7 with (fail)
  obtain ⟨u6, hu6⟩ : ∃ u, v6.alloc (.cells #[.int .i64 0, .int .i64 0, .string ⟨#[]⟩] 23) = u := ⟨_, rfl⟩
  rw [hu6]
  have hx6 : u6.heap[v6.heap.size]? = some (.cells #[.int .i64 0, .int .i64 0, .string ⟨#[]⟩] 23) := by rw [← hu6]; exact heap_alloc_new v6 _
  have hc6 : Below u5.heap.size u5 u6 := by rw [← hu6]; exact HC6.out.alloc HC6.out.size _
  have HX6 := Lib.hid hx6
  have HE6 := Lib.hid (HE5.out.below hc6)
  have HB6 := Lib.hid (HB5.out.trans (hc6.mono HB5.out.size))
  have L1_6 := Lib.hid ((hc6.block _ (Array.getElem?_eq_some_iff.1 L1_5.out).1).trans L1_5.out)
  have L2_6 := Lib.hid ((hc6.block _ (Array.getElem?_eq_some_iff.1 L2_5.out).1).trans L2_5.out)
  have L3_6 := Lib.hid ((hc6.block _ (Array.getElem?_eq_some_iff.1 L3_5.out).1).trans L3_5.out)
  have L4_6 := Lib.hid ((hc6.block _ (Array.getElem?_eq_some_iff.1 L4_5.out).1).trans L4_5.out)
  have L5_6 := Lib.hid ((hc6.block _ (Array.getElem?_eq_some_iff.1 L5_5.out).1).trans L5_5.out)
  have L6_6 := HX6
  clear hu6 hc6 hx6 HX6
  have s1 : sameB 2 (-12) ⟨#[]⟩ 2 (-12) ⟨#[]⟩ = true := by decide
  have s2 : sameB 3 0 ⟨#[97, 58, 98]⟩ 3 0 ⟨#[97, 58, 98]⟩ = true := by decide
  have s3 : sameB 0 0 ⟨#[]⟩ 0 0 ⟨#[]⟩ = true := by decide
  have c10 := cell_of_row _ _ 0 _ _ _ L1_6.out
  have c11 := cell_of_row _ _ 1 _ _ _ L1_6.out
  have c12 := cell_of_row _ _ 2 _ _ _ L1_6.out
  have c20 := cell_of_row _ _ 0 _ _ _ L2_6.out
  have c21 := cell_of_row _ _ 1 _ _ _ L2_6.out
  have c22 := cell_of_row _ _ 2 _ _ _ L2_6.out
  have c50 := cell_of_row _ _ 0 _ _ _ L5_6.out
  have c51 := cell_of_row _ _ 1 _ _ _ L5_6.out
  have c52 := cell_of_row _ _ 2 _ _ _ L5_6.out
  simp at c10 c11 c12 c20 c21 c22 c50 c51 c52
  go_wp2_with fail
  refine (tell7 _ HE6.out).mono ?_
  rintro e w7 ⟨rfl, hb7⟩
  have l7 := (hb7.block _ (Array.getElem?_eq_some_iff.1 L1_6.out).1).trans L1_6.out
  have HE7 := Lib.hid (HE6.out.below hb7)
  have HB7 := Lib.hid (HB6.out.trans (hb7.mono HB6.out.size))
  clear hb7 c10 c11 c12 c20 c21 c22 c50 c51 c52
  have c10 := cell_of_row _ _ 0 _ _ _ l7
  have c11 := cell_of_row _ _ 1 _ _ _ l7
  have c12 := cell_of_row _ _ 2 _ _ _ l7
  simp at c10 c11 c12
  clear l7
  go_wp2_with fail
  refine (tell8 _ HE7.out).mono ?_
  rintro e w8 ⟨rfl, hb8⟩
  have HE8 := Lib.hid (HE7.out.below hb8)
  have HB8 := Lib.hid (HB7.out.trans (hb8.mono HB7.out.size))
  clear hb8 c10 c11 c12
  go_wp2_with fail
  refine (tell9 _ HE8.out).mono ?_
  rintro e w9 ⟨rfl, hb9⟩
  have HB9 := Lib.hid (HB8.out.trans (hb9.mono HB8.out.size))
  clear hb9
  go_wp2_with fail
  go_ret
  exact ⟨rfl, HB9.out⟩
end Go.Proofs.YtimbidbpfdaocaaDoor
