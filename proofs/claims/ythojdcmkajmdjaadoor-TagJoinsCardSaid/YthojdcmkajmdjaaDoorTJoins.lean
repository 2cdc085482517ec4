/- Digits of two texts, one behind the other, are those of both; a great letter among them is none, for every two texts and place. Conditions: the laid variables, as the statement lists them. -/
import Derived.Test.YthojdcmkajmdjaaDoorDoor2
import Derived.Test.YthojdcmkajmdjaaDoorCv1
import Derived.Deep.RegionHeld
import Derived.Deep.RegionWith
import Derived.BigQuiet
import Derived.Deep.QuietTactic
import Derived.Deep.DeepCutAuto
namespace Go.Proofs.YthojdcmkajmdjaaDoor
open Go.ChangeShapes Go.WideShapes Go.ChangeAt Go.RowKit Go.Shelf
open Go.ChangeMaps (open_string shut_string)
open Rd Dg Hx Box Seqs
theorem hidd {B : Nat} {w w' : World} (h : Hid (Below B w w')) : Hid (Below B w w'.drew) := Lib.hid h.out.drew
theorem great (y : UInt8) (h : valC y ≠ none) (h2 : 97 ≤ y) : valC (y - 32) = none :=
  all8 (fun y => valC y ≠ none → 97 ≤ y → valC (y - 32) = none) (h := fun n => by
    have key : ∀ n : Fin 256, valC (UInt8.ofNat n.1) ≠ none → 97 ≤ UInt8.ofNat n.1 → valC (UInt8.ofNat n.1 - 32) = none := by decide +kernel
    exact key n) y h h2
theorem no_digits (L : List UInt8) (C : ByteArray) (hC : C.data.toList = hexL L) (n : Nat) (hn : n < C.size) (h97 : 97 ≤ C[n]) : unL (setB C n (C[n] - 32)).data.toList = none := by
  rw [setB_list C n _ hn]
  cases h : unL (C.data.toList.set n (C[n] - 32)) with
  | none => rfl
  | some m =>
    exfalso
    have hl : n < C.data.toList.length := by rw [Array.length_toList]; exact hn
    have h1 := un_all h (C[n] - 32) (List.mem_iff_getElem?.2 ⟨n, List.getElem?_set_self hl⟩)
    have h2 := un_all (un_hex L) C[n] (by rw [← hC]; exact List.mem_iff_getElem?.2 ⟨n, List.getElem?_eq_getElem hl⟩)
    exact h1 (great _ h2 h97)
set_option maxRecDepth 100000 in
set_option maxHeartbeats 1000000 in
theorem walkJoins1 (S T : ByteArray) (hSs : S.size ≤ 200) (hTs : T.size ≤ 200) (s t : ByteArray) (hc1 : ∀ w, Calls Tryd.prog 11 #[.string s] w fun e w' => e = .returned (.string S) ∧ w = w') (hc2 : ∀ w, Calls Tryd.prog 11 #[.string t] w fun e w' => e = .returned (.string T) ∧ w = w') (C : ByteArray) (hCc : C = ⟨(hexL (S ++ T).data.toList).toArray⟩) (B : Nat) (w : World) (E : Env B w) (at' : Int) (hcond : at' < 0 ∨ (C.size : Int) ≤ at') :
    Calls Tryd.prog 8 #[.string s, .string t, .int .i64 at'] w fun e w' => e = .returned (.bool true) ∧ Below w.heap.size w w' := by
  have HE0 := Lib.hid E
  have HC1 := Lib.hid hc1
  have HC2 := Lib.hid hc2
  have hX1 := fun w => Hex_ok S (by omega) w
  have hX2 := fun w => Hex_ok T (by omega) w
  obtain ⟨ST, hST⟩ : ∃ ST, S ++ T = ST := ⟨_, rfl⟩
  have hSTs : ST.size ≤ 400 := by rw [← hST, ByteArray.size_append]; omega
  have hX3 := fun w => Hex_ok ST (by omega) w
  obtain ⟨A, hA⟩ : ∃ A : ByteArray, (⟨(hexL S.data.toList).toArray⟩ : ByteArray) = A := ⟨_, rfl⟩
  obtain ⟨D, hD⟩ : ∃ D : ByteArray, (⟨(hexL T.data.toList).toArray⟩ : ByteArray) = D := ⟨_, rfl⟩
  rw [hST] at hCc
  have hC := hCc.symm
  have hCl : C.data.toList = hexL ST.data.toList := by rw [← hC]
  have hAD : A ++ D = C := by
    apply ByteArray.ext
    apply Array.toList_inj.1
    rw [ByteArray.data_append, Array.toList_append, hCl, ← hST, ByteArray.data_append, Array.toList_append, hexL_append, ← hA, ← hD]
  have hCs : C.size ≤ 800 := by
    have e : C.size = (hexL ST.data.toList).length := by rw [← hC, sz_of]
    rw [e, hexL_length, Array.length_toList]
    have : ST.data.size = ST.size := rfl
    omega
  rw [hA] at hX1
  rw [hD] at hX2
  rw [hC] at hX3
  have hadd : ¬ 9223372036854775807 < A.size + D.size := by
    have e : A.size + D.size = C.size := by rw [← hAD, ByteArray.size_append]
    omega
  have hadd2 : ¬ 9223372036854775807 < S.size + T.size := by omega
  have HX1 := Lib.hid hX1
  have HX2 := Lib.hid hX2
  have HX3 := Lib.hid hX3
  have HCN := Lib.hid hcond
  clear hcond
  have HST := Lib.hid hST
  clear E hc1 hc2 hX1 hX2 hX3 hA hD hC hCc hCl hST hSTs
  go_enter Tryd.func8, Tryd.ntmps8
  go_wp2_with fail
  refine (shown3_any B _ HE0.out).mono ?_
  rintro e w1 ⟨rfl, hb1⟩
  have hz1 := hb1.size
  have HB1 := Lib.hid hb1
  clear hb1
  go_wp2_with fail
  refine (HC1.out _).mono ?_
  rintro e w' ⟨rfl, rfl⟩
  go_wp2_with fail
  refine (HC2.out _).mono ?_
  rintro e w' ⟨rfl, rfl⟩
  go_wp2_with fail
  refine (HX1.out _).mono ?_
  rintro e w2 ⟨rfl, hb2⟩
  have hz2 := hb2.size
  have HB2 := Lib.hid (HB1.out.trans (hb2.mono (by have := HB1.out.size; omega)))
  clear hb2
  go_wp2_with fail
  refine (HX2.out _).mono ?_
  rintro e w3 ⟨rfl, hb3⟩
  have hz3 := hb3.size
  have HB3 := Lib.hid (HB2.out.trans (hb3.mono (by have := HB2.out.size; omega)))
  clear hb3
  go_wp2_with fail
  try rw [HST.out]
  refine (HX3.out _).mono ?_
  rintro e w4 ⟨rfl, hb4⟩
  have hz4 := hb4.size
  have HB4 := Lib.hid (HB3.out.trans (hb4.mono (by have := HB3.out.size; omega)))
  clear hb4
  go_wp2_with fail
  all_goals first
    | (go_ret; exact ⟨rfl, HB4.out⟩)
    | (exfalso; have := HCN.out; omega)
set_option maxRecDepth 100000 in
set_option maxHeartbeats 1000000 in
theorem walkJoins2 (S T : ByteArray) (hSs : S.size ≤ 200) (hTs : T.size ≤ 200) (s t : ByteArray) (hc1 : ∀ w, Calls Tryd.prog 11 #[.string s] w fun e w' => e = .returned (.string S) ∧ w = w') (hc2 : ∀ w, Calls Tryd.prog 11 #[.string t] w fun e w' => e = .returned (.string T) ∧ w = w') (C : ByteArray) (hCc : C = ⟨(hexL (S ++ T).data.toList).toArray⟩) (B : Nat) (w : World) (E : Env B w) (n : Nat) (hn : n < C.size) (h97 : C[n] < 97) :
    Calls Tryd.prog 8 #[.string s, .string t, .int .i64 (n : Int)] w fun e w' => e = .returned (.bool true) ∧ Below w.heap.size w w' := by
  have HE0 := Lib.hid E
  have HC1 := Lib.hid hc1
  have HC2 := Lib.hid hc2
  have hX1 := fun w => Hex_ok S (by omega) w
  have hX2 := fun w => Hex_ok T (by omega) w
  obtain ⟨ST, hST⟩ : ∃ ST, S ++ T = ST := ⟨_, rfl⟩
  have hSTs : ST.size ≤ 400 := by rw [← hST, ByteArray.size_append]; omega
  have hX3 := fun w => Hex_ok ST (by omega) w
  obtain ⟨A, hA⟩ : ∃ A : ByteArray, (⟨(hexL S.data.toList).toArray⟩ : ByteArray) = A := ⟨_, rfl⟩
  obtain ⟨D, hD⟩ : ∃ D : ByteArray, (⟨(hexL T.data.toList).toArray⟩ : ByteArray) = D := ⟨_, rfl⟩
  rw [hST] at hCc
  have hC := hCc.symm
  have hCl : C.data.toList = hexL ST.data.toList := by rw [← hC]
  have hAD : A ++ D = C := by
    apply ByteArray.ext
    apply Array.toList_inj.1
    rw [ByteArray.data_append, Array.toList_append, hCl, ← hST, ByteArray.data_append, Array.toList_append, hexL_append, ← hA, ← hD]
  have hCs : C.size ≤ 800 := by
    have e : C.size = (hexL ST.data.toList).length := by rw [← hC, sz_of]
    rw [e, hexL_length, Array.length_toList]
    have : ST.data.size = ST.size := rfl
    omega
  rw [hA] at hX1
  rw [hD] at hX2
  rw [hC] at hX3
  have hadd : ¬ 9223372036854775807 < A.size + D.size := by
    have e : A.size + D.size = C.size := by rw [← hAD, ByteArray.size_append]
    omega
  have hadd2 : ¬ 9223372036854775807 < S.size + T.size := by omega
  have HX1 := Lib.hid hX1
  have HX2 := Lib.hid hX2
  have HX3 := Lib.hid hX3
  have hni : ¬ (C.size : Int) ≤ (n : Int) := by omega
  have hn0 : ¬ (n : Int) < 0 := by omega
  have hy9 : (C[n].toNat : Int) < 97 := by
    have h := UInt8.lt_iff_toNat_lt.1 h97
    simp at h
    omega
  have HST := Lib.hid hST
  clear E hc1 hc2 hX1 hX2 hX3 hA hD hC hCc hCl hST hSTs
  go_enter Tryd.func8, Tryd.ntmps8
  go_wp2_with fail
  refine (shown3_any B _ HE0.out).mono ?_
  rintro e w1 ⟨rfl, hb1⟩
  have hz1 := hb1.size
  have HB1 := Lib.hid hb1
  clear hb1
  go_wp2_with fail
  refine (HC1.out _).mono ?_
  rintro e w' ⟨rfl, rfl⟩
  go_wp2_with fail
  refine (HC2.out _).mono ?_
  rintro e w' ⟨rfl, rfl⟩
  go_wp2_with fail
  refine (HX1.out _).mono ?_
  rintro e w2 ⟨rfl, hb2⟩
  have hz2 := hb2.size
  have HB2 := Lib.hid (HB1.out.trans (hb2.mono (by have := HB1.out.size; omega)))
  clear hb2
  go_wp2_with fail
  refine (HX2.out _).mono ?_
  rintro e w3 ⟨rfl, hb3⟩
  have hz3 := hb3.size
  have HB3 := Lib.hid (HB2.out.trans (hb3.mono (by have := HB2.out.size; omega)))
  clear hb3
  go_wp2_with fail
  try rw [HST.out]
  refine (HX3.out _).mono ?_
  rintro e w4 ⟨rfl, hb4⟩
  have hz4 := hb4.size
  have HB4 := Lib.hid (HB3.out.trans (hb4.mono (by have := HB3.out.size; omega)))
  clear hb4
  go_wp2_with fail
  all_goals
    go_ret
    exact ⟨rfl, HB4.out⟩
set_option maxRecDepth 100000 in
set_option maxHeartbeats 1000000 in
theorem walkJoins3 (S T : ByteArray) (hSs : S.size ≤ 200) (hTs : T.size ≤ 200) (s t : ByteArray) (hc1 : ∀ w, Calls Tryd.prog 11 #[.string s] w fun e w' => e = .returned (.string S) ∧ w = w') (hc2 : ∀ w, Calls Tryd.prog 11 #[.string t] w fun e w' => e = .returned (.string T) ∧ w = w') (C : ByteArray) (hCc : C = ⟨(hexL (S ++ T).data.toList).toArray⟩) (B : Nat) (w : World) (E : Env B w) (n : Nat) (hn : n < C.size) (h97 : ¬ C[n] < 97) :
    Calls Tryd.prog 8 #[.string s, .string t, .int .i64 (n : Int)] w fun e w' => e = .returned (.bool true) ∧ Below w.heap.size w w' := by
  have HE0 := Lib.hid E
  have HC1 := Lib.hid hc1
  have HC2 := Lib.hid hc2
  have hX1 := fun w => Hex_ok S (by omega) w
  have hX2 := fun w => Hex_ok T (by omega) w
  obtain ⟨ST, hST⟩ : ∃ ST, S ++ T = ST := ⟨_, rfl⟩
  have hSTs : ST.size ≤ 400 := by rw [← hST, ByteArray.size_append]; omega
  have hX3 := fun w => Hex_ok ST (by omega) w
  obtain ⟨A, hA⟩ : ∃ A : ByteArray, (⟨(hexL S.data.toList).toArray⟩ : ByteArray) = A := ⟨_, rfl⟩
  obtain ⟨D, hD⟩ : ∃ D : ByteArray, (⟨(hexL T.data.toList).toArray⟩ : ByteArray) = D := ⟨_, rfl⟩
  rw [hST] at hCc
  have hC := hCc.symm
  have hCl : C.data.toList = hexL ST.data.toList := by rw [← hC]
  have hAD : A ++ D = C := by
    apply ByteArray.ext
    apply Array.toList_inj.1
    rw [ByteArray.data_append, Array.toList_append, hCl, ← hST, ByteArray.data_append, Array.toList_append, hexL_append, ← hA, ← hD]
  have hCs : C.size ≤ 800 := by
    have e : C.size = (hexL ST.data.toList).length := by rw [← hC, sz_of]
    rw [e, hexL_length, Array.length_toList]
    have : ST.data.size = ST.size := rfl
    omega
  rw [hA] at hX1
  rw [hD] at hX2
  rw [hC] at hX3
  have hadd : ¬ 9223372036854775807 < A.size + D.size := by
    have e : A.size + D.size = C.size := by rw [← hAD, ByteArray.size_append]
    omega
  have hadd2 : ¬ 9223372036854775807 < S.size + T.size := by omega
  have HX1 := Lib.hid hX1
  have HX2 := Lib.hid hX2
  have HX3 := Lib.hid hX3
  have hni : ¬ (C.size : Int) ≤ (n : Int) := by omega
  have hn0 : ¬ (n : Int) < 0 := by omega
  have hy97 : 97 ≤ C[n] := UInt8.not_lt.1 h97
  have hnd := no_digits ST.data.toList C hCl n hn hy97
  have hy9 : ¬ (C[n].toNat : Int) < 97 := by
    have h := UInt8.le_iff_toNat_le.1 hy97
    simp at h
    omega
  have hUs := setB_size C n (C[n] - 32) hn
  have hU := fun w => Unhex_ok (setB C n (C[n] - 32)) (by omega) w
  simp only [hnd] at hU
  unfold setB at hU
  have hi1 : (n : Int) + 1 ≤ (C.size : Int) := by omega
  have hi2 : (n : Int) ≤ (C.size : Int) := by omega
  have hi3 : ((n : Int) + 1).toNat = n + 1 := by omega
  have hz8 : IntKind.u8.wrap ((C[n].toNat : Int) - 32) = ((C[n] - 32).toNat : Int) := by
    have h := UInt8.le_iff_toNat_le.1 hy97
    have hl := C[n].toNat_lt
    have e : (C[n] - 32).toNat = C[n].toNat - 32 := UInt8.toNat_sub_of_le _ _ (UInt8.le_iff_toNat_le.2 (by simp at h ⊢; omega))
    rw [e]
    simp [IntKind.wrap, IntKind.bits, IntKind.signed] at h ⊢
    omega
  obtain ⟨y, hy⟩ : ∃ y, C[n] = y := ⟨_, rfl⟩
  rw [hy] at hU hz8 hy9
  obtain ⟨z, hz⟩ : ∃ z, y - 32 = z := ⟨_, rfl⟩
  rw [hz] at hU hz8
  have HU := Lib.hid hU
  have hcv := cv1
  have hcvd := cv1d
  clear hU hnd hUs hy97 h97 hz
  have HST := Lib.hid hST
  clear E hc1 hc2 hX1 hX2 hX3 hA hD hC hCc hCl hST hSTs
  go_enter Tryd.func8, Tryd.ntmps8
  go_wp2_with fail
  refine (shown3_any B _ HE0.out).mono ?_
  rintro e w1 ⟨rfl, hb1⟩
  have hz1 := hb1.size
  have HB1 := Lib.hid hb1
  clear hb1
  go_wp2_with fail
  refine (HC1.out _).mono ?_
  rintro e w' ⟨rfl, rfl⟩
  go_wp2_with fail
  refine (HC2.out _).mono ?_
  rintro e w' ⟨rfl, rfl⟩
  go_wp2_with fail
  refine (HX1.out _).mono ?_
  rintro e w2 ⟨rfl, hb2⟩
  have hz2 := hb2.size
  have HB2 := Lib.hid (HB1.out.trans (hb2.mono (by have := HB1.out.size; omega)))
  clear hb2
  go_wp2_with fail
  refine (HX2.out _).mono ?_
  rintro e w3 ⟨rfl, hb3⟩
  have hz3 := hb3.size
  have HB3 := Lib.hid (HB2.out.trans (hb3.mono (by have := HB2.out.size; omega)))
  clear hb3
  go_wp2_with fail
  try rw [HST.out]
  refine (HX3.out _).mono ?_
  rintro e w4 ⟨rfl, hb4⟩
  have hz4 := hb4.size
  have HB4 := Lib.hid (HB3.out.trans (hb4.mono (by have := HB3.out.size; omega)))
  clear hb4
  have e1 : IntKind.i64.wrap ((n : Int) + 1) = (n : Int) + 1 := by rw [IntWalk.i64_left]; unfold wrap64; omega
  go_wp2_with fail
  go_region_held (fun _ => True) (trivial) (first | (refine (HU.out _).mono ?_; rintro e wu ⟨rfl, hbu⟩))
  all_goals
    have HB5 := Lib.hid ((HB4.out.alloc (by have := HB4.out.size; omega) (.cells #[.int .u8 (z.toNat : Int)] 5)).drew.trans (hbu.mono (by simp; omega)))
    clear hbu
    go_wp2
    go_ret
    exact ⟨rfl, HB5.out⟩
set_option maxRecDepth 100000 in
set_option maxHeartbeats 4000000 in
theorem walkJoins (s : ByteArray) (t : ByteArray) (at' : Int) (B : Nat) (w : World) (E : Env B w) :
    Calls Tryd.prog 8 #[.string s, .string t, .int .i64 at'] w fun e w' => e = .returned (.bool true) ∧ Below w.heap.size w w' := by
  obtain ⟨S, hS⟩ : ∃ S, cutT s = S := ⟨_, rfl⟩
  obtain ⟨T, hT⟩ : ∃ T, cutT t = T := ⟨_, rfl⟩
  have hSs : S.size ≤ 200 := by rw [← hS]; exact cutT_size s
  have hTs : T.size ≤ 200 := by rw [← hT]; exact cutT_size t
  have hc1 := fun w => cut3_any s w
  have hc2 := fun w => cut3_any t w
  rw [hS] at hc1
  rw [hT] at hc2
  obtain ⟨C, hC⟩ : ∃ C : ByteArray, C = ⟨(hexL (S ++ T).data.toList).toArray⟩ := ⟨_, rfl⟩
  by_cases hcond : at' < 0 ∨ (C.size : Int) ≤ at'
  · exact walkJoins1 S T hSs hTs s t hc1 hc2 C hC B w E at' hcond
  · obtain ⟨n, hn⟩ : ∃ n : Nat, at' = (n : Int) := ⟨at'.toNat, by omega⟩
    rw [hn]
    have hl : n < C.size := by omega
    by_cases h97 : C[n] < 97
    · exact walkJoins2 S T hSs hTs s t hc1 hc2 C hC B w E n hl h97
    · exact walkJoins3 S T hSs hTs s t hc1 hc2 C hC B w E n hl h97
theorem walkTagJoins (s : ByteArray) (t : ByteArray) (at' : Int) (w : World) (hE : ∃ B, Env B w) :
    Calls Tryd.prog 8 #[.string s, .string t, .int .i64 at'] w fun e w' => e = .returned (.bool true) ∧ Below w.heap.size w w' := by
  obtain ⟨B, E⟩ := hE
  exact walkJoins s t at' B w E

set_option maxRecDepth 100000 in
theorem contractTagJoins (H : Type) (enc : TypeId × Value → H) (W : World) (base : Nat) (args : Array Value) (ds gs : List (DataW H)) (before : List MemPlace)
    (hval : ∀ (j : Nat) t v, Tryd.f8.params[j]? = some t → args[j]? = some v → Value.okWide Tryd.prog W .any base t v)
    (hW : DataW.Whole enc Tryd.prog Tryd.f8.params.toList Rows.tagJoinsSpec.vars false W args.toList ds gs before) (hL : laidMetH Tryd.prog laid5 W) :
    Calls Tryd.prog 8 args W fun e W' => ∃ v, e = .returned v ∧ Rows.tagJoinsSpec.post enc Tryd.prog Tryd.f8 false true false false W args v W' := by
  have hW' := hW
  obtain ⟨p, q, hA0, hV, rfl, hfz, hnd⟩ := hW
  have hA : DataW.TrodAll enc Tryd.prog W 0 (fun _ => true) true Tryd.f8.params.toList args.toList ds p := hA0
  rw [Tryd.params8] at hA hval
  obtain ⟨v0, vs0, d0, ds0, p0, q0, hargs, rfl, rfl, h0, r0⟩ := trodAll_cons hA
  obtain ⟨v1, vs1, d1, ds1, p1, q1, rfl, rfl, rfl, h1, r1⟩ := trodAll_cons r0
  obtain ⟨v2, vs2, d2, ds2, p2, q2, rfl, rfl, rfl, h2, r2⟩ := trodAll_cons r1
  obtain ⟨rfl, rfl, rfl⟩ := trodAll_nil r2
  obtain rfl : args = #[v0, v1, v2] := by cases args; simp_all
  obtain ⟨rfl, rfl⟩ := trodVars_none hV
  obtain ⟨s, rfl, rfl, rfl, w0⟩ := open_string Tryd.underlying9 (hval 0 9 v0 rfl rfl) h0
  obtain ⟨t, rfl, rfl, rfl, w1⟩ := open_string Tryd.underlying9 (hval 1 9 v1 rfl rfl) h1
  obtain ⟨at', rfl, rfl, rfl, w2⟩ := open_int Tryd.underlying3 (hval 2 3 v2 rfl rfl) h2
  clear hA0
  simp only [List.append_nil] at hW'
  refine (walkTagJoins s t at' W (env_of hL)).mono fun e W' ⟨he, hg⟩ => ?_
  subst he
  refine ⟨_, rfl, _, _, _, [], [], [], hW', ?_, ?_, rfl, hg.frame _, fun h => by cases h⟩
  · exact trodAll_cons_mk (shut_bool Tryd.underlying4 _) trodAll_mk0
  · exact (trodAll_cons_mk (shut_string Tryd.underlying9 w0) (trodAll_cons_mk (shut_string Tryd.underlying9 w1) (trodAll_cons_mk (shut_int Tryd.underlying3 w2) trodAll_mk0)))

set_option maxRecDepth 100000 in
theorem liftedTagJoins (os : Os) (started : os.Started) (H : Type) (enc : TypeId × Value → H) :
    ReturnsInHanded {} Tryd.checked os 8 .any (fun w args => (Rows.tagJoinsSpec.pre enc Tryd.prog Tryd.f8 [] false w args ∧ laidMetH Tryd.prog laid5 w) ∧ sizedMet enc Tryd.prog Tryd.f8 (OpenSpec.ofChange Rows.tagJoinsSpec) false w args)
      (Rows.tagJoinsSpec.post enc Tryd.prog Tryd.f8 false true false false) := by
  refine returnsInHanded_of_change_and (C := Tryd.checked) (X := fun w _ => laidMetH Tryd.prog laid5 w) (fun _ _ _ hh h => h.of_heap hh) own started (by kernel_rfl) Tryd.func8
    (ChangeSpec.witness_shaped (enc := enc) (C := Tryd.checked) (os := os) (X := fun w _ => laidMetH Tryd.prog laid5 w) false (World.doorLaid Tryd.prog 102 os) #[.string .empty, .string .empty, .int .i64 0] 8 rfl (World.shaped_of_RefB (by kernel_rfl) (by kernel_rfl)) (by kernel_rfl) (by kernel_rfl) (by kernel_rfl) (door_met os _)) ?_
  intro W base args ds gs before hval hW _ _ hL _
  exact contractTagJoins H enc W base args ds gs before hval hW hL
theorem tagJoins_said : Rows.TagJoinsSaid :=
  OpenClaim.holds_of_wide 8 Tryd.f8 rfl rfl rfl rfl rfl rfl rfl ⟨rfl, rfl, rfl, rfl, rfl⟩ rfl rfl rfl rfl rfl (by kernel_rfl) Tryd.func8 (by kernel_rfl)
    (of_decide_eq_true (by kernel_rfl)) (by unfold Func.isWrapper; first | (rw [if_pos (by decide +kernel)]; kernel_rfl) | (rw [if_neg (by decide +kernel)]; exact ⟨rfl, rfl⟩))
    (fun os started H enc _ => liftedTagJoins os started H enc)
/-- THE TIED CARD. -/
theorem tagJoins_card : Rows.TagJoinsCardSaid :=
  Claim7.holds_tied_plain_at .later [] _ _ _ _ tagJoins_said (fun _ h => by cases h) (by kernel_rfl) (fun _ h => by cases h) tagJoins_row_tie rfl ⟨rfl, rfl⟩ (by kernel_rfl) rfl
    (fun f fn hf hfn => by
      obtain rfl : f = 8 := Option.some.inj ((show Tryd.prog.funcNamed "sigillary/sigillarylaw03.TagJoins" = some 8 by kernel_rfl).symm.trans hf) |>.symm
      obtain rfl : fn = Tryd.f8 := (Option.some.inj (Tryd.func8.symm.trans hfn)).symm
      exact ⟨by kernel_rfl, fun j t ht => by
        rw [Tryd.params8] at ht
        have hm : t ∈ [9, 9, 3] := by simpa using Array.mem_of_getElem? ht
        have hall : ([9, 9, 3].all fun u => !Tryd.prog.wantsStandIn u) = true := by kernel_rfl
        exact (show Tryd.prog.wantsStandIn t = false by simpa using List.all_eq_true.1 hall t hm)⟩)
    (by kernel_rfl)
end Go.Proofs.YthojdcmkajmdjaaDoor
