/- The reference's tag of a text under a key is the program's. Conditions: neither has more than two hundred bytes; the table of the reference's constants, as it is laid. -/
import Derived.Test.YthojdcmkajmdjaaDoorRefSum
import Derived.Test.YthojdcmkajmdjaaDoorRefX
namespace Go.Proofs.YthojdcmkajmdjaaDoor
open Go.ChangeShapes Go.WideShapes Go.ChangeAt Go.RowKit Go.Shelf
open Go.ChangeMaps (open_string shut_string)
open Rd Dg Hx
theorem mixsum3 (K S A D d1 : ByteArray) (hA : mixT (key64 K) 54 64 = A) (hD : mixT (key64 K) 92 64 = D) (h1 : dig (A ++ S).data.toList = d1) : dig (D ++ d1).data.toList = hmac K S := by
  unfold hmac
  rw [← mixL_all, ← mixL_all, ← mixT_list, ← mixT_list, hA, hD, ByteArray.data_append, Array.toList_append]
  rw [ByteArray.data_append, Array.toList_append] at h1
  rw [h1]
set_option maxRecDepth 100000 in
set_option maxHeartbeats 2000000 in
theorem RefOf_ok (K S : ByteArray) (hKs : K.size ≤ 200) (hSs : S.size ≤ 200) (w : World) (E : Tab w) :
    Calls Tryd.prog 13 #[.string K, .string S] w fun e w' => e = .returned (.tuple #[.string (hmac K S), .int .i64 0]) ∧ Below w.heap.size w w' := by
  have HE0 := Lib.hid E
  have hBw := E.1
  obtain ⟨G, hG⟩ : ∃ G, key64 K = G := ⟨_, rfl⟩
  have hS0 := fun w E => RefSum_ok K (by omega) w E
  obtain ⟨A, hA⟩ : ∃ A, mixT G 54 64 = A := ⟨_, rfl⟩
  obtain ⟨D, hD⟩ : ∃ D, mixT G 92 64 = D := ⟨_, rfl⟩
  have hM1 : ∀ w, Calls Tryd.prog 24 #[.string G, .int .i64 54] w fun e w' => e = .returned (.string A) ∧ Below w.heap.size w w' := fun w => by rw [← hA]; exact mixed_any G 54 w
  have hM2 : ∀ w, Calls Tryd.prog 24 #[.string G, .int .i64 92] w fun e w' => e = .returned (.string D) ∧ Below w.heap.size w w' := fun w => by rw [← hD]; exact mixed_any G 92 w
  have sA : A.size = 64 := by rw [← hA, mixT_size]
  have sD : D.size = 64 := by rw [← hD, mixT_size]
  obtain ⟨X, hX⟩ : ∃ X, A ++ S = X := ⟨_, rfl⟩
  have sX : X.size = 64 + S.size := by rw [← hX, ByteArray.size_append, sA]
  have hS1 := fun w E => RefSum_ok X (by omega) w E
  obtain ⟨d1, hd1⟩ : ∃ d, dig X.data.toList = d := ⟨_, rfl⟩
  have sd1 : d1.size = 32 := by rw [← hd1]; exact dig_size _
  obtain ⟨Y, hY⟩ : ∃ Y, D ++ d1 = Y := ⟨_, rfl⟩
  have sY : Y.size = 96 := by rw [← hY, ByteArray.size_append, sD, sd1]
  have hS2 := fun w E => RefSum_ok Y (by omega) w E
  have hq := mixsum3 K S A D d1 (by rw [hG]; exact hA) (by rw [hG]; exact hD) (by rw [hX]; exact hd1)
  rw [hY] at hq
  rw [hd1] at hS1
  rw [hq] at hS2
  obtain ⟨q, hqq⟩ : ∃ q, hmac K S = q := ⟨_, rfl⟩
  rw [hqq] at hS2
  rw [hqq]
  have HS1 := Lib.hid hS1
  have HS2 := Lib.hid hS2
  have HM1 := Lib.hid hM1
  have HM2 := Lib.hid hM2
  have HX := Lib.hid hX
  have HY := Lib.hid hY
  have hw1 : ¬ 9223372036854775807 < A.size + S.size := by omega
  have hw2 : ¬ 9223372036854775807 < D.size + d1.size := by omega
  have hk1 : ¬ (100000 : Int) < (K.size : Int) := by omega
  have hs1 : ¬ (99936 : Int) < (S.size : Int) := by omega
  by_cases h64 : 64 < K.size
  · have hki : (64 : Int) < (K.size : Int) := by omega
    have e : dig K.data.toList = G := by rw [← hG]; unfold key64; rw [if_pos h64]
    rw [e] at hS0
    have HS0 := Lib.hid hS0
    clear E hA hD hS1 hS2 hM1 hM2 hX hY hq hqq hd1 hG e hS0
    go_enter Tryd.func13, Tryd.ntmps13
    go_wp2_with fail
    refine (HS0.out _ HE0.out).mono ?_
    rintro e w0 ⟨rfl, hb0⟩
    have hz0 := hb0.size
    have HB0 := Lib.hid hb0
    have HT0 := Lib.hid (HE0.out.below hb0 (by omega))
    clear hb0
    go_wp2_with fail
    refine (HM1.out _).mono ?_
    rintro e w1 ⟨rfl, hb1⟩
    have hz1 := hb1.size
    have HB1 := Lib.hid (HB0.out.trans (hb1.mono (by have := HB0.out.size; omega)))
    have HT1 := Lib.hid (HT0.out.below hb1 (by omega))
    clear hb1
    go_wp2_with fail
    rw [HX.out]
    refine (HS1.out _ HT1.out).mono ?_
    rintro e w2 ⟨rfl, hb2⟩
    have hz2 := hb2.size
    have HB2 := Lib.hid (HB1.out.trans (hb2.mono (by have := HB1.out.size; omega)))
    have HT2 := Lib.hid (HT1.out.below hb2 (by omega))
    clear hb2
    go_wp2_with fail
    refine (HM2.out _).mono ?_
    rintro e w3 ⟨rfl, hb3⟩
    have hz3 := hb3.size
    have HB3 := Lib.hid (HB2.out.trans (hb3.mono (by have := HB2.out.size; omega)))
    have HT3 := Lib.hid (HT2.out.below hb3 (by omega))
    clear hb3
    go_wp2_with fail
    rw [HY.out]
    refine (HS2.out _ HT3.out).mono ?_
    rintro e w4 ⟨rfl, hb4⟩
    have HB4 := Lib.hid (HB3.out.trans (hb4.mono (by have := HB3.out.size; omega)))
    clear hb4
    go_wp2
    exact bodyPost_ret (v := .tuple #[.string q, .int .i64 0]) (by simp [results, Tryd.results13, go_sem]) rfl ⟨rfl, HB4.out⟩
  · have hki : ¬ (64 : Int) < (K.size : Int) := by omega
    have e : G = K := by rw [← hG]; unfold key64; rw [if_neg h64]
    subst e
    clear hS0
    have HB0 := Lib.hid (Below.refl w.heap.size w)
    have HT0 := Lib.hid E
    clear E hA hD hS1 hS2 hM1 hM2 hX hY hq hqq hd1 hG
    go_enter Tryd.func13, Tryd.ntmps13
    go_wp2_with fail
    refine (HM1.out _).mono ?_
    rintro e w1 ⟨rfl, hb1⟩
    have hz1 := hb1.size
    have HB1 := Lib.hid (HB0.out.trans (hb1.mono (by have := HB0.out.size; omega)))
    have HT1 := Lib.hid (HT0.out.below hb1 (by omega))
    clear hb1
    go_wp2_with fail
    rw [HX.out]
    refine (HS1.out _ HT1.out).mono ?_
    rintro e w2 ⟨rfl, hb2⟩
    have hz2 := hb2.size
    have HB2 := Lib.hid (HB1.out.trans (hb2.mono (by have := HB1.out.size; omega)))
    have HT2 := Lib.hid (HT1.out.below hb2 (by omega))
    clear hb2
    go_wp2_with fail
    refine (HM2.out _).mono ?_
    rintro e w3 ⟨rfl, hb3⟩
    have hz3 := hb3.size
    have HB3 := Lib.hid (HB2.out.trans (hb3.mono (by have := HB2.out.size; omega)))
    have HT3 := Lib.hid (HT2.out.below hb3 (by omega))
    clear hb3
    go_wp2_with fail
    rw [HY.out]
    refine (HS2.out _ HT3.out).mono ?_
    rintro e w4 ⟨rfl, hb4⟩
    have HB4 := Lib.hid (HB3.out.trans (hb4.mono (by have := HB3.out.size; omega)))
    clear hb4
    go_wp2
    exact bodyPost_ret (v := .tuple #[.string q, .int .i64 0]) (by simp [results, Tryd.results13, go_sem]) rfl ⟨rfl, HB4.out⟩
end Go.Proofs.YthojdcmkajmdjaaDoor
