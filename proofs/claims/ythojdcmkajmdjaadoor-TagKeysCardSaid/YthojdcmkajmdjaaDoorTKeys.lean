/- A key of more than sixty-four bytes tags as its sum does, and one of fewer as with bytes 00 behind it, for every key, text and number. Conditions: the laid variables, as the statement lists them. -/
import Derived.Test.YthojdcmkajmdjaaDoorDoor2
import Derived.Test.YthojdcmkajmdjaaDoorHmk
import Derived.Deep.RegionHeld
import Derived.Deep.RegionWith
import Derived.BigQuiet
import Derived.Deep.QuietTactic
import Derived.Deep.DeepCutAuto
namespace Go.Proofs.YthojdcmkajmdjaaDoor
open Go.ChangeShapes Go.WideShapes Go.ChangeAt Go.RowKit Go.Shelf
open Go.ChangeMaps (open_string shut_string)
open Rd Dg Hx Box Seqs
theorem nuls (n : Nat) (hn : n ≤ 1000000) (w : World) : ∃ (Z : Array Value), (Instr.makeSlice 29 (.int .i64 (n : Int)) (.int .i64 (n : Int))).run Tryd.prog w = .ok (.slice (some ⟨w.heap.size, 0, none⟩) n n) (w.alloc (.cells Z 5)) ∧
    (convert 29 9 (.slice (some ⟨w.heap.size, 0, none⟩) n n)).run Tryd.prog (w.alloc (.cells Z 5)) = .ok (.string (nul n)) (w.alloc (.cells Z 5)) := by
  obtain ⟨i0, hi, hz0, hz1, hz2⟩ := info_parts info5b
  have hmk := run_make (P := Tryd.prog) w 29 5 i0 (.int .u8 0) Tryd.underlying29 hi hz0 .i64 .i64 (n : Int) (n : Int) (by omega) (by omega) (by rw [hz2]; omega) (by omega)
  rw [hz1, Int.toNat_natCast, Nat.mul_one] at hmk
  obtain ⟨Z, hZ⟩ : ∃ Z, madeCells (Value.int .u8 0).cells n = Z := ⟨_, rfl⟩
  rw [hZ] at hmk
  have hZl : Z.toList = List.replicate n (Value.int .u8 0) := by rw [← hZ]; exact made_u8 n
  have hcv := run_convert_bytes_back (P := Tryd.prog) (w.alloc (.cells Z 5)) 29 9 5 ⟨w.heap.size, 0, none⟩ n (List.replicate n 0) Tryd.underlying29 Tryd.underlying5 Tryd.underlying9 (fun j hj => by
    rw [List.length_replicate] at hj
    rw [addr_add, Nat.zero_add, cell_of_row _ _ _ _ _ _ (heap_alloc_new w _), ← Array.getElem?_toList, hZl, List.getElem?_replicate_of_lt hj]
    simp)
  rw [List.length_replicate] at hcv
  exact ⟨Z, hmk, hcv⟩
set_option maxRecDepth 100000 in
set_option maxHeartbeats 2000000 in
theorem walkKeys1 (K S : ByteArray) (hKs : K.size ≤ 200) (hSs : S.size ≤ 200) (key s : ByteArray) (hc1 : ∀ w, Calls Tryd.prog 11 #[.string key] w fun e w' => e = .returned (.string K) ∧ w = w') (hc2 : ∀ w, Calls Tryd.prog 11 #[.string s] w fun e w' => e = .returned (.string S) ∧ w = w') (B : Nat) (w : World) (E : Env B w) (n : Int) (h64 : 64 < K.size) :
    Calls Tryd.prog 4 #[.string key, .string s, .int .i64 n] w fun e w' => e = .returned (.bool true) ∧ Below w.heap.size w w' := by
  have HE0 := Lib.hid E
  have HC1 := Lib.hid hc1
  have HC2 := Lib.hid hc2
  have hO := fun w E => Of_ok K S (by omega) (by omega) B w E
  obtain ⟨q, hq⟩ : ∃ q, hmac K S = q := ⟨_, rfl⟩
  rw [hq] at hO
  have HO := Lib.hid hO
  have hD := fun w E => Sum_ok K (by omega) B w E
  have hdm := hmac_sum K S h64
  obtain ⟨d, hd⟩ : ∃ d, dig K.data.toList = d := ⟨_, rfl⟩
  have hds : d.size = 32 := by rw [← hd]; exact dig_size _
  have hP := fun w E => Of_ok d S (by omega) (by omega) B w E
  rw [hd] at hD hdm
  rw [hdm, hq] at hP
  have HD := Lib.hid hD
  have HP := Lib.hid hP
  have hki : (64 : Int) < (K.size : Int) := by omega
  clear hD hdm hd hP
  clear E hc1 hc2 hO hq
  go_enter Tryd.func4, Tryd.ntmps4
  go_wp2_with fail
  refine (shown3_any B _ HE0.out).mono ?_
  rintro e w1 ⟨rfl, hb1⟩
  have hz1 := hb1.size
  have HB1 := Lib.hid hb1
  have HE1 := Lib.hid (HE0.out.below' hb1)
  clear hb1
  go_wp2_with fail
  refine (HC1.out _).mono ?_
  rintro e w' ⟨rfl, rfl⟩
  go_wp2_with fail
  refine (HC2.out _).mono ?_
  rintro e w' ⟨rfl, rfl⟩
  go_wp2_with fail
  refine (HO.out _ HE1.out).mono ?_
  rintro e w2 ⟨rfl, hb2⟩
  have hz2 := hb2.size
  have HB2 := Lib.hid (HB1.out.trans (hb2.mono (by have := HB1.out.size; omega)))
  have HE2 := Lib.hid (HE1.out.below' hb2)
  clear hb2
  go_wp2_with fail
  refine (HD.out _ HE2.out).mono ?_
  rintro e w3 ⟨rfl, hb3⟩
  have hz3 := hb3.size
  have HB3 := Lib.hid (HB2.out.trans (hb3.mono (by have := HB2.out.size; omega)))
  have HE3 := Lib.hid (HE2.out.below' hb3)
  clear hb3
  go_wp2_with fail
  refine (HP.out _ HE3.out).mono ?_
  rintro e w4 ⟨rfl, hb4⟩
  have hz4 := hb4.size
  have HB4 := Lib.hid (HB3.out.trans (hb4.mono (by have := HB3.out.size; omega)))
  have HE4 := Lib.hid (HE3.out.below' hb4)
  clear hb4
  go_wp2
  go_ret
  exact ⟨rfl, HB4.out⟩
set_option maxRecDepth 100000 in
set_option maxHeartbeats 2000000 in
theorem walkKeys2 (K S : ByteArray) (hKs : K.size ≤ 200) (hSs : S.size ≤ 200) (key s : ByteArray) (hc1 : ∀ w, Calls Tryd.prog 11 #[.string key] w fun e w' => e = .returned (.string K) ∧ w = w') (hc2 : ∀ w, Calls Tryd.prog 11 #[.string s] w fun e w' => e = .returned (.string S) ∧ w = w') (B : Nat) (w : World) (E : Env B w) (n : Int) (r : Nat) (hr : K.size + r ≤ 64) (hn : n < 0) (hr0 : r = 0) :
    Calls Tryd.prog 4 #[.string key, .string s, .int .i64 n] w fun e w' => e = .returned (.bool true) ∧ Below w.heap.size w w' := by
  have HE0 := Lib.hid E
  have HC1 := Lib.hid hc1
  have HC2 := Lib.hid hc2
  have hO := fun w E => Of_ok K S (by omega) (by omega) B w E
  obtain ⟨q, hq⟩ : ∃ q, hmac K S = q := ⟨_, rfl⟩
  rw [hq] at hO
  have HO := Lib.hid hO
  have hP0 : ∀ w, Env B w → Calls Tryd.prog 12 #[.string (K ++ nul r), .string S] w fun e w' => e = .returned (.tuple #[.string q, .int .i64 0]) ∧ Below w.heap.size w w' := fun w E => by
    have h := Of_ok (K ++ nul r) S (by rw [ByteArray.size_append, nul_size]; omega) (by omega) B w E
    rw [hmac_nul K r S hr, hq] at h
    exact h
  have sn := nul_size r
  obtain ⟨N, hN⟩ : ∃ N, nul r = N := ⟨_, rfl⟩
  rw [hN] at hP0 sn
  obtain ⟨KN, hKN⟩ : ∃ KN, K ++ N = KN := ⟨_, rfl⟩
  rw [hKN] at hP0
  have HP := Lib.hid hP0
  have HKN := Lib.hid hKN
  have HN := Lib.hid hN
  have hki : ¬ (64 : Int) < (K.size : Int) := by omega
  have hmx : ¬ 9223372036854775807 < K.size + N.size := by omega
  clear hP0 hKN hN
  clear E hc1 hc2 hO hq
  go_enter Tryd.func4, Tryd.ntmps4
  go_wp2_with fail
  refine (shown3_any B _ HE0.out).mono ?_
  rintro e w1 ⟨rfl, hb1⟩
  have hz1 := hb1.size
  have HB1 := Lib.hid hb1
  have HE1 := Lib.hid (HE0.out.below' hb1)
  clear hb1
  go_wp2_with fail
  refine (HC1.out _).mono ?_
  rintro e w' ⟨rfl, rfl⟩
  go_wp2_with fail
  refine (HC2.out _).mono ?_
  rintro e w' ⟨rfl, rfl⟩
  go_wp2_with fail
  refine (HO.out _ HE1.out).mono ?_
  rintro e w2 ⟨rfl, hb2⟩
  have hz2 := hb2.size
  have HB2 := Lib.hid (HB1.out.trans (hb2.mono (by have := HB1.out.size; omega)))
  have HE2 := Lib.hid (HE1.out.below' hb2)
  clear hb2
  obtain ⟨Z, hmk, hcv⟩ := nuls r (by omega) w2
  rw [HN.out] at hcv
  obtain ⟨w3, hw3⟩ : ∃ w3, w2.alloc (.cells Z 5) = w3 := ⟨_, rfl⟩
  have hb3 : Below w2.heap.size w2 w3 := by rw [← hw3]; exact (Below.refl _ w2).alloc (Nat.le_refl _) _
  have hz3 := hb3.size
  have HB3 := Lib.hid (HB2.out.trans (hb3.mono (by have := HB2.out.size; omega)))
  have HE3 := Lib.hid (HE2.out.below' hb3)
  rw [hw3] at hmk hcv
  clear hb3 hw3
  have hn1 : ¬ (0 : Int) < n := by omega
  have hmk' : (Instr.makeSlice 29 (.int .i64 0) (.int .i64 0)).run Tryd.prog w2 = .ok (.slice (some ⟨w2.heap.size, 0, none⟩) 0 0) w3 := by rw [hr0] at hmk; exact hmk
  have hcv' : (convert 29 9 (.slice (some ⟨w2.heap.size, 0, none⟩) 0 0)).run Tryd.prog w3 = .ok (.string N) w3 := by rw [hr0] at hcv; exact hcv
  have HR0 := Lib.hid hr0
  clear hmk hcv hr0
  go_wp2_with fail
  try rw [HKN.out]
  refine (HP.out _ HE3.out).mono ?_
  rintro e w4 ⟨rfl, hb4⟩
  have HB4 := Lib.hid (HB3.out.trans (hb4.mono HB3.out.size))
  clear hb4
  go_wp2
  go_ret
  exact ⟨rfl, HB4.out⟩
set_option maxRecDepth 100000 in
set_option maxHeartbeats 2000000 in
theorem walkKeys3 (K S : ByteArray) (hKs : K.size ≤ 200) (hSs : S.size ≤ 200) (key s : ByteArray) (hc1 : ∀ w, Calls Tryd.prog 11 #[.string key] w fun e w' => e = .returned (.string K) ∧ w = w') (hc2 : ∀ w, Calls Tryd.prog 11 #[.string s] w fun e w' => e = .returned (.string S) ∧ w = w') (B : Nat) (w : World) (E : Env B w) (r : Nat) (hr : K.size + r ≤ 64) :
    Calls Tryd.prog 4 #[.string key, .string s, .int .i64 (r : Int)] w fun e w' => e = .returned (.bool true) ∧ Below w.heap.size w w' := by
  have HE0 := Lib.hid E
  have HC1 := Lib.hid hc1
  have HC2 := Lib.hid hc2
  have hO := fun w E => Of_ok K S (by omega) (by omega) B w E
  obtain ⟨q, hq⟩ : ∃ q, hmac K S = q := ⟨_, rfl⟩
  rw [hq] at hO
  have HO := Lib.hid hO
  have hP0 : ∀ w, Env B w → Calls Tryd.prog 12 #[.string (K ++ nul r), .string S] w fun e w' => e = .returned (.tuple #[.string q, .int .i64 0]) ∧ Below w.heap.size w w' := fun w E => by
    have h := Of_ok (K ++ nul r) S (by rw [ByteArray.size_append, nul_size]; omega) (by omega) B w E
    rw [hmac_nul K r S hr, hq] at h
    exact h
  have sn := nul_size r
  obtain ⟨N, hN⟩ : ∃ N, nul r = N := ⟨_, rfl⟩
  rw [hN] at hP0 sn
  obtain ⟨KN, hKN⟩ : ∃ KN, K ++ N = KN := ⟨_, rfl⟩
  rw [hKN] at hP0
  have HP := Lib.hid hP0
  have HKN := Lib.hid hKN
  have HN := Lib.hid hN
  have hki : ¬ (64 : Int) < (K.size : Int) := by omega
  have hmx : ¬ 9223372036854775807 < K.size + N.size := by omega
  clear hP0 hKN hN
  clear E hc1 hc2 hO hq
  go_enter Tryd.func4, Tryd.ntmps4
  go_wp2_with fail
  refine (shown3_any B _ HE0.out).mono ?_
  rintro e w1 ⟨rfl, hb1⟩
  have hz1 := hb1.size
  have HB1 := Lib.hid hb1
  have HE1 := Lib.hid (HE0.out.below' hb1)
  clear hb1
  go_wp2_with fail
  refine (HC1.out _).mono ?_
  rintro e w' ⟨rfl, rfl⟩
  go_wp2_with fail
  refine (HC2.out _).mono ?_
  rintro e w' ⟨rfl, rfl⟩
  go_wp2_with fail
  refine (HO.out _ HE1.out).mono ?_
  rintro e w2 ⟨rfl, hb2⟩
  have hz2 := hb2.size
  have HB2 := Lib.hid (HB1.out.trans (hb2.mono (by have := HB1.out.size; omega)))
  have HE2 := Lib.hid (HE1.out.below' hb2)
  clear hb2
  obtain ⟨Z, hmk, hcv⟩ := nuls r (by omega) w2
  rw [HN.out] at hcv
  obtain ⟨w3, hw3⟩ : ∃ w3, w2.alloc (.cells Z 5) = w3 := ⟨_, rfl⟩
  have hb3 : Below w2.heap.size w2 w3 := by rw [← hw3]; exact (Below.refl _ w2).alloc (Nat.le_refl _) _
  have hz3 := hb3.size
  have HB3 := Lib.hid (HB2.out.trans (hb3.mono (by have := HB2.out.size; omega)))
  have HE3 := Lib.hid (HE2.out.below' hb3)
  rw [hw3] at hmk hcv
  clear hb3 hw3
  go_wp2_with fail
  try rw [HKN.out]
  refine (HP.out _ HE3.out).mono ?_
  rintro e w4 ⟨rfl, hb4⟩
  have HB4 := Lib.hid (HB3.out.trans (hb4.mono HB3.out.size))
  clear hb4
  go_wp2
  go_ret
  exact ⟨rfl, HB4.out⟩
set_option maxRecDepth 100000 in
set_option maxHeartbeats 2000000 in
theorem walkKeys4 (K S : ByteArray) (hKs : K.size ≤ 200) (hSs : S.size ≤ 200) (key s : ByteArray) (hc1 : ∀ w, Calls Tryd.prog 11 #[.string key] w fun e w' => e = .returned (.string K) ∧ w = w') (hc2 : ∀ w, Calls Tryd.prog 11 #[.string s] w fun e w' => e = .returned (.string S) ∧ w = w') (B : Nat) (w : World) (E : Env B w) (n : Int) (r : Nat) (hr : K.size + r = 64) (hn : (r : Int) < n) :
    Calls Tryd.prog 4 #[.string key, .string s, .int .i64 n] w fun e w' => e = .returned (.bool true) ∧ Below w.heap.size w w' := by
  have HE0 := Lib.hid E
  have HC1 := Lib.hid hc1
  have HC2 := Lib.hid hc2
  have hO := fun w E => Of_ok K S (by omega) (by omega) B w E
  obtain ⟨q, hq⟩ : ∃ q, hmac K S = q := ⟨_, rfl⟩
  rw [hq] at hO
  have HO := Lib.hid hO
  have hP0 : ∀ w, Env B w → Calls Tryd.prog 12 #[.string (K ++ nul r), .string S] w fun e w' => e = .returned (.tuple #[.string q, .int .i64 0]) ∧ Below w.heap.size w w' := fun w E => by
    have h := Of_ok (K ++ nul r) S (by rw [ByteArray.size_append, nul_size]; omega) (by omega) B w E
    rw [hmac_nul K r S (by omega), hq] at h
    exact h
  have sn := nul_size r
  obtain ⟨N, hN⟩ : ∃ N, nul r = N := ⟨_, rfl⟩
  rw [hN] at hP0 sn
  obtain ⟨KN, hKN⟩ : ∃ KN, K ++ N = KN := ⟨_, rfl⟩
  rw [hKN] at hP0
  have HP := Lib.hid hP0
  have HKN := Lib.hid hKN
  have HN := Lib.hid hN
  have hki : ¬ (64 : Int) < (K.size : Int) := by omega
  have hmx : ¬ 9223372036854775807 < K.size + N.size := by omega
  clear hP0 hKN hN
  clear E hc1 hc2 hO hq
  go_enter Tryd.func4, Tryd.ntmps4
  go_wp2_with fail
  refine (shown3_any B _ HE0.out).mono ?_
  rintro e w1 ⟨rfl, hb1⟩
  have hz1 := hb1.size
  have HB1 := Lib.hid hb1
  have HE1 := Lib.hid (HE0.out.below' hb1)
  clear hb1
  go_wp2_with fail
  refine (HC1.out _).mono ?_
  rintro e w' ⟨rfl, rfl⟩
  go_wp2_with fail
  refine (HC2.out _).mono ?_
  rintro e w' ⟨rfl, rfl⟩
  go_wp2_with fail
  refine (HO.out _ HE1.out).mono ?_
  rintro e w2 ⟨rfl, hb2⟩
  have hz2 := hb2.size
  have HB2 := Lib.hid (HB1.out.trans (hb2.mono (by have := HB1.out.size; omega)))
  have HE2 := Lib.hid (HE1.out.below' hb2)
  clear hb2
  obtain ⟨Z, hmk, hcv⟩ := nuls r (by omega) w2
  rw [HN.out] at hcv
  obtain ⟨w3, hw3⟩ : ∃ w3, w2.alloc (.cells Z 5) = w3 := ⟨_, rfl⟩
  have hb3 : Below w2.heap.size w2 w3 := by rw [← hw3]; exact (Below.refl _ w2).alloc (Nat.le_refl _) _
  have hz3 := hb3.size
  have HB3 := Lib.hid (HB2.out.trans (hb3.mono (by have := HB2.out.size; omega)))
  have HE3 := Lib.hid (HE2.out.below' hb3)
  rw [hw3] at hmk hcv
  clear hb3 hw3
  have hkr : (64 : Int) - (K.size : Int) = (r : Int) := by omega
  have hmk' : (Instr.makeSlice 29 (.int .i64 (64 - (K.size : Int))) (.int .i64 (64 - (K.size : Int)))).run Tryd.prog w2 = .ok (.slice (some ⟨w2.heap.size, 0, none⟩) r r) w3 := by rw [hkr]; exact hmk
  have HKR := Lib.hid hkr
  clear hmk hkr
  go_wp2_with fail
  try rw [HKN.out]
  refine (HP.out _ HE3.out).mono ?_
  rintro e w4 ⟨rfl, hb4⟩
  have HB4 := Lib.hid (HB3.out.trans (hb4.mono HB3.out.size))
  clear hb4
  go_wp2
  go_ret
  exact ⟨rfl, HB4.out⟩
set_option maxRecDepth 100000 in
set_option maxHeartbeats 4000000 in
theorem walkKeys (key : ByteArray) (s : ByteArray) (n : Int) (B : Nat) (w : World) (E : Env B w) :
    Calls Tryd.prog 4 #[.string key, .string s, .int .i64 n] w fun e w' => e = .returned (.bool true) ∧ Below w.heap.size w w' := by
  obtain ⟨K, hK⟩ : ∃ K, cutT key = K := ⟨_, rfl⟩
  obtain ⟨S, hS⟩ : ∃ S, cutT s = S := ⟨_, rfl⟩
  have hKs : K.size ≤ 200 := by rw [← hK]; exact cutT_size key
  have hSs : S.size ≤ 200 := by rw [← hS]; exact cutT_size s
  have hc1 := fun w => cut3_any key w
  have hc2 := fun w => cut3_any s w
  rw [hK] at hc1
  rw [hS] at hc2
  by_cases h64 : 64 < K.size
  · exact walkKeys1 K S hKs hSs key s hc1 hc2 B w E n h64
  · by_cases h0 : n < 0
    · exact walkKeys2 K S hKs hSs key s hc1 hc2 B w E n 0 (by omega) h0 rfl
    · by_cases hr : (K.size : Int) + n ≤ 64
      · obtain ⟨r, hn⟩ : ∃ r : Nat, n = (r : Int) := ⟨n.toNat, by omega⟩
        rw [hn]
        exact walkKeys3 K S hKs hSs key s hc1 hc2 B w E r (by omega)
      · exact walkKeys4 K S hKs hSs key s hc1 hc2 B w E n (64 - K.size) (by omega) (by omega)
theorem walkTagKeys (key : ByteArray) (s : ByteArray) (n : Int) (w : World) (hE : ∃ B, Env B w) :
    Calls Tryd.prog 4 #[.string key, .string s, .int .i64 n] w fun e w' => e = .returned (.bool true) ∧ Below w.heap.size w w' := by
  obtain ⟨B, E⟩ := hE
  exact walkKeys key s n B w E

set_option maxRecDepth 100000 in
theorem contractTagKeys (H : Type) (enc : TypeId × Value → H) (W : World) (base : Nat) (args : Array Value) (ds gs : List (DataW H)) (before : List MemPlace)
    (hval : ∀ (j : Nat) t v, Tryd.f4.params[j]? = some t → args[j]? = some v → Value.okWide Tryd.prog W .any base t v)
    (hW : DataW.Whole enc Tryd.prog Tryd.f4.params.toList Rows.tagKeysSpec.vars false W args.toList ds gs before) (hL : laidMetH Tryd.prog laid5 W) :
    Calls Tryd.prog 4 args W fun e W' => ∃ v, e = .returned v ∧ Rows.tagKeysSpec.post enc Tryd.prog Tryd.f4 false true false false W args v W' := by
  have hW' := hW
  obtain ⟨p, q, hA0, hV, rfl, hfz, hnd⟩ := hW
  have hA : DataW.TrodAll enc Tryd.prog W 0 (fun _ => true) true Tryd.f4.params.toList args.toList ds p := hA0
  rw [Tryd.params4] at hA hval
  obtain ⟨v0, vs0, d0, ds0, p0, q0, hargs, rfl, rfl, h0, r0⟩ := trodAll_cons hA
  obtain ⟨v1, vs1, d1, ds1, p1, q1, rfl, rfl, rfl, h1, r1⟩ := trodAll_cons r0
  obtain ⟨v2, vs2, d2, ds2, p2, q2, rfl, rfl, rfl, h2, r2⟩ := trodAll_cons r1
  obtain ⟨rfl, rfl, rfl⟩ := trodAll_nil r2
  obtain rfl : args = #[v0, v1, v2] := by cases args; simp_all
  obtain ⟨rfl, rfl⟩ := trodVars_none hV
  obtain ⟨key, rfl, rfl, rfl, w0⟩ := open_string Tryd.underlying9 (hval 0 9 v0 rfl rfl) h0
  obtain ⟨s, rfl, rfl, rfl, w1⟩ := open_string Tryd.underlying9 (hval 1 9 v1 rfl rfl) h1
  obtain ⟨n, rfl, rfl, rfl, w2⟩ := open_int Tryd.underlying3 (hval 2 3 v2 rfl rfl) h2
  clear hA0
  simp only [List.append_nil] at hW'
  refine (walkTagKeys key s n W (env_of hL)).mono fun e W' ⟨he, hg⟩ => ?_
  subst he
  refine ⟨_, rfl, _, _, _, [], [], [], hW', ?_, ?_, rfl, hg.frame _, fun h => by cases h⟩
  · exact trodAll_cons_mk (shut_bool Tryd.underlying4 _) trodAll_mk0
  · exact (trodAll_cons_mk (shut_string Tryd.underlying9 w0) (trodAll_cons_mk (shut_string Tryd.underlying9 w1) (trodAll_cons_mk (shut_int Tryd.underlying3 w2) trodAll_mk0)))

set_option maxRecDepth 100000 in
theorem liftedTagKeys (os : Os) (started : os.Started) (H : Type) (enc : TypeId × Value → H) :
    ReturnsInHanded {} Tryd.checked os 4 .any (fun w args => (Rows.tagKeysSpec.pre enc Tryd.prog Tryd.f4 [] false w args ∧ laidMetH Tryd.prog laid5 w) ∧ sizedMet enc Tryd.prog Tryd.f4 (OpenSpec.ofChange Rows.tagKeysSpec) false w args)
      (Rows.tagKeysSpec.post enc Tryd.prog Tryd.f4 false true false false) := by
  refine returnsInHanded_of_change_and (C := Tryd.checked) (X := fun w _ => laidMetH Tryd.prog laid5 w) (fun _ _ _ hh h => h.of_heap hh) own started (by kernel_rfl) Tryd.func4
    (ChangeSpec.witness_shaped (enc := enc) (C := Tryd.checked) (os := os) (X := fun w _ => laidMetH Tryd.prog laid5 w) false (World.doorLaid Tryd.prog 102 os) #[.string .empty, .string .empty, .int .i64 0] 8 rfl (World.shaped_of_RefB (by kernel_rfl) (by kernel_rfl)) (by kernel_rfl) (by kernel_rfl) (by kernel_rfl) (door_met os _)) ?_
  intro W base args ds gs before hval hW _ _ hL _
  exact contractTagKeys H enc W base args ds gs before hval hW hL
theorem tagKeys_said : Rows.TagKeysSaid :=
  OpenClaim.holds_of_wide 4 Tryd.f4 rfl rfl rfl rfl rfl rfl rfl ⟨rfl, rfl, rfl, rfl, rfl⟩ rfl rfl rfl rfl rfl (by kernel_rfl) Tryd.func4 (by kernel_rfl)
    (of_decide_eq_true (by kernel_rfl)) (by unfold Func.isWrapper; first | (rw [if_pos (by decide +kernel)]; kernel_rfl) | (rw [if_neg (by decide +kernel)]; exact ⟨rfl, rfl⟩))
    (fun os started H enc _ => liftedTagKeys os started H enc)
/-- THE TIED CARD. -/
theorem tagKeys_card : Rows.TagKeysCardSaid :=
  Claim7.holds_tied_plain_at .later [] _ _ _ _ tagKeys_said (fun _ h => by cases h) (by kernel_rfl) (fun _ h => by cases h) tagKeys_row_tie rfl ⟨rfl, rfl⟩ (by kernel_rfl) rfl
    (fun f fn hf hfn => by
      obtain rfl : f = 4 := Option.some.inj ((show Tryd.prog.funcNamed "sigillary/sigillarylaw03.TagKeys" = some 4 by kernel_rfl).symm.trans hf) |>.symm
      obtain rfl : fn = Tryd.f4 := (Option.some.inj (Tryd.func4.symm.trans hfn)).symm
      exact ⟨by kernel_rfl, fun j t ht => by
        rw [Tryd.params4] at ht
        have hm : t ∈ [9, 9, 3] := by simpa using Array.mem_of_getElem? ht
        have hall : ([9, 9, 3].all fun u => !Tryd.prog.wantsStandIn u) = true := by kernel_rfl
        exact (show Tryd.prog.wantsStandIn t = false by simpa using List.all_eq_true.1 hall t hm)⟩)
    (by kernel_rfl)
end Go.Proofs.YthojdcmkajmdjaaDoor
