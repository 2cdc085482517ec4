/- The reference's sign at a place of a text, and how many bytes it has, are told by the bytes that stand there. Conditions: the place lies in the text; the text is not too long. -/
import Derived.Test.YtadmhlebkaiblaaGreatDoorRsx
import Derived.Deep.RegionHeld3
set_option maxRecDepth 100000
namespace Go.Proofs.YtadmhlebkaiblaaGreatDoor
open Go.RowKit
open Pl On
theorem hid_drew {B : Nat} {a b : World} (h : Hid (Below B a b)) : Hid (Below B a b.drew) := Lib.hid h.out.drew
theorem len_list (s : ByteArray) : s.data.toList.length = s.size := by rw [Array.length_toList]; rfl
theorem byN_at (s : ByteArray) (a j : Nat) (h : a + j < s.size) : byN (s.data.toList.drop a) j = (s[a + j]'h).toNat := by
  unfold byN
  rw [List.getD_eq_getElem?_getD, List.getElem?_drop, List.getElem?_eq_getElem (by rw [len_list]; exact h)]
  rfl
theorem len_drop (s : ByteArray) (a : Nat) : (s.data.toList.drop a).length = s.size - a := by rw [List.length_drop, len_list]
theorem ext_take (s : ByteArray) (a k : Nat) : (s.extract a (a + k)).data.toList = (s.data.toList.drop a).take k := by
  rw [ByteArray.data_extract, Array.toList_extract, List.extract_eq_take_drop]
  congr 1
  omega
theorem enc_take (s : ByteArray) (a k n : Nat) (h1 : 1 ≤ k) (h4 : k ≤ 4) (hk : a + k ≤ s.size) (hb : ∀ m ∈ encN n, m < 256) :
    ((encB n) = (s.extract a (a + k)).data.toList) ↔ encN n = takeN (byN (s.data.toList.drop a) 0) (byN (s.data.toList.drop a) 1) (byN (s.data.toList.drop a) 2) (byN (s.data.toList.drop a) 3) k := by
  rw [ext_take, ← take_bytes _ k h1 h4 (by rw [len_drop]; omega)]
  have e : (encB n).map UInt8.toNat = encN n := by
    unfold encB
    rw [List.map_map]
    conv => rhs; rw [← List.map_id (encN n)]
    apply List.map_congr_left
    intro m hm
    have := hb m hm
    simp
    omega
  constructor
  · intro h
    rw [← e, h]
  · intro h
    rw [← e] at h
    exact List.map_inj_right (fun x y h => UInt8.toNat_inj.1 h) |>.1 h
theorem enc_lt (n : Nat) (h : n ≤ 1114111) : ∀ m ∈ encN n, m < 256 := by
  intro m hm
  unfold encN at hm
  repeat' split at hm
  all_goals
    simp at hm
    omega
set_option maxRecDepth 100000 in
set_option maxHeartbeats 2000000 in
theorem One_c4 (s : ByteArray) (hs : s.size ≤ 1099511627776) (a : Nat) (h : a < s.size) (b : UInt8) (hb : s[a] = b) (c1 : 240 ≤ b.toNat) (w : World) :
    Calls Tryz.prog 132 #[.string s, .int .i64 (a : Int)] w fun e w' => e = .returned (.tuple #[.int .i64 ((oneR (s.data.toList.drop a)).1 : Int), .int .i64 ((oneR (s.data.toList.drop a)).2 : Int)]) ∧ Below w.heap.size w w' := by
  obtain ⟨l, hl⟩ : ∃ l, s.data.toList.drop a = l := ⟨_, rfl⟩
  have hlen := len_drop s a
  have hby := fun j h => byN_at s a j h
  have het := fun n h => enc_take s a 4 n (by decide) (by decide) h
  rw [hl] at hlen hby het ⊢
  have hb0 : byN l 0 = b.toNat := by have e := hby 0 h; rw [← hb]; exact e
  have hk : kN (byN l 0) = 4 := by rw [hb0]; unfold kN; rw [if_pos (by omega)]
  have hn1 : numN l 1 = b.toNat - 240 := by rw [numN_one, hb0]; unfold lowN; rw [if_pos (by omega)]
  have hone : oneP l ↔ 4 ≤ s.size - a ∧ signN (numN l 4) ∧ encN (numN l 4) = takeN (byN l 0) (byN l 1) (byN l 2) (byN l 3) 4 := by
    unfold oneP isOne
    rw [hk, hlen]
    rfl
  have hR : oneR l = if oneP l then (numN l 4, 4) else (0, 0) := by unfold oneR; rw [hk]
  have hsz : (a : Int) < (s.size : Int) := by omega
  have HW0 : Hid (Below w.heap.size w w) := Lib.hid (Below.refl _ _)
  have hbl := b.toNat_lt
  have i1 : (240 : Int) ≤ (b.toNat : Int) := by omega
  by_cases hk2 : 4 ≤ s.size - a
  · have hN2 : ∀ j, numN l j < 67108864 := numN_lt l
    have hS : ∀ j, 1 ≤ j → j < 4 → numN l (j + 1) = 64 * numN l j + byN l j % 64 := fun j h1 h2 => numN_succ l j h1 (by omega)
    have kk : ¬ ((s.size : Int) - (a : Int) < 4) := by omega
    have ak : (a : Int) + 4 ≤ (s.size : Int) := by omega
    have ak2 : IntKind.i64.wrap ((a : Int) + 4) = (a : Int) + 4 := by rw [IntWalk.i64_left]; unfold wrap64; omega
    have ak3 : ((a : Int) + 4).toNat = a + 4 := by omega
    have ak4 : (a : Int) ≤ (a : Int) + 4 := by omega
    have HBY := Lib.hid hby
    have HN2 := Lib.hid hN2
    have HS := Lib.hid hS
    have HL := Lib.hid hl
    have HN1 := Lib.hid hn1
    have HB := Lib.hid hb
    have hf := hN2 4
    by_cases hs1 : signN (numN l 4)
    · have hle : numN l 4 ≤ 1114111 := hs1.1
      have he := het (numN l 4) (by omega) (enc_lt _ hle)
      have hS1 := fun w => Sign_any (numN l 4) w
      rw [decide_eq_true hs1] at hS1
      have hB1 : ∀ W, Hid (Below w.heap.size w W) → Calls Tryz.prog 139 #[.int .i64 (numN l 4 : Int)] W fun e W' => e = .returned (.string ⟨(encB (numN l 4)).toArray⟩) ∧ Hid (Below w.heap.size w W') :=
        fun W h => (Bytes_any (numN l 4) hle W).mono fun e W' ⟨h1, h2⟩ => ⟨h1, Lib.hid (h.out.trans (h2.mono h.out.size))⟩
      by_cases hs2 : encN (numN l 4) = takeN (byN l 0) (byN l 1) (byN l 2) (byN l 3) 4
      · have hO : oneR l = (numN l 4, 4) := by rw [hR, if_pos (hone.2 ⟨hk2, hs1, hs2⟩)]
        have q := he.2 hs2
        have q1 : ((⟨(encB (numN l 4)).toArray⟩ : ByteArray).toList == (s.extract a (a + 4)).toList) = true := by rw [ByteArray.toList_eq, ByteArray.toList_eq, ← q]; simp
        have q2 : ((⟨(encB (numN l 4)).toArray⟩ : ByteArray).toList != (s.extract a (a + 4)).toList) = false := by unfold bne; rw [q1]; rfl
        obtain ⟨X, hX⟩ : ∃ X, (⟨(encB (numN l 4)).toArray⟩ : ByteArray) = X := ⟨_, rfl⟩
        rw [hX] at hB1 q1 q2
        rw [hO]
        have HS1 := Lib.hid hS1
        have HB1 := Lib.hid hB1
        clear hby hN2 hS hl hn1 he hS1 hB1 hs2 hO q hX hR hone hk hb0 het hs1 hle
        go_enter Tryz.func132, Tryz.ntmps132
        go_upto_region 15 with (fail)
        go_loop [6, 8] (fun n i => ∃ j : Nat, 1 ≤ j ∧ j ≤ 4 ∧ i = .int .i64 j ∧ n = .int .i64 (numN l j : Int)) (fun _ i => 4 - (intOf i).toNat)
        case atStart => exact ⟨1, by omega, by omega, rfl, congrArg (Value.int .i64) (by rw [HN1.out]; try omega)⟩
        case round =>
          obtain ⟨j, hj1, hj2, rfl, rfl⟩ := hrel
          by_cases hlt : j < 4
          · have x1 := HN2.out j
            have p0 : (j : Int) < 4 := by omega
            have p1 : a + j < s.size := by omega
            have p2 : (a : Int) + (j : Int) < (s.size : Int) := by omega
            have p3 : ((a : Int) + (j : Int)).toNat = a + j := by omega
            have p4 : (0 : Int) ≤ (a : Int) + (j : Int) := by omega
            have x2 := HS.out j hj1 hlt
            rw [HBY.out j p1] at x2
            have hbj := (s[a + j]'p1).toNat_lt
            have hbj2 : (0 : Int) ≤ ((s[a + j]'p1).toNat : Int) := by omega
            have X2 := Lib.hid x2
            clear x2
            go_wp2
            go_round
            case rel => exact ⟨j + 1, by omega, by omega, by go_num, congrArg (Value.int .i64) (by rw [X2.out]; omega)⟩
            case measure => simp [intOf]; omega
          · obtain rfl : j = 4 := by omega
            go_wp2_with fail
            go_region_held3 (fun _ => True) (trivial) (first | ((with_reducible refine (HS1.out _).mono ?_); rintro e wq ⟨rfl, rfl⟩) | ((with_reducible refine (HB1.out _ (by first | assumption | exact hid_drew (by assumption))).mono ?_); rintro e wq ⟨rfl, hbq⟩))
            all_goals
              go_wp2
              go_ret2
              exact ⟨rfl, by first | exact (hbq : Hid _).out | exact (hid_drew hbq).out | exact Below.refl _ _ | exact (Below.refl _ _).drew | exact ⟨rfl, rfl, rfl, Nat.le_refl _, fun _ _ => rfl⟩⟩
      · have hO : oneR l = (0, 0) := by rw [hR, if_neg (fun h => hs2 (hone.1 h).2.2)]
        have q : ¬ encB (numN l 4) = (s.extract a (a + 4)).data.toList := fun h => hs2 (he.1 h)
        have q1 : ((⟨(encB (numN l 4)).toArray⟩ : ByteArray).toList == (s.extract a (a + 4)).toList) = false := by rw [ByteArray.toList_eq, ByteArray.toList_eq]; simpa using q
        have q2 : ((⟨(encB (numN l 4)).toArray⟩ : ByteArray).toList != (s.extract a (a + 4)).toList) = true := by unfold bne; rw [q1]; rfl
        obtain ⟨X, hX⟩ : ∃ X, (⟨(encB (numN l 4)).toArray⟩ : ByteArray) = X := ⟨_, rfl⟩
        rw [hX] at hB1 q1 q2
        rw [hO]
        have HS1 := Lib.hid hS1
        have HB1 := Lib.hid hB1
        clear hby hN2 hS hl hn1 he hS1 hB1 hs2 hO q hX hR hone hk hb0 het hs1 hle
        go_enter Tryz.func132, Tryz.ntmps132
        go_upto_region 15 with (fail)
        go_loop [6, 8] (fun n i => ∃ j : Nat, 1 ≤ j ∧ j ≤ 4 ∧ i = .int .i64 j ∧ n = .int .i64 (numN l j : Int)) (fun _ i => 4 - (intOf i).toNat)
        case atStart => exact ⟨1, by omega, by omega, rfl, congrArg (Value.int .i64) (by rw [HN1.out]; try omega)⟩
        case round =>
          obtain ⟨j, hj1, hj2, rfl, rfl⟩ := hrel
          by_cases hlt : j < 4
          · have x1 := HN2.out j
            have p0 : (j : Int) < 4 := by omega
            have p1 : a + j < s.size := by omega
            have p2 : (a : Int) + (j : Int) < (s.size : Int) := by omega
            have p3 : ((a : Int) + (j : Int)).toNat = a + j := by omega
            have p4 : (0 : Int) ≤ (a : Int) + (j : Int) := by omega
            have x2 := HS.out j hj1 hlt
            rw [HBY.out j p1] at x2
            have hbj := (s[a + j]'p1).toNat_lt
            have hbj2 : (0 : Int) ≤ ((s[a + j]'p1).toNat : Int) := by omega
            have X2 := Lib.hid x2
            clear x2
            go_wp2
            go_round
            case rel => exact ⟨j + 1, by omega, by omega, by go_num, congrArg (Value.int .i64) (by rw [X2.out]; omega)⟩
            case measure => simp [intOf]; omega
          · obtain rfl : j = 4 := by omega
            go_wp2_with fail
            go_region_held3 (fun _ => True) (trivial) (first | ((with_reducible refine (HS1.out _).mono ?_); rintro e wq ⟨rfl, rfl⟩) | ((with_reducible refine (HB1.out _ (by first | assumption | exact hid_drew (by assumption))).mono ?_); rintro e wq ⟨rfl, hbq⟩))
            all_goals
              go_wp2
              go_ret2
              exact ⟨rfl, by first | exact (hbq : Hid _).out | exact (hid_drew hbq).out | exact Below.refl _ _ | exact (Below.refl _ _).drew | exact ⟨rfl, rfl, rfl, Nat.le_refl _, fun _ _ => rfl⟩⟩
    · have hO : oneR l = (0, 0) := by rw [hR, if_neg (fun h => hs1 (hone.1 h).2.1)]
      have hS1 := fun w => Sign_any (numN l 4) w
      rw [decide_eq_false hs1] at hS1
      rw [hO]
      have HS1 := Lib.hid hS1
      clear hby hN2 hS hl hn1 hS1 hO hR hone hk hb0 het hs1
      go_enter Tryz.func132, Tryz.ntmps132
      go_upto_region 15 with (fail)
      go_loop [6, 8] (fun n i => ∃ j : Nat, 1 ≤ j ∧ j ≤ 4 ∧ i = .int .i64 j ∧ n = .int .i64 (numN l j : Int)) (fun _ i => 4 - (intOf i).toNat)
      case atStart => exact ⟨1, by omega, by omega, rfl, congrArg (Value.int .i64) (by rw [HN1.out]; try omega)⟩
      case round =>
        obtain ⟨j, hj1, hj2, rfl, rfl⟩ := hrel
        by_cases hlt : j < 4
        · have x1 := HN2.out j
          have p0 : (j : Int) < 4 := by omega
          have p1 : a + j < s.size := by omega
          have p2 : (a : Int) + (j : Int) < (s.size : Int) := by omega
          have p3 : ((a : Int) + (j : Int)).toNat = a + j := by omega
          have p4 : (0 : Int) ≤ (a : Int) + (j : Int) := by omega
          have x2 := HS.out j hj1 hlt
          rw [HBY.out j p1] at x2
          have hbj := (s[a + j]'p1).toNat_lt
          have hbj2 : (0 : Int) ≤ ((s[a + j]'p1).toNat : Int) := by omega
          have X2 := Lib.hid x2
          clear x2
          go_wp2
          go_round
          case rel => exact ⟨j + 1, by omega, by omega, by go_num, congrArg (Value.int .i64) (by rw [X2.out]; omega)⟩
          case measure => simp [intOf]; omega
        · obtain rfl : j = 4 := by omega
          go_wp2_with fail
          go_quiet ((go_at_call 138; exact Calls.quiet_of_same ((HS1.out _).mono fun _ _ ⟨he, hw⟩ => ⟨he, hw.symm⟩)))
          all_goals
            go_wp2
            go_ret2
            exact ⟨rfl, by first | exact (hbq : Hid _).out | exact (hid_drew hbq).out | exact Below.refl _ _ | exact (Below.refl _ _).drew | exact ⟨rfl, rfl, rfl, Nat.le_refl _, fun _ _ => rfl⟩⟩
  · have hO : oneR l = (0, 0) := by rw [hR, if_neg (fun h => hk2 (hone.1 h).1)]
    have kk : (s.size : Int) - (a : Int) < 4 := by omega
    rw [hO]
    clear hby hl hn1 hO hR hone hk hb0 het
    go_enter Tryz.func132, Tryz.ntmps132
    go_wp2
    go_ret2
    exact ⟨rfl, Below.refl _ _⟩
set_option maxRecDepth 100000 in
set_option maxHeartbeats 2000000 in
theorem One_c3 (s : ByteArray) (hs : s.size ≤ 1099511627776) (a : Nat) (h : a < s.size) (b : UInt8) (hb : s[a] = b) (c1 : 224 ≤ b.toNat) (c2 : b.toNat < 240) (w : World) :
    Calls Tryz.prog 132 #[.string s, .int .i64 (a : Int)] w fun e w' => e = .returned (.tuple #[.int .i64 ((oneR (s.data.toList.drop a)).1 : Int), .int .i64 ((oneR (s.data.toList.drop a)).2 : Int)]) ∧ Below w.heap.size w w' := by
  obtain ⟨l, hl⟩ : ∃ l, s.data.toList.drop a = l := ⟨_, rfl⟩
  have hlen := len_drop s a
  have hby := fun j h => byN_at s a j h
  have het := fun n h => enc_take s a 3 n (by decide) (by decide) h
  rw [hl] at hlen hby het ⊢
  have hb0 : byN l 0 = b.toNat := by have e := hby 0 h; rw [← hb]; exact e
  have hk : kN (byN l 0) = 3 := by rw [hb0]; unfold kN; rw [if_neg (by omega), if_pos (by omega)]
  have hn1 : numN l 1 = b.toNat - 224 := by rw [numN_one, hb0]; unfold lowN; rw [if_neg (by omega), if_pos (by omega)]
  have hone : oneP l ↔ 3 ≤ s.size - a ∧ signN (numN l 3) ∧ encN (numN l 3) = takeN (byN l 0) (byN l 1) (byN l 2) (byN l 3) 3 := by
    unfold oneP isOne
    rw [hk, hlen]
    rfl
  have hR : oneR l = if oneP l then (numN l 3, 3) else (0, 0) := by unfold oneR; rw [hk]
  have hsz : (a : Int) < (s.size : Int) := by omega
  have HW0 : Hid (Below w.heap.size w w) := Lib.hid (Below.refl _ _)
  have hbl := b.toNat_lt
  have i1 : (224 : Int) ≤ (b.toNat : Int) := by omega
  have j240 : ¬ (240 : Int) ≤ (b.toNat : Int) := by omega
  by_cases hk2 : 3 ≤ s.size - a
  · have hN2 : ∀ j, numN l j < 67108864 := numN_lt l
    have hS : ∀ j, 1 ≤ j → j < 3 → numN l (j + 1) = 64 * numN l j + byN l j % 64 := fun j h1 h2 => numN_succ l j h1 (by omega)
    have kk : ¬ ((s.size : Int) - (a : Int) < 3) := by omega
    have ak : (a : Int) + 3 ≤ (s.size : Int) := by omega
    have ak2 : IntKind.i64.wrap ((a : Int) + 3) = (a : Int) + 3 := by rw [IntWalk.i64_left]; unfold wrap64; omega
    have ak3 : ((a : Int) + 3).toNat = a + 3 := by omega
    have ak4 : (a : Int) ≤ (a : Int) + 3 := by omega
    have HBY := Lib.hid hby
    have HN2 := Lib.hid hN2
    have HS := Lib.hid hS
    have HL := Lib.hid hl
    have HN1 := Lib.hid hn1
    have HB := Lib.hid hb
    have hf := hN2 3
    by_cases hs1 : signN (numN l 3)
    · have hle : numN l 3 ≤ 1114111 := hs1.1
      have he := het (numN l 3) (by omega) (enc_lt _ hle)
      have hS1 := fun w => Sign_any (numN l 3) w
      rw [decide_eq_true hs1] at hS1
      have hB1 : ∀ W, Hid (Below w.heap.size w W) → Calls Tryz.prog 139 #[.int .i64 (numN l 3 : Int)] W fun e W' => e = .returned (.string ⟨(encB (numN l 3)).toArray⟩) ∧ Hid (Below w.heap.size w W') :=
        fun W h => (Bytes_any (numN l 3) hle W).mono fun e W' ⟨h1, h2⟩ => ⟨h1, Lib.hid (h.out.trans (h2.mono h.out.size))⟩
      by_cases hs2 : encN (numN l 3) = takeN (byN l 0) (byN l 1) (byN l 2) (byN l 3) 3
      · have hO : oneR l = (numN l 3, 3) := by rw [hR, if_pos (hone.2 ⟨hk2, hs1, hs2⟩)]
        have q := he.2 hs2
        have q1 : ((⟨(encB (numN l 3)).toArray⟩ : ByteArray).toList == (s.extract a (a + 3)).toList) = true := by rw [ByteArray.toList_eq, ByteArray.toList_eq, ← q]; simp
        have q2 : ((⟨(encB (numN l 3)).toArray⟩ : ByteArray).toList != (s.extract a (a + 3)).toList) = false := by unfold bne; rw [q1]; rfl
        obtain ⟨X, hX⟩ : ∃ X, (⟨(encB (numN l 3)).toArray⟩ : ByteArray) = X := ⟨_, rfl⟩
        rw [hX] at hB1 q1 q2
        rw [hO]
        have HS1 := Lib.hid hS1
        have HB1 := Lib.hid hB1
        clear hby hN2 hS hl hn1 he hS1 hB1 hs2 hO q hX hR hone hk hb0 het hs1 hle
        go_enter Tryz.func132, Tryz.ntmps132
        go_upto_region 15 with (fail)
        go_loop [6, 8] (fun n i => ∃ j : Nat, 1 ≤ j ∧ j ≤ 3 ∧ i = .int .i64 j ∧ n = .int .i64 (numN l j : Int)) (fun _ i => 3 - (intOf i).toNat)
        case atStart => exact ⟨1, by omega, by omega, rfl, congrArg (Value.int .i64) (by rw [HN1.out]; try omega)⟩
        case round =>
          obtain ⟨j, hj1, hj2, rfl, rfl⟩ := hrel
          by_cases hlt : j < 3
          · have x1 := HN2.out j
            have p0 : (j : Int) < 3 := by omega
            have p1 : a + j < s.size := by omega
            have p2 : (a : Int) + (j : Int) < (s.size : Int) := by omega
            have p3 : ((a : Int) + (j : Int)).toNat = a + j := by omega
            have p4 : (0 : Int) ≤ (a : Int) + (j : Int) := by omega
            have x2 := HS.out j hj1 hlt
            rw [HBY.out j p1] at x2
            have hbj := (s[a + j]'p1).toNat_lt
            have hbj2 : (0 : Int) ≤ ((s[a + j]'p1).toNat : Int) := by omega
            have X2 := Lib.hid x2
            clear x2
            go_wp2
            go_round
            case rel => exact ⟨j + 1, by omega, by omega, by go_num, congrArg (Value.int .i64) (by rw [X2.out]; omega)⟩
            case measure => simp [intOf]; omega
          · obtain rfl : j = 3 := by omega
            go_wp2_with fail
            go_region_held3 (fun _ => True) (trivial) (first | ((with_reducible refine (HS1.out _).mono ?_); rintro e wq ⟨rfl, rfl⟩) | ((with_reducible refine (HB1.out _ (by first | assumption | exact hid_drew (by assumption))).mono ?_); rintro e wq ⟨rfl, hbq⟩))
            all_goals
              go_wp2
              go_ret2
              exact ⟨rfl, by first | exact (hbq : Hid _).out | exact (hid_drew hbq).out | exact Below.refl _ _ | exact (Below.refl _ _).drew | exact ⟨rfl, rfl, rfl, Nat.le_refl _, fun _ _ => rfl⟩⟩
      · have hO : oneR l = (0, 0) := by rw [hR, if_neg (fun h => hs2 (hone.1 h).2.2)]
        have q : ¬ encB (numN l 3) = (s.extract a (a + 3)).data.toList := fun h => hs2 (he.1 h)
        have q1 : ((⟨(encB (numN l 3)).toArray⟩ : ByteArray).toList == (s.extract a (a + 3)).toList) = false := by rw [ByteArray.toList_eq, ByteArray.toList_eq]; simpa using q
        have q2 : ((⟨(encB (numN l 3)).toArray⟩ : ByteArray).toList != (s.extract a (a + 3)).toList) = true := by unfold bne; rw [q1]; rfl
        obtain ⟨X, hX⟩ : ∃ X, (⟨(encB (numN l 3)).toArray⟩ : ByteArray) = X := ⟨_, rfl⟩
        rw [hX] at hB1 q1 q2
        rw [hO]
        have HS1 := Lib.hid hS1
        have HB1 := Lib.hid hB1
        clear hby hN2 hS hl hn1 he hS1 hB1 hs2 hO q hX hR hone hk hb0 het hs1 hle
        go_enter Tryz.func132, Tryz.ntmps132
        go_upto_region 15 with (fail)
        go_loop [6, 8] (fun n i => ∃ j : Nat, 1 ≤ j ∧ j ≤ 3 ∧ i = .int .i64 j ∧ n = .int .i64 (numN l j : Int)) (fun _ i => 3 - (intOf i).toNat)
        case atStart => exact ⟨1, by omega, by omega, rfl, congrArg (Value.int .i64) (by rw [HN1.out]; try omega)⟩
        case round =>
          obtain ⟨j, hj1, hj2, rfl, rfl⟩ := hrel
          by_cases hlt : j < 3
          · have x1 := HN2.out j
            have p0 : (j : Int) < 3 := by omega
            have p1 : a + j < s.size := by omega
            have p2 : (a : Int) + (j : Int) < (s.size : Int) := by omega
            have p3 : ((a : Int) + (j : Int)).toNat = a + j := by omega
            have p4 : (0 : Int) ≤ (a : Int) + (j : Int) := by omega
            have x2 := HS.out j hj1 hlt
            rw [HBY.out j p1] at x2
            have hbj := (s[a + j]'p1).toNat_lt
            have hbj2 : (0 : Int) ≤ ((s[a + j]'p1).toNat : Int) := by omega
            have X2 := Lib.hid x2
            clear x2
            go_wp2
            go_round
            case rel => exact ⟨j + 1, by omega, by omega, by go_num, congrArg (Value.int .i64) (by rw [X2.out]; omega)⟩
            case measure => simp [intOf]; omega
          · obtain rfl : j = 3 := by omega
            go_wp2_with fail
            go_region_held3 (fun _ => True) (trivial) (first | ((with_reducible refine (HS1.out _).mono ?_); rintro e wq ⟨rfl, rfl⟩) | ((with_reducible refine (HB1.out _ (by first | assumption | exact hid_drew (by assumption))).mono ?_); rintro e wq ⟨rfl, hbq⟩))
            all_goals
              go_wp2
              go_ret2
              exact ⟨rfl, by first | exact (hbq : Hid _).out | exact (hid_drew hbq).out | exact Below.refl _ _ | exact (Below.refl _ _).drew | exact ⟨rfl, rfl, rfl, Nat.le_refl _, fun _ _ => rfl⟩⟩
    · have hO : oneR l = (0, 0) := by rw [hR, if_neg (fun h => hs1 (hone.1 h).2.1)]
      have hS1 := fun w => Sign_any (numN l 3) w
      rw [decide_eq_false hs1] at hS1
      rw [hO]
      have HS1 := Lib.hid hS1
      clear hby hN2 hS hl hn1 hS1 hO hR hone hk hb0 het hs1
      go_enter Tryz.func132, Tryz.ntmps132
      go_upto_region 15 with (fail)
      go_loop [6, 8] (fun n i => ∃ j : Nat, 1 ≤ j ∧ j ≤ 3 ∧ i = .int .i64 j ∧ n = .int .i64 (numN l j : Int)) (fun _ i => 3 - (intOf i).toNat)
      case atStart => exact ⟨1, by omega, by omega, rfl, congrArg (Value.int .i64) (by rw [HN1.out]; try omega)⟩
      case round =>
        obtain ⟨j, hj1, hj2, rfl, rfl⟩ := hrel
        by_cases hlt : j < 3
        · have x1 := HN2.out j
          have p0 : (j : Int) < 3 := by omega
          have p1 : a + j < s.size := by omega
          have p2 : (a : Int) + (j : Int) < (s.size : Int) := by omega
          have p3 : ((a : Int) + (j : Int)).toNat = a + j := by omega
          have p4 : (0 : Int) ≤ (a : Int) + (j : Int) := by omega
          have x2 := HS.out j hj1 hlt
          rw [HBY.out j p1] at x2
          have hbj := (s[a + j]'p1).toNat_lt
          have hbj2 : (0 : Int) ≤ ((s[a + j]'p1).toNat : Int) := by omega
          have X2 := Lib.hid x2
          clear x2
          go_wp2
          go_round
          case rel => exact ⟨j + 1, by omega, by omega, by go_num, congrArg (Value.int .i64) (by rw [X2.out]; omega)⟩
          case measure => simp [intOf]; omega
        · obtain rfl : j = 3 := by omega
          go_wp2_with fail
          go_quiet ((go_at_call 138; exact Calls.quiet_of_same ((HS1.out _).mono fun _ _ ⟨he, hw⟩ => ⟨he, hw.symm⟩)))
          all_goals
            go_wp2
            go_ret2
            exact ⟨rfl, by first | exact (hbq : Hid _).out | exact (hid_drew hbq).out | exact Below.refl _ _ | exact (Below.refl _ _).drew | exact ⟨rfl, rfl, rfl, Nat.le_refl _, fun _ _ => rfl⟩⟩
  · have hO : oneR l = (0, 0) := by rw [hR, if_neg (fun h => hk2 (hone.1 h).1)]
    have kk : (s.size : Int) - (a : Int) < 3 := by omega
    rw [hO]
    clear hby hl hn1 hO hR hone hk hb0 het
    go_enter Tryz.func132, Tryz.ntmps132
    go_wp2
    go_ret2
    exact ⟨rfl, Below.refl _ _⟩
set_option maxRecDepth 100000 in
set_option maxHeartbeats 2000000 in
theorem One_c2 (s : ByteArray) (hs : s.size ≤ 1099511627776) (a : Nat) (h : a < s.size) (b : UInt8) (hb : s[a] = b) (c1 : 192 ≤ b.toNat) (c2 : b.toNat < 224) (w : World) :
    Calls Tryz.prog 132 #[.string s, .int .i64 (a : Int)] w fun e w' => e = .returned (.tuple #[.int .i64 ((oneR (s.data.toList.drop a)).1 : Int), .int .i64 ((oneR (s.data.toList.drop a)).2 : Int)]) ∧ Below w.heap.size w w' := by
  obtain ⟨l, hl⟩ : ∃ l, s.data.toList.drop a = l := ⟨_, rfl⟩
  have hlen := len_drop s a
  have hby := fun j h => byN_at s a j h
  have het := fun n h => enc_take s a 2 n (by decide) (by decide) h
  rw [hl] at hlen hby het ⊢
  have hb0 : byN l 0 = b.toNat := by have e := hby 0 h; rw [← hb]; exact e
  have hk : kN (byN l 0) = 2 := by rw [hb0]; unfold kN; rw [if_neg (by omega), if_neg (by omega), if_pos (by omega)]
  have hn1 : numN l 1 = b.toNat - 192 := by rw [numN_one, hb0]; unfold lowN; rw [if_neg (by omega), if_neg (by omega), if_pos (by omega)]
  have hone : oneP l ↔ 2 ≤ s.size - a ∧ signN (numN l 2) ∧ encN (numN l 2) = takeN (byN l 0) (byN l 1) (byN l 2) (byN l 3) 2 := by
    unfold oneP isOne
    rw [hk, hlen]
    rfl
  have hR : oneR l = if oneP l then (numN l 2, 2) else (0, 0) := by unfold oneR; rw [hk]
  have hsz : (a : Int) < (s.size : Int) := by omega
  have HW0 : Hid (Below w.heap.size w w) := Lib.hid (Below.refl _ _)
  have hbl := b.toNat_lt
  have i1 : (192 : Int) ≤ (b.toNat : Int) := by omega
  have j240 : ¬ (240 : Int) ≤ (b.toNat : Int) := by omega
  have j224 : ¬ (224 : Int) ≤ (b.toNat : Int) := by omega
  by_cases hk2 : 2 ≤ s.size - a
  · have hN2 : ∀ j, numN l j < 67108864 := numN_lt l
    have hS : ∀ j, 1 ≤ j → j < 2 → numN l (j + 1) = 64 * numN l j + byN l j % 64 := fun j h1 h2 => numN_succ l j h1 (by omega)
    have kk : ¬ ((s.size : Int) - (a : Int) < 2) := by omega
    have ak : (a : Int) + 2 ≤ (s.size : Int) := by omega
    have ak2 : IntKind.i64.wrap ((a : Int) + 2) = (a : Int) + 2 := by rw [IntWalk.i64_left]; unfold wrap64; omega
    have ak3 : ((a : Int) + 2).toNat = a + 2 := by omega
    have ak4 : (a : Int) ≤ (a : Int) + 2 := by omega
    have HBY := Lib.hid hby
    have HN2 := Lib.hid hN2
    have HS := Lib.hid hS
    have HL := Lib.hid hl
    have HN1 := Lib.hid hn1
    have HB := Lib.hid hb
    have hf := hN2 2
    by_cases hs1 : signN (numN l 2)
    · have hle : numN l 2 ≤ 1114111 := hs1.1
      have he := het (numN l 2) (by omega) (enc_lt _ hle)
      have hS1 := fun w => Sign_any (numN l 2) w
      rw [decide_eq_true hs1] at hS1
      have hB1 : ∀ W, Hid (Below w.heap.size w W) → Calls Tryz.prog 139 #[.int .i64 (numN l 2 : Int)] W fun e W' => e = .returned (.string ⟨(encB (numN l 2)).toArray⟩) ∧ Hid (Below w.heap.size w W') :=
        fun W h => (Bytes_any (numN l 2) hle W).mono fun e W' ⟨h1, h2⟩ => ⟨h1, Lib.hid (h.out.trans (h2.mono h.out.size))⟩
      by_cases hs2 : encN (numN l 2) = takeN (byN l 0) (byN l 1) (byN l 2) (byN l 3) 2
      · have hO : oneR l = (numN l 2, 2) := by rw [hR, if_pos (hone.2 ⟨hk2, hs1, hs2⟩)]
        have q := he.2 hs2
        have q1 : ((⟨(encB (numN l 2)).toArray⟩ : ByteArray).toList == (s.extract a (a + 2)).toList) = true := by rw [ByteArray.toList_eq, ByteArray.toList_eq, ← q]; simp
        have q2 : ((⟨(encB (numN l 2)).toArray⟩ : ByteArray).toList != (s.extract a (a + 2)).toList) = false := by unfold bne; rw [q1]; rfl
        obtain ⟨X, hX⟩ : ∃ X, (⟨(encB (numN l 2)).toArray⟩ : ByteArray) = X := ⟨_, rfl⟩
        rw [hX] at hB1 q1 q2
        rw [hO]
        have HS1 := Lib.hid hS1
        have HB1 := Lib.hid hB1
        clear hby hN2 hS hl hn1 he hS1 hB1 hs2 hO q hX hR hone hk hb0 het hs1 hle
        go_enter Tryz.func132, Tryz.ntmps132
        go_upto_region 15 with (fail)
        go_loop [6, 8] (fun n i => ∃ j : Nat, 1 ≤ j ∧ j ≤ 2 ∧ i = .int .i64 j ∧ n = .int .i64 (numN l j : Int)) (fun _ i => 2 - (intOf i).toNat)
        case atStart => exact ⟨1, by omega, by omega, rfl, congrArg (Value.int .i64) (by rw [HN1.out]; try omega)⟩
        case round =>
          obtain ⟨j, hj1, hj2, rfl, rfl⟩ := hrel
          by_cases hlt : j < 2
          · have x1 := HN2.out j
            have p0 : (j : Int) < 2 := by omega
            have p1 : a + j < s.size := by omega
            have p2 : (a : Int) + (j : Int) < (s.size : Int) := by omega
            have p3 : ((a : Int) + (j : Int)).toNat = a + j := by omega
            have p4 : (0 : Int) ≤ (a : Int) + (j : Int) := by omega
            have x2 := HS.out j hj1 hlt
            rw [HBY.out j p1] at x2
            have hbj := (s[a + j]'p1).toNat_lt
            have hbj2 : (0 : Int) ≤ ((s[a + j]'p1).toNat : Int) := by omega
            have X2 := Lib.hid x2
            clear x2
            go_wp2
            go_round
            case rel => exact ⟨j + 1, by omega, by omega, by go_num, congrArg (Value.int .i64) (by rw [X2.out]; omega)⟩
            case measure => simp [intOf]; omega
          · obtain rfl : j = 2 := by omega
            go_wp2_with fail
            go_region_held3 (fun _ => True) (trivial) (first | ((with_reducible refine (HS1.out _).mono ?_); rintro e wq ⟨rfl, rfl⟩) | ((with_reducible refine (HB1.out _ (by first | assumption | exact hid_drew (by assumption))).mono ?_); rintro e wq ⟨rfl, hbq⟩))
            all_goals
              go_wp2
              go_ret2
              exact ⟨rfl, by first | exact (hbq : Hid _).out | exact (hid_drew hbq).out | exact Below.refl _ _ | exact (Below.refl _ _).drew | exact ⟨rfl, rfl, rfl, Nat.le_refl _, fun _ _ => rfl⟩⟩
      · have hO : oneR l = (0, 0) := by rw [hR, if_neg (fun h => hs2 (hone.1 h).2.2)]
        have q : ¬ encB (numN l 2) = (s.extract a (a + 2)).data.toList := fun h => hs2 (he.1 h)
        have q1 : ((⟨(encB (numN l 2)).toArray⟩ : ByteArray).toList == (s.extract a (a + 2)).toList) = false := by rw [ByteArray.toList_eq, ByteArray.toList_eq]; simpa using q
        have q2 : ((⟨(encB (numN l 2)).toArray⟩ : ByteArray).toList != (s.extract a (a + 2)).toList) = true := by unfold bne; rw [q1]; rfl
        obtain ⟨X, hX⟩ : ∃ X, (⟨(encB (numN l 2)).toArray⟩ : ByteArray) = X := ⟨_, rfl⟩
        rw [hX] at hB1 q1 q2
        rw [hO]
        have HS1 := Lib.hid hS1
        have HB1 := Lib.hid hB1
        clear hby hN2 hS hl hn1 he hS1 hB1 hs2 hO q hX hR hone hk hb0 het hs1 hle
        go_enter Tryz.func132, Tryz.ntmps132
        go_upto_region 15 with (fail)
        go_loop [6, 8] (fun n i => ∃ j : Nat, 1 ≤ j ∧ j ≤ 2 ∧ i = .int .i64 j ∧ n = .int .i64 (numN l j : Int)) (fun _ i => 2 - (intOf i).toNat)
        case atStart => exact ⟨1, by omega, by omega, rfl, congrArg (Value.int .i64) (by rw [HN1.out]; try omega)⟩
        case round =>
          obtain ⟨j, hj1, hj2, rfl, rfl⟩ := hrel
          by_cases hlt : j < 2
          · have x1 := HN2.out j
            have p0 : (j : Int) < 2 := by omega
            have p1 : a + j < s.size := by omega
            have p2 : (a : Int) + (j : Int) < (s.size : Int) := by omega
            have p3 : ((a : Int) + (j : Int)).toNat = a + j := by omega
            have p4 : (0 : Int) ≤ (a : Int) + (j : Int) := by omega
            have x2 := HS.out j hj1 hlt
            rw [HBY.out j p1] at x2
            have hbj := (s[a + j]'p1).toNat_lt
            have hbj2 : (0 : Int) ≤ ((s[a + j]'p1).toNat : Int) := by omega
            have X2 := Lib.hid x2
            clear x2
            go_wp2
            go_round
            case rel => exact ⟨j + 1, by omega, by omega, by go_num, congrArg (Value.int .i64) (by rw [X2.out]; omega)⟩
            case measure => simp [intOf]; omega
          · obtain rfl : j = 2 := by omega
            go_wp2_with fail
            go_region_held3 (fun _ => True) (trivial) (first | ((with_reducible refine (HS1.out _).mono ?_); rintro e wq ⟨rfl, rfl⟩) | ((with_reducible refine (HB1.out _ (by first | assumption | exact hid_drew (by assumption))).mono ?_); rintro e wq ⟨rfl, hbq⟩))
            all_goals
              go_wp2
              go_ret2
              exact ⟨rfl, by first | exact (hbq : Hid _).out | exact (hid_drew hbq).out | exact Below.refl _ _ | exact (Below.refl _ _).drew | exact ⟨rfl, rfl, rfl, Nat.le_refl _, fun _ _ => rfl⟩⟩
    · have hO : oneR l = (0, 0) := by rw [hR, if_neg (fun h => hs1 (hone.1 h).2.1)]
      have hS1 := fun w => Sign_any (numN l 2) w
      rw [decide_eq_false hs1] at hS1
      rw [hO]
      have HS1 := Lib.hid hS1
      clear hby hN2 hS hl hn1 hS1 hO hR hone hk hb0 het hs1
      go_enter Tryz.func132, Tryz.ntmps132
      go_upto_region 15 with (fail)
      go_loop [6, 8] (fun n i => ∃ j : Nat, 1 ≤ j ∧ j ≤ 2 ∧ i = .int .i64 j ∧ n = .int .i64 (numN l j : Int)) (fun _ i => 2 - (intOf i).toNat)
      case atStart => exact ⟨1, by omega, by omega, rfl, congrArg (Value.int .i64) (by rw [HN1.out]; try omega)⟩
      case round =>
        obtain ⟨j, hj1, hj2, rfl, rfl⟩ := hrel
        by_cases hlt : j < 2
        · have x1 := HN2.out j
          have p0 : (j : Int) < 2 := by omega
          have p1 : a + j < s.size := by omega
          have p2 : (a : Int) + (j : Int) < (s.size : Int) := by omega
          have p3 : ((a : Int) + (j : Int)).toNat = a + j := by omega
          have p4 : (0 : Int) ≤ (a : Int) + (j : Int) := by omega
          have x2 := HS.out j hj1 hlt
          rw [HBY.out j p1] at x2
          have hbj := (s[a + j]'p1).toNat_lt
          have hbj2 : (0 : Int) ≤ ((s[a + j]'p1).toNat : Int) := by omega
          have X2 := Lib.hid x2
          clear x2
          go_wp2
          go_round
          case rel => exact ⟨j + 1, by omega, by omega, by go_num, congrArg (Value.int .i64) (by rw [X2.out]; omega)⟩
          case measure => simp [intOf]; omega
        · obtain rfl : j = 2 := by omega
          go_wp2_with fail
          go_quiet ((go_at_call 138; exact Calls.quiet_of_same ((HS1.out _).mono fun _ _ ⟨he, hw⟩ => ⟨he, hw.symm⟩)))
          all_goals
            go_wp2
            go_ret2
            exact ⟨rfl, by first | exact (hbq : Hid _).out | exact (hid_drew hbq).out | exact Below.refl _ _ | exact (Below.refl _ _).drew | exact ⟨rfl, rfl, rfl, Nat.le_refl _, fun _ _ => rfl⟩⟩
  · have hO : oneR l = (0, 0) := by rw [hR, if_neg (fun h => hk2 (hone.1 h).1)]
    have kk : (s.size : Int) - (a : Int) < 2 := by omega
    rw [hO]
    clear hby hl hn1 hO hR hone hk hb0 het
    go_enter Tryz.func132, Tryz.ntmps132
    go_wp2
    go_ret2
    exact ⟨rfl, Below.refl _ _⟩
set_option maxRecDepth 100000 in
set_option maxHeartbeats 2000000 in
theorem One_c1 (s : ByteArray) (hs : s.size ≤ 1099511627776) (a : Nat) (h : a < s.size) (b : UInt8) (hb : s[a] = b) (c2 : b.toNat < 192) (w : World) :
    Calls Tryz.prog 132 #[.string s, .int .i64 (a : Int)] w fun e w' => e = .returned (.tuple #[.int .i64 ((oneR (s.data.toList.drop a)).1 : Int), .int .i64 ((oneR (s.data.toList.drop a)).2 : Int)]) ∧ Below w.heap.size w w' := by
  obtain ⟨l, hl⟩ : ∃ l, s.data.toList.drop a = l := ⟨_, rfl⟩
  have hlen := len_drop s a
  have hby := fun j h => byN_at s a j h
  have het := fun n h => enc_take s a 1 n (by decide) (by decide) h
  rw [hl] at hlen hby het ⊢
  have hb0 : byN l 0 = b.toNat := by have e := hby 0 h; rw [← hb]; exact e
  have hk : kN (byN l 0) = 1 := by rw [hb0]; unfold kN; rw [if_neg (by omega), if_neg (by omega), if_neg (by omega)]
  have hn1 : numN l 1 = b.toNat := by rw [numN_one, hb0]; unfold lowN; rw [if_neg (by omega), if_neg (by omega), if_neg (by omega)]
  have hone : oneP l ↔ 1 ≤ s.size - a ∧ signN (numN l 1) ∧ encN (numN l 1) = takeN (byN l 0) (byN l 1) (byN l 2) (byN l 3) 1 := by
    unfold oneP isOne
    rw [hk, hlen]
    rfl
  have hR : oneR l = if oneP l then (numN l 1, 1) else (0, 0) := by unfold oneR; rw [hk]
  have hsz : (a : Int) < (s.size : Int) := by omega
  have HW0 : Hid (Below w.heap.size w w) := Lib.hid (Below.refl _ _)
  have hbl := b.toNat_lt
  have j240 : ¬ (240 : Int) ≤ (b.toNat : Int) := by omega
  have j224 : ¬ (224 : Int) ≤ (b.toNat : Int) := by omega
  have j192 : ¬ (192 : Int) ≤ (b.toNat : Int) := by omega
  by_cases hk2 : 1 ≤ s.size - a
  · have hN2 : ∀ j, numN l j < 67108864 := numN_lt l
    have hS : ∀ j, 1 ≤ j → j < 1 → numN l (j + 1) = 64 * numN l j + byN l j % 64 := fun j h1 h2 => numN_succ l j h1 (by omega)
    have kk : ¬ ((s.size : Int) - (a : Int) < 1) := by omega
    have ak : (a : Int) + 1 ≤ (s.size : Int) := by omega
    have ak2 : IntKind.i64.wrap ((a : Int) + 1) = (a : Int) + 1 := by rw [IntWalk.i64_left]; unfold wrap64; omega
    have ak3 : ((a : Int) + 1).toNat = a + 1 := by omega
    have ak4 : (a : Int) ≤ (a : Int) + 1 := by omega
    have HBY := Lib.hid hby
    have HN2 := Lib.hid hN2
    have HS := Lib.hid hS
    have HL := Lib.hid hl
    have HN1 := Lib.hid hn1
    have HB := Lib.hid hb
    have hf := hN2 1
    by_cases hs1 : signN (numN l 1)
    · have hle : numN l 1 ≤ 1114111 := hs1.1
      have he := het (numN l 1) (by omega) (enc_lt _ hle)
      have hS1 := fun w => Sign_any (numN l 1) w
      rw [decide_eq_true hs1] at hS1
      have hB1 : ∀ W, Hid (Below w.heap.size w W) → Calls Tryz.prog 139 #[.int .i64 (numN l 1 : Int)] W fun e W' => e = .returned (.string ⟨(encB (numN l 1)).toArray⟩) ∧ Hid (Below w.heap.size w W') :=
        fun W h => (Bytes_any (numN l 1) hle W).mono fun e W' ⟨h1, h2⟩ => ⟨h1, Lib.hid (h.out.trans (h2.mono h.out.size))⟩
      by_cases hs2 : encN (numN l 1) = takeN (byN l 0) (byN l 1) (byN l 2) (byN l 3) 1
      · have hO : oneR l = (numN l 1, 1) := by rw [hR, if_pos (hone.2 ⟨hk2, hs1, hs2⟩)]
        have q := he.2 hs2
        have q1 : ((⟨(encB (numN l 1)).toArray⟩ : ByteArray).toList == (s.extract a (a + 1)).toList) = true := by rw [ByteArray.toList_eq, ByteArray.toList_eq, ← q]; simp
        have q2 : ((⟨(encB (numN l 1)).toArray⟩ : ByteArray).toList != (s.extract a (a + 1)).toList) = false := by unfold bne; rw [q1]; rfl
        obtain ⟨X, hX⟩ : ∃ X, (⟨(encB (numN l 1)).toArray⟩ : ByteArray) = X := ⟨_, rfl⟩
        rw [hX] at hB1 q1 q2
        rw [hO]
        have HS1 := Lib.hid hS1
        have HB1 := Lib.hid hB1
        clear hby hN2 hS hl hn1 he hS1 hB1 hs2 hO q hX hR hone hk hb0 het hs1 hle
        go_enter Tryz.func132, Tryz.ntmps132
        go_upto_region 15 with (fail)
        go_loop [6, 8] (fun n i => ∃ j : Nat, 1 ≤ j ∧ j ≤ 1 ∧ i = .int .i64 j ∧ n = .int .i64 (numN l j : Int)) (fun _ i => 1 - (intOf i).toNat)
        case atStart => exact ⟨1, by omega, by omega, rfl, congrArg (Value.int .i64) (by rw [HN1.out]; try omega)⟩
        case round =>
          obtain ⟨j, hj1, hj2, rfl, rfl⟩ := hrel
          obtain rfl : j = 1 := by omega
          go_wp2_with fail
          go_region_held3 (fun _ => True) (trivial) (first | ((with_reducible refine (HS1.out _).mono ?_); rintro e wq ⟨rfl, rfl⟩) | ((with_reducible refine (HB1.out _ (by first | assumption | exact hid_drew (by assumption))).mono ?_); rintro e wq ⟨rfl, hbq⟩))
          all_goals
            go_wp2
            go_ret2
            exact ⟨rfl, by first | exact (hbq : Hid _).out | exact (hid_drew hbq).out | exact Below.refl _ _ | exact (Below.refl _ _).drew | exact ⟨rfl, rfl, rfl, Nat.le_refl _, fun _ _ => rfl⟩⟩
      · have hO : oneR l = (0, 0) := by rw [hR, if_neg (fun h => hs2 (hone.1 h).2.2)]
        have q : ¬ encB (numN l 1) = (s.extract a (a + 1)).data.toList := fun h => hs2 (he.1 h)
        have q1 : ((⟨(encB (numN l 1)).toArray⟩ : ByteArray).toList == (s.extract a (a + 1)).toList) = false := by rw [ByteArray.toList_eq, ByteArray.toList_eq]; simpa using q
        have q2 : ((⟨(encB (numN l 1)).toArray⟩ : ByteArray).toList != (s.extract a (a + 1)).toList) = true := by unfold bne; rw [q1]; rfl
        obtain ⟨X, hX⟩ : ∃ X, (⟨(encB (numN l 1)).toArray⟩ : ByteArray) = X := ⟨_, rfl⟩
        rw [hX] at hB1 q1 q2
        rw [hO]
        have HS1 := Lib.hid hS1
        have HB1 := Lib.hid hB1
        clear hby hN2 hS hl hn1 he hS1 hB1 hs2 hO q hX hR hone hk hb0 het hs1 hle
        go_enter Tryz.func132, Tryz.ntmps132
        go_upto_region 15 with (fail)
        go_loop [6, 8] (fun n i => ∃ j : Nat, 1 ≤ j ∧ j ≤ 1 ∧ i = .int .i64 j ∧ n = .int .i64 (numN l j : Int)) (fun _ i => 1 - (intOf i).toNat)
        case atStart => exact ⟨1, by omega, by omega, rfl, congrArg (Value.int .i64) (by rw [HN1.out]; try omega)⟩
        case round =>
          obtain ⟨j, hj1, hj2, rfl, rfl⟩ := hrel
          obtain rfl : j = 1 := by omega
          go_wp2_with fail
          go_region_held3 (fun _ => True) (trivial) (first | ((with_reducible refine (HS1.out _).mono ?_); rintro e wq ⟨rfl, rfl⟩) | ((with_reducible refine (HB1.out _ (by first | assumption | exact hid_drew (by assumption))).mono ?_); rintro e wq ⟨rfl, hbq⟩))
          all_goals
            go_wp2
            go_ret2
            exact ⟨rfl, by first | exact (hbq : Hid _).out | exact (hid_drew hbq).out | exact Below.refl _ _ | exact (Below.refl _ _).drew | exact ⟨rfl, rfl, rfl, Nat.le_refl _, fun _ _ => rfl⟩⟩
    · have hO : oneR l = (0, 0) := by rw [hR, if_neg (fun h => hs1 (hone.1 h).2.1)]
      have hS1 := fun w => Sign_any (numN l 1) w
      rw [decide_eq_false hs1] at hS1
      rw [hO]
      have HS1 := Lib.hid hS1
      clear hby hN2 hS hl hn1 hS1 hO hR hone hk hb0 het hs1
      go_enter Tryz.func132, Tryz.ntmps132
      go_upto_region 15 with (fail)
      go_loop [6, 8] (fun n i => ∃ j : Nat, 1 ≤ j ∧ j ≤ 1 ∧ i = .int .i64 j ∧ n = .int .i64 (numN l j : Int)) (fun _ i => 1 - (intOf i).toNat)
      case atStart => exact ⟨1, by omega, by omega, rfl, congrArg (Value.int .i64) (by rw [HN1.out]; try omega)⟩
      case round =>
        obtain ⟨j, hj1, hj2, rfl, rfl⟩ := hrel
        obtain rfl : j = 1 := by omega
        go_wp2_with fail
        go_quiet ((go_at_call 138; exact Calls.quiet_of_same ((HS1.out _).mono fun _ _ ⟨he, hw⟩ => ⟨he, hw.symm⟩)))
        all_goals
          go_wp2
          go_ret2
          exact ⟨rfl, by first | exact (hbq : Hid _).out | exact (hid_drew hbq).out | exact Below.refl _ _ | exact (Below.refl _ _).drew | exact ⟨rfl, rfl, rfl, Nat.le_refl _, fun _ _ => rfl⟩⟩
  · have hO : oneR l = (0, 0) := by rw [hR, if_neg (fun h => hk2 (hone.1 h).1)]
    have kk : (s.size : Int) - (a : Int) < 1 := by omega
    rw [hO]
    clear hby hl hn1 hO hR hone hk hb0 het
    go_enter Tryz.func132, Tryz.ntmps132
    go_wp2
    go_ret2
    exact ⟨rfl, Below.refl _ _⟩
theorem One_any (s : ByteArray) (hs : s.size ≤ 1099511627776) (a : Nat) (h : a < s.size) (w : World) :
    Calls Tryz.prog 132 #[.string s, .int .i64 (a : Int)] w fun e w' => e = .returned (.tuple #[.int .i64 ((oneR (s.data.toList.drop a)).1 : Int), .int .i64 ((oneR (s.data.toList.drop a)).2 : Int)]) ∧ Below w.heap.size w w' := by
  rcases Nat.lt_or_ge s[a].toNat 192 with c | c
  · exact One_c1 s hs a h _ rfl c w
  · rcases Nat.lt_or_ge s[a].toNat 224 with c2 | c2
    · exact One_c2 s hs a h _ rfl c c2 w
    · rcases Nat.lt_or_ge s[a].toNat 240 with c3 | c3
      · exact One_c3 s hs a h _ rfl c2 c3 w
      · exact One_c4 s hs a h _ rfl c3 w
end Go.Proofs.YtadmhlebkaiblaaGreatDoor
