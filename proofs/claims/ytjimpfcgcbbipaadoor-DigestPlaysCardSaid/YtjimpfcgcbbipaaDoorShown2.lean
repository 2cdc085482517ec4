/- The statements' own check of sums holds, and the texts that they cut. Conditions: the laid variables. -/
import Derived.Test.YtjimpfcgcbbipaaDoorMeth
import Derived.Test.YtjimpfcgcbbipaaDoorAb
namespace Go.Proofs.YtjimpfcgcbbipaaDoor
open Go.RowKit Go.Shelf
open Rd Dg Box
theorem blk_abc : blkB ([97, 98, 99] ++ endL 3) 0 = abc := by decide +kernel
theorem blk_ab : blkB ([97, 98] ++ endL 2) 0 = Ab.ab := by decide +kernel
theorem dig_abc : dig [97, 98, 99] = ⟨#[186, 120, 22, 191, 143, 1, 207, 234, 65, 65, 64, 222, 93, 174, 34, 35, 176, 3, 97, 163, 150, 23, 122, 156, 180, 16, 255, 97, 242, 0, 21, 173]⟩ := by
  have hl : ([97, 98, 99] ++ endL 3 : List UInt8).length / 64 = 0 + 1 := by decide +kernel
  show (⟨(St.by (stOf ([97, 98, 99] ++ endL 3) (([97, 98, 99] ++ endL 3 : List UInt8).length / 64)) 8).toArray⟩ : ByteArray) = _
  rw [hl]
  show (⟨(St.by (St.comp (Wd (mw (blkB ([97, 98, 99] ++ endL 3) 0))) F0) 8).toArray⟩ : ByteArray) = _
  rw [blk_abc, comp_abc]
  decide +kernel
theorem dig_ab : (dig [97, 98]).toList ≠ (dig [97, 98, 99]).toList := by
  have hl : ([97, 98] ++ endL 2 : List UInt8).length / 64 = 0 + 1 := by decide +kernel
  have h : dig [97, 98] = ⟨(St.by (St.comp (Wd (mw (blkB ([97, 98] ++ endL 2) 0))) F0) 8).toArray⟩ := by
    show (⟨(St.by (stOf ([97, 98] ++ endL 2) (([97, 98] ++ endL 2 : List UInt8).length / 64)) 8).toArray⟩ : ByteArray) = _
    rw [hl]
    rfl
  rw [h, dig_abc, blk_ab, Ab.comp_ab]
  decide +kernel
theorem end55 : ((⟨(endL 55).toArray⟩ : ByteArray)).size = 9 := by decide +kernel
set_option maxRecDepth 100000 in
set_option maxHeartbeats 2000000 in
theorem shown_any (B : Nat) (w : World) (E : Env B w) :
    Calls Tryd.prog 10 #[] w fun e w' => e = .returned (.bool true) ∧ Below w.heap.size w w' := by
  have HE := Lib.hid E
  have d1 := dig_abc
  have d2 := dig_ab
  obtain ⟨qa, hqa⟩ : ∃ q, dig [97, 98, 99] = q := ⟨_, rfl⟩
  obtain ⟨qb, hqb⟩ : ∃ q, dig [97, 98] = q := ⟨_, rfl⟩
  rw [hqa] at d1
  rw [hqa, hqb] at d2
  have s1 : (qa.size : Int) = 32 := by rw [d1]; rfl
  have s2 : qa.extract 0 4 = ⟨#[186, 120, 22, 191]⟩ := by rw [d1]; decide +kernel
  have s3 : (qb.toList == qa.toList) = false := by rw [beq_eq_false_iff_ne]; exact d2
  obtain ⟨qe, hqe⟩ : ∃ q : ByteArray, (⟨(endL 55).toArray⟩ : ByteArray) = q := ⟨_, rfl⟩
  have s4 : (qe.size : Int) = 9 := by rw [← hqe]; have h := end55; omega
  have hBw := E.bw
  clear E d1 d2
  go_enter Tryd.func10, Tryd.ntmps10
  go_wp2_with fail
  have hC1 := Sum_ok ⟨#[97, 98, 99]⟩ (by decide) B w HE.out
  rw [show dig (⟨#[97, 98, 99]⟩ : ByteArray).data.toList = qa from hqa] at hC1
  refine hC1.mono ?_
  rintro e w1 ⟨rfl, hb1⟩
  have HB1 := Lib.hid hb1
  have HE1 := Lib.hid (HE.out.below' hb1)
  have hz1 := hb1.size
  clear hb1 hC1
  go_wp2_with fail
  refine (New_any _).mono ?_
  rintro e w2 ⟨rfl, hh2, hb2⟩
  have hl2 := hh2.lt
  have HB2 := Lib.hid (HB1.out.trans (hb2.mono (by omega)))
  have HE2 := Lib.hid (HE1.out.below' hb2)
  have HH2 := Lib.hid hh2
  clear hh2 hb2
  go_wp2_with fail
  refine (Write_ok w1.heap.size 65 [] ⟨#[97, 98]⟩ (by decide) B _ HE2.out (by omega) HH2.out).mono ?_
  rintro e w3 ⟨rfl, hh3, hg3⟩
  have hz3 := hg3.size
  have HB3 := Lib.hid (HB2.out.trans (below_of_grown hg3 (show w.heap.size ≤ w1.heap.size by omega) (by have := HB2.out.size; omega)))
  have HE3 := Lib.hid (HE2.out.on (show B ≤ w1.heap.size by omega) hg3)
  have HH3 : Hid (Holds w1.heap.size 65 [97, 98] w3) := Lib.hid hh3
  clear hh3 hg3
  go_wp2_with fail
  have hC4 := hsum_any w1.heap.size 65 [97, 98] (by decide) B w3 HE3.out (by omega) HH3.out
  rw [hqb] at hC4
  refine hC4.mono ?_
  rintro e w4 ⟨rfl, hh4, hg4⟩
  have hz4 := hg4.size
  have HB4 := Lib.hid (HB3.out.trans (below_of_grown hg4 (show w.heap.size ≤ w1.heap.size by omega) (by have := HB3.out.size; omega)))
  have HE4 := Lib.hid (HE3.out.on (show B ≤ w1.heap.size by omega) hg4)
  have HH4 := Lib.hid hh4
  clear hh4 hg4 hC4
  go_wp2_with fail
  refine (Write_ok w1.heap.size 65 [97, 98] ⟨#[99]⟩ (by decide) B _ HE4.out (by omega) HH4.out).mono ?_
  rintro e w5 ⟨rfl, hh5, hg5⟩
  have hz5 := hg5.size
  have HB5 := Lib.hid (HB4.out.trans (below_of_grown hg5 (show w.heap.size ≤ w1.heap.size by omega) (by have := HB4.out.size; omega)))
  have HE5 := Lib.hid (HE4.out.on (show B ≤ w1.heap.size by omega) hg5)
  have HH5 : Hid (Holds w1.heap.size 65 [97, 98, 99] w5) := Lib.hid hh5
  clear hh5 hg5
  go_wp2_with fail
  have hC6 := hsum_any w1.heap.size 65 [97, 98, 99] (by decide) B w5 HE5.out (by omega) HH5.out
  rw [hqa] at hC6
  refine hC6.mono ?_
  rintro e w6 ⟨rfl, hh6, hg6⟩
  have hz6 := hg6.size
  have HB6 := Lib.hid (HB5.out.trans (below_of_grown hg6 (show w.heap.size ≤ w1.heap.size by omega) (by have := HB5.out.size; omega)))
  have HE6 := Lib.hid (HE5.out.on (show B ≤ w1.heap.size by omega) hg6)
  have HH6 := Lib.hid hh6
  clear hh6 hg6 hC6
  go_wp2_with fail
  have hC7 := End_ok 55 (by decide) w6
  rw [hqe] at hC7
  refine hC7.mono ?_
  rintro e w7 ⟨rfl, hb7⟩
  have hz7 := hb7.size
  have HB7 := Lib.hid (HB6.out.trans (hb7.mono (by omega)))
  have HE7 := Lib.hid (HE6.out.below' hb7)
  have HH7 := Lib.hid (HH6.out.kept (hb7.block w1.heap.size (by omega)))
  clear hb7 hC7
  go_wp2_with fail
  refine (End_bad 100001 (by decide) B _ HE7.out).mono ?_
  rintro e w8 ⟨rfl, hb8⟩
  have hz8 := hb8.size
  have HB8 := Lib.hid (HB7.out.trans (hb8.mono (by omega)))
  have HH8 := Lib.hid (HH7.out.kept (hb8.block w1.heap.size (by omega)))
  clear hb8 hqa hqb hqe
  go_wp2_with fail
  refine (Len_any w1.heap.size 65 [97, 98, 99] _ HH8.out).mono ?_
  rintro e w9 ⟨rfl, rfl⟩
  go_wp2
  go_ret
  exact ⟨rfl, HB8.out⟩
end Go.Proofs.YtjimpfcgcbbipaaDoor
