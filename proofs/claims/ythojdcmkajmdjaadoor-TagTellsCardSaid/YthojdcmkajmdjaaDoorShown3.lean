/- The statements' own check of tags holds, and the texts that they cut. Conditions: the laid variables. -/
import Derived.Test.YthojdcmkajmdjaaDoorKt
import Derived.Test.YthojdcmkajmdjaaDoorHu
namespace Go.Proofs.YthojdcmkajmdjaaDoor
open Go.RowKit Go.Shelf
open Rd Dg Hx Box Seqs
/-- a text's first two hundred bytes -/
def cutT (s : ByteArray) : ByteArray := if 200 < s.size then s.extract 0 200 else s
theorem cutT_size (s : ByteArray) : (cutT s).size ≤ 200 := by
  unfold cutT
  split
  · simp [ByteArray.size_extract]; omega
  · omega
theorem cut3_any (s : ByteArray) (w : World) :
    Calls Tryd.prog 11 #[.string s] w fun e w' => e = .returned (.string (cutT s)) ∧ w = w' := by
  go_enter Tryd.func11, Tryd.ntmps11
  go_wp2
  · go_ret
    exact ⟨by rw [show cutT s = s.extract 0 200 by unfold cutT; rw [if_pos (by omega)]]; rfl, rfl⟩
  · go_ret
    exact ⟨by rw [show cutT s = s by unfold cutT; rw [if_neg (by omega)]]; rfl, rfl⟩
set_option maxRecDepth 100000 in
set_option maxHeartbeats 2000000 in
theorem shown3_any (B : Nat) (w : World) (E : Env B w) :
    Calls Tryd.prog 10 #[] w fun e w' => e = .returned (.bool true) ∧ Below w.heap.size w w' := by
  have HE := Lib.hid E
  clear E
  have hO := fun w E => Of_ok Jefe.k Jefe.s (by decide) (by decide) B w E
  rw [Jefe.tag_is] at hO
  have hU1 := fun w => Unhex_ok ⟨#[52, 100, 54, 49]⟩ (by decide) w
  have hU2 := fun w => Unhex_ok ⟨#[52, 68]⟩ (by decide) w
  have hU3 := fun w => Unhex_ok ⟨#[52]⟩ (by decide) w
  simp only [Jefe.un1, Jefe.un2, Jefe.un3] at hU1 hU2 hU3
  have hX := fun w => Hex_ok Jefe.tag (by rw [Jefe.size]; omega) w
  have hQ1 := fun w => Equal_ok Jefe.tag Jefe.tag (by rw [Jefe.size]; omega) (by rw [Jefe.size]; omega) w
  have hQ2 := fun w => Equal_ok Jefe.tag ⟨#[77, 97]⟩ (by rw [Jefe.size]; omega) (by decide) w
  have hne := Jefe.not_ma
  have h8 := Jefe.hex8
  have hlx : (hexL Jefe.tag.data.toList).length = 64 := by rw [hexL_length]; rfl
  rw [decide_eq_true rfl] at hQ1
  rw [decide_eq_false hne] at hQ2
  rw [show Jefe.k = ⟨#[74, 101, 102, 101]⟩ from rfl, show Jefe.s = ⟨#[119, 104, 97, 116, 32, 100, 111, 32, 121, 97, 32, 119, 97, 110, 116, 32, 102, 111, 114, 32, 110, 111, 116, 104, 105, 110, 103, 63]⟩ from rfl] at hO
  obtain ⟨q, hq⟩ : ∃ q, Jefe.tag = q := ⟨_, rfl⟩
  rw [hq] at hO hX hQ1 hQ2 h8 hlx
  obtain ⟨D, hD⟩ : ∃ D : ByteArray, (⟨(hexL q.data.toList).toArray⟩ : ByteArray) = D := ⟨_, rfl⟩
  rw [hD] at hX
  have hDs : (D.size : Int) = 64 := by rw [← hD, sz_of, hlx]; rfl
  have hD8 : D.extract 0 8 = ⟨#[53, 98, 100, 99, 99, 49, 52, 54]⟩ := by
    apply ByteArray.ext
    apply Array.toList_inj.1
    rw [← hD, ByteArray.data_extract, Array.toList_extract, List.extract_eq_take_drop, List.drop_zero]
    exact h8
  have HO := Lib.hid hO
  have HX := Lib.hid hX
  have HU1 := Lib.hid hU1
  have HU2 := Lib.hid hU2
  have HU3 := Lib.hid hU3
  have HQ1 := Lib.hid hQ1
  have HQ2 := Lib.hid hQ2
  clear hO hX hU1 hU2 hU3 hQ1 hQ2 hne h8 hlx hq hD
  go_enter Tryd.func10, Tryd.ntmps10
  go_wp2_with fail
  refine (HO.out w HE.out).mono ?_
  rintro e w1 ⟨rfl, hb1⟩
  have hz1 := hb1.size
  have HB1 := Lib.hid hb1
  clear hb1
  go_wp2_with fail
  refine (HU1.out w1).mono ?_
  rintro e w2 ⟨rfl, hb2⟩
  have hz2 := hb2.size
  have HB2 := Lib.hid (HB1.out.trans (hb2.mono (by omega)))
  clear hb2
  go_wp2_with fail
  refine (HU2.out w2).mono ?_
  rintro e w3 ⟨rfl, hb3⟩
  have hz3 := hb3.size
  have HB3 := Lib.hid (HB2.out.trans (hb3.mono (by omega)))
  clear hb3
  go_wp2_with fail
  refine (HU3.out w3).mono ?_
  rintro e w4 ⟨rfl, hb4⟩
  have hz4 := hb4.size
  have HB4 := Lib.hid (HB3.out.trans (hb4.mono (by omega)))
  clear hb4
  go_wp2_with fail
  refine (HX.out w4).mono ?_
  rintro e w5 ⟨rfl, hb5⟩
  have hz5 := hb5.size
  have HB5 := Lib.hid (HB4.out.trans (hb5.mono (by omega)))
  clear hb5
  go_wp2_with fail
  refine (HQ1.out w5).mono ?_
  rintro e w6 ⟨rfl, hb6⟩
  have hz6 := hb6.size
  have HB6 := Lib.hid (HB5.out.trans (hb6.mono (by omega)))
  clear hb6
  go_wp2_with fail
  refine (HQ2.out w6).mono ?_
  rintro e w7 ⟨rfl, hb7⟩
  have HB7 := Lib.hid (HB6.out.trans (hb7.mono (by omega)))
  clear hb7
  go_wp2
  go_ret
  exact ⟨rfl, HB7.out⟩
end Go.Proofs.YthojdcmkajmdjaaDoor
