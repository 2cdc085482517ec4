/- The reference's texts of digits are the program's. Conditions: the text is not longer than a million bytes. -/
import Derived.Test.YthojdcmkajmdjaaDoorRefY
import Derived.Deep.RegionHeld3
import Derived.Deep.RegionWith
import Derived.Deep.DrawnRows
import Derived.Deep.DeepCutAuto
namespace Go.Proofs.YthojdcmkajmdjaaDoor
open Go.ChangeShapes Go.WideShapes Go.ChangeAt Go.RowKit Go.Shelf
open Go.ChangeMaps (open_string shut_string)
open Rd Dg Hx
attribute [local go_sem ↓] Go.wp_at_zero Go.wp_at_succ
/-- what the reference's call answers -/
def unA (r : Option (List UInt8)) : Value := match r with
  | some o => .tuple #[.string ⟨o.toArray⟩, .int .i64 0]
  | none => .tuple #[.string ⟨#[]⟩, .int .i64 30]
set_option maxRecDepth 100000 in
set_option maxHeartbeats 2000000 in
theorem RefUnhex_ok (S : ByteArray) (hSs : S.size ≤ 1000000) (w : World) :
    Calls Tryd.prog 15 #[.string S] w fun e w' => e = .returned (unA (unL S.data.toList)) ∧ Below w.heap.size w w' := by
  have hl : S.data.toList.length = S.size := by rw [Array.length_toList]; rfl
  have HDG := Lib.hid digit_any
  go_enter Tryd.func15, Tryd.ntmps15
  go_wp2_with fail
  go_loopw [4, 5] (fun a i wr => ∃ (t k : Nat) (o : List UInt8), k = 2 * t ∧ k ≤ S.size ∧ i = .int .i64 (k : Int) ∧ a = .string (txt o) ∧ upTo S.data.toList t o ∧ Below w.heap.size w wr) (fun _ i _ => S.size - (intOf i).toNat)
  case atStart => exact ⟨0, 0, [], rfl, by omega, rfl, rfl, upTo_zero _, Below.refl _ w⟩
  case round =>
    obtain ⟨t, k, o, hk, hks, rfl, rfl, hu, hbr⟩ := hrel
    have HBR := Lib.hid hbr
    have HK := Lib.hid hk
    clear hbr
    by_cases hlt : k < S.size
    · have i0 : (k : Int) < (S.size : Int) := by omega
      have e1 : IntKind.i64.wrap ((k : Int) + 1) = (k : Int) + 1 := by rw [IntWalk.i64_left]; unfold wrap64; omega
      by_cases hlt2 : k + 1 < S.size
      · have i1 : ¬ (S.size : Int) ≤ (k : Int) + 1 := by omega
        have i2 : (k : Int) + 1 < (S.size : Int) := by omega
        have i3 : ((k : Int) + 1).toNat = k + 1 := by omega
        obtain ⟨a, ha⟩ : ∃ a, S[k] = a := ⟨_, rfl⟩
        obtain ⟨b, hb⟩ : ∃ b, S[k + 1] = b := ⟨_, rfl⟩
        have g1 : 2 * t + 1 < S.data.toList.length := by omega
        have ga : S.data.toList[2 * t]'(by omega) = a := by simp only [← hk]; exact ha
        have gb : S.data.toList[2 * t + 1]'g1 = b := by simp only [← hk]; exact hb
        have HU := Lib.hid (show ∀ z, two a b = some z → upTo S.data.toList (t + 1) (o ++ [z]) from fun z hz => upTo_succ hu g1 (by rw [ga, gb]; exact hz))
        have HN := Lib.hid (show two a b = none → unL S.data.toList = none from fun hz => upTo_bad g1 (by rw [ga, gb]; exact hz))
        have hos := hu.2
        have hts := txt_size o
        have HSN := Lib.hid (fun z => txt_snoc o z)
        obtain ⟨A, hA⟩ : ∃ A, txt o = A := ⟨_, rfl⟩
        rw [hA] at hts
        rw [hA]
        have HA := Lib.hid hA
        have m1 : ¬ 9223372036854775807 < A.size + 1 := by omega
        clear ga gb g1 hA hu hk
        cases va : valC a with
        | none =>
          have HBAD := Lib.hid (HN.out (by unfold two; rw [va]))
          have hDA := fun w => digit_any a w
          rw [dv_none va] at hDA
          have HDA := Lib.hid hDA
          clear hDA va
          go_wp2_with fail
          refine (HDA.out _).mono ?_
          rintro e w1 ⟨rfl, rfl⟩
          go_wp2
          exact bodyPost_ret (v := .tuple #[.string ⟨#[]⟩, .int .i64 30]) (by simp [results, Tryd.results15, go_sem]) rfl ⟨by rw [HBAD.out]; rfl, HBR.out⟩
        | some x =>
          have hDA := fun w => digit_any a w
          rw [dv_some va] at hDA
          have HDA := Lib.hid hDA
          cases vb : valC b with
          | none =>
            have HBAD := Lib.hid (HN.out (by unfold two; rw [va, vb]))
            have hDB := fun w => digit_any b w
            rw [dv_none vb] at hDB
            have HDB := Lib.hid hDB
            clear hDA va hDB vb
            go_wp2_with fail
            refine (HDA.out _).mono ?_
            rintro e w1 ⟨rfl, rfl⟩
            go_wp2_with fail
            refine (HDB.out _).mono ?_
            rintro e w1 ⟨rfl, rfl⟩
            go_wp2
            exact bodyPost_ret (v := .tuple #[.string ⟨#[]⟩, .int .i64 30]) (by simp [results, Tryd.results15, go_sem]) rfl ⟨by rw [HBAD.out]; rfl, HBR.out⟩
          | some y =>
            have hDB := fun w => digit_any b w
            rw [dv_some vb] at hDB
            have HDB := Lib.hid hDB
            obtain ⟨p1, p2, p3, p4⟩ := pair_byte a b x y va vb
            obtain ⟨z, hz⟩ : ∃ z, x <<< 4 ||| y = z := ⟨_, rfl⟩
            rw [hz] at p1 p2
            have HU2 := Lib.hid (HU.out z p1)
            have hcv := cv1
            have hcvd := cv1d
            have da := dv_some va
            have db := dv_some vb
            clear hDA va hDB vb hz p1
            go_wp2_with fail
            refine (HDA.out _).mono ?_
            rintro e w1 ⟨rfl, rfl⟩
            go_wp2_with fail
            refine (HDB.out _).mono ?_
            rintro e w1 ⟨rfl, rfl⟩
            go_wp2_with fail
            have v1 : IntKind.i64.wrap (16 * (x.toNat : Int)) = 16 * (x.toNat : Int) := by rw [IntWalk.i64_left]; unfold wrap64; omega
            have v2 : IntKind.i64.wrap (16 * (x.toNat : Int) + (y.toNat : Int)) = 16 * (x.toNat : Int) + (y.toNat : Int) := by rw [IntWalk.i64_left]; unfold wrap64; omega
            go_region_with (first | (go_at_call 27; refine (HDG.out _ _).mono ?_; rintro e wq ⟨rfl, rfl⟩))
            all_goals
              go_wp2
              go_roundw
              case rel => exact ⟨t + 1, k + 2, o ++ [z], by have := HK.out; omega, by omega, by go_num, by rw [← HSN.out z, HA.out], HU2.out, (HBR.out.drew.alloc HBR.out.size _)⟩
              case measure => simp [intOf]; omega
      · have i1 : (S.size : Int) ≤ (k : Int) + 1 := by omega
        have hbad : unL S.data.toList = none := odd_none (t := t) (by omega)
        have HBAD := Lib.hid hbad
        clear hbad hu
        go_wp2
        exact bodyPost_ret (v := .tuple #[.string ⟨#[]⟩, .int .i64 30]) (by simp [results, Tryd.results15, go_sem]) rfl ⟨by rw [HBAD.out]; rfl, HBR.out⟩
    · have i0 : ¬ (k : Int) < (S.size : Int) := by omega
      have hu' := hu.1
      rw [List.take_of_length_le (by omega)] at hu'
      have HU := Lib.hid hu'
      obtain ⟨A, hA⟩ : ∃ A, txt o = A := ⟨_, rfl⟩
      rw [hA]
      have HA := Lib.hid hA
      clear hu hu' hA
      go_wp2
      exact bodyPost_ret (v := .tuple #[.string A, .int .i64 0]) (by simp [results, Tryd.results15, go_sem]) rfl ⟨by rw [HU.out, ← HA.out]; rfl, HBR.out⟩
end Go.Proofs.YthojdcmkajmdjaaDoor
