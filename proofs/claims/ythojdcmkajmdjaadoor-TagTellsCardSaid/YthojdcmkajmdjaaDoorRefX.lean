/- The reference's mixed key, its digits and the texts of digits are the program's. Conditions: those of each rule. -/
import Derived.Test.YthojdcmkajmdjaaDoorHmk
import Derived.Test.YthojdcmkajmdjaaDoorCv1
import Derived.Deep.RegionHeld
import Derived.Deep.RegionWith
import Derived.Deep.DeepCutAuto
import Derived.Deep.QuietTactic
import Derived.BigQuiet
namespace Go.Proofs.YthojdcmkajmdjaaDoor
open Go.ChangeShapes Go.WideShapes Go.ChangeAt Go.RowKit Go.Shelf
open Go.ChangeMaps (open_string shut_string)
open Rd Dg Hx
set_option maxRecDepth 100000 in
set_option maxHeartbeats 2000000 in
theorem mixed_any (K : ByteArray) (m : UInt8) (w : World) :
    Calls Tryd.prog 24 #[.string K, .int .i64 (m.toNat : Int)] w fun e w' => e = .returned (.string (mixT K m 64)) ∧ Below w.heap.size w w' := by
  have hm := m.toNat_lt
  go_enter Tryd.func24, Tryd.ntmps24
  go_wp2_with fail
  go_loopw [5, 6] (fun a i wr => ∃ t : Nat, t ≤ 64 ∧ i = .int .i64 (t : Int) ∧ a = .string (mixT K m t) ∧ Below w.heap.size w wr) (fun _ i _ => 64 - (intOf i).toNat)
  case atStart => exact ⟨0, by omega, rfl, rfl, Below.refl _ w⟩
  case round =>
    obtain ⟨t, ht, rfl, rfl, hbr⟩ := hrel
    have HBR := Lib.hid hbr
    clear hbr
    by_cases hlt : t < 64
    · have i0 : (t : Int) < 64 := by omega
      have s1 := mixT_size K m t
      have c1 := mixT_succ K m t
      obtain ⟨A', hA'⟩ : ∃ A', mixT K m (t + 1) = A' := ⟨_, rfl⟩
      obtain ⟨A, hA⟩ : ∃ A, mixT K m t = A := ⟨_, rfl⟩
      rw [hA, hA'] at c1
      rw [hA] at s1
      rw [hA]
      have HA1 := Lib.hid hA'
      have m1 : ¬ 9223372036854775807 < A.size + 1 := by omega
      clear hA hA' s1
      have hcv := cv1
      have hcvd := cv1d
      obtain ⟨b, hb⟩ : ∃ b, bt K t = b := ⟨_, rfl⟩
      rw [hb] at c1
      have hbl := b.toNat_lt
      obtain ⟨x1, -, x3, -⟩ := bits64 b.toNat m.toNat (by omega) (by omega)
      have x4 : (b ^^^ m).toNat = b.toNat ^^^ m.toNat := UInt8.toNat_xor _ _
      have w8 := wrap8 (b ^^^ m)
      rw [x4] at w8
      rw [← x4] at x1 w8
      obtain ⟨y, hy⟩ : ∃ y, b ^^^ m = y := ⟨_, rfl⟩
      rw [hy] at x1 c1 w8
      have C1 := Lib.hid c1
      clear c1 hy x4 x3
      by_cases hk : t < K.size
      · have hbt := bt_in K t hk
        have hki : (t : Int) < (K.size : Int) := by omega
        rw [hb] at hbt
        have hbt' := hbt.symm
        clear hbt hb
        go_wp2
        all_goals
          go_roundw
          case rel => exact ⟨t + 1, by omega, by go_num, by rw [C1.out, HA1.out], HBR.out.alloc HBR.out.size _⟩
          case measure => simp [intOf]; omega
      · have hbt := bt_out K t hk
        have hki : ¬ (t : Int) < (K.size : Int) := by omega
        rw [hb] at hbt
        have x1' : bits .xor .i64 0 (m.toNat : Int) = (y.toNat : Int) := by rw [hbt] at x1; exact x1
        clear hbt hb x1
        go_wp2
        all_goals
          go_roundw
          case rel => exact ⟨t + 1, by omega, by go_num, by rw [C1.out, HA1.out], HBR.out.alloc HBR.out.size _⟩
          case measure => simp [intOf]; omega
    · obtain rfl : t = 64 := by omega
      obtain ⟨A, hA⟩ : ∃ A, mixT K m 64 = A := ⟨_, rfl⟩
      rw [hA]
      go_wp2
      go_ret
      exact ⟨by rw [hA]; rfl, HBR.out⟩
end Go.Proofs.YthojdcmkajmdjaaDoor
