/- The reference's end of a message is the program's, and there is an error for the same numbers. Conditions: none. -/
import Derived.Test.YthojdcmkajmdjaaDoorRf
import Derived.Deep.RegionHeld3
import Derived.StillTailTactics
import Derived.Deep.RegionHeld
import Derived.Deep.RegionWith
import Derived.Deep.DrawnRows
import Derived.Deep.DeepCutAuto
import Derived.Deep.QuietTactic
import Derived.BigQuiet
namespace Go.Proofs.YthojdcmkajmdjaaDoor
open Go.ChangeShapes Go.WideShapes Go.ChangeAt Go.RowKit
open Go.ChangeMaps (open_string shut_string)
open Rd
attribute [local go_sem ↓] Go.wp_at_zero Go.wp_at_succ
/-- the end's head: its mark, and some noughts -/
def headB (j : Nat) : ByteArray := ⟨(128 :: List.replicate j (0 : UInt8)).toArray⟩
theorem headB_size (j : Nat) : (headB j).size = 1 + j := by
  show (List.toArray _).size = _
  simp; omega
theorem headB_succ (j : Nat) : headB j ++ ⟨#[0]⟩ = headB (j + 1) := by
  apply ByteArray.ext
  apply Array.toList_inj.1
  simp [headB, ByteArray.data_append, List.replicate_succ']
def strSz : Value → Nat
  | .string s => s.size
  | _ => 0
theorem be8 (n : Nat) (h : n ≤ 100000) (x : BitVec 32) (hx : x = BitVec.ofNat 32 (8 * n)) : be (8 * n) 8 = [0, 0, 0, 0, lo8 (x >>> 24), lo8 (x >>> 16), lo8 (x >>> 8), lo8 x] := by
  subst hx
  have e (k : Nat) (hk : k ≤ 24) : lo8 (BitVec.ofNat 32 (8 * n) >>> k) = UInt8.ofNat (8 * n / 2 ^ k) := by
    unfold lo8
    rw [BitVec.toNat_ushiftRight, BitVec.toNat_ofNat, Nat.mod_eq_of_lt (by omega), Nat.shiftRight_eq_div_pow]
  have e0 : lo8 (BitVec.ofNat 32 (8 * n)) = UInt8.ofNat (8 * n) := by
    unfold lo8
    rw [BitVec.toNat_ofNat, Nat.mod_eq_of_lt (by omega)]
  rw [e 24 (by omega), e 16 (by omega), e 8 (by omega), e0]
  have z (k : Nat) (hk : 32 ≤ k) : UInt8.ofNat (8 * n / 2 ^ k) = 0 := by
    rw [Nat.div_eq_of_lt (Nat.lt_of_lt_of_le (by omega : 8 * n < 2 ^ 32) (Nat.pow_le_pow_right (by omega) hk))]
    rfl
  have z56 : UInt8.ofNat (8 * n / 72057594037927936) = 0 := z 56 (by omega)
  have z48 : UInt8.ofNat (8 * n / 281474976710656) = 0 := z 48 (by omega)
  have z40 : UInt8.ofNat (8 * n / 1099511627776) = 0 := z 40 (by omega)
  have z32 : UInt8.ofNat (8 * n / 4294967296) = 0 := z 32 (by omega)
  simp [be, List.range_succ, z56, z48, z40, z32]
theorem end_cat (n : Nat) (h : n ≤ 100000) (x : BitVec 32) (hx : x = BitVec.ofNat 32 (8 * n)) :
    headB (zN n) ++ ⟨#[0, 0, 0, 0]⟩ ++ ⟨#[lo8 (x >>> 24), lo8 (x >>> 16), lo8 (x >>> 8), lo8 x]⟩ = (⟨(endL n).toArray⟩ : ByteArray) := by
  apply ByteArray.ext
  apply Array.toList_inj.1
  simp [headB, ByteArray.data_append, endL, be8 n h x hx]
theorem f24' (x : BitVec 32) : wrap64 ((U x).tdiv (16777216 : Int)) % (256 : Int) = ((lo8 (x >>> 24)).toNat : Int) := by
  have h1 := U_nonneg x; have h2 := U_lt x
  rw [Int.tdiv_eq_ediv_of_nonneg h1, show wrap64 (U x / 16777216) = U x / 16777216 by unfold wrap64; omega]
  exact div24 x
theorem f16' (x : BitVec 32) : (wrap64 ((U x).tdiv (65536 : Int))).tmod (256 : Int) % (256 : Int) = ((lo8 (x >>> 16)).toNat : Int) := by
  have h1 := U_nonneg x; have h2 := U_lt x
  rw [Int.tdiv_eq_ediv_of_nonneg h1, show wrap64 (U x / 65536) = U x / 65536 by unfold wrap64; omega, Int.tmod_eq_emod_of_nonneg (by omega), Int.emod_emod_of_dvd _ (by decide)]
  exact div16 x
theorem f8' (x : BitVec 32) : (wrap64 ((U x).tdiv (256 : Int))).tmod (256 : Int) % (256 : Int) = ((lo8 (x >>> 8)).toNat : Int) := by
  have h1 := U_nonneg x; have h2 := U_lt x
  rw [Int.tdiv_eq_ediv_of_nonneg h1, show wrap64 (U x / 256) = U x / 256 by unfold wrap64; omega, Int.tmod_eq_emod_of_nonneg (by omega), Int.emod_emod_of_dvd _ (by decide)]
  exact div8 x
set_option maxRecDepth 100000 in
set_option maxHeartbeats 2000000 in
theorem RefEnd_ok (n : Nat) (hn : n ≤ 100000) (w : World) :
    Calls Tryd.prog 36 #[.int .i64 (n : Int)] w fun e w' => e = .returned (.tuple #[.string ⟨(endL n).toArray⟩, .int .i64 0]) ∧ Below w.heap.size w w' := by
  have z1 := hn
  go_enter Tryd.func36, Tryd.ntmps36
  go_wp2_with fail
  go_loopw [4] (fun v wr => ∃ j : Nat, j ≤ zN n ∧ v = .string (headB j) ∧ wr = w) (fun v _ => 100 - strSz v)
  case atStart => exact ⟨0, by omega, rfl, rfl⟩
  case round =>
    obtain ⟨j, hj, rfl, rfl⟩ := hrel
    have hz : zN n < 64 := by unfold zN; omega
    have hs := headB_size j
    obtain ⟨V, hV⟩ : ∃ V, headB j = V := ⟨_, rfl⟩
    rw [hV] at hs
    have HV := Lib.hid hV
    by_cases hlt : j < zN n
    · obtain ⟨zz, hzz⟩ : ∃ zz : Int, ((n : Int) + (V.size : Int) + 8) % 64 = zz := ⟨_, rfl⟩
      have hz0 : zz ≠ 0 := by unfold zN at hlt; omega
      rw [hV]
      clear hV
      go_wp2_with fail
      go_roundw
      case rel =>
        refine ⟨j + 1, by omega, ?_, by first | rfl | trivial⟩
        rw [← headB_succ, HV.out]
      case measure =>
        show 100 - (V ++ (⟨#[0]⟩ : ByteArray)).size < 100 - V.size
        rw [ByteArray.size_append, show (⟨#[0]⟩ : ByteArray).size = 1 from rfl]
        omega
    · obtain rfl : j = zN n := by omega
      have hz0 : ((n : Int) + (V.size : Int) + 8) % 64 = 0 := by unfold zN at hs; omega
      have hmx : ¬ 9223372036854775807 < V.size + 4 + 4 := by omega
      obtain ⟨x, hx⟩ : ∃ x, BitVec.ofNat 32 (8 * n) = x := ⟨_, rfl⟩
      have hU : 8 * (n : Int) = U x := by rw [← hx]; unfold U; rw [BitVec.toNat_ofNat, Nat.mod_eq_of_lt (by omega)]; omega
      have em : IntKind.i64.wrap (8 * (n : Int)) = U x := by rw [← hU, IntWalk.i64_left]; unfold wrap64; omega
      have hcv := cv4
      have hcvd := cv4d
      have f24 := f24' x
      have f16 := f16' x
      have f8 := f8' x
      have e0 := q0 x
      have hcat := end_cat n hn x hx.symm
      rw [hV] at hcat
      rw [hV]
      have HCAT := Lib.hid hcat
      clear hV hx hcat hU
      go_wp2
      exact bodyPost_ret (v := .tuple #[.string ⟨(endL n).toArray⟩, .int .i64 0]) (by simp [results, Tryd.results36, go_sem, HCAT.out]) rfl ⟨rfl, (Below.refl _ _).alloc (Nat.le_refl _) _⟩
theorem RefEnd_bad (n : Int) (hn : ¬ (0 ≤ n ∧ n ≤ 100000)) (w : World) :
    Calls Tryd.prog 36 #[.int .i64 n] w fun e w' => e = .returned (.tuple #[.string ⟨#[]⟩, .int .i64 20]) ∧ Below w.heap.size w w' := by
  by_cases h1 : n < 0
  · go_enter Tryd.func36, Tryd.ntmps36
    go_wp2
    exact bodyPost_ret (v := .tuple #[.string ⟨#[]⟩, .int .i64 20]) (by simp [results, Tryd.results36, go_sem]) rfl ⟨rfl, Below.refl _ _⟩
  · have h2 : 100000 < n := by omega
    go_enter Tryd.func36, Tryd.ntmps36
    go_wp2
    exact bodyPost_ret (v := .tuple #[.string ⟨#[]⟩, .int .i64 20]) (by simp [results, Tryd.results36, go_sem]) rfl ⟨rfl, Below.refl _ _⟩
end Go.Proofs.YthojdcmkajmdjaaDoor
