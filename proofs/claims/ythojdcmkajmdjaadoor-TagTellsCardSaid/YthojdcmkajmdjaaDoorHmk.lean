/- Keys with noughts behind them, and keys that are too long for a block, tag alike. Conditions: none; nothing of the program is run here. -/
import Derived.Test.YthojdcmkajmdjaaDoorJf
namespace Go.Proofs.YthojdcmkajmdjaaDoor
open Go.RowKit
open Rd Dg Hx
/-- some noughts -/
def nul (r : Nat) : ByteArray := ⟨(List.replicate r 0).toArray⟩
theorem nul_size (r : Nat) : (nul r).size = r := by show (List.replicate r (0 : UInt8)).toArray.size = r; simp
theorem bt_nul (k : ByteArray) (r i : Nat) : bt (k ++ nul r) i = bt k i := by
  have hl : k.data.toList.length = k.size := by rw [Array.length_toList]; rfl
  unfold bt
  rw [ByteArray.data_append, Array.toList_append, List.getD_eq_getElem?_getD, List.getD_eq_getElem?_getD]
  by_cases h : i < k.size
  · rw [List.getElem?_append_left (by omega)]
  · rw [List.getElem?_append_right (by omega), List.getElem?_eq_none (l := k.data.toList) (by omega)]
    show ((List.replicate r (0 : UInt8))[i - k.data.toList.length]?).getD 0 = _
    rw [List.getElem?_replicate]
    split <;> rfl
theorem padB_nul (k : ByteArray) (r : Nat) : padB (k ++ nul r) = padB k := by
  unfold padB
  exact List.map_congr_left fun i _ => bt_nul k r i
theorem hmac_nul (k : ByteArray) (r : Nat) (s : ByteArray) (h : k.size + r ≤ 64) : hmac (k ++ nul r) s = hmac k s := by
  have e1 : key64 (k ++ nul r) = k ++ nul r := by unfold key64; rw [if_neg (by rw [ByteArray.size_append, nul_size]; omega)]
  have e2 : key64 k = k := by unfold key64; rw [if_neg (by omega)]
  unfold hmac
  rw [e1, e2, padB_nul]
theorem hmac_sum (k s : ByteArray) (h : 64 < k.size) : hmac (dig k.data.toList) s = hmac k s := by
  have e2 : key64 k = dig k.data.toList := by unfold key64; rw [if_pos h]
  have e1 : key64 (dig k.data.toList) = dig k.data.toList := by unfold key64; rw [if_neg (by rw [dig_size]; omega)]
  unfold hmac
  rw [e1, e2]
theorem hmac_key (k s : ByteArray) (h : k.size ≤ 64) : hmac k s = dig ((padB k).map (· ^^^ 92) ++ (dig ((padB k).map (· ^^^ 54) ++ s.data.toList)).data.toList) := by
  have e2 : key64 k = k := by unfold key64; rw [if_neg (by omega)]
  unfold hmac
  rw [e2]
/-- a key's first bytes, each xor a number -/
def mixL (k : ByteArray) (m : UInt8) (t : Nat) : List UInt8 := (List.range t).map fun i => bt k i ^^^ m
theorem mixL_length (k : ByteArray) (m : UInt8) (t : Nat) : (mixL k m t).length = t := by simp [mixL]
theorem mixL_succ (k : ByteArray) (m : UInt8) (t : Nat) : mixL k m (t + 1) = mixL k m t ++ [bt k t ^^^ m] := by
  unfold mixL
  rw [List.range_succ, List.map_append]
  rfl
theorem mixL_all (k : ByteArray) (m : UInt8) : mixL k m 64 = (padB k).map (· ^^^ m) := by
  unfold mixL padB
  rw [List.map_map]
  rfl
/-- that, as a text -/
def mixT (k : ByteArray) (m : UInt8) (t : Nat) : ByteArray := ⟨(mixL k m t).toArray⟩
theorem mixT_zero (k : ByteArray) (m : UInt8) : mixT k m 0 = ⟨#[]⟩ := rfl
theorem mixT_list (k : ByteArray) (m : UInt8) (t : Nat) : (mixT k m t).data.toList = mixL k m t := rfl
theorem mixT_size (k : ByteArray) (m : UInt8) (t : Nat) : (mixT k m t).size = t := by show (mixL k m t).toArray.size = t; simp [mixL]
theorem mixT_succ (k : ByteArray) (m : UInt8) (t : Nat) : mixT k m t ++ ⟨#[bt k t ^^^ m]⟩ = mixT k m (t + 1) := by
  apply ByteArray.ext
  apply Array.toList_inj.1
  rw [ByteArray.data_append, Array.toList_append, mixT_list, mixT_list, mixL_succ]
end Go.Proofs.YthojdcmkajmdjaaDoor
