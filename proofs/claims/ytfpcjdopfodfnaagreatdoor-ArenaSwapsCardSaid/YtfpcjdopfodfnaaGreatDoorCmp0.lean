/- Which of two scalars is ahead is told by their kinds, numbers, texts, in this order. Conditions: none. -/
import Derived.Test.YtfpcjdopfodfnaaGreatDoorChecked
import Derived.Test.YtfpcjdopfodfnaaGreatDoorOrd
import Derived.Sort.Grow
import Derived.WalkKit
import Derived.Shelf.Abstract
import Derived.Lib.Hide
import Derived.Deep.QuietTactic
import Derived.BigQuiet
import Derived.Deep.RegionWith
import Derived.Deep.DeepCutAuto
import Derived.Laws.Rows
set_option maxRecDepth 100000
namespace Go.Proofs.YtfpcjdopfodfnaaGreatDoor
open Go.RowKit Go.Shelf Go.Sort
open Scs
/-- a scalar's cells -/
def encS (x : Sc) : List Value := [.int .i64 x.1, .int .i64 x.2.1, .string x.2.2]
def aggS (x : Sc) : Value := .agg #[.int .i64 x.1, .int .i64 x.2.1, .string x.2.2]
theorem less_dec (x : List UInt8) : ∀ y, Op.bytesLess x y = decide (x < y) := by
  induction x with
  | nil => intro y; cases y <;> simp [Op.bytesLess]
  | cons a t ih =>
    intro y
    cases y with
    | nil => simp [Op.bytesLess]
    | cons b u =>
      unfold Op.bytesLess
      rw [ih u]
      rcases Nat.lt_trichotomy a.toNat b.toNat with h | h | h
      · have h1 : a < b := h
        simp [List.cons_lt_cons_iff, h1]
      · have h1 : a = b := UInt8.toNat_inj.1 h
        subst h1
        simp
      · have h1 : ¬ a < b := fun c => by have : a.toNat < b.toNat := c; omega
        have h2 : ¬ a = b := fun c => by rw [c] at h; omega
        simp [List.cons_lt_cons_iff, h1, h2]
theorem less_ba (a b : ByteArray) : Op.bytesLess a.toList b.toList = decide (a.data.toList < b.data.toList) := by
  rw [ByteArray.toList_eq, ByteArray.toList_eq, less_dec]
theorem grow2 (w : World) (o1 o2 : Obj) : ∃ q os, (w.alloc o1).alloc o2 = grow (w.drewN q) os := ⟨0, #[o1] ++ #[o2], by rw [alloc_eq_grow, alloc_eq_grow, grow_grow]; rfl⟩
set_option maxHeartbeats 1000000 in
theorem ahead_any (x y : Sc) (w : World) : Calls Tryz.prog 38 #[aggS x, aggS y] w fun e w' => e = .returned (.bool (ltSc x y)) ∧ ∃ q os, w' = grow (w.drewN q) os := by
  unfold aggS
  obtain ⟨k, n, s⟩ := x
  obtain ⟨k2, n2, s2⟩ := y
  unfold ltSc
  simp only
  by_cases h1 : k = k2
  · rw [if_pos h1]
    by_cases h2 : n = n2
    · rw [if_pos h2, ← less_ba]
      have h1' : (k != k2) = false := by simp [h1]
      have h2' : (n != n2) = false := by simp [h2]
      go_enter Tryz.func38, Tryz.ntmps38
      go_wp2
      go_ret
      exact ⟨rfl, grow2 _ _ _⟩
    · rw [if_neg h2]
      have h1' : (k != k2) = false := by simp [h1]
      have h2' : (n != n2) = true := by simp [h2]
      go_enter Tryz.func38, Tryz.ntmps38
      go_wp2
      go_ret
      exact ⟨rfl, grow2 _ _ _⟩
  · rw [if_neg h1]
    have h1' : (k != k2) = true := by simp [h1]
    go_enter Tryz.func38, Tryz.ntmps38
    go_wp2
    go_ret
    exact ⟨rfl, grow2 _ _ _⟩
end Go.Proofs.YtfpcjdopfodfnaaGreatDoor
