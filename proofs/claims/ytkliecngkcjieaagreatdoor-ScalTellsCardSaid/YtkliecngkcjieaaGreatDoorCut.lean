/- The statements cut texts at one hundred bytes, and scalars' texts so. Conditions: none. -/
import Derived.Test.YtkliecngkcjieaaGreatDoorSho
import Derived.Deep.RegionWith
set_option maxRecDepth 100000
namespace Go.Proofs.YtkliecngkcjieaaGreatDoor
open Go.RowKit Go.Shelf
open Scs
def cutT (s : ByteArray) : ByteArray := if 100 < s.size then s.extract 0 100 else s
theorem cutT_size (s : ByteArray) : (cutT s).size ≤ 100 := by
  unfold cutT
  split
  · simp [ByteArray.size_extract]; omega
  · omega
theorem cut_any (s : ByteArray) (w : World) :
    Calls Tryz.prog 13 #[.string s] w fun e w' => e = .returned (.string (cutT s)) ∧ w = w' := by
  by_cases h : 100 < s.size
  · have h1 : min (s.size : Int) 100 = 100 := by omega
    have h2 : (100 : Int) ≤ (s.size : Int) := by omega
    have e : cutT s = s.extract 0 100 := by unfold cutT; rw [if_pos h]
    rw [e]
    go_enter Tryz.func13, Tryz.ntmps13
    go_wp2
    go_ret
    exact ⟨rfl, rfl⟩
  · have h1 : min (s.size : Int) 100 = (s.size : Int) := by omega
    have e : cutT s = s.extract 0 s.size := by
      unfold cutT
      rw [if_neg h]
      exact (ByteArray.extract_zero_size).symm
    rw [e, ByteArray.extract_zero_size]
    go_enter Tryz.func13, Tryz.ntmps13
    go_wp2
    go_ret
    exact ⟨rfl, rfl⟩
def cutS (x : Sc) : Sc := (x.1, x.2.1, cutT x.2.2)
set_option maxHeartbeats 2000000 in
theorem Cut_any (x : Sc) (w : World) : Calls Tryz.prog 12 #[aggS x] w fun e w' => e = .returned (aggS (cutS x)) ∧ Below w.heap.size w w' := by
  have hC := fun w => cut_any x.2.2 w
  obtain ⟨k, n, s⟩ := x
  unfold aggS cutS
  simp only at hC ⊢
  obtain ⟨S, hS⟩ : ∃ S, cutT s = S := ⟨_, rfl⟩
  rw [hS] at hC ⊢
  have HC := Lib.hid hC
  clear hC hS
  go_enter Tryz.func12, Tryz.ntmps12
  go_upto_region 1 with (fail)
  go_region_with (first | ((with_reducible refine (HC.out _).mono ?_); rintro e wq ⟨rfl, rfl⟩))
  all_goals
    have hb : Below w.heap.size w (((w.alloc (.cells #[.int .i64 k, .int .i64 n, .string s] 23)).alloc (.cells #[.int .i64 k, .int .i64 n, .string S] 23)).drew) := (((Below.refl _ w).alloc (Nat.le_refl _) _).alloc (by simp) _).drew
    have hr : (((w.alloc (.cells #[.int .i64 k, .int .i64 n, .string s] 23)).alloc (.cells #[.int .i64 k, .int .i64 n, .string S] 23)).drew).heap[w.heap.size + 1]? = some (.cells #[.int .i64 k, .int .i64 n, .string S] 23 (0, 0)) := by
      have h := heap_alloc_new (w.alloc (.cells #[.int .i64 k, .int .i64 n, .string s] 23)) (.cells #[.int .i64 k, .int .i64 n, .string S] 23)
      rwa [World.size_alloc] at h
    generalize (((w.alloc (.cells #[.int .i64 k, .int .i64 n, .string s] 23)).alloc (.cells #[.int .i64 k, .int .i64 n, .string S] 23)).drew) = wy at hb hr ⊢
    have r0 := cell_of_row _ _ 0 _ _ _ hr
    have r1 := cell_of_row _ _ 1 _ _ _ hr
    have r2 := cell_of_row _ _ 2 _ _ _ hr
    go_wp2
    exact bodyPost_ret (v := .agg #[.int .i64 k, .int .i64 n, .string S]) (by simp [results, Tryz.results12, go_sem, r0, r1, r2]) rfl ⟨rfl, hb⟩
end Go.Proofs.YtkliecngkcjieaaGreatDoor
