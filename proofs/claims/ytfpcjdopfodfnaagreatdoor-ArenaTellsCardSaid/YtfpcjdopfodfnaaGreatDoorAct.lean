/- The statements cut texts at one hundred bytes, and scalars' texts so. Conditions: none. -/
import Derived.Test.YtfpcjdopfodfnaaGreatDoorAsx
import Derived.Deep.RegionWith
set_option maxRecDepth 100000
namespace Go.Proofs.YtfpcjdopfodfnaaGreatDoor
open Go.RowKit Go.Shelf
open Scs
def cutT (s : ByteArray) : ByteArray := if 100 < s.size then s.extract 0 100 else s
theorem cutT_size (s : ByteArray) : (cutT s).size ≤ 100 := by
  unfold cutT
  split
  · simp [ByteArray.size_extract]; omega
  · omega
theorem cut_any (s : ByteArray) (w : World) :
    Calls Tryz.prog 25 #[.string s] w fun e w' => e = .returned (.string (cutT s)) ∧ w = w' := by
  by_cases h : 100 < s.size
  · have h1 : min (s.size : Int) 100 = 100 := by omega
    have h2 : (100 : Int) ≤ (s.size : Int) := by omega
    have e : cutT s = s.extract 0 100 := by unfold cutT; rw [if_pos h]
    rw [e]
    go_enter Tryz.func25, Tryz.ntmps25
    go_wp2
    go_ret
    exact ⟨rfl, rfl⟩
  · have h1 : min (s.size : Int) 100 = (s.size : Int) := by omega
    have e : cutT s = s.extract 0 s.size := by
      unfold cutT
      rw [if_neg h]
      exact (ByteArray.extract_zero_size).symm
    rw [e, ByteArray.extract_zero_size]
    go_enter Tryz.func25, Tryz.ntmps25
    go_wp2
    go_ret
    exact ⟨rfl, rfl⟩
def cutS (x : Sc) : Sc := (x.1, x.2.1, cutT x.2.2)
set_option maxHeartbeats 2000000 in
theorem Cut_exact (x : Sc) (w : World) : Calls Tryz.prog 11 #[aggS x] w fun e w' => e = .returned (aggS (cutS x)) ∧ w' = ((w.alloc (.cells #[.int .i64 x.1, .int .i64 x.2.1, .string x.2.2] 26)).alloc (.cells #[.int .i64 x.1, .int .i64 x.2.1, .string (cutT x.2.2)] 26)).drew := by
  have hC := fun w => cut_any x.2.2 w
  obtain ⟨k, n, s⟩ := x
  unfold aggS cutS
  simp only at hC ⊢
  obtain ⟨S, hS⟩ : ∃ S, cutT s = S := ⟨_, rfl⟩
  rw [hS] at hC ⊢
  have HC := Lib.hid hC
  clear hC hS
  go_enter Tryz.func11, Tryz.ntmps11
  go_upto_region 1 with (fail)
  go_region_with (first | ((with_reducible refine (HC.out _).mono ?_); rintro e wq ⟨rfl, rfl⟩))
  all_goals
    have hr : (((w.alloc (.cells #[.int .i64 k, .int .i64 n, .string s] 26)).alloc (.cells #[.int .i64 k, .int .i64 n, .string S] 26)).drew).heap[w.heap.size + 1]? = some (.cells #[.int .i64 k, .int .i64 n, .string S] 26 (0, 0)) := by
      have h := heap_alloc_new (w.alloc (.cells #[.int .i64 k, .int .i64 n, .string s] 26)) (.cells #[.int .i64 k, .int .i64 n, .string S] 26)
      rwa [World.size_alloc] at h
    obtain ⟨wy, hwy⟩ : ∃ wy, (((w.alloc (.cells #[.int .i64 k, .int .i64 n, .string s] 26)).alloc (.cells #[.int .i64 k, .int .i64 n, .string S] 26)).drew) = wy := ⟨_, rfl⟩
    rw [hwy] at hr ⊢
    have HWY := Lib.hid hwy
    clear hwy
    have r0 := cell_of_row _ _ 0 _ _ _ hr
    have r1 := cell_of_row _ _ 1 _ _ _ hr
    have r2 := cell_of_row _ _ 2 _ _ _ hr
    go_wp2
    exact bodyPost_ret (v := .agg #[.int .i64 k, .int .i64 n, .string S]) (by simp [results, Tryz.results11, go_sem, r0, r1, r2]) rfl ⟨rfl, HWY.out.symm⟩
theorem Cut_any (x : Sc) (w : World) : Calls Tryz.prog 11 #[aggS x] w fun e w' => e = .returned (aggS (cutS x)) ∧ Below w.heap.size w w' :=
  (Cut_exact x w).mono fun _ _ ⟨he, hw⟩ => ⟨he, by rw [hw]; exact (((Below.refl _ w).alloc (Nat.le_refl _) _).alloc (by simp) _).drew⟩
end Go.Proofs.YtfpcjdopfodfnaaGreatDoor
