/- The statements' own example holds. Conditions: the surroundings. The statements cut texts at one hundred bytes, and scalars' texts so. Conditions: none. -/
import Derived.Test.YtepelpmkmhhokaaGreatDoorAsx
import Derived.Test.YtepelpmkmhhokaaGreatDoorAux
import Derived.Deep.RegionWith
set_option maxRecDepth 100000
namespace Go.Proofs.YtepelpmkmhhokaaGreatDoor
open Go.RowKit Go.Shelf
open Scs
open Go.Sort (HoldsK)
def k0 : Sc := (3, 0, ⟨#[98]⟩)
def k1 : Sc := (2, 2, ⟨#[]⟩)
abbrev f0 (pk pd : Option Addr) : Fn := { k := 2, x := nullS, pk := pk, ck := 2, keys := #[k0, k1], pd := pd, cd := 2, kids := #[0, 1] }
abbrev f1 : Fn := { k := 0, x := (2, 5, ⟨#[]⟩), pk := none, ck := 0, keys := #[], pd := none, cd := 0, kids := #[] }
abbrev f2 (pd : Option Addr) : Fn := { k := 1, x := nullS, pk := none, ck := 0, keys := #[], pd := pd, cd := 1, kids := #[1] }
theorem chk0 (pk pd : Option Addr) : checkG 0 [f0 pk pd, f1] = (0, 0) := by kernel_rfl
theorem chk2 (pd : Option Addr) : checkG 0 [f2 pd] = (0, 70) := by kernel_rfl
theorem kid0 (pk pd : Option Addr) : kidsG #[f0 pk pd, f1] 0 = ([1, 0], 0) := by kernel_rfl
theorem kid2 (pk pd : Option Addr) : kidsG #[f0 pk pd, f1] 2 = ([], 2) := by kernel_rfl
theorem srt0 : sortSc [k0, k1] = [k1, k0] := (sort_unique (l := [k1, k0]) (m := [k0, k1]) (List.Perm.swap _ _ _) (by
  have h : leSc k1 k0 = true := by decide +kernel
  simp [h])).symm
theorem key0 (pk pd : Option Addr) : keysG #[f0 pk pd, f1] 0 = ([k1, k0], 0) := by
  have h : keysG #[f0 pk pd, f1] 0 = (sortSc [k0, k1], 0) := by kernel_rfl
  rw [h, srt0]
theorem sam0 (pk pd : Option Addr) : sameG 0 0 #[f0 pk pd, f1] #[f0 pk pd, f1] = true := by kernel_rfl
theorem holdsK_of_row {α : Type} [Inhabited α] {enc : α → List Value} {k : Nat} {W : World} {b : Nat} {cs : Array Value} {T : TypeId} {d : Array α} (h : W.heap[b]? = some (.cells cs T (0, 0)))
    (hc : ∀ j, j < d.size * k → cs[j]? = some ((enc d[j / k]!)[j % k]!)) : HoldsK enc k W b 0 d := by
  intro j hj
  rw [Go.Sort.size_flatK] at hj
  rw [Go.Sort.get_flatK _ _ _ _ hj]
  exact ⟨by rw [cell_of_row _ _ _ _ _ _ h, Nat.zero_add]; exact hc j hj, frozen_of_row _ _ _ _ _ h⟩
theorem lt12 {j : Nat} (h : j < 12) : j = 0 ∨ j = 1 ∨ j = 2 ∨ j = 3 ∨ j = 4 ∨ j = 5 ∨ j = 6 ∨ j = 7 ∨ j = 8 ∨ j = 9 ∨ j = 10 ∨ j = 11 := by omega
theorem lt6 {j : Nat} (h : j < 6) : j = 0 ∨ j = 1 ∨ j = 2 ∨ j = 3 ∨ j = 4 ∨ j = 5 := by omega
/-- the example's graph lies -/
theorem graph0 (w W : World) (_hb : Below w.heap.size w W) (hz : w.heap.size + 3 ≤ W.heap.size)
    (h0 : W.heap[w.heap.size]? = some (.cells #[.int .i64 3, .int .i64 0, .string ⟨#[98]⟩, .int .i64 2, .int .i64 2, .string ⟨#[]⟩] 48 (0, 0)))
    (h1 : W.heap[w.heap.size + 1]? = some (.cells #[.int .i64 0, .int .i64 1] 3 (0, 0)))
    (h2 : W.heap[w.heap.size + 2]? = some (.cells #[.int .i64 2, .int .i64 0, .int .i64 0, .string ⟨#[]⟩, .slice (some ⟨w.heap.size, 0, none⟩) 2 2, .slice (some ⟨w.heap.size + 1, 0, none⟩) 2 2, .int .i64 0, .int .i64 2, .int .i64 5, .string ⟨#[]⟩, .slice none 0 0, .slice none 0 0] 51 (0, 0))) :
    Gl W (some ⟨w.heap.size + 2, 0, none⟩) #[f0 (some ⟨w.heap.size, 0, none⟩) (some ⟨w.heap.size + 1, 0, none⟩), f1] := by
  refine ⟨by simp, fun t ht => ?_, .inr ⟨_, 0, rfl, by omega, holdsK_of_row h2 fun j hj => ?_⟩⟩
  · have ht2 : t < 2 := ht
    obtain rfl | rfl : t = 0 ∨ t = 1 := by omega
    · refine ⟨of_decide_eq_true (by kernel_rfl), ⟨of_decide_eq_true (by kernel_rfl), fun j hj => ?_, .inr ⟨_, 0, rfl, by omega, holdsK_of_row h0 fun j hj => ?_⟩⟩, ⟨of_decide_eq_true (by kernel_rfl), .inr ⟨_, 0, rfl, by omega, fun j hj => ?_⟩⟩⟩
      · have hj2 : j < 2 := hj
        obtain rfl | rfl : j = 0 ∨ j = 1 := by omega
        · exact of_decide_eq_true (by kernel_rfl)
        · exact of_decide_eq_true (by kernel_rfl)
      · obtain rfl | rfl | rfl | rfl | rfl | rfl := lt6 hj <;> rfl
      · have hj2 : j < 2 := hj
        rw [cell_of_row _ _ _ _ _ _ h1, Nat.zero_add]
        obtain rfl | rfl : j = 0 ∨ j = 1 := by omega
        · rfl
        · rfl
    · exact ⟨of_decide_eq_true (by kernel_rfl), Sl.nil _ _, Il.nil _ _⟩
  · obtain rfl | rfl | rfl | rfl | rfl | rfl | rfl | rfl | rfl | rfl | rfl | rfl := lt12 hj <;> rfl
theorem graph2 (_w W : World) (b b' : Nat) (hz : b < W.heap.size) (hz' : b' < W.heap.size)
    (h1 : W.heap[b]? = some (.cells #[.int .i64 1] 3 (0, 0)))
    (h2 : W.heap[b']? = some (.cells #[.int .i64 1, .int .i64 0, .int .i64 0, .string ⟨#[]⟩, .slice none 0 0, .slice (some ⟨b, 0, none⟩) 1 1] 51 (0, 0))) :
    Gl W (some ⟨b', 0, none⟩) #[f2 (some ⟨b, 0, none⟩)] := by
  refine ⟨by simp, fun t ht => ?_, .inr ⟨_, 0, rfl, hz', holdsK_of_row h2 fun j hj => ?_⟩⟩
  · have ht2 : t < 1 := ht
    obtain rfl : t = 0 := by omega
    refine ⟨of_decide_eq_true (by kernel_rfl), Sl.nil _ _, ⟨of_decide_eq_true (by kernel_rfl), .inr ⟨_, 0, rfl, hz, fun j hj => ?_⟩⟩⟩
    have hj2 : j < 1 := hj
    rw [cell_of_row _ _ _ _ _ _ h1, Nat.zero_add]
    obtain rfl : j = 0 := by omega
    rfl
  · obtain rfl | rfl | rfl | rfl | rfl | rfl := lt6 hj <;> rfl
theorem at4 (w : World) (o0 o1 o2 o3 : Obj) : ∃ W, ((((w.alloc o0).alloc o1).alloc o2).alloc o3) = W ∧ W.heap.size = w.heap.size + 4 ∧ Below w.heap.size w W ∧
    W.heap[w.heap.size]? = some o0 ∧ W.heap[w.heap.size + 1]? = some o1 ∧ W.heap[w.heap.size + 2]? = some o2 ∧ W.heap[w.heap.size + 3]? = some o3 := by
  refine ⟨_, rfl, by simp, (((((Below.refl _ w).alloc (Nat.le_refl _) _).alloc (by simp) _).alloc (by simp; omega) _).alloc (by simp; omega) _), ?_, ?_, ?_, ?_⟩
  · rw [Below.heap_alloc _ _ _ (by first | (simp; done) | (simp; omega)), Below.heap_alloc _ _ _ (by first | (simp; done) | (simp; omega)), Below.heap_alloc _ _ _ (by simp)]
    exact heap_alloc_new w o0
  · rw [Below.heap_alloc _ _ _ (by first | (simp; done) | (simp; omega)), Below.heap_alloc _ _ _ (by simp)]
    have h := heap_alloc_new (w.alloc o0) o1
    rwa [World.size_alloc] at h
  · rw [Below.heap_alloc _ _ _ (by simp)]
    have h := heap_alloc_new ((w.alloc o0).alloc o1) o2
    rwa [World.size_alloc, World.size_alloc] at h
  · have h := heap_alloc_new (((w.alloc o0).alloc o1).alloc o2) o3
    rwa [World.size_alloc, World.size_alloc, World.size_alloc] at h
end Go.Proofs.YtepelpmkmhhokaaGreatDoor

set_option maxRecDepth 100000
namespace Go.Proofs.YtepelpmkmhhokaaGreatDoor
open Go.RowKit Go.Shelf
open Scs
def cutT (s : ByteArray) : ByteArray := if 100 < s.size then s.extract 0 100 else s
theorem cutT_size (s : ByteArray) : (cutT s).size ≤ 100 := by
  unfold cutT
  split
  · simp [ByteArray.size_extract]; omega
  · omega
theorem cut_any (s : ByteArray) (w : World) :
    Calls Tryz.prog 60 #[.string s] w fun e w' => e = .returned (.string (cutT s)) ∧ w = w' := by
  by_cases h : 100 < s.size
  · have h1 : min (s.size : Int) 100 = 100 := by omega
    have h2 : (100 : Int) ≤ (s.size : Int) := by omega
    have e : cutT s = s.extract 0 100 := by unfold cutT; rw [if_pos h]
    rw [e]
    go_enter Tryz.func60, Tryz.ntmps60
    go_wp2
    go_ret
    exact ⟨rfl, rfl⟩
  · have h1 : min (s.size : Int) 100 = (s.size : Int) := by omega
    have e : cutT s = s.extract 0 s.size := by
      unfold cutT
      rw [if_neg h]
      exact (ByteArray.extract_zero_size).symm
    rw [e, ByteArray.extract_zero_size]
    go_enter Tryz.func60, Tryz.ntmps60
    go_wp2
    go_ret
    exact ⟨rfl, rfl⟩
def cutS (x : Sc) : Sc := (x.1, x.2.1, cutT x.2.2)
set_option maxHeartbeats 2000000 in
theorem Cut_exact (x : Sc) (w : World) : Calls Tryz.prog 40 #[aggS x] w fun e w' => e = .returned (aggS (cutS x)) ∧ w' = ((w.alloc (.cells #[.int .i64 x.1, .int .i64 x.2.1, .string x.2.2] 48)).alloc (.cells #[.int .i64 x.1, .int .i64 x.2.1, .string (cutT x.2.2)] 48)).drew := by
  have hC := fun w => cut_any x.2.2 w
  obtain ⟨k, n, s⟩ := x
  unfold aggS cutS
  simp only at hC ⊢
  obtain ⟨S, hS⟩ : ∃ S, cutT s = S := ⟨_, rfl⟩
  rw [hS] at hC ⊢
  have HC := Lib.hid hC
  clear hC hS
  go_enter Tryz.func40, Tryz.ntmps40
  go_upto_region 1 with (fail)
  go_region_with (first | ((with_reducible refine (HC.out _).mono ?_); rintro e wq ⟨rfl, rfl⟩))
  all_goals
    have hr : (((w.alloc (.cells #[.int .i64 k, .int .i64 n, .string s] 48)).alloc (.cells #[.int .i64 k, .int .i64 n, .string S] 48)).drew).heap[w.heap.size + 1]? = some (.cells #[.int .i64 k, .int .i64 n, .string S] 48 (0, 0)) := by
      have h := heap_alloc_new (w.alloc (.cells #[.int .i64 k, .int .i64 n, .string s] 48)) (.cells #[.int .i64 k, .int .i64 n, .string S] 48)
      rwa [World.size_alloc] at h
    obtain ⟨wy, hwy⟩ : ∃ wy, (((w.alloc (.cells #[.int .i64 k, .int .i64 n, .string s] 48)).alloc (.cells #[.int .i64 k, .int .i64 n, .string S] 48)).drew) = wy := ⟨_, rfl⟩
    rw [hwy] at hr ⊢
    have HWY := Lib.hid hwy
    clear hwy
    have r0 := cell_of_row _ _ 0 _ _ _ hr
    have r1 := cell_of_row _ _ 1 _ _ _ hr
    have r2 := cell_of_row _ _ 2 _ _ _ hr
    go_wp2
    exact bodyPost_ret (v := .agg #[.int .i64 k, .int .i64 n, .string S]) (by simp [results, Tryz.results40, go_sem, r0, r1, r2]) rfl ⟨rfl, HWY.out.symm⟩
theorem Cut_any (x : Sc) (w : World) : Calls Tryz.prog 40 #[aggS x] w fun e w' => e = .returned (aggS (cutS x)) ∧ Below w.heap.size w w' :=
  (Cut_exact x w).mono fun _ _ ⟨he, hw⟩ => ⟨he, by rw [hw]; exact (((Below.refl _ w).alloc (Nat.le_refl _) _).alloc (by simp) _).drew⟩
end Go.Proofs.YtepelpmkmhhokaaGreatDoor
