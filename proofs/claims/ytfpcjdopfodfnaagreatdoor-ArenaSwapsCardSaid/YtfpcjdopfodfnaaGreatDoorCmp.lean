/- Scalars are compared as the document tells. Conditions: none. -/
import Derived.Test.YtfpcjdopfodfnaaGreatDoorEsc
set_option maxRecDepth 100000
namespace Go.Proofs.YtfpcjdopfodfnaaGreatDoor
open Go.RowKit Go.Shelf Go.Sort
open Scs
theorem grow3 (w : World) (o1 o2 : Obj) (q : Nat) (os : Array Obj) : ∃ p xs, grow (((w.alloc o1).alloc o2).drewN q) os = grow (w.drewN p) xs :=
  ⟨q, #[o1] ++ #[o2] ++ os, by
    rw [alloc_eq_grow, alloc_eq_grow, grow_grow, show (grow w (#[o1] ++ #[o2])).drewN q = grow (w.drewN q) (#[o1] ++ #[o2]) from rfl, grow_grow]⟩
set_option maxHeartbeats 1000000 in
theorem Compare_any (x y : Sc) (w : World) : Calls Tryz.prog 24 #[aggS x, aggS y] w fun e w' => e = .returned (.int .i64 (cmpSc x y)) ∧ ∃ q os, w' = grow (w.drewN q) os := by
  have hA := fun w => ahead_any x y w
  obtain ⟨k, n, s⟩ := x
  obtain ⟨k2, n2, s2⟩ := y
  have hq := fun w => equal_sc k n s k2 n2 s2 w
  rw [sameB_iff] at hq
  unfold cmpSc
  by_cases h : ((k, n, s) : Sc) = (k2, n2, s2)
  · rw [if_pos h]
    rw [decide_eq_true h] at hq
    clear hA h
    unfold aggS
    go_enter Tryz.func24, Tryz.ntmps24
    go_wp2_with fail
    go_ret
    exact ⟨rfl, grow2 _ _ _⟩
  · rw [if_neg h]
    rw [decide_eq_false h] at hq
    obtain ⟨R, hR⟩ : ∃ R, ltSc (k, n, s) (k2, n2, s2) = R := ⟨_, rfl⟩
    rw [hR] at hA ⊢
    have HA := Lib.hid hA
    clear hA h hR
    unfold aggS
    cases R
    · go_enter Tryz.func24, Tryz.ntmps24
      go_wp2_with fail
      refine (HA.out _).mono ?_
      rintro e w1 ⟨rfl, q1, os1, rfl⟩
      go_wp2_with fail
      go_ret
      exact ⟨rfl, grow3 _ _ _ _ _⟩
    · go_enter Tryz.func24, Tryz.ntmps24
      go_wp2_with fail
      refine (HA.out _).mono ?_
      rintro e w1 ⟨rfl, q1, os1, rfl⟩
      go_wp2_with fail
      go_ret
      exact ⟨rfl, grow3 _ _ _ _ _⟩
theorem below_grow (w : World) (q : Nat) (os : Array Obj) : Below w.heap.size w (grow (w.drewN q) os) :=
  ⟨rfl, rfl, rfl, by show w.heap.size ≤ (w.heap ++ os).size; rw [Array.size_append]; omega, fun k hk => by show (w.heap ++ os)[k]? = _; rw [Array.getElem?_append_left hk]⟩
theorem Compare_below (x y : Sc) (w : World) : Calls Tryz.prog 24 #[aggS x, aggS y] w fun e w' => e = .returned (.int .i64 (cmpSc x y)) ∧ Below w.heap.size w w' :=
  (Compare_any x y w).mono fun _ _ ⟨he, q, os, hw⟩ => ⟨he, by rw [hw]; exact below_grow w q os⟩
end Go.Proofs.YtfpcjdopfodfnaaGreatDoor
