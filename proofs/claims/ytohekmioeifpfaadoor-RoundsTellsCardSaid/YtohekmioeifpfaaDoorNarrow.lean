/- Eight numbers are narrowed to words just if each of them is one, and are refused otherwise. Conditions: the marks lie as the initialisation lays them. -/
import Derived.Test.YtohekmioeifpfaaDoorRows
import Derived.Test.YtohekmioeifpfaaDoorNum
import Derived.WalkKit
import Derived.WalkLawsBesides
import Derived.WalkSpells
import Derived.Outline
import Derived.Deep.QuietTactic
import Derived.BigQuiet
import Derived.Deep.RegionHeld3
import Derived.Deep.RegionWith
import Derived.Deep.DrawnRows
import Derived.RegionTactic
import Derived.ChangeAlike
namespace Go.Proofs.YtohekmioeifpfaaDoor
open Go.RowKit
open Rd

section
attribute [local go_sem] mod_U wrap64_U
/-- 'narrow', of words -/
theorem narrow_ok (a b c d e f g h : BitVec 32) (w : World) :
    Calls Tryd.prog 27 #[.agg #[.int .i64 (U a), .int .i64 (U b), .int .i64 (U c), .int .i64 (U d), .int .i64 (U e), .int .i64 (U f), .int .i64 (U g), .int .i64 (U h)]] w fun en w' => en = .returned (.tuple #[.agg #[.int .u32 (U a), .int .u32 (U b), .int .u32 (U c), .int .u32 (U d), .int .u32 (U e), .int .u32 (U f), .int .u32 (U g), .int .u32 (U h)], .nilIface]) ∧ Below w.heap.size w w' := by
  have i0 : ∀ w, (Instr.index 23 (.agg #[.int .i64 (U a), .int .i64 (U b), .int .i64 (U c), .int .i64 (U d), .int .i64 (U e), .int .i64 (U f), .int .i64 (U g), .int .i64 (U h)]) (.int .i64 0)).run Tryd.prog w = .ok (.int .i64 (U a)) w := fun _ => by kernel_rfl
  have i1 : ∀ w, (Instr.index 23 (.agg #[.int .i64 (U a), .int .i64 (U b), .int .i64 (U c), .int .i64 (U d), .int .i64 (U e), .int .i64 (U f), .int .i64 (U g), .int .i64 (U h)]) (.int .i64 1)).run Tryd.prog w = .ok (.int .i64 (U b)) w := fun _ => by kernel_rfl
  have i2 : ∀ w, (Instr.index 23 (.agg #[.int .i64 (U a), .int .i64 (U b), .int .i64 (U c), .int .i64 (U d), .int .i64 (U e), .int .i64 (U f), .int .i64 (U g), .int .i64 (U h)]) (.int .i64 2)).run Tryd.prog w = .ok (.int .i64 (U c)) w := fun _ => by kernel_rfl
  have i3 : ∀ w, (Instr.index 23 (.agg #[.int .i64 (U a), .int .i64 (U b), .int .i64 (U c), .int .i64 (U d), .int .i64 (U e), .int .i64 (U f), .int .i64 (U g), .int .i64 (U h)]) (.int .i64 3)).run Tryd.prog w = .ok (.int .i64 (U d)) w := fun _ => by kernel_rfl
  have i4 : ∀ w, (Instr.index 23 (.agg #[.int .i64 (U a), .int .i64 (U b), .int .i64 (U c), .int .i64 (U d), .int .i64 (U e), .int .i64 (U f), .int .i64 (U g), .int .i64 (U h)]) (.int .i64 4)).run Tryd.prog w = .ok (.int .i64 (U e)) w := fun _ => by kernel_rfl
  have i5 : ∀ w, (Instr.index 23 (.agg #[.int .i64 (U a), .int .i64 (U b), .int .i64 (U c), .int .i64 (U d), .int .i64 (U e), .int .i64 (U f), .int .i64 (U g), .int .i64 (U h)]) (.int .i64 5)).run Tryd.prog w = .ok (.int .i64 (U f)) w := fun _ => by kernel_rfl
  have i6 : ∀ w, (Instr.index 23 (.agg #[.int .i64 (U a), .int .i64 (U b), .int .i64 (U c), .int .i64 (U d), .int .i64 (U e), .int .i64 (U f), .int .i64 (U g), .int .i64 (U h)]) (.int .i64 6)).run Tryd.prog w = .ok (.int .i64 (U g)) w := fun _ => by kernel_rfl
  have i7 : ∀ w, (Instr.index 23 (.agg #[.int .i64 (U a), .int .i64 (U b), .int .i64 (U c), .int .i64 (U d), .int .i64 (U e), .int .i64 (U f), .int .i64 (U g), .int .i64 (U h)]) (.int .i64 7)).run Tryd.prog w = .ok (.int .i64 (U h)) w := fun _ => by kernel_rfl
  have heq := fun w => eq8 (U a) (U b) (U c) (U d) (U e) (U f) (U g) (U h) (U a) (U b) (U c) (U d) (U e) (U f) (U g) (U h) w
  simp only [beq_self_eq_true, Bool.and_self] at heq
  go_enter Tryd.func27, Tryd.ntmps27
  go_wp2
  refine wp_loop_rounds 9 ?_
  iterate 9 (rw [rounds_succ]; go_wp2)
  go_region_with (first | (go_at_call 30; refine (wide_any _ _ _ _ _ _ _ _ _).mono ?_; rintro e w' ⟨rfl, rfl⟩))
  all_goals go_wp2
  all_goals
    refine bodyPost_ret (v := .tuple #[.agg #[.int .u32 (U a), .int .u32 (U b), .int .u32 (U c), .int .u32 (U d), .int .u32 (U e), .int .u32 (U f), .int .u32 (U g), .int .u32 (U h)], .nilIface]) (by simp [results, Tryd.results27, go_sem]) rfl ⟨rfl, ?_⟩
    repeat (first | exact Below.refl _ _ | apply Below.drew | refine Below.alloc ?_ (by simp; try omega) _)
end
section
attribute [local go_sem] mod_ofInt wrap64_U
set_option maxHeartbeats 1000000 in
/-- 'narrow', where one is no word -/
theorem narrow_bad (x0 x1 x2 x3 x4 x5 x6 x7 : Int) (hne : (U (BitVec.ofInt 32 x0) == x0 && (U (BitVec.ofInt 32 x1) == x1 && (U (BitVec.ofInt 32 x2) == x2 && (U (BitVec.ofInt 32 x3) == x3 && (U (BitVec.ofInt 32 x4) == x4 && (U (BitVec.ofInt 32 x5) == x5 && (U (BitVec.ofInt 32 x6) == x6 && (U (BitVec.ofInt 32 x7) == x7)))))))) = false) {a0 a1 : Addr} {B : Nat} (w : World) (L : Laid a0 a1 B w) :
    Calls Tryd.prog 27 #[.agg #[.int .i64 x0, .int .i64 x1, .int .i64 x2, .int .i64 x3, .int .i64 x4, .int .i64 x5, .int .i64 x6, .int .i64 x7]] w fun en w' => en = .returned (.tuple #[.agg #[.int .u32 0, .int .u32 0, .int .u32 0, .int .u32 0, .int .u32 0, .int .u32 0, .int .u32 0, .int .u32 0], .iface 93 (.pointer (some a1))]) ∧ Below w.heap.size w w' := by
  have hc := L.ew
  have hz : 0 < w.heap.size := by have := L.bw; have := L.b3; omega
  have hz2 : 2 < w.heap.size := by have := L.bw; have := L.b3; omega
  clear L
  have i0 : ∀ w, (Instr.index 23 (.agg #[.int .i64 x0, .int .i64 x1, .int .i64 x2, .int .i64 x3, .int .i64 x4, .int .i64 x5, .int .i64 x6, .int .i64 x7]) (.int .i64 0)).run Tryd.prog w = .ok (.int .i64 x0) w := fun _ => by kernel_rfl
  have i1 : ∀ w, (Instr.index 23 (.agg #[.int .i64 x0, .int .i64 x1, .int .i64 x2, .int .i64 x3, .int .i64 x4, .int .i64 x5, .int .i64 x6, .int .i64 x7]) (.int .i64 1)).run Tryd.prog w = .ok (.int .i64 x1) w := fun _ => by kernel_rfl
  have i2 : ∀ w, (Instr.index 23 (.agg #[.int .i64 x0, .int .i64 x1, .int .i64 x2, .int .i64 x3, .int .i64 x4, .int .i64 x5, .int .i64 x6, .int .i64 x7]) (.int .i64 2)).run Tryd.prog w = .ok (.int .i64 x2) w := fun _ => by kernel_rfl
  have i3 : ∀ w, (Instr.index 23 (.agg #[.int .i64 x0, .int .i64 x1, .int .i64 x2, .int .i64 x3, .int .i64 x4, .int .i64 x5, .int .i64 x6, .int .i64 x7]) (.int .i64 3)).run Tryd.prog w = .ok (.int .i64 x3) w := fun _ => by kernel_rfl
  have i4 : ∀ w, (Instr.index 23 (.agg #[.int .i64 x0, .int .i64 x1, .int .i64 x2, .int .i64 x3, .int .i64 x4, .int .i64 x5, .int .i64 x6, .int .i64 x7]) (.int .i64 4)).run Tryd.prog w = .ok (.int .i64 x4) w := fun _ => by kernel_rfl
  have i5 : ∀ w, (Instr.index 23 (.agg #[.int .i64 x0, .int .i64 x1, .int .i64 x2, .int .i64 x3, .int .i64 x4, .int .i64 x5, .int .i64 x6, .int .i64 x7]) (.int .i64 5)).run Tryd.prog w = .ok (.int .i64 x5) w := fun _ => by kernel_rfl
  have i6 : ∀ w, (Instr.index 23 (.agg #[.int .i64 x0, .int .i64 x1, .int .i64 x2, .int .i64 x3, .int .i64 x4, .int .i64 x5, .int .i64 x6, .int .i64 x7]) (.int .i64 6)).run Tryd.prog w = .ok (.int .i64 x6) w := fun _ => by kernel_rfl
  have i7 : ∀ w, (Instr.index 23 (.agg #[.int .i64 x0, .int .i64 x1, .int .i64 x2, .int .i64 x3, .int .i64 x4, .int .i64 x5, .int .i64 x6, .int .i64 x7]) (.int .i64 7)).run Tryd.prog w = .ok (.int .i64 x7) w := fun _ => by kernel_rfl
  have heq := fun w => eq8 (U (BitVec.ofInt 32 x0)) (U (BitVec.ofInt 32 x1)) (U (BitVec.ofInt 32 x2)) (U (BitVec.ofInt 32 x3)) (U (BitVec.ofInt 32 x4)) (U (BitVec.ofInt 32 x5)) (U (BitVec.ofInt 32 x6)) (U (BitVec.ofInt 32 x7)) x0 x1 x2 x3 x4 x5 x6 x7 w
  rw [hne] at heq
  clear hne
  go_enter Tryd.func27, Tryd.ntmps27
  go_wp2
  refine wp_loop_rounds 9 ?_
  iterate 9 (rw [rounds_succ]; go_wp2)
  go_region_with (first | (go_at_call 30; refine (wide_any _ _ _ _ _ _ _ _ _).mono ?_; rintro e w' ⟨rfl, rfl⟩))
  all_goals go_wp2
  all_goals go_region
  all_goals go_wp2
  all_goals
    refine bodyPost_ret (v := .tuple #[.agg #[.int .u32 0, .int .u32 0, .int .u32 0, .int .u32 0, .int .u32 0, .int .u32 0, .int .u32 0, .int .u32 0], .iface 93 (.pointer (some a1))]) (by simp [results, Tryd.results27, go_sem]) rfl ⟨rfl, ?_⟩
    repeat (first | exact Below.refl _ _ | apply Below.drew | refine Below.alloc ?_ (by simp; try omega) _)
end
end Go.Proofs.YtohekmioeifpfaaDoor
