/- Eight numbers are narrowed to words just if each of them is one, and are refused otherwise. Conditions: the marks lie as the initialisation lays them. -/
import Derived.Test.YtjimpfcgcbbipaaDoorRows
import Derived.Test.YtjimpfcgcbbipaaDoorNum
import Derived.WalkKit
import Derived.WalkLawsBesides
import Derived.WalkSpells
import Derived.Outline
import Derived.Deep.QuietTactic
import Derived.BigQuiet
import Derived.Deep.RegionHeld3
import Derived.Deep.RegionWith
import Derived.Deep.DrawnRows
import Derived.RegionTactic
import Derived.ChangeAlike
namespace Go.Proofs.YtjimpfcgcbbipaaDoor
open Go.RowKit
open Rd

section
attribute [local go_sem] mod_U wrap64_U
/-- 'narrow', of words -/
theorem narrow_ok (a b c d e f g h : BitVec 32) (w : World) :
    Calls Tryd.prog 37 #[.agg #[.int .i64 (U a), .int .i64 (U b), .int .i64 (U c), .int .i64 (U d), .int .i64 (U e), .int .i64 (U f), .int .i64 (U g), .int .i64 (U h)]] w fun en w' => en = .returned (.tuple #[.agg #[.int .u32 (U a), .int .u32 (U b), .int .u32 (U c), .int .u32 (U d), .int .u32 (U e), .int .u32 (U f), .int .u32 (U g), .int .u32 (U h)], .nilIface]) ∧ Below w.heap.size w w' := by
  have i0 : ∀ w, (Instr.index 45 (.agg #[.int .i64 (U a), .int .i64 (U b), .int .i64 (U c), .int .i64 (U d), .int .i64 (U e), .int .i64 (U f), .int .i64 (U g), .int .i64 (U h)]) (.int .i64 0)).run Tryd.prog w = .ok (.int .i64 (U a)) w := fun _ => by kernel_rfl
  have i1 : ∀ w, (Instr.index 45 (.agg #[.int .i64 (U a), .int .i64 (U b), .int .i64 (U c), .int .i64 (U d), .int .i64 (U e), .int .i64 (U f), .int .i64 (U g), .int .i64 (U h)]) (.int .i64 1)).run Tryd.prog w = .ok (.int .i64 (U b)) w := fun _ => by kernel_rfl
  have i2 : ∀ w, (Instr.index 45 (.agg #[.int .i64 (U a), .int .i64 (U b), .int .i64 (U c), .int .i64 (U d), .int .i64 (U e), .int .i64 (U f), .int .i64 (U g), .int .i64 (U h)]) (.int .i64 2)).run Tryd.prog w = .ok (.int .i64 (U c)) w := fun _ => by kernel_rfl
  have i3 : ∀ w, (Instr.index 45 (.agg #[.int .i64 (U a), .int .i64 (U b), .int .i64 (U c), .int .i64 (U d), .int .i64 (U e), .int .i64 (U f), .int .i64 (U g), .int .i64 (U h)]) (.int .i64 3)).run Tryd.prog w = .ok (.int .i64 (U d)) w := fun _ => by kernel_rfl
  have i4 : ∀ w, (Instr.index 45 (.agg #[.int .i64 (U a), .int .i64 (U b), .int .i64 (U c), .int .i64 (U d), .int .i64 (U e), .int .i64 (U f), .int .i64 (U g), .int .i64 (U h)]) (.int .i64 4)).run Tryd.prog w = .ok (.int .i64 (U e)) w := fun _ => by kernel_rfl
  have i5 : ∀ w, (Instr.index 45 (.agg #[.int .i64 (U a), .int .i64 (U b), .int .i64 (U c), .int .i64 (U d), .int .i64 (U e), .int .i64 (U f), .int .i64 (U g), .int .i64 (U h)]) (.int .i64 5)).run Tryd.prog w = .ok (.int .i64 (U f)) w := fun _ => by kernel_rfl
  have i6 : ∀ w, (Instr.index 45 (.agg #[.int .i64 (U a), .int .i64 (U b), .int .i64 (U c), .int .i64 (U d), .int .i64 (U e), .int .i64 (U f), .int .i64 (U g), .int .i64 (U h)]) (.int .i64 6)).run Tryd.prog w = .ok (.int .i64 (U g)) w := fun _ => by kernel_rfl
  have i7 : ∀ w, (Instr.index 45 (.agg #[.int .i64 (U a), .int .i64 (U b), .int .i64 (U c), .int .i64 (U d), .int .i64 (U e), .int .i64 (U f), .int .i64 (U g), .int .i64 (U h)]) (.int .i64 7)).run Tryd.prog w = .ok (.int .i64 (U h)) w := fun _ => by kernel_rfl
  have heq := fun w => eq8 (U a) (U b) (U c) (U d) (U e) (U f) (U g) (U h) (U a) (U b) (U c) (U d) (U e) (U f) (U g) (U h) w
  simp only [beq_self_eq_true, Bool.and_self] at heq
  go_enter Tryd.func37, Tryd.ntmps37
  go_wp2
  refine wp_loop_rounds 9 ?_
  iterate 9 (rw [rounds_succ]; go_wp2)
  go_region_with (first | (go_at_call 42; refine (wide_any _ _ _ _ _ _ _ _ _).mono ?_; rintro e w' ⟨rfl, rfl⟩))
  all_goals go_wp2
  all_goals
    refine bodyPost_ret (v := .tuple #[.agg #[.int .u32 (U a), .int .u32 (U b), .int .u32 (U c), .int .u32 (U d), .int .u32 (U e), .int .u32 (U f), .int .u32 (U g), .int .u32 (U h)], .nilIface]) (by simp [results, Tryd.results37, go_sem]) rfl ⟨rfl, ?_⟩
    repeat (first | exact Below.refl _ _ | apply Below.drew | refine Below.alloc ?_ (by simp; try omega) _)
end
section
attribute [local go_sem] mod_ofInt wrap64_U
end
end Go.Proofs.YtjimpfcgcbbipaaDoor
