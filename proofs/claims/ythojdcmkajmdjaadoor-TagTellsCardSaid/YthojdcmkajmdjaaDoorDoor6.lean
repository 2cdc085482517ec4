/- What the two statements' laid variables that bear the reference say gives the surroundings, and they can be met. Conditions: the world is laid as the statement says. -/
import Derived.Test.YthojdcmkajmdjaaDoorDoor2
namespace Go.Proofs.YthojdcmkajmdjaaDoor
open Go.ChangeShapes Go.WideShapes Go.ChangeAt Go.RowKit
open Rd Dg
theorem cells118 : Tryd.prog.cellsOf 120 = 64 := by kernel_rfl
/-- the table of the reference's constants lies -/
def Tab (w : World) : Prop := 3 < w.heap.size ∧ ∀ i, i < 64 → w.cell? ⟨3, i, none⟩ = some (.int .i64 (U (K i)))
theorem Tab.below {B : Nat} {w w' : World} (h : Tab w) (hb : Below B w w') (h3 : 3 < B) : Tab w' :=
  ⟨Nat.lt_of_lt_of_le h.1 hb.size, fun i hi => (hb.cell (p := ⟨3, i, none⟩) h3).trans (h.2 i hi)⟩
theorem env6_of {W : World} (h : laidMetH Tryd.prog laid6 W) : (∃ B, Env B W) ∧ Tab W := by
  have h' : laidMet Tryd.prog (("sigillary/sigillaryref01.k", Lib.tabData .i64 KZ) :: ("sigillary/rounds.constants", Lib.tabData .u32 KZ) :: [("sigillary/rounds.errBlock", Rows.laid_sigillary_rounds_errBlock), ("sigillary/rounds.errWord", Rows.laid_sigillary_rounds_errWord), ("sigillary/digest.errLength", Rows.laid_sigillary_digest_errLength), ("sigillary/digest.errRounds", Rows.laid_sigillary_digest_errRounds)]) W ∧ handlesMet Tryd.prog [("errors.errorType", Rows.laid_errors_errorType)] W := h
  have ht : Lib.TabIs Tryd.prog W "sigillary/sigillaryref01.k" .i64 KZ := Lib.tabIs_of_head gK tK Tryd.underlying120 Tryd.underlying3 cells3 cells118 h'.1
  have hk : ∀ i, i < 64 → W.cell? ⟨3, i, none⟩ = some (.int .i64 (U (K i))) := fun i hi => by
    rw [ht.cell gK i (by exact hi), ← K_at ⟨i, hi⟩]
  exact ⟨⟨_, env_parts h'.1.tail h'.2⟩, block_lt_of_cell (hk 0 (by decide)), hk⟩
/-- the door's own heap meets the list -/
theorem door_met6 (os : Os) (args : Array Value) : laidMetH Tryd.prog laid6 ((World.doorLaid Tryd.prog 102 os).forCall (fun _ _ => 0) ⟨#[], args, []⟩).memory :=
  laidMetH_of_parts3 (fuel := 8) (laidMet_of_run' 8 (by kernel_rfl) (by kernel_rfl)) (by kernel_rfl) (by kernel_rfl)
end Go.Proofs.YthojdcmkajmdjaaDoor
