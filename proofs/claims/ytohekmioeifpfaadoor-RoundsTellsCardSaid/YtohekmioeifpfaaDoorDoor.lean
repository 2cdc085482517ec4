/- What the statement's laid variables say gives the surroundings that the package's functions need, and they can be met. Conditions: the world is laid as the statement says. -/
import Derived.Test.YtohekmioeifpfaaDoorCards
import Derived.Test.YtohekmioeifpfaaDoorTie
import Derived.Test.YtohekmioeifpfaaDoorOpen
import Derived.Test.YtohekmioeifpfaaDoorApi
import Derived.ProofKit
import Derived.LaidMore
import Derived.OpenShut
import Derived.Stop.Joined
import Derived.Stop.LaidTwo
import Derived.Lib.LaidTab
import Derived.MakeChecks
import Derived.SevenTiedAt
namespace Go.Proofs.YtohekmioeifpfaaDoor
open Go.ChangeShapes Go.WideShapes Go.ChangeAt Go.RowKit
open Rd
theorem own : ownKnob Tryd.prog.godebug = none := by kernel_rfl
theorem gBlock : Tryd.prog.globalNamed "sigillary/rounds.errBlock" = some 1 := by kernel_rfl
theorem gWord : Tryd.prog.globalNamed "sigillary/rounds.errWord" = some 2 := by kernel_rfl
theorem gCon : Tryd.prog.globalNamed "sigillary/rounds.constants" = some 3 := by kernel_rfl
theorem gK : Tryd.prog.globalNamed "sigillary/sigillaryref01.k" = some 0 := by kernel_rfl
theorem tBlock : (Tryd.prog.globals[1]?).map (·.type) = some 44 := by kernel_rfl
theorem tWord : (Tryd.prog.globals[2]?).map (·.type) = some 44 := by kernel_rfl
theorem tCon : (Tryd.prog.globals[3]?).map (·.type) = some 48 := by kernel_rfl
theorem tK : (Tryd.prog.globals[0]?).map (·.type) = some 61 := by kernel_rfl
theorem cells117 : Tryd.prog.cellsOf 117 = 1 := by kernel_rfl
theorem cells9 : Tryd.prog.cellsOf 9 = 1 := by kernel_rfl
theorem cells47 : Tryd.prog.cellsOf 47 = 1 := by kernel_rfl
theorem cells48 : Tryd.prog.cellsOf 48 = 64 := by kernel_rfl
theorem cells61 : Tryd.prog.cellsOf 61 = 64 := by kernel_rfl
theorem star : "*errors.errorString" = "*" ++ "errors.errorString" := by decide
theorem row93 (u : TypeId) (h : Tryd.prog.typeName? 3 u = some "*errors.errorString") : u = 93 :=
  typeName_ptr_named (nm := "errors.errorString") (by rw [← star]; kernel_rfl) (by kernel_rfl) (by decide) u (by rw [← star]; exact h)
/-- what five of the six rows list -/
abbrev laid3 : List (String × DataW Unit) := Rows.roundsPartsRow.laid
abbrev laid4 : List (String × DataW Unit) := Rows.roundsTellsRow.laid
def KZ : List Int := KL.map Int.ofNat
theorem K_at : ∀ i : Fin 64, U (K i.1) = KZ.getD i.1 0 := by decide +kernel
/-- what the list gives the walks -/
theorem env_of {W : World} (h : laidMetH Tryd.prog laid3 W) : ∃ a0 a1 B, Env a0 a1 B W := by
  rw [MakeChecks.laidMetH_plain _ _ _ (by kernel_rfl)] at h
  have h3 : laidMet Tryd.prog (("sigillary/rounds.constants", Lib.tabData .u32 KZ) :: [("sigillary/rounds.errBlock", Rows.laid_sigillary_rounds_errBlock), ("sigillary/rounds.errWord", Rows.laid_sigillary_rounds_errWord)]) W := h
  have ht : Lib.TabIs Tryd.prog W "sigillary/rounds.constants" .u32 KZ := Lib.tabIs_of_head gCon tCon Tryd.underlying48 Tryd.underlying47 cells47 cells48 h3
  obtain ⟨a0, a1, s0, s1, c0, c1, t0, t1, hv0, hv1, hc0, hs0, hz0, hc1, hs1, hz1, hne, hb0, hb1⟩ := laid_sentinels2 h3.tail gBlock tBlock gWord tWord Tryd.underlying44 row93 Tryd.underlying93 Tryd.underlying117 rfl rfl Tryd.underlying9 cells117 cells9
  have hk : ∀ i, i < 64 → W.cell? ⟨3, i, none⟩ = some (.int .u32 (U (K i))) := fun i hi => by
    rw [ht.cell gCon i (by exact hi), ← K_at ⟨i, hi⟩]
  have l0 := block_lt_of_cell hc0
  have l1 := block_lt_of_cell hc1
  have l3 := block_lt_of_cell (hk 0 (by decide))
  have e0 := World.var?_cell gBlock hv0 0
  have e1 := World.var?_cell gWord hv1 0
  exact ⟨a0, a1, W.heap.size, ⟨by simpa using e0, by simpa using e1, hne, ⟨c0, t0, hb0⟩, ⟨c1, t1, hb1⟩, l0, l1, l3, Nat.le_refl _⟩, hk⟩
/-- the door's own heap meets the list -/
theorem door_met (os : Os) (args : Array Value) : laidMetH Tryd.prog laid3 ((World.doorLaid Tryd.prog 57 os).forCall (fun _ _ => 0) ⟨#[], args, []⟩).memory :=
  laidMetH_of_parts3 (fuel := 8) (laidMet_of_run' 8 (by kernel_rfl) (by kernel_rfl)) (by kernel_rfl) (by kernel_rfl)
end Go.Proofs.YtohekmioeifpfaaDoor
