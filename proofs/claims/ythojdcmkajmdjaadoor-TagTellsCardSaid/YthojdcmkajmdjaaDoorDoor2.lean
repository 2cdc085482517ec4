/- What the statements' laid variables say gives the surroundings that the packages' functions need, and they can be met. Conditions: the world is laid as the statement says. -/
import Derived.Test.YthojdcmkajmdjaaDoorCards
import Derived.Test.YthojdcmkajmdjaaDoorTie
import Derived.Test.YthojdcmkajmdjaaDoorShown3
import Derived.ProofKit
import Derived.LaidMore
import Derived.LaidHandle
import Derived.OpenShut
import Derived.Stop.Joined
import Derived.Stop.LaidErr
import Derived.Stop.LaidTwo
import Derived.Lib.LaidTab
import Derived.MakeChecks
import Derived.SevenTiedAt
namespace Go.Proofs.YthojdcmkajmdjaaDoor
open Go.ChangeShapes Go.WideShapes Go.ChangeAt Go.RowKit
open Rd Dg
theorem own : ownKnob Tryd.prog.godebug = none := by kernel_rfl
theorem gLen : Tryd.prog.globalNamed "sigillary/digest.errLength" = some 0 := by kernel_rfl
theorem gCon : Tryd.prog.globalNamed "sigillary/rounds.constants" = some 6 := by kernel_rfl
theorem gK : Tryd.prog.globalNamed "sigillary/sigillaryref01.k" = some 3 := by kernel_rfl
theorem gErr : Tryd.prog.globalNamed "errors.errorType" = some 2 := by kernel_rfl
theorem tLen : (Tryd.prog.globals[0]?).map (·.type) = some 36 := by kernel_rfl
theorem tCon : (Tryd.prog.globals[6]?).map (·.type) = some 139 := by kernel_rfl
theorem tK : (Tryd.prog.globals[3]?).map (·.type) = some 120 := by kernel_rfl
theorem cells162 : Tryd.prog.cellsOf 179 = 1 := by kernel_rfl
theorem cells9 : Tryd.prog.cellsOf 9 = 1 := by kernel_rfl
theorem cells68 : Tryd.prog.cellsOf 112 = 1 := by kernel_rfl
theorem cells77 : Tryd.prog.cellsOf 139 = 64 := by kernel_rfl
theorem star : "*errors.errorString" = "*" ++ "errors.errorString" := by decide
theorem row143 (u : TypeId) (h : Tryd.prog.typeName? 3 u = some "*errors.errorString") : u = 159 :=
  typeName_ptr_named (nm := "errors.errorString") (by rw [← star]; kernel_rfl) (by kernel_rfl) (by decide) u (by rw [← star]; exact h)
theorem rtRow : (Tryd.prog.cutTypes.find? (·.1 == "internal/reflectlite.rtype")).map (·.2) = some 122 := by kernel_rfl
theorem oneRow : ((List.range 190).filter fun t => Tryd.prog.rowNamed t [101, 114, 114, 111, 114]) = [36] := by kernel_rfl
theorem typesSize : Tryd.prog.types.size = 190 := by kernel_rfl
/-- what six of the seven rows list -/
abbrev laid5 : List (String × DataW Unit) := Rows.tagEndsRow.laid
abbrev laid6 : List (String × DataW Unit) := Rows.tagTellsRow.laid
def KZ : List Int := KL.map Int.ofNat
theorem K_at : ∀ i : Fin 64, U (K i.1) = KZ.getD i.1 0 := by decide +kernel
/-- what the list gives the walks -/
theorem env_parts {W : World} (h' : laidMet Tryd.prog (("sigillary/rounds.constants", Lib.tabData .u32 KZ) :: [("sigillary/rounds.errBlock", Rows.laid_sigillary_rounds_errBlock), ("sigillary/rounds.errWord", Rows.laid_sigillary_rounds_errWord), ("sigillary/digest.errLength", Rows.laid_sigillary_digest_errLength), ("sigillary/digest.errRounds", Rows.laid_sigillary_digest_errRounds)]) W)
    (hh : handlesMet Tryd.prog [("errors.errorType", Rows.laid_errors_errorType)] W) : Env W.heap.size W := by
  have ht : Lib.TabIs Tryd.prog W "sigillary/rounds.constants" .u32 KZ := Lib.tabIs_of_head gCon tCon Tryd.underlying139 Tryd.underlying112 cells68 cells77 h'
  obtain ⟨a, s, hv, hc, _, _⟩ := laid_sentinel h'.tail.tail.tail gLen tLen Tryd.underlying36 row143 Tryd.underlying159 Tryd.underlying179 rfl rfl Tryd.underlying9 cells162 cells9
  have hk : ∀ i, i < 64 → W.cell? ⟨6, i, none⟩ = some (.int .u32 (U (K i))) := fun i hi => by
    rw [ht.cell gCon i (by exact hi), ← K_at ⟨i, hi⟩]
  have e0 := World.var?_cell gLen hv 0
  have et : W.cell? ⟨2, 0, none⟩ = some (.iface 122 (.agg #[.pointer (some ⟨7, 36, none⟩)])) := by
    obtain ⟨name, u, ty, e1, e2, e3, e4, e5⟩ := hh _ (List.mem_singleton.2 rfl)
    have en : name = [101, 114, 114, 111, 114] := (Option.some.inj e1).symm
    subst en
    obtain rfl := Option.some.inj (rtRow.symm.trans e2)
    have hm : ty ∈ (List.range 190).filter fun t => Tryd.prog.rowNamed t [101, 114, 114, 111, 114] := List.mem_filter.2 ⟨List.mem_range.2 (by rw [← typesSize]; exact e3), e4⟩
    rw [oneRow] at hm
    obtain rfl := List.mem_singleton.1 hm
    have hq : typeHandle Tryd.prog 36 = .pointer (some ⟨7, 36, none⟩) := by kernel_rfl
    rw [hq] at e5
    simpa using World.var?_cell gErr e5 0
  exact ⟨block_lt_of_cell (hk 0 (by decide)), Nat.le_refl _, hk, ⟨a, by simpa using e0⟩, et⟩
theorem env_of {W : World} (h : laidMetH Tryd.prog laid5 W) : ∃ B, Env B W := by
  have h' : laidMet Tryd.prog (("sigillary/rounds.constants", Lib.tabData .u32 KZ) :: [("sigillary/rounds.errBlock", Rows.laid_sigillary_rounds_errBlock), ("sigillary/rounds.errWord", Rows.laid_sigillary_rounds_errWord), ("sigillary/digest.errLength", Rows.laid_sigillary_digest_errLength), ("sigillary/digest.errRounds", Rows.laid_sigillary_digest_errRounds)]) W ∧ handlesMet Tryd.prog [("errors.errorType", Rows.laid_errors_errorType)] W := h
  exact ⟨_, env_parts h'.1 h'.2⟩
/-- the door's own heap meets the list -/
theorem door_met (os : Os) (args : Array Value) : laidMetH Tryd.prog laid5 ((World.doorLaid Tryd.prog 102 os).forCall (fun _ _ => 0) ⟨#[], args, []⟩).memory :=
  laidMetH_of_parts3 (fuel := 8) (laidMet_of_run' 8 (by kernel_rfl) (by kernel_rfl)) (by kernel_rfl) (by kernel_rfl)
end Go.Proofs.YthojdcmkajmdjaaDoor
