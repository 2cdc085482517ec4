/- What the statements' laid variables say gives the surroundings that the packages' functions need, and they can be met. Conditions: the world is laid as the statement says. -/
import Derived.Test.YtfpcjdopfodfnaaGreatDoorCards
import Derived.Test.YtfpcjdopfodfnaaGreatDoorTie
import Derived.Test.YtfpcjdopfodfnaaGreatDoorRgx
import Derived.ProofKit
import Derived.LaidMore
import Derived.LaidHandle
import Derived.OpenShut
import Derived.Stop.Joined
import Derived.Lib.LaidTab
import Derived.Lib.LaidU8
import Derived.MakeChecks
import Derived.PinnedBridge
import Derived.Lay
import Derived.LaidOnce
import Derived.SevenTiedAt
set_option maxRecDepth 100000
namespace Go.Proofs.YtfpcjdopfodfnaaGreatDoor
open Go.ChangeShapes Go.WideShapes Go.ChangeAt Go.RowKit Go.Shelf
theorem own : ownKnob Tryz.prog.godebug = none := by kernel_rfl
theorem gErr : Tryz.prog.globalNamed "errors.errorType" = some 0 := by kernel_rfl
theorem gFirst : Tryz.prog.globalNamed "unicode/utf8.first" = some 1 := by kernel_rfl
theorem gAcc : Tryz.prog.globalNamed "unicode/utf8.acceptRanges" = some 2 := by kernel_rfl
theorem rtRow : (Tryz.prog.cutTypes.find? (·.1 == "internal/reflectlite.rtype")).map (·.2) = some 114 := by kernel_rfl
theorem oneRow : ((List.range 197).filter fun t => Tryz.prog.rowNamed t [101, 114, 114, 111, 114]) = [54] := by kernel_rfl
theorem typesSize : Tryz.prog.types.size = 197 := by kernel_rfl
theorem eqAccept : Rows.laid_unicode_utf8_acceptRanges (H := Unit) = Go.Lib.acceptData := by kernel_rfl
abbrev laid7 : List (String × DataW Unit) := Rows.arenaTellsRow.laid
theorem first_of {w : World} (h : Go.Lib.VarReads Tryz.prog w "unicode/utf8.first" Go.Lib.firstData) (c : Nat) (hc : c < 256) : w.cell? ⟨1, c, none⟩ = some (.int .u8 (Go.Lib.firstT c)) := by
  obtain ⟨b, ty, cells, fl, pl, hb, ht, hv, hread⟩ := h
  cases Option.some.inj (gFirst.symm.trans hb)
  cases Option.some.inj ((show (Tryz.prog.globals[1]?).map (·.type) = some 165 by kernel_rfl).symm.trans ht)
  have hlist := Go.Lib.cells_of_tab Tryz.underlying165 Tryz.underlying5 (by kernel_rfl) (by kernel_rfl) hread
  have hcell := World.var?_cell gFirst hv c
  rw [hcell, ← Array.getElem?_toList, hlist]
  simp [Go.Lib.firstTab, hc]
theorem pair_of {w : World} (h : Go.Lib.VarReads Tryz.prog w "unicode/utf8.acceptRanges" Go.Lib.acceptData) (j : Nat) (hj : j < 16) :
    w.cell? ⟨2, 2 * j, none⟩ = some (.int .u8 (Go.Lib.accLo j)) ∧ w.cell? ⟨2, 2 * j + 1, none⟩ = some (.int .u8 (Go.Lib.accHi j)) := by
  obtain ⟨b, ty, cells, fl, pl, hb, ht, hv, hread⟩ := h
  cases Option.some.inj (gAcc.symm.trans hb)
  cases Option.some.inj ((show (Tryz.prog.globals[2]?).map (·.type) = some 168 by kernel_rfl).symm.trans ht)
  obtain ⟨fl2, dd, ql, hd, hel⟩ := Go.Lib.array_elem Tryz.underlying168 hread j hj
  have hc1 : Tryz.prog.cellsOf 5 = 1 := by kernel_rfl
  have hc2 : Tryz.prog.cellsOf 167 = 2 := by kernel_rfl
  rw [hc2] at hel
  rw [List.getElem?_map, List.getElem?_range hj] at hd
  cases hd
  have hfl := Go.Lib.ints_of_struct Tryz.underlying167 (by
    intro k f hk
    rcases k with _ | _ | k
    · cases hk; exact ⟨Tryz.underlying5, rfl, hc1⟩
    · cases hk; exact ⟨Tryz.underlying5, rfl, hc1⟩
    · cases hk) hc2 hel
  have lo : cells.toList[j * 2]? = some (.int .u8 (Go.Lib.accLo j)) := by
    have h0 := congrArg (fun l => l[0]?) hfl
    simpa [List.getElem?_take, List.getElem?_drop] using h0
  have hi : cells.toList[j * 2 + 1]? = some (.int .u8 (Go.Lib.accHi j)) := by
    have h1 := congrArg (fun l => l[1]?) hfl
    simpa [List.getElem?_take, List.getElem?_drop] using h1
  rw [Nat.mul_comm 2 j]
  exact ⟨by rw [World.var?_cell gAcc hv (j * 2), ← Array.getElem?_toList]; exact lo, by rw [World.var?_cell gAcc hv (j * 2 + 1), ← Array.getElem?_toList]; exact hi⟩
theorem env_of {W : World} (h : laidMetH Tryz.prog laid7 W) : Env W := by
  have h' : laidMet Tryz.prog [("unicode/utf8.acceptRanges", Rows.laid_unicode_utf8_acceptRanges), ("unicode/utf8.first", Rows.laid_unicode_utf8_first)] W ∧ handlesMet Tryz.prog [("errors.errorType", Rows.laid_errors_errorType)] W := h
  obtain ⟨hd, hh⟩ := h'
  have h2 := Go.Lib.laidMet.reads hd (n := "unicode/utf8.acceptRanges") (d := Rows.laid_unicode_utf8_acceptRanges) (by simp)
  have h1 := Go.Lib.laidMet.reads hd (n := "unicode/utf8.first") (d := Rows.laid_unicode_utf8_first) (by simp)
  rw [eqAccept] at h2
  rw [show Rows.laid_unicode_utf8_first = Go.Lib.firstData from Pinned.utf8First_eq] at h1
  refine ⟨⟨first_of h1, pair_of h2⟩, ?_⟩
  obtain ⟨name, u, ty, e1, e2, e3, e4, e5⟩ := hh _ (List.mem_singleton.2 rfl)
  cases (Option.some.inj e1 : _ = name)
  cases Option.some.inj (rtRow.symm.trans e2)
  have hm : ty ∈ (List.range 197).filter fun t => Tryz.prog.rowNamed t [101, 114, 114, 111, 114] := List.mem_filter.2 ⟨List.mem_range.2 (by rw [← typesSize]; exact e3), e4⟩
  rw [oneRow] at hm
  obtain rfl := List.mem_singleton.1 hm
  have hq : typeHandle Tryz.prog 54 = .pointer (some ⟨3, 54, none⟩) := by kernel_rfl
  rw [hq] at e5
  simpa using World.var?_cell gErr e5 0
abbrev data7 : List (String × DataW Unit) := [("unicode/utf8.acceptRanges", Rows.laid_unicode_utf8_acceptRanges), ("unicode/utf8.first", Rows.laid_unicode_utf8_first)]
/-- the witness: the door's own heap, with the two tables laid -/
noncomputable def wit (os : Os) : World := (World.doorLaid Tryz.prog 156 os).layVars Tryz.prog data7
theorem wit_os (os : Os) : (wit os).os = os := (World.layVars_os _ _ _).trans rfl
theorem all7 : (data7.filter fun x => (data7.map (·.1)).contains x.1) = data7 := by kernel_rfl
theorem none7 : (data7.filter fun x => !(data7.map (·.1)).contains x.1) = [] := by kernel_rfl
theorem rest7 : (laid7.filter fun x => x.2.handleName?.isNone) = data7 := by kernel_rfl
theorem door_fits (os : Os) : (World.doorLaid Tryz.prog 156 os).layFits Tryz.prog data7 [] = true := by kernel_rfl
theorem door_ifaces (os : Os) : (World.doorLaid Tryz.prog 156 os).layIfaces Tryz.prog data7 (wit os) = true := by kernel_rfl
theorem door_handle (os : Os) (args : Array Value) : (laid7.filter fun x => x.2.handleName?.isSome).all (handleAtB Tryz.prog ((wit os).forCall (fun _ _ => 0) ⟨#[], args, []⟩).memory) = true := by kernel_rfl
/-- a heap meets the list -/
theorem door_met (os : Os) (args : Array Value) : laidMetH Tryz.prog laid7 ((wit os).forCall (fun _ _ => 0) ⟨#[], args, []⟩).memory := by
  have h : laidMet Tryz.prog data7 (wit os) := laidMet_layVars (w0 := World.doorLaid Tryz.prog 156 os) (data7.map (·.1)) [] (by rw [all7]; rfl) (by rw [all7]; exact door_fits os) (by rw [all7]; exact door_ifaces os) (by rw [none7]; exact LaidIn.none)
  refine laidMetH_of_parts (by rw [rest7]; exact h.of_heap (by simp [World.memory, World.forCall, Input.heap])) (door_handle os args)
theorem door_shaped0 (os : Os) : (wit os).Shaped Tryz.prog := World.shaped_of_ZipB (by kernel_rfl) (by kernel_rfl)
theorem door_shaped (os : Os) (args : Array Value) : ((wit os).forCall (fun _ _ => 0) ⟨#[], args, []⟩).Shaped Tryz.prog := by
  have h := door_shaped0 os
  generalize wit os = w0 at h ⊢
  exact h
end Go.Proofs.YtfpcjdopfodfnaaGreatDoor
