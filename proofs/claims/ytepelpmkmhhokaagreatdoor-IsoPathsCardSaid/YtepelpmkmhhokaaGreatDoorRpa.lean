/- The statements' own cut of a path; what is asked of the package's functions. Conditions: the path lies. -/
import Derived.Test.YtepelpmkmhhokaaGreatDoorRsr
import Derived.Test.YtepelpmkmhhokaaGreatDoorAsx
import Derived.Test.YtepelpmkmhhokaaGreatDoorAkk
set_option maxRecDepth 100000
namespace Go.Proofs.YtepelpmkmhhokaaGreatDoor
open Go.RowKit Go.Shelf
open Scs Dfs
theorem il_first {w : World} {p : Option Addr} {l : Array Int} (h : IlR w p l) : Il w p (l.extract 0 30) := by
  refine ⟨by rw [Array.size_extract]; omega, ?_⟩
  by_cases h0 : (l.extract 0 30).size = 0
  · exact .inl h0
  · have hs : (l.extract 0 30).size = min l.size 30 := by rw [Array.size_extract]; omega
    obtain ⟨blk, off, rfl, hb, _⟩ := h 0 (by omega)
    refine .inr ⟨blk, off, rfl, hb, fun i hi => ?_⟩
    have hil : i < l.size := by omega
    obtain ⟨b2, o2, e, _, hc⟩ := h i hil
    injection e with e
    injection e with e1 e2 _
    subst e1 e2
    rw [hc, getElem!_pos l i hil, getElem!_pos _ i hi]
    simp
end Go.Proofs.YtepelpmkmhhokaaGreatDoor
