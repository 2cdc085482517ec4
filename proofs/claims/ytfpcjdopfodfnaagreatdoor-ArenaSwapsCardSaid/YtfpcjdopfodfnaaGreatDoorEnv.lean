/- The surroundings of graphs: the library's tables of texts, and the type of errors. Conditions: none. -/
import Derived.Test.YtfpcjdopfodfnaaGreatDoorRows
import Derived.Shelf.Unicode.DecodeSlow
import Derived.Test.YtfpcjdopfodfnaaGreatDoorArd
set_option maxRecDepth 100000
namespace Go.Proofs.YtfpcjdopfodfnaaGreatDoor
open Go.RowKit Go.Shelf
structure Env (w : World) : Prop where
  tabs : Go.Lib.Utf8Tabs 1 2 w
  err : w.cell? ⟨0, 0, none⟩ = some (.iface 114 (.agg #[.pointer (some ⟨3, 54, none⟩)]))
theorem Env.below {w w' : World} (h : Env w) (hb : Below w.heap.size w w') : Env w' :=
  ⟨Utf8Tabs_below h.tabs hb, (hb.cell (p := ⟨0, 0, none⟩) (World.block_lt_of_cell? w ⟨0, 0, none⟩ (by rw [h.err]))).trans h.err⟩
end Go.Proofs.YtfpcjdopfodfnaaGreatDoor
