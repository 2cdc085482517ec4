/- The checks of a block and of a round's number tell an error just if the length is not sixty-four, or the number is outside; an error's number is that of its mark. Conditions: the marks lie as the initialisation lays them. -/
import Derived.Test.YtjimpfcgcbbipaaDoorRows
import Derived.Test.YtjimpfcgcbbipaaDoorState
import Derived.WalkKit
import Derived.WalkLawsBesides
import Derived.WalkSpells
import Derived.Outline
import Derived.Deep.QuietTactic
import Derived.BigQuiet
import Derived.Deep.RegionHeld3
import Derived.Deep.RegionWith
import Derived.Deep.DrawnRows
import Derived.RegionTactic
import Derived.ChangeAlike
namespace Go.Proofs.YtjimpfcgcbbipaaDoor
open Go.RowKit
open Rd

theorem checkBlock_ok (s : ByteArray) (h : s.size = 64) (w : World) :
    Calls Tryd.prog 38 #[.string s] w fun e w' => e = .returned .nilIface ∧ w = w' := by
  have h1 : ((s.size : Int) != 64) = false := by rw [bne_eq_false_iff_eq]; omega
  clear h
  go_enter Tryd.func38, Tryd.ntmps38
  go_wp2
  go_ret
  exact ⟨rfl, rfl⟩
end Go.Proofs.YtjimpfcgcbbipaaDoor
