/- What the statements' cut tells: a text's first seventy bytes. Conditions: none. -/
import Derived.Test.YtohekmioeifpfaaDoorDoor
import Derived.Test.YtohekmioeifpfaaDoorShown
import Derived.Test.YtohekmioeifpfaaDoorLawLib
import Derived.Test.YtohekmioeifpfaaDoorTell
import Derived.StillTailTactics
import Derived.Deep.QuietTactic
import Derived.BigQuiet
import Derived.WalkKit
import Derived.WalkLawsBesides
import Derived.WalkSpells
import Derived.Outline
import Derived.Lib.Hide
namespace Go.Proofs.YtohekmioeifpfaaDoor
open Go.ChangeShapes Go.WideShapes Go.ChangeAt Go.RowKit
open Go.ChangeMaps (open_string shut_string)
open Rd

/-- a text's first seventy bytes -/
def cutB (s : ByteArray) : ByteArray := if 70 < s.size then s.extract 0 70 else s
theorem cut_any (s : ByteArray) (w : World) :
    Calls Tryd.prog 10 #[.string s] w fun e w' => e = .returned (.string (cutB s)) ∧ w = w' := by
  go_enter Tryd.func10, Tryd.ntmps10
  go_wp2
  · go_ret
    exact ⟨by rw [show cutB s = s.extract 0 70 by unfold cutB; rw [if_pos (by omega)]]; rfl, rfl⟩
  · go_ret
    exact ⟨by rw [show cutB s = s by unfold cutB; rw [if_neg (by omega)]]; rfl, rfl⟩
end Go.Proofs.YtohekmioeifpfaaDoor
