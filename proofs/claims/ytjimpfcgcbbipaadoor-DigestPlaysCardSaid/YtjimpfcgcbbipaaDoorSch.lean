/- The package's schedule answers as the arithmetic of words says, and with its error for a block of another length. Conditions: the variables lie as the initialisation lays them. -/
import Derived.Test.YtjimpfcgcbbipaaDoorRows
import Derived.Test.YtjimpfcgcbbipaaDoorApi
import Derived.Test.YtjimpfcgcbbipaaDoorSched
import Derived.WalkKit
import Derived.WalkLawsBesides
import Derived.WalkSpells
import Derived.Outline
import Derived.OwnWalk
import Derived.Deep.MidRow
import Derived.Lib.Hide
import Derived.Deep.QuietTactic
import Derived.BigQuiet
import Derived.Deep.RegionHeld3
import Derived.Deep.RegionWith
import Derived.Deep.DrawnRows
import Derived.RegionTactic
import Derived.ChangeAlike
namespace Go.Proofs.YtjimpfcgcbbipaaDoor
open Go.RowKit
open Rd
attribute [local go_sem] mod_U wrap64_U

theorem info3i : (Tryd.prog.info? 3).map (fun i => (i.zero, i.size, i.bytes)) = some (some (.int .i64 0), 1, 8) := by kernel_rfl
/-- the first k words, as ints -/
def ints (m : Nat → BitVec 32) (k : Nat) : List Value := (List.range k).map fun j => .int .i64 (U (Wd m j))
theorem ints_succ (m : Nat → BitVec 32) (k : Nat) : ints m (k + 1) = ints m k ++ [.int .i64 (U (Wd m k))] := by simp [ints, List.range_succ]
theorem ints_get (m : Nat → BitVec 32) (k j : Nat) (h : j < k) : (ints m k)[j]? = some (.int .i64 (U (Wd m j))) := by simp [ints, h]
/-- what 'Schedule' leaves: a new list of the words, and no error -/
def SchedPost (m : Nat → BitVec 32) (w : World) (e : Ending) (w' : World) : Prop :=
  ∃ G, e = .returned (.tuple #[.slice (some ⟨G, 0, none⟩) 64 64, .int .i64 0]) ∧ w.heap.size ≤ G ∧ G < w'.heap.size ∧ (∀ j, j < 64 → w'.cell? ⟨G, j, none⟩ = some (.int .i64 (U (Wd m j)))) ∧ Below w.heap.size w w'
end Go.Proofs.YtjimpfcgcbbipaaDoor
