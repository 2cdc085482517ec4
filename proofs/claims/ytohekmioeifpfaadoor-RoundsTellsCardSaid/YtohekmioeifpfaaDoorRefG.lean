/- The reference tells two lists of the same words, or two empty ones, to be the same. Conditions: those of each rule. -/
import Derived.Test.YtohekmioeifpfaaDoorDoor
import Derived.Test.YtohekmioeifpfaaDoorShown
import Derived.Test.YtohekmioeifpfaaDoorLawLib
import Derived.Test.YtohekmioeifpfaaDoorTell
import Derived.Test.YtohekmioeifpfaaDoorCut
import Derived.Test.YtohekmioeifpfaaDoorWhole
import Derived.Test.YtohekmioeifpfaaDoorPartsLib
import Derived.Test.YtohekmioeifpfaaDoorRefA
import Derived.Test.YtohekmioeifpfaaDoorRefB
import Derived.Test.YtohekmioeifpfaaDoorRefC
import Derived.Deep.RegionHeld3
import Derived.Test.YtohekmioeifpfaaDoorRefE
import Derived.StillTailTactics
import Derived.Deep.RegionHeld
import Derived.Deep.RegionWith
import Derived.Deep.DrawnRows
import Derived.Deep.DeepCutAuto
import Derived.Deep.QuietTactic
import Derived.BigQuiet
import Derived.WalkKit
import Derived.WalkLawsBesides
import Derived.WalkSpells
import Derived.Outline
import Derived.Lib.Hide
namespace Go.Proofs.YtohekmioeifpfaaDoor
open Go.ChangeShapes Go.WideShapes Go.ChangeAt Go.RowKit
open Go.ChangeMaps (open_string shut_string)
open Rd
attribute [local go_sem ↓] Go.wp_at_zero Go.wp_at_succ
theorem Ints21_none (w : World) : Calls Tryd.prog 21 #[.slice none 0 0, .slice none 0 0] w fun e w' => e = .returned (.bool true) ∧ Below w.heap.size w w' := by
  go_enter Tryd.func21, Tryd.ntmps21
  go_wp2_with fail
  go_loopw [5] (fun i wr => i = .int .i64 0 ∧ Below w.heap.size w wr) (fun _ _ => 0)
  case atStart => exact ⟨rfl, Below.refl _ _⟩
  case round =>
    obtain ⟨rfl, hb⟩ := hrel
    have HB := Lib.hid hb
    clear hb
    go_wp2
    go_ret
    exact ⟨rfl, HB.out⟩
set_option maxRecDepth 100000 in
set_option maxHeartbeats 1000000 in
theorem Ints21_same (l : Nat → BitVec 32) (g1 g2 c1 c2 : Nat) (w : World) (hl1 : g1 < w.heap.size) (hl2 : g2 < w.heap.size) (h1 : ∀ j, j < 64 → w.cell? ⟨g1, j, none⟩ = some (.int .i64 (U (l j)))) (h2 : ∀ j, j < 64 → w.cell? ⟨g2, j, none⟩ = some (.int .i64 (U (l j)))) :
    Calls Tryd.prog 21 #[.slice (some ⟨g1, 0, none⟩) 64 c1, .slice (some ⟨g2, 0, none⟩) 64 c2] w fun e w' => e = .returned (.bool true) ∧ Below w.heap.size w w' := by
  have H1 := Lib.hid h1
  have H2 := Lib.hid h2
  clear h1 h2
  go_enter Tryd.func21, Tryd.ntmps21
  go_wp2_with fail
  go_loopw [5] (fun i wr => ∃ k : Nat, k ≤ 64 ∧ i = .int .i64 k ∧ Below w.heap.size w wr) (fun i _ => 64 - (intOf i).toNat)
  case atStart => exact ⟨0, by omega, rfl, Below.refl _ _⟩
  case round =>
    obtain ⟨k, hk, rfl, hbr⟩ := hrel
    have HBR := Lib.hid hbr
    by_cases hlt : k < 64
    · have hc1 := (hbr.cell (p := ⟨g1, k, none⟩) hl1).trans (H1.out k hlt)
      have hc2 := (hbr.cell (p := ⟨g2, k, none⟩) hl2).trans (H2.out k hlt)
      have i1 : (k : Int) < 64 := by omega
      clear hbr
      go_wp2
      go_quiet (fail)
      go_wp2
      go_roundw
      case rel => exact ⟨k + 1, by omega, by go_num, below_drewN HBR.out _⟩
      case measure => simp [intOf]; omega
    · obtain rfl : k = 64 := by omega
      clear hbr
      go_wp2
      go_ret
      exact ⟨rfl, HBR.out⟩
end Go.Proofs.YtohekmioeifpfaaDoor
