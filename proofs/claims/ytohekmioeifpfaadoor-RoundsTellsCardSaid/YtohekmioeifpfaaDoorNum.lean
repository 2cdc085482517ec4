/- The checks of a block and of a round's number tell an error just if the length is not sixty-four, or the number is outside; an error's number is that of its mark. Conditions: the marks lie as the initialisation lays them. -/
import Derived.Test.YtohekmioeifpfaaDoorRows
import Derived.Test.YtohekmioeifpfaaDoorIs
import Derived.WalkKit
import Derived.WalkLawsBesides
import Derived.WalkSpells
import Derived.Outline
import Derived.Deep.QuietTactic
import Derived.BigQuiet
import Derived.Deep.RegionHeld3
import Derived.Deep.RegionWith
import Derived.Deep.DrawnRows
import Derived.RegionTactic
import Derived.ChangeAlike
namespace Go.Proofs.YtohekmioeifpfaaDoor
open Go.RowKit
open Rd

theorem checkBlock_ok (s : ByteArray) (h : s.size = 64) (w : World) :
    Calls Tryd.prog 22 #[.string s] w fun e w' => e = .returned .nilIface ∧ w = w' := by
  have h1 : ((s.size : Int) != 64) = false := by rw [bne_eq_false_iff_eq]; omega
  clear h
  go_enter Tryd.func22, Tryd.ntmps22
  go_wp2
  go_ret
  exact ⟨rfl, rfl⟩
theorem checkBlock_bad (s : ByteArray) (h : s.size ≠ 64) {a0 a1 : Addr} {B : Nat} (w : World) (L : Laid a0 a1 B w) :
    Calls Tryd.prog 22 #[.string s] w fun e w' => e = .returned (.iface 93 (.pointer (some a0))) ∧ w = w' := by
  have h1 : ((s.size : Int) != 64) = true := by rw [bne_iff_ne]; omega
  have hc := L.eb
  clear h L
  go_enter Tryd.func22, Tryd.ntmps22
  go_wp2
  go_ret
  exact ⟨rfl, rfl⟩
theorem checkRound_ok (i x : Int) (h0 : 0 ≤ i) (h1 : i < 64) (h2 : 0 ≤ x) (h3 : x ≤ 4294967295) (w : World) :
    Calls Tryd.prog 28 #[.int .i64 i, .int .i64 x] w fun e w' => e = .returned .nilIface ∧ w = w' := by
  have g0 : decide (i < 0) = false := by simp; omega
  have g1 : decide (64 ≤ i) = false := by simp; omega
  have g2 : decide (x < 0) = false := by simp; omega
  have g3 : decide (4294967295 < x) = false := by simp; omega
  go_enter Tryd.func28, Tryd.ntmps28
  go_wp2
  go_ret
  exact ⟨rfl, rfl⟩
theorem checkRound_bad (i x : Int) (h : ¬ (0 ≤ i ∧ i < 64 ∧ 0 ≤ x ∧ x ≤ 4294967295)) {a0 a1 : Addr} {B : Nat} (w : World) (L : Laid a0 a1 B w) :
    Calls Tryd.prog 28 #[.int .i64 i, .int .i64 x] w fun e w' => e = .returned (.iface 93 (.pointer (some a1))) ∧ w = w' := by
  have hc := L.ew
  clear L
  by_cases c0 : i < 0
  · have g0 : decide (i < 0) = true := by simp; omega
    clear h
    go_enter Tryd.func28, Tryd.ntmps28
    go_wp2
    go_ret
    exact ⟨rfl, rfl⟩
  have g0 : decide (i < 0) = false := by simp; omega
  by_cases c1 : 64 ≤ i
  · have g1 : decide (64 ≤ i) = true := by simp; omega
    clear h
    go_enter Tryd.func28, Tryd.ntmps28
    go_wp2
    go_ret
    exact ⟨rfl, rfl⟩
  have g1 : decide (64 ≤ i) = false := by simp; omega
  by_cases c2 : x < 0
  · have g2 : decide (x < 0) = true := by simp; omega
    clear h
    go_enter Tryd.func28, Tryd.ntmps28
    go_wp2
    go_ret
    exact ⟨rfl, rfl⟩
  have g2 : decide (x < 0) = false := by simp; omega
  have c3 : 4294967295 < x := by omega
  have g3 : decide (4294967295 < x) = true := by simp; omega
  clear h
  go_enter Tryd.func28, Tryd.ntmps28
  go_wp2
  go_ret
  exact ⟨rfl, rfl⟩
theorem number_block {a0 a1 : Addr} {B : Nat} (w : World) (L : Laid a0 a1 B w) :
    Calls Tryd.prog 23 #[.iface 93 (.pointer (some a0))] w fun e w' => e = .returned (.int .i64 10) ∧ w = w' := by
  have hc := L.eb
  clear L
  go_enter Tryd.func23, Tryd.ntmps23
  go_wp2_with fail
  refine (is_same a0 _).mono ?_
  rintro e w' ⟨rfl, rfl⟩
  go_wp2
  go_ret
  exact ⟨rfl, rfl⟩
theorem number_word {a0 a1 : Addr} {B : Nat} (w : World) (L : Laid a0 a1 B w) :
    Calls Tryd.prog 23 #[.iface 93 (.pointer (some a1))] w fun e w' => e = .returned (.int .i64 11) ∧ w = w' := by
  have hc := L.eb
  have hs := is_other a1 a0 w (Ne.symm L.ne) L.h1 L.h0
  clear L
  go_enter Tryd.func23, Tryd.ntmps23
  go_wp2_with fail
  refine hs.mono ?_
  rintro e w' ⟨rfl, rfl⟩
  go_wp2
  go_ret
  exact ⟨rfl, rfl⟩
end Go.Proofs.YtohekmioeifpfaaDoor
