/- The length of parts is found right just if they are together as long as a message. Conditions: the parts are one, or two of which the first is no more than a message's most. -/
import Derived.Test.YtjimpfcgcbbipaaDoorRows
import Derived.WalkKit
import Derived.WalkLawsBesides
import Derived.WalkSpells
import Derived.Outline
import Derived.Lib.Hide
import Derived.Deep.QuietTactic
import Derived.BigQuiet
import Derived.Deep.RegionHeld3
import Derived.Deep.RegionWith
import Derived.Deep.DrawnRows
import Derived.RegionTactic
import Derived.ChangeAlike
namespace Go.Proofs.YtjimpfcgcbbipaaDoor
open Go.RowKit


theorem check1_ok (n : Int) (h0 : 0 ≤ n) (h1 : n ≤ 100000) (g c : Nat) (w : World) (hc : w.cell? ⟨g, 0, none⟩ = some (.int .i64 n)) :
    Calls Tryd.prog 28 #[.slice (some ⟨g, 0, none⟩) 1 c] w fun e w' => e = .returned .nilIface ∧ w = w' := by
  have g0 : decide (n < 0) = false := by simp; omega
  have g1 : decide (100000 < n) = false := by simp; omega
  go_enter Tryd.func28, Tryd.ntmps28
  go_wp2
  refine wp_loop_rounds 2 ?_
  rw [rounds_succ]
  go_wp2
  rw [rounds_succ]
  go_wp2
  go_ret
  exact ⟨rfl, rfl⟩
/-- a fault, as it lies -/
def Fault (no : Int) (e : Value) (w : World) : Prop := ∃ p v, e = .iface 80 (.pointer (some ⟨p, 0, none⟩)) ∧ w.heap[p]? = some (.cells #[.int .i64 no, v] 82 (0, 0))
theorem check1_bad (n : Int) (h : ¬ (0 ≤ n ∧ n ≤ 100000)) (g c : Nat) (w : World) (hc : w.cell? ⟨g, 0, none⟩ = some (.int .i64 n)) (hel : ∃ a, w.cell? ⟨0, 0, none⟩ = some (.iface 143 (.pointer (some a)))) :
    Calls Tryd.prog 28 #[.slice (some ⟨g, 0, none⟩) 1 c] w fun e w' => ∃ v, e = .returned v ∧ Fault 20 v w' ∧ Below w.heap.size w w' := by
  obtain ⟨a, ha⟩ := hel
  by_cases hn : n < 0
  · have g0 : decide (n < 0) = true := by simp; omega
    clear h
    go_enter Tryd.func28, Tryd.ntmps28
    go_wp2
    refine wp_loop_rounds 2 ?_
    rw [rounds_succ]
    go_wp2
    go_ret
    exact ⟨_, rfl, ⟨_, _, rfl, heap_alloc_new w _⟩, (Below.refl _ w).alloc (Nat.le_refl _) _⟩
  · have g0 : decide (n < 0) = false := by simp; omega
    have g1 : decide (100000 < n) = true := by simp; omega
    clear h
    go_enter Tryd.func28, Tryd.ntmps28
    go_wp2
    refine wp_loop_rounds 2 ?_
    rw [rounds_succ]
    go_wp2
    go_ret
    exact ⟨_, rfl, ⟨_, _, rfl, heap_alloc_new w _⟩, (Below.refl _ w).alloc (Nat.le_refl _) _⟩
theorem check2_ok (m n : Int) (h0 : 0 ≤ m) (h1 : 0 ≤ n) (h2 : m + n ≤ 100000) (g c : Nat) (w : World) (hc : w.cell? ⟨g, 0, none⟩ = some (.int .i64 m)) (hd : w.cell? ⟨g, 1, none⟩ = some (.int .i64 n)) :
    Calls Tryd.prog 28 #[.slice (some ⟨g, 0, none⟩) 2 c] w fun e w' => e = .returned .nilIface ∧ w = w' := by
  have g0 : decide (m < 0) = false := by simp; omega
  have g1 : decide (100000 < m) = false := by simp; omega
  have g2 : decide (n < 0) = false := by simp; omega
  have g3 : decide (wrap64 (100000 - m) < n) = false := by simp; unfold wrap64; omega
  go_enter Tryd.func28, Tryd.ntmps28
  go_wp2
  refine wp_loop_rounds 3 ?_
  rw [rounds_succ]
  go_wp2
  rw [rounds_succ]
  go_wp2
  rw [rounds_succ]
  go_wp2
  go_ret
  exact ⟨rfl, rfl⟩
theorem check2_bad (m n : Int) (h0 : 0 ≤ m) (h1 : m ≤ 100000) (h2 : 100000 < m + n) (g c : Nat) (w : World) (hc : w.cell? ⟨g, 0, none⟩ = some (.int .i64 m)) (hd : w.cell? ⟨g, 1, none⟩ = some (.int .i64 n)) (hel : ∃ a, w.cell? ⟨0, 0, none⟩ = some (.iface 143 (.pointer (some a)))) :
    Calls Tryd.prog 28 #[.slice (some ⟨g, 0, none⟩) 2 c] w fun e w' => ∃ v, e = .returned v ∧ Fault 20 v w' ∧ Below w.heap.size w w' := by
  obtain ⟨a, ha⟩ := hel
  have g0 : decide (m < 0) = false := by simp; omega
  have g1 : decide (100000 < m) = false := by simp; omega
  have g2 : decide (n < 0) = false := by simp; omega
  have g3 : decide (wrap64 (100000 - m) < n) = true := by simp; unfold wrap64; omega
  go_enter Tryd.func28, Tryd.ntmps28
  go_wp2
  refine wp_loop_rounds 3 ?_
  rw [rounds_succ]
  go_wp2
  rw [rounds_succ]
  go_wp2
  go_ret
  exact ⟨_, rfl, ⟨_, _, rfl, heap_alloc_new w _⟩, (Below.refl _ w).alloc (Nat.le_refl _) _⟩
end Go.Proofs.YtjimpfcgcbbipaaDoor
