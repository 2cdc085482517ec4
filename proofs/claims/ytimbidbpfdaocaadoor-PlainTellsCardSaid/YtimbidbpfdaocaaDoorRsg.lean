/- The reference's signs, their bytes, and whether a number is one, are told. Conditions: those of each rule. -/
import Derived.Test.YtimbidbpfdaocaaDoorRone
import Derived.Test.YtimbidbpfdaocaaDoorRows
import Derived.Test.YtimbidbpfdaocaaDoorChecked
import Derived.WalkKit
import Derived.WalkLawsBesides
import Derived.WalkSpells
import Derived.Outline
import Derived.OwnWalk
import Derived.IntWalk
import Derived.Laws.Rows
import Derived.Deep.MidRow
import Derived.Lib.Hide
import Derived.Deep.AppendLies
import Derived.Deep.QuietTactic
import Derived.BigQuiet
import Derived.Deep.RegionWith
import Derived.Deep.DeepCutAuto
namespace Go.Proofs.YtimbidbpfdaocaaDoor
open Go.RowKit
open Pl On
theorem ret_b {x y : Bool} (h : x = y) : Ending.returned (.bool x) = Ending.returned (.bool y) := by rw [h]
set_option maxRecDepth 100000 in
theorem Sign_any (n : Nat) (w : World) : Calls Tryd.prog 62 #[.int .i64 (n : Int)] w fun e w' => e = .returned (.bool (decide (signN n))) ∧ w = w' := by
  go_enter Tryd.func62, Tryd.ntmps62
  go_wp2
  all_goals
    go_ret
    refine ⟨ret_b ?_, rfl⟩
    rw [Bool.eq_iff_iff]
    rw [decide_eq_true_iff]
    unfold signN
    simp only [Bool.or_eq_true, decide_eq_true_eq, true_iff, false_iff, Bool.false_eq_true]
    omega
set_option maxRecDepth 100000 in
theorem PlainS_any (n : Nat) (w : World) : Calls Tryd.prog 41 #[.int .i64 (n : Int)] w fun e w' => e = .returned (.bool (decide (32 ≤ n ∧ n ≠ 127))) ∧ w = w' := by
  go_enter Tryd.func41, Tryd.ntmps41
  go_wp2
  all_goals
    go_ret
    refine ⟨ret_b ?_, rfl⟩
    rw [Bool.eq_iff_iff]
    simp
    omega
theorem cvB (l : List UInt8) (w : World) (g n : Nat) (hn : l.length = n) (h : w.heap[g]? = some (.cells (l.map fun b => Value.int .u8 (b.toNat : Int)).toArray 5 (0, 0))) : (convert 81 9 (.slice (some ⟨g, 0, none⟩) n n)).run Tryd.prog w = .ok (.string ⟨l.toArray⟩) w := by
  have hc := run_convert_bytes_back w 81 9 5 ⟨g, 0, none⟩ n l Tryd.underlying81 Tryd.underlying5 Tryd.underlying9 (fun j hj => by
    rw [Addr.add_mid, cell_of_row w g _ _ _ _ h, Nat.zero_add]
    simp [hj])
  rw [hn] at hc
  exact hc
/-- a sign's bytes -/
def encB (n : Nat) : List UInt8 := (encN n).map UInt8.ofNat
theorem ofn (m : Nat) (h : m < 256) : ((UInt8.ofNat m).toNat : Int) = (m : Int) := by
  have : (UInt8.ofNat m).toNat = m := by simp; omega
  rw [this]
theorem cv_enc (n : Nat) (w : World) (k : Nat) (vs : Array Value) (hl : (encN n).length = k) (hb : ∀ m ∈ encN n, m < 256) (hv : vs.toList = (encN n).map fun (m : Nat) => Value.int .u8 (m : Int)) :
    (convert 81 9 (.slice (some ⟨w.heap.size, 0, none⟩) k k)).run Tryd.prog (w.alloc (.cells vs 5)) = .ok (.string ⟨(encB n).toArray⟩) (w.alloc (.cells vs 5)) := by
  refine cvB (encB n) _ _ k (by unfold encB; rw [List.length_map, hl]) ?_
  rw [heap_alloc_new]
  congr 2
  rw [← Array.toList_inj, hv]
  unfold encB
  simp only [List.map_map]
  apply List.map_congr_left
  intro m hm
  exact congrArg (Value.int .u8) (ofn m (hb m hm)).symm
set_option maxRecDepth 100000 in
set_option maxHeartbeats 1000000 in
theorem Bytes_any (n : Nat) (hn : n ≤ 1114111) (w : World) :
    Calls Tryd.prog 63 #[.int .i64 (n : Int)] w fun e w' => e = .returned (.string ⟨(encB n).toArray⟩) ∧ Below w.heap.size w w' := by
  by_cases h1 : n < 128
  · have i1 : (n : Int) < 128 := by omega
    have e : encN n = [n] := by unfold encN; rw [if_pos h1]
    have hcv := cv_enc n w 1 #[.int .u8 (n : Int)] (by rw [e]; rfl) (by rw [e]; simp; omega) (by rw [e]; rfl)
    obtain ⟨B, hB⟩ : ∃ B, (⟨(encB n).toArray⟩ : ByteArray) = B := ⟨_, rfl⟩
    rw [hB] at hcv ⊢
    clear e hB
    go_enter Tryd.func63, Tryd.ntmps63
    go_wp2
    go_ret
    exact ⟨rfl, (Below.refl _ _).alloc (Nat.le_refl _) _⟩
  · have i1 : ¬ (n : Int) < 128 := by omega
    by_cases h2 : n < 2048
    · have i2 : (n : Int) < 2048 := by omega
      have e : encN n = [192 + n / 64, 128 + n % 64] := by unfold encN; rw [if_neg h1, if_pos h2]
      have hcv := cv_enc n w 2 #[.int .u8 (192 + (n : Int) / 64), .int .u8 (128 + (n : Int) % 64)] (by rw [e]; rfl) (by rw [e]; simp; omega) (by rw [e]; simp)
      obtain ⟨B, hB⟩ : ∃ B, (⟨(encB n).toArray⟩ : ByteArray) = B := ⟨_, rfl⟩
      rw [hB] at hcv ⊢
      clear e hB
      go_enter Tryd.func63, Tryd.ntmps63
      go_wp2
      go_ret
      exact ⟨rfl, (Below.refl _ _).alloc (Nat.le_refl _) _⟩
    · have i2 : ¬ (n : Int) < 2048 := by omega
      by_cases h3 : n < 65536
      · have i3 : (n : Int) < 65536 := by omega
        have e : encN n = [224 + n / 4096, 128 + n / 64 % 64, 128 + n % 64] := by unfold encN; rw [if_neg h1, if_neg h2, if_pos h3]
        have hcv := cv_enc n w 3 #[.int .u8 (224 + (n : Int) / 4096), .int .u8 (128 + (n : Int) / 64 % 64), .int .u8 (128 + (n : Int) % 64)] (by rw [e]; rfl) (by rw [e]; simp; omega) (by rw [e]; simp)
        obtain ⟨B, hB⟩ : ∃ B, (⟨(encB n).toArray⟩ : ByteArray) = B := ⟨_, rfl⟩
        rw [hB] at hcv ⊢
        clear e hB
        go_enter Tryd.func63, Tryd.ntmps63
        go_wp2
        go_ret
        exact ⟨rfl, (Below.refl _ _).alloc (Nat.le_refl _) _⟩
      · have i3 : ¬ (n : Int) < 65536 := by omega
        have e : encN n = [240 + n / 262144, 128 + n / 4096 % 64, 128 + n / 64 % 64, 128 + n % 64] := by unfold encN; rw [if_neg h1, if_neg h2, if_neg h3]
        have hcv := cv_enc n w 4 #[.int .u8 (240 + (n : Int) / 262144), .int .u8 (128 + (n : Int) / 4096 % 64), .int .u8 (128 + (n : Int) / 64 % 64), .int .u8 (128 + (n : Int) % 64)] (by rw [e]; rfl) (by rw [e]; simp; omega) (by rw [e]; simp)
        obtain ⟨B, hB⟩ : ∃ B, (⟨(encB n).toArray⟩ : ByteArray) = B := ⟨_, rfl⟩
        rw [hB] at hcv ⊢
        clear e hB
        go_enter Tryd.func63, Tryd.ntmps63
        go_wp2
        go_ret
        exact ⟨rfl, (Below.refl _ _).alloc (Nat.le_refl _) _⟩
end Go.Proofs.YtimbidbpfdaocaaDoor
