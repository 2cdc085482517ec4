/- A node's own rules are told as the document tells them: those that need no other package. Conditions: none. -/
import Derived.Test.YtfpcjdopfodfnaaGreatDoorArd
set_option maxRecDepth 100000
namespace Go.Proofs.YtfpcjdopfodfnaaGreatDoor
open Go.RowKit Go.Shelf
open Scs
theorem hasNoKeys_any (k a b : Int) (s : ByteArray) (pk : Option Addr) (nk ck : Nat) (pd : Option Addr) (nd cd : Nat) (n : Int) (w : World) :
    Calls Tryz.prog 76 #[.agg #[.int .i64 k, .int .i64 a, .int .i64 b, .string s, .slice pk nk ck, .slice pd nd cd, .int .i64 n]] w fun e w' => e = .returned (.bool (decide (nk = 0))) ∧ Below w.heap.size w w' := by
  go_enter Tryz.func76, Tryz.ntmps76
  go_wp2_with fail
  go_ret
  refine ⟨ret_bool ?_, (Below.refl _ _).alloc (Nat.le_refl _) _⟩
  rw [Bool.eq_iff_iff]
  simp
theorem hasNoKids_any (k a b : Int) (s : ByteArray) (pk : Option Addr) (nk ck : Nat) (pd : Option Addr) (nd cd : Nat) (n : Int) (w : World) :
    Calls Tryz.prog 77 #[.agg #[.int .i64 k, .int .i64 a, .int .i64 b, .string s, .slice pk nk ck, .slice pd nd cd, .int .i64 n]] w fun e w' => e = .returned (.bool (decide (nd = 0))) ∧ Below w.heap.size w w' := by
  go_enter Tryz.func77, Tryz.ntmps77
  go_wp2_with fail
  go_ret
  refine ⟨ret_bool ?_, (Below.refl _ _).alloc (Nat.le_refl _) _⟩
  rw [Bool.eq_iff_iff]
  simp
theorem saysNull_any (k a b : Int) (s : ByteArray) (pk : Option Addr) (nk ck : Nat) (pd : Option Addr) (nd cd : Nat) (n : Int) (w : World) :
    Calls Tryz.prog 78 #[.agg #[.int .i64 k, .int .i64 a, .int .i64 b, .string s, .slice pk nk ck, .slice pd nd cd, .int .i64 n]] w fun e w' => e = .returned (.bool (decide (((a, b, s) : Sc) = (0, 0, ⟨#[]⟩)))) ∧ Below w.heap.size w w' := by
  have hq := fun w => eq_sc a b s 0 0 ⟨#[]⟩ w
  rw [sameB_iff] at hq
  obtain ⟨q, hqq⟩ : ∃ q, decide (((a, b, s) : Sc) = (0, 0, ⟨#[]⟩)) = q := ⟨_, rfl⟩
  rw [hqq] at hq ⊢
  clear hqq
  go_enter Tryz.func78, Tryz.ntmps78
  go_wp2_with fail
  go_ret
  exact ⟨rfl, (Below.refl _ _).alloc (Nat.le_refl _) _⟩
theorem isPaired_any (k a b : Int) (s : ByteArray) (pk : Option Addr) (nk ck : Nat) (pd : Option Addr) (nd cd : Nat) (n : Int) (w : World) :
    Calls Tryz.prog 33 #[.agg #[.int .i64 k, .int .i64 a, .int .i64 b, .string s, .slice pk nk ck, .slice pd nd cd, .int .i64 n]] w fun e w' => e = .returned (.bool (if k = 2 then decide (nk = nd) else false)) ∧ Below w.heap.size w w' := by
  by_cases h : k = 2
  all_goals
    first | rw [if_pos h] | rw [if_neg h]
    first
      | (have h1 : (k == 2) = true := by simp [h]; done)
      | skip
    go_enter Tryz.func33, Tryz.ntmps33
    go_wp2_with fail
    all_goals
      go_ret
      refine ⟨ret_bool ?_, (Below.refl _ _).alloc (Nat.le_refl _) _⟩
      first | rfl | (rw [Bool.eq_iff_iff]; simp; done) | (rw [Bool.eq_iff_iff]; simp; omega)
end Go.Proofs.YtfpcjdopfodfnaaGreatDoor
