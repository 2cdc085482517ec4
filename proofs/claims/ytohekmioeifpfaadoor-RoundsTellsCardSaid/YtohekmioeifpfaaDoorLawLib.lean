/- Eight numbers are words or one of them is none; what a word adds is told by a difference. Conditions: none. -/
import Derived.Test.YtohekmioeifpfaaDoorDoor
import Derived.Test.YtohekmioeifpfaaDoorShown
import Derived.Deep.QuietTactic
import Derived.BigQuiet
import Derived.WalkKit
import Derived.WalkLawsBesides
import Derived.WalkSpells
import Derived.Outline
import Derived.Lib.Hide
namespace Go.Proofs.YtohekmioeifpfaaDoor
open Go.ChangeShapes Go.WideShapes Go.ChangeAt Go.RowKit
open Go.ChangeMaps (open_string shut_string)
open Rd

/-- eight numbers: words, or not all -/
theorem words_or (x0 x1 x2 x3 x4 x5 x6 x7 : Int) : (∃ s : St, x0 = U s.a ∧ x1 = U s.b ∧ x2 = U s.c ∧ x3 = U s.d ∧ x4 = U s.e ∧ x5 = U s.f ∧ x6 = U s.g ∧ x7 = U s.h) ∨ ((U (BitVec.ofInt 32 x0) == x0 && (U (BitVec.ofInt 32 x1) == x1 && (U (BitVec.ofInt 32 x2) == x2 && (U (BitVec.ofInt 32 x3) == x3 && (U (BitVec.ofInt 32 x4) == x4 && (U (BitVec.ofInt 32 x5) == x5 && (U (BitVec.ofInt 32 x6) == x6 && (U (BitVec.ofInt 32 x7) == x7)))))))) = false) := by
  by_cases h : (U (BitVec.ofInt 32 x0) == x0 && (U (BitVec.ofInt 32 x1) == x1 && (U (BitVec.ofInt 32 x2) == x2 && (U (BitVec.ofInt 32 x3) == x3 && (U (BitVec.ofInt 32 x4) == x4 && (U (BitVec.ofInt 32 x5) == x5 && (U (BitVec.ofInt 32 x6) == x6 && (U (BitVec.ofInt 32 x7) == x7)))))))) = true
  · left
    simp only [Bool.and_eq_true, beq_iff_eq] at h
    obtain ⟨h0, h1, h2, h3, h4, h5, h6, h7⟩ := h
    exact ⟨⟨BitVec.ofInt 32 x0, BitVec.ofInt 32 x1, BitVec.ofInt 32 x2, BitVec.ofInt 32 x3, BitVec.ofInt 32 x4, BitVec.ofInt 32 x5, BitVec.ofInt 32 x6, BitVec.ofInt 32 x7⟩, h0.symm, h1.symm, h2.symm, h3.symm, h4.symm, h5.symm, h6.symm, h7.symm⟩
  · right; simpa using h
theorem word_or (x : Int) : (∃ b : BitVec 32, x = U b) ∨ ¬ (0 ≤ x ∧ x ≤ 4294967295) := by
  by_cases h : 0 ≤ x ∧ x ≤ 4294967295
  · left
    refine ⟨BitVec.ofInt 32 x, ?_⟩
    rw [← mod_ofInt]; omega
  · exact Or.inr h
/-- what a word adds -/
theorem sub_word (b x : BitVec 32) : (U (b + x) - U b + 4294967296) % 4294967296 = U x := by
  have h := mod_add b x
  have h1 := U_nonneg b; have h2 := U_lt b; have h3 := U_nonneg x; have h4 := U_lt x
  omega
end Go.Proofs.YtohekmioeifpfaaDoor
