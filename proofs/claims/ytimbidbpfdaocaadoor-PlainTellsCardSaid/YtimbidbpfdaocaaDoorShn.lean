/- The statements' own check of some known values holds; two scalars are held against each other. Conditions: the library's tables lie as they are laid. -/
import Derived.Test.YtimbidbpfdaocaaDoorRed
import Derived.Shelf.SlicesE.Kit
namespace Go.Proofs.YtimbidbpfdaocaaDoor
open Go.RowKit Go.Shelf
open Pl Seqo
/-- are two scalars the same -/
def sameB (k n : Int) (s : ByteArray) (k' n' : Int) (s' : ByteArray) : Bool := k == k' && (n == n' && s.data.toList == s'.data.toList)
theorem eq_sc (k n : Int) (s : ByteArray) (k' n' : Int) (s' : ByteArray) (w : World) :
    (binOp .eql 23 (.agg #[.int .i64 k, .int .i64 n, .string s]) (.agg #[.int .i64 k', .int .i64 n', .string s'])).run Tryd.prog w = .ok (.bool (sameB k n s k' n' s')) w := by
  have u3 := Tryd.underlying3
  have a3 := Tryd.isAgg3
  have z3 := Tryd.sizeOf3
  have u9 := Tryd.underlying9
  have a9 := Tryd.isAgg9
  have z9 := Tryd.sizeOf9
  have hS : Tryd.prog.underlying 23 = some (.struct (Tryd.prog.fieldsOf 23)) := by kernel_rfl
  have hp : Tryd.prog.stoodInHeld 23 = false := by kernel_rfl
  rw [run_eql_struct, show (10000 : Nat) = 9999 + 1 from rfl, run_equalIn_agg w 9999 23 _ _ hS hp]
  simp only [Program.fieldsOf, Tryd.underlying23]
  go_simp
  unfold sameB
  rw [ByteArray.toList_eq, ByteArray.toList_eq]
  by_cases h1 : k = k' <;> by_cases h2 : n = n' <;> by_cases h3 : s.data = s'.data <;> simp [h1, h2, h3]
theorem guard_sc (op : BinOp) (a b : Operand) (k n : Int) (s : ByteArray) (k' n' : Int) (s' : ByteArray) (w : World) : (eqGuard op 23 a b (.agg #[.int .i64 k, .int .i64 n, .string s]) (.agg #[.int .i64 k', .int .i64 n', .string s'])).run Tryd.prog w = .ok () w :=
  run_eqGuard_agg w op 23 a b _ _ (by kernel_rfl)
theorem equal_sc (k n : Int) (s : ByteArray) (k' n' : Int) (s' : ByteArray) (w : World) :
    (Op.equalIn 10000 23 (.agg #[.int .i64 k, .int .i64 n, .string s]) (.agg #[.int .i64 k', .int .i64 n', .string s'])).run Tryd.prog w = .ok (sameB k n s k' n' s') w := by
  have h := eq_sc k n s k' n' s' w
  rw [run_eql_struct] at h
  cases hr : (Op.equalIn 10000 23 (.agg #[.int .i64 k, .int .i64 n, .string s]) (.agg #[.int .i64 k', .int .i64 n', .string s'])).run Tryd.prog w with
  | ok b w' =>
    rw [hr] at h
    simp only [Result.andThen_ok, Result.ok.injEq, Value.bool.injEq] at h
    obtain ⟨rfl, rfl⟩ := h
    rfl
  | halt x w' =>
    rw [hr] at h
    simp [Result.andThen] at h
/-- some known values -/
theorem may_m12 : mayR false [45, 49, 50] = true := by decide +kernel
theorem may_acb : mayR false [97, 58, 98] = true := by decide +kernel
theorem may_15 : mayR false [49, 46, 53] = true := by decide +kernel
theorem may_acbb : mayR false [97, 58, 32, 98] = false := by decide +kernel
theorem may_tilde : mayR true [126] = true := by decide +kernel
theorem may_tilde2 : mayR false [126] = true := by decide +kernel
theorem may_comma : mayR true [97, 44, 98] = false := by decide +kernel
theorem may_comma2 : mayR false [97, 44, 98] = true := by decide +kernel
theorem itoa_m12 : Go.Lib.itoa (-12) = [45, 49, 50] := by
  show 45 :: Go.Lib.decDigits 12 = _
  rw [Go.Lib.decDigits_two (by decide) (by decide)]
  rfl
theorem num_m12 : numB [45, 49, 50] = some (-12) := by
  unfold numB
  rw [show Go.Lib.atoiAll [45, 49, 50] = .ok (-12) by decide +kernel]
  simp only [itoa_m12, if_true]
  rfl
theorem num_15 : numB [49, 46, 53] = none := by
  unfold numB
  rw [show Go.Lib.atoiAll [49, 46, 53] = .syntax by decide +kernel]
theorem val_m12 : valOf [45, 49, 50] = .int (-12) := by
  unfold valOf
  rw [show lookW [45, 49, 50] wordsW = none from rfl]
  simp only [show looksR [45, 49, 50] = true by decide +kernel, if_true, num_m12]
theorem val_15 : valOf [49, 46, 53] = .none := by
  unfold valOf
  rw [show lookW [49, 46, 53] wordsW = none from rfl]
  simp only [show looksR [49, 46, 53] = true by decide +kernel, if_true, num_15]
theorem val_acb : valOf [97, 58, 98] = .text := by
  unfold valOf
  rw [show lookW [97, 58, 98] wordsW = none from rfl]
  simp only [show looksR [97, 58, 98] = false by decide +kernel, Bool.false_eq_true, if_false]
theorem res_m12 : resolveR ⟨#[45, 49, 50]⟩ = ⟨2, -12, ⟨#[]⟩, 0⟩ := by
  unfold resolveR
  rw [if_neg (fun h => by have := h.2; rw [may_m12] at this; cases this), val_m12]
  rfl
theorem res_acb : resolveR ⟨#[97, 58, 98]⟩ = ⟨3, 0, ⟨#[97, 58, 98]⟩, 0⟩ := by
  unfold resolveR
  rw [if_neg (fun h => by have := h.2; rw [may_acb] at this; cases this), val_acb]
  rfl
theorem res_15 : resolveR ⟨#[49, 46, 53]⟩ = ⟨0, 0, ⟨#[]⟩, 50⟩ := by
  unfold resolveR
  rw [if_neg (fun h => by have := h.2; rw [may_15] at this; cases this), val_15]
  rfl
theorem res_acbb : resolveR ⟨#[97, 58, 32, 98]⟩ = ⟨0, 0, ⟨#[]⟩, 51⟩ := by
  unfold resolveR
  rw [if_pos ⟨by simp, may_acbb⟩]
theorem read_tilde : readR ⟨#[126]⟩ true = ⟨0, 0, ⟨#[]⟩, 0⟩ := by
  unfold readR
  rw [if_neg (by rw [may_tilde]; decide)]
  unfold resolveR
  rw [if_neg (fun h => by have := h.2; rw [may_tilde2] at this; cases this)]
  rfl
theorem read_comma : readR ⟨#[97, 44, 98]⟩ true = ⟨0, 0, ⟨#[]⟩, 51⟩ := by
  unfold readR
  rw [if_pos may_comma]
end Go.Proofs.YtimbidbpfdaocaaDoor
