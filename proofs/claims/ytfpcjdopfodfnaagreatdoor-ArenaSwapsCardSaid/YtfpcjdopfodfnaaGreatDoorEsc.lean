/- Two scalars are held against each other field by field. Conditions: none. -/
import Derived.Test.YtfpcjdopfodfnaaGreatDoorCmp0
import Derived.Shelf.SlicesE.Kit
set_option maxRecDepth 100000
namespace Go.Proofs.YtfpcjdopfodfnaaGreatDoor
open Go.RowKit Go.Shelf
open Scs
/-- are two scalars the same -/
def sameB (k n : Int) (s : ByteArray) (k' n' : Int) (s' : ByteArray) : Bool := k == k' && (n == n' && s.data.toList == s'.data.toList)
theorem eq_sc (k n : Int) (s : ByteArray) (k' n' : Int) (s' : ByteArray) (w : World) :
    (binOp .eql 26 (.agg #[.int .i64 k, .int .i64 n, .string s]) (.agg #[.int .i64 k', .int .i64 n', .string s'])).run Tryz.prog w = .ok (.bool (sameB k n s k' n' s')) w := by
  have u3 := Tryz.underlying3
  have a3 := Tryz.isAgg3
  have z3 := Tryz.sizeOf3
  have u9 := Tryz.underlying9
  have a9 := Tryz.isAgg9
  have z9 := Tryz.sizeOf9
  have hS : Tryz.prog.underlying 26 = some (.struct (Tryz.prog.fieldsOf 26)) := by kernel_rfl
  have hp : Tryz.prog.stoodInHeld 26 = false := by kernel_rfl
  rw [run_eql_struct, show (10000 : Nat) = 9999 + 1 from rfl, run_equalIn_agg w 9999 26 _ _ hS hp]
  simp only [Program.fieldsOf, Tryz.underlying26]
  go_simp
  unfold sameB
  rw [ByteArray.toList_eq, ByteArray.toList_eq]
  by_cases h1 : k = k' <;> by_cases h2 : n = n' <;> by_cases h3 : s.data = s'.data <;> simp [h1, h2, h3]
theorem guard_sc (op : BinOp) (a b : Operand) (k n : Int) (s : ByteArray) (k' n' : Int) (s' : ByteArray) (w : World) : (eqGuard op 26 a b (.agg #[.int .i64 k, .int .i64 n, .string s]) (.agg #[.int .i64 k', .int .i64 n', .string s'])).run Tryz.prog w = .ok () w :=
  run_eqGuard_agg w op 26 a b _ _ (by kernel_rfl)
theorem equal_sc (k n : Int) (s : ByteArray) (k' n' : Int) (s' : ByteArray) (w : World) :
    (Op.equalIn 10000 26 (.agg #[.int .i64 k, .int .i64 n, .string s]) (.agg #[.int .i64 k', .int .i64 n', .string s'])).run Tryz.prog w = .ok (sameB k n s k' n' s') w := by
  have h := eq_sc k n s k' n' s' w
  rw [run_eql_struct] at h
  cases hr : (Op.equalIn 10000 26 (.agg #[.int .i64 k, .int .i64 n, .string s]) (.agg #[.int .i64 k', .int .i64 n', .string s'])).run Tryz.prog w with
  | ok b w' =>
    rw [hr] at h
    simp only [Result.andThen_ok, Result.ok.injEq, Value.bool.injEq] at h
    obtain ⟨rfl, rfl⟩ := h
    rfl
  | halt x w' =>
    rw [hr] at h
    simp [Result.andThen] at h
theorem sameB_iff (k n : Int) (s : ByteArray) (k' n' : Int) (s' : ByteArray) : sameB k n s k' n' s' = decide ((k, n, s) = ((k', n', s') : Sc)) := by
  unfold sameB
  by_cases h1 : k = k' <;> by_cases h2 : n = n' <;> by_cases h3 : s = s'
  all_goals first
    | (subst h1 h2 h3; simp; done)
    | (have h3' : ¬ s.data = s'.data := fun h => h3 (ByteArray.ext h)
       simp [h1, h2, h3, h3']; done)
    | (simp [h1, h2, h3]; done)
end Go.Proofs.YtfpcjdopfodfnaaGreatDoor
