/- The reference's turn of a word, its exclusive or, its first state and its check of words tell what the arithmetic of words says. Conditions: the arguments are words where a rule says so. The reference's check of words, its first state and its bytes of a state tell what the arithmetic of words says, or an error where a number is no word. Conditions: those of each rule. The reference's bytes of a state are those of its words, or an error. Conditions: those of each rule. -/
import Derived.Test.YthojdcmkajmdjaaDoorMix
import Derived.StillTailTactics
import Derived.Deep.QuietTactic
import Derived.BigQuiet
import Derived.WalkKit
import Derived.WalkLawsBesides
import Derived.WalkSpells
import Derived.Outline
import Derived.Lib.Hide
import Derived.Deep.RegionHeld
import Derived.Deep.RegionWith
import Derived.Deep.DrawnRows
import Derived.Deep.DeepCutAuto
namespace Go.Proofs.YthojdcmkajmdjaaDoor
open Go.ChangeShapes Go.WideShapes Go.ChangeAt Go.RowKit
open Go.ChangeMaps (open_string shut_string)
open Rd
attribute [local go_sem ↓] Go.wp_at_zero Go.wp_at_succ
theorem ofInt64 (x : BitVec 32) : BitVec.ofInt 64 (U x) = x.setWidth 64 := by
  unfold U
  rw [BitVec.ofInt_natCast]
  apply BitVec.eq_of_toNat_eq
  simp
theorem wrap_U64 (x : BitVec 32) : IntKind.i64.wrap (((x.setWidth 64).toNat : Nat) : Int) = U x := by
  have h := x.isLt
  rw [IntWalk.i64_left, BitVec.toNat_setWidth, Nat.mod_eq_of_lt (by omega)]
  unfold wrap64 U
  omega
theorem xor64 (x y : BitVec 32) : bits .xor .i64 (U x) (U y) = U (x ^^^ y) := by
  show IntKind.i64.wrap ((BitVec.ofInt 64 (U x) ^^^ BitVec.ofInt 64 (U y)).toNat : Int) = _
  rw [ofInt64, ofInt64, ← BitVec.setWidth_xor]; exact wrap_U64 _
theorem and64 (x y : BitVec 32) : bits .and .i64 (U x) (U y) = U (x &&& y) := by
  show IntKind.i64.wrap ((BitVec.ofInt 64 (U x) &&& BitVec.ofInt 64 (U y)).toNat : Int) = _
  rw [ofInt64, ofInt64, ← BitVec.setWidth_and]; exact wrap_U64 _
theorem not64 (x : BitVec 32) : wrap64 (4294967295 - U x) = U (~~~ x) := by
  have h := x.isLt
  have e : (~~~ x).toNat = 4294967295 - x.toNat := by rw [BitVec.toNat_not]
  unfold wrap64 U
  omega
attribute [local go_sem] xor64 and64
theorem xor_any (x y z : BitVec 32) (w : World) :
    Calls Tryd.prog 67 #[.int .i64 (U x), .int .i64 (U y), .int .i64 (U z)] w fun e w' => e = .returned (.int .i64 (U (x ^^^ y ^^^ z))) ∧ w = w' := by
  go_enter Tryd.func67, Tryd.ntmps67
  go_wp2
  go_ret
  exact ⟨rfl, rfl⟩
theorem rot_sum (x : BitVec 32) (n : Nat) (h1 : 1 ≤ n) (h2 : n ≤ 31) : x.toNat / 2 ^ n + x.toNat * 2 ^ (32 - n) % 4294967296 = (x.rotateRight n).toNat := by
  have hx := x.isLt
  have hp : 2 ^ 32 = 2 ^ (32 - n) * 2 ^ n := by rw [← Nat.pow_add]; congr 1; omega
  have e : x.toNat * 2 ^ (32 - n) % 2 ^ 32 = 2 ^ (32 - n) * (x.toNat % 2 ^ n) := by
    rw [hp, Nat.mul_comm, Nat.mul_mod_mul_left]
  have hb : x.toNat / 2 ^ n < 2 ^ (32 - n) := by
    apply Nat.div_lt_of_lt_mul
    rw [Nat.mul_comm, ← hp]; exact hx
  rw [BitVec.toNat_rotateRight, Nat.mod_eq_of_lt (show n < 32 by omega), Nat.shiftRight_eq_div_pow, Nat.shiftLeft_eq]
  rw [show (4294967296 : Nat) = 2 ^ 32 from rfl, e, Nat.or_comm, ← Nat.two_pow_add_eq_or_of_lt hb, Nat.add_comm]
theorem rt_2 (x : BitVec 32) : wrap64 (U x / 4 + (wrap64 (U x * 1073741824)).tmod 4294967296) = U (x.rotateRight 2) := by
  have h : x.toNat / 4 + x.toNat * 1073741824 % 4294967296 = (x.rotateRight 2).toNat := rot_sum x 2 (by omega) (by omega)
  have h' : (x.toNat : Int) / 4 + (x.toNat : Int) * 1073741824 % 4294967296 = ((x.rotateRight 2).toNat : Int) := congrArg Int.ofNat h
  have hx := x.isLt
  have hr := (x.rotateRight 2).isLt
  clear h
  rw [show wrap64 (U x * 1073741824) = U x * 1073741824 by unfold wrap64 U; omega]
  rw [Int.tmod_eq_emod_of_nonneg (by unfold U; omega)]
  unfold wrap64 U
  omega
theorem turn_2 (x : BitVec 32) (w : World) :
    Calls Tryd.prog 68 #[.int .i64 (U x), .int .i64 2] w fun e w' => e = .returned (.int .i64 (U (x.rotateRight 2))) ∧ ∃ nq, w' = w.drewN nq := by
  have h := rt_2 x
  go_enter Tryd.func68, Tryd.ntmps68
  go_wp2
  go_quiet (fail)
  go_wp2
  go_ret
  exact ⟨by rw [← h]; rfl, _, rfl⟩
theorem rt_6 (x : BitVec 32) : wrap64 (U x / 64 + (wrap64 (U x * 67108864)).tmod 4294967296) = U (x.rotateRight 6) := by
  have h : x.toNat / 64 + x.toNat * 67108864 % 4294967296 = (x.rotateRight 6).toNat := rot_sum x 6 (by omega) (by omega)
  have h' : (x.toNat : Int) / 64 + (x.toNat : Int) * 67108864 % 4294967296 = ((x.rotateRight 6).toNat : Int) := congrArg Int.ofNat h
  have hx := x.isLt
  have hr := (x.rotateRight 6).isLt
  clear h
  rw [show wrap64 (U x * 67108864) = U x * 67108864 by unfold wrap64 U; omega]
  rw [Int.tmod_eq_emod_of_nonneg (by unfold U; omega)]
  unfold wrap64 U
  omega
theorem turn_6 (x : BitVec 32) (w : World) :
    Calls Tryd.prog 68 #[.int .i64 (U x), .int .i64 6] w fun e w' => e = .returned (.int .i64 (U (x.rotateRight 6))) ∧ ∃ nq, w' = w.drewN nq := by
  have h := rt_6 x
  go_enter Tryd.func68, Tryd.ntmps68
  go_wp2
  go_quiet (fail)
  go_wp2
  go_ret
  exact ⟨by rw [← h]; rfl, _, rfl⟩
theorem rt_7 (x : BitVec 32) : wrap64 (U x / 128 + (wrap64 (U x * 33554432)).tmod 4294967296) = U (x.rotateRight 7) := by
  have h : x.toNat / 128 + x.toNat * 33554432 % 4294967296 = (x.rotateRight 7).toNat := rot_sum x 7 (by omega) (by omega)
  have h' : (x.toNat : Int) / 128 + (x.toNat : Int) * 33554432 % 4294967296 = ((x.rotateRight 7).toNat : Int) := congrArg Int.ofNat h
  have hx := x.isLt
  have hr := (x.rotateRight 7).isLt
  clear h
  rw [show wrap64 (U x * 33554432) = U x * 33554432 by unfold wrap64 U; omega]
  rw [Int.tmod_eq_emod_of_nonneg (by unfold U; omega)]
  unfold wrap64 U
  omega
theorem turn_7 (x : BitVec 32) (w : World) :
    Calls Tryd.prog 68 #[.int .i64 (U x), .int .i64 7] w fun e w' => e = .returned (.int .i64 (U (x.rotateRight 7))) ∧ ∃ nq, w' = w.drewN nq := by
  have h := rt_7 x
  go_enter Tryd.func68, Tryd.ntmps68
  go_wp2
  go_quiet (fail)
  go_wp2
  go_ret
  exact ⟨by rw [← h]; rfl, _, rfl⟩
theorem rt_11 (x : BitVec 32) : wrap64 (U x / 2048 + (wrap64 (U x * 2097152)).tmod 4294967296) = U (x.rotateRight 11) := by
  have h : x.toNat / 2048 + x.toNat * 2097152 % 4294967296 = (x.rotateRight 11).toNat := rot_sum x 11 (by omega) (by omega)
  have h' : (x.toNat : Int) / 2048 + (x.toNat : Int) * 2097152 % 4294967296 = ((x.rotateRight 11).toNat : Int) := congrArg Int.ofNat h
  have hx := x.isLt
  have hr := (x.rotateRight 11).isLt
  clear h
  rw [show wrap64 (U x * 2097152) = U x * 2097152 by unfold wrap64 U; omega]
  rw [Int.tmod_eq_emod_of_nonneg (by unfold U; omega)]
  unfold wrap64 U
  omega
theorem turn_11 (x : BitVec 32) (w : World) :
    Calls Tryd.prog 68 #[.int .i64 (U x), .int .i64 11] w fun e w' => e = .returned (.int .i64 (U (x.rotateRight 11))) ∧ ∃ nq, w' = w.drewN nq := by
  have h := rt_11 x
  go_enter Tryd.func68, Tryd.ntmps68
  go_wp2
  go_quiet (fail)
  go_wp2
  go_ret
  exact ⟨by rw [← h]; rfl, _, rfl⟩
theorem rt_13 (x : BitVec 32) : wrap64 (U x / 8192 + (wrap64 (U x * 524288)).tmod 4294967296) = U (x.rotateRight 13) := by
  have h : x.toNat / 8192 + x.toNat * 524288 % 4294967296 = (x.rotateRight 13).toNat := rot_sum x 13 (by omega) (by omega)
  have h' : (x.toNat : Int) / 8192 + (x.toNat : Int) * 524288 % 4294967296 = ((x.rotateRight 13).toNat : Int) := congrArg Int.ofNat h
  have hx := x.isLt
  have hr := (x.rotateRight 13).isLt
  clear h
  rw [show wrap64 (U x * 524288) = U x * 524288 by unfold wrap64 U; omega]
  rw [Int.tmod_eq_emod_of_nonneg (by unfold U; omega)]
  unfold wrap64 U
  omega
theorem turn_13 (x : BitVec 32) (w : World) :
    Calls Tryd.prog 68 #[.int .i64 (U x), .int .i64 13] w fun e w' => e = .returned (.int .i64 (U (x.rotateRight 13))) ∧ ∃ nq, w' = w.drewN nq := by
  have h := rt_13 x
  go_enter Tryd.func68, Tryd.ntmps68
  go_wp2
  go_quiet (fail)
  go_wp2
  go_ret
  exact ⟨by rw [← h]; rfl, _, rfl⟩
theorem rt_17 (x : BitVec 32) : wrap64 (U x / 131072 + (wrap64 (U x * 32768)).tmod 4294967296) = U (x.rotateRight 17) := by
  have h : x.toNat / 131072 + x.toNat * 32768 % 4294967296 = (x.rotateRight 17).toNat := rot_sum x 17 (by omega) (by omega)
  have h' : (x.toNat : Int) / 131072 + (x.toNat : Int) * 32768 % 4294967296 = ((x.rotateRight 17).toNat : Int) := congrArg Int.ofNat h
  have hx := x.isLt
  have hr := (x.rotateRight 17).isLt
  clear h
  rw [show wrap64 (U x * 32768) = U x * 32768 by unfold wrap64 U; omega]
  rw [Int.tmod_eq_emod_of_nonneg (by unfold U; omega)]
  unfold wrap64 U
  omega
theorem turn_17 (x : BitVec 32) (w : World) :
    Calls Tryd.prog 68 #[.int .i64 (U x), .int .i64 17] w fun e w' => e = .returned (.int .i64 (U (x.rotateRight 17))) ∧ ∃ nq, w' = w.drewN nq := by
  have h := rt_17 x
  go_enter Tryd.func68, Tryd.ntmps68
  go_wp2
  go_quiet (fail)
  go_wp2
  go_ret
  exact ⟨by rw [← h]; rfl, _, rfl⟩
theorem rt_18 (x : BitVec 32) : wrap64 (U x / 262144 + (wrap64 (U x * 16384)).tmod 4294967296) = U (x.rotateRight 18) := by
  have h : x.toNat / 262144 + x.toNat * 16384 % 4294967296 = (x.rotateRight 18).toNat := rot_sum x 18 (by omega) (by omega)
  have h' : (x.toNat : Int) / 262144 + (x.toNat : Int) * 16384 % 4294967296 = ((x.rotateRight 18).toNat : Int) := congrArg Int.ofNat h
  have hx := x.isLt
  have hr := (x.rotateRight 18).isLt
  clear h
  rw [show wrap64 (U x * 16384) = U x * 16384 by unfold wrap64 U; omega]
  rw [Int.tmod_eq_emod_of_nonneg (by unfold U; omega)]
  unfold wrap64 U
  omega
theorem turn_18 (x : BitVec 32) (w : World) :
    Calls Tryd.prog 68 #[.int .i64 (U x), .int .i64 18] w fun e w' => e = .returned (.int .i64 (U (x.rotateRight 18))) ∧ ∃ nq, w' = w.drewN nq := by
  have h := rt_18 x
  go_enter Tryd.func68, Tryd.ntmps68
  go_wp2
  go_quiet (fail)
  go_wp2
  go_ret
  exact ⟨by rw [← h]; rfl, _, rfl⟩
theorem rt_19 (x : BitVec 32) : wrap64 (U x / 524288 + (wrap64 (U x * 8192)).tmod 4294967296) = U (x.rotateRight 19) := by
  have h : x.toNat / 524288 + x.toNat * 8192 % 4294967296 = (x.rotateRight 19).toNat := rot_sum x 19 (by omega) (by omega)
  have h' : (x.toNat : Int) / 524288 + (x.toNat : Int) * 8192 % 4294967296 = ((x.rotateRight 19).toNat : Int) := congrArg Int.ofNat h
  have hx := x.isLt
  have hr := (x.rotateRight 19).isLt
  clear h
  rw [show wrap64 (U x * 8192) = U x * 8192 by unfold wrap64 U; omega]
  rw [Int.tmod_eq_emod_of_nonneg (by unfold U; omega)]
  unfold wrap64 U
  omega
theorem turn_19 (x : BitVec 32) (w : World) :
    Calls Tryd.prog 68 #[.int .i64 (U x), .int .i64 19] w fun e w' => e = .returned (.int .i64 (U (x.rotateRight 19))) ∧ ∃ nq, w' = w.drewN nq := by
  have h := rt_19 x
  go_enter Tryd.func68, Tryd.ntmps68
  go_wp2
  go_quiet (fail)
  go_wp2
  go_ret
  exact ⟨by rw [← h]; rfl, _, rfl⟩
theorem rt_22 (x : BitVec 32) : wrap64 (U x / 4194304 + (wrap64 (U x * 1024)).tmod 4294967296) = U (x.rotateRight 22) := by
  have h : x.toNat / 4194304 + x.toNat * 1024 % 4294967296 = (x.rotateRight 22).toNat := rot_sum x 22 (by omega) (by omega)
  have h' : (x.toNat : Int) / 4194304 + (x.toNat : Int) * 1024 % 4294967296 = ((x.rotateRight 22).toNat : Int) := congrArg Int.ofNat h
  have hx := x.isLt
  have hr := (x.rotateRight 22).isLt
  clear h
  rw [show wrap64 (U x * 1024) = U x * 1024 by unfold wrap64 U; omega]
  rw [Int.tmod_eq_emod_of_nonneg (by unfold U; omega)]
  unfold wrap64 U
  omega
theorem turn_22 (x : BitVec 32) (w : World) :
    Calls Tryd.prog 68 #[.int .i64 (U x), .int .i64 22] w fun e w' => e = .returned (.int .i64 (U (x.rotateRight 22))) ∧ ∃ nq, w' = w.drewN nq := by
  have h := rt_22 x
  go_enter Tryd.func68, Tryd.ntmps68
  go_wp2
  go_quiet (fail)
  go_wp2
  go_ret
  exact ⟨by rw [← h]; rfl, _, rfl⟩
theorem rt_25 (x : BitVec 32) : wrap64 (U x / 33554432 + (wrap64 (U x * 128)).tmod 4294967296) = U (x.rotateRight 25) := by
  have h : x.toNat / 33554432 + x.toNat * 128 % 4294967296 = (x.rotateRight 25).toNat := rot_sum x 25 (by omega) (by omega)
  have h' : (x.toNat : Int) / 33554432 + (x.toNat : Int) * 128 % 4294967296 = ((x.rotateRight 25).toNat : Int) := congrArg Int.ofNat h
  have hx := x.isLt
  have hr := (x.rotateRight 25).isLt
  clear h
  rw [show wrap64 (U x * 128) = U x * 128 by unfold wrap64 U; omega]
  rw [Int.tmod_eq_emod_of_nonneg (by unfold U; omega)]
  unfold wrap64 U
  omega
theorem turn_25 (x : BitVec 32) (w : World) :
    Calls Tryd.prog 68 #[.int .i64 (U x), .int .i64 25] w fun e w' => e = .returned (.int .i64 (U (x.rotateRight 25))) ∧ ∃ nq, w' = w.drewN nq := by
  have h := rt_25 x
  go_enter Tryd.func68, Tryd.ntmps68
  go_wp2
  go_quiet (fail)
  go_wp2
  go_ret
  exact ⟨by rw [← h]; rfl, _, rfl⟩
end Go.Proofs.YthojdcmkajmdjaaDoor

namespace Go.Proofs.YthojdcmkajmdjaaDoor
open Go.ChangeShapes Go.WideShapes Go.ChangeAt Go.RowKit
open Go.ChangeMaps (open_string shut_string)
open Rd
attribute [local go_sem ↓] Go.wp_at_zero Go.wp_at_succ
/-- eight numbers by their places -/
def pk (x0 x1 x2 x3 x4 x5 x6 x7 : Int) : Nat → Int
  | 0 => x0 | 1 => x1 | 2 => x2 | 3 => x3 | 4 => x4 | 5 => x5 | 6 => x6 | _ => x7
theorem pk_get (x0 x1 x2 x3 x4 x5 x6 x7 : Int) (k : Nat) (h : k < 8) : (#[.int .i64 x0, .int .i64 x1, .int .i64 x2, .int .i64 x3, .int .i64 x4, .int .i64 x5, .int .i64 x6, .int .i64 x7] : Array Value)[k]? = some (.int .i64 (pk x0 x1 x2 x3 x4 x5 x6 x7 k)) := by
  rcases k with _ | _ | _ | _ | _ | _ | _ | _ | k <;> first | rfl | omega
theorem pk_words (s : St) (k : Nat) : pk (U s.a) (U s.b) (U s.c) (U s.d) (U s.e) (U s.f) (U s.g) (U s.h) k = U (s.w k) := by
  rcases k with _ | _ | _ | _ | _ | _ | _ | k <;> rfl
theorem not_all (x0 x1 x2 x3 x4 x5 x6 x7 : Int) (hn : (U (BitVec.ofInt 32 x0) == x0 && (U (BitVec.ofInt 32 x1) == x1 && (U (BitVec.ofInt 32 x2) == x2 && (U (BitVec.ofInt 32 x3) == x3 && (U (BitVec.ofInt 32 x4) == x4 && (U (BitVec.ofInt 32 x5) == x5 && (U (BitVec.ofInt 32 x6) == x6 && (U (BitVec.ofInt 32 x7) == x7)))))))) = false) : ¬ ∀ j, j < 8 → 0 ≤ pk x0 x1 x2 x3 x4 x5 x6 x7 j ∧ pk x0 x1 x2 x3 x4 x5 x6 x7 j ≤ 4294967295 := by
  intro h
  have e : ∀ x : Int, 0 ≤ x ∧ x ≤ 4294967295 → (U (BitVec.ofInt 32 x) == x) = true := by
    intro x hx
    rw [beq_iff_eq, ← mod_ofInt]; omega
  have h0 := e x0 (h 0 (by omega)); have h1 := e x1 (h 1 (by omega)); have h2 := e x2 (h 2 (by omega)); have h3 := e x3 (h 3 (by omega))
  have h4 := e x4 (h 4 (by omega)); have h5 := e x5 (h 5 (by omega)); have h6 := e x6 (h 6 (by omega)); have h7 := e x7 (h 7 (by omega))
  rw [h0, h1, h2, h3, h4, h5, h6, h7] at hn
  exact absurd hn (by decide)
set_option maxRecDepth 100000 in
set_option maxHeartbeats 1000000 in
theorem words31 (x0 x1 x2 x3 x4 x5 x6 x7 : Int) (r : Bool) (hr : (r = true ∧ ∀ j, j < 8 → 0 ≤ pk x0 x1 x2 x3 x4 x5 x6 x7 j ∧ pk x0 x1 x2 x3 x4 x5 x6 x7 j ≤ 4294967295) ∨ (r = false ∧ ¬ ∀ j, j < 8 → 0 ≤ pk x0 x1 x2 x3 x4 x5 x6 x7 j ∧ pk x0 x1 x2 x3 x4 x5 x6 x7 j ≤ 4294967295)) (w : World) :
    Calls Tryd.prog 51 #[.agg #[.int .i64 x0, .int .i64 x1, .int .i64 x2, .int .i64 x3, .int .i64 x4, .int .i64 x5, .int .i64 x6, .int .i64 x7]] w fun e w' => e = .returned (.bool r) ∧ Below w.heap.size w w' := by
  have HR := Lib.hid hr
  clear hr
  go_enter Tryd.func51, Tryd.ntmps51
  go_wp2_with fail
  have HX := Lib.hid (heap_alloc_new w (.cells #[.int .i64 x0, .int .i64 x1, .int .i64 x2, .int .i64 x3, .int .i64 x4, .int .i64 x5, .int .i64 x6, .int .i64 x7] 58))
  go_loopw [3] (fun i wr => ∃ k : Nat, k ≤ 8 ∧ i = .int .i64 k ∧ (∀ j, j < k → 0 ≤ pk x0 x1 x2 x3 x4 x5 x6 x7 j ∧ pk x0 x1 x2 x3 x4 x5 x6 x7 j ≤ 4294967295) ∧ wr.heap[w.heap.size]? = some (.cells #[.int .i64 x0, .int .i64 x1, .int .i64 x2, .int .i64 x3, .int .i64 x4, .int .i64 x5, .int .i64 x6, .int .i64 x7] 58 (0, 0)) ∧ Below w.heap.size w wr) (fun i _ => 8 - (intOf i).toNat)
  case atStart => exact ⟨0, by omega, rfl, fun j hj => absurd hj (by omega), HX.out, (Below.refl _ _).alloc (Nat.le_refl _) _⟩
  case round =>
    obtain ⟨k, hk, rfl, hall, hxr, hbr⟩ := hrel
    have HXR := Lib.hid hxr
    have HBR := Lib.hid hbr
    have HA := Lib.hid hall
    by_cases hlt : k < 8
    · have hx : wr.cell? ⟨w.heap.size, k, none⟩ = some (.int .i64 (pk x0 x1 x2 x3 x4 x5 x6 x7 k)) := (cell_of_row wr w.heap.size k _ _ _ hxr).trans (pk_get x0 x1 x2 x3 x4 x5 x6 x7 k hlt)
      have i1 : (k : Int) < 8 := by omega
      clear hall hxr hbr
      by_cases hlo : pk x0 x1 x2 x3 x4 x5 x6 x7 k < 0
      · have hf : r = false := by
          rcases HR.out with ⟨_, h⟩ | ⟨h, _⟩
          · exact absurd (h k hlt).1 (by omega)
          · exact h
        clear HR
        subst hf
        go_wp2
        go_ret
        exact ⟨rfl, HBR.out⟩
      · by_cases hhi : 4294967295 < pk x0 x1 x2 x3 x4 x5 x6 x7 k
        · have hf : r = false := by
            rcases HR.out with ⟨_, h⟩ | ⟨h, _⟩
            · exact absurd (h k hlt).2 (by omega)
            · exact h
          clear HR
          subst hf
          go_wp2
          go_ret
          exact ⟨rfl, HBR.out⟩
        · go_wp2
          go_roundw
          case rel =>
            refine ⟨k + 1, by omega, by go_num, ?_, HXR.out, HBR.out⟩
            intro j hj
            by_cases h : j < k
            · exact HA.out j h
            · obtain rfl : j = k := by omega
              exact ⟨by omega, by omega⟩
          case measure => simp [intOf]; omega
    · obtain rfl : k = 8 := by omega
      have hf : r = true := by
        rcases HR.out with ⟨h, _⟩ | ⟨_, h⟩
        · exact h
        · exact absurd HA.out h
      clear HR hall hxr hbr
      subst hf
      go_wp2
      go_ret
      exact ⟨rfl, HBR.out⟩
theorem words_ok (s : St) (w : World) : Calls Tryd.prog 51 #[.agg #[.int .i64 (U s.a), .int .i64 (U s.b), .int .i64 (U s.c), .int .i64 (U s.d), .int .i64 (U s.e), .int .i64 (U s.f), .int .i64 (U s.g), .int .i64 (U s.h)]] w fun e w' => e = .returned (.bool true) ∧ Below w.heap.size w w' :=
  words31 (U s.a) (U s.b) (U s.c) (U s.d) (U s.e) (U s.f) (U s.g) (U s.h) true (Or.inl ⟨rfl, fun j _ => by rw [pk_words]; have h1 := U_nonneg (s.w j); have h2 := U_lt (s.w j); omega⟩) w
theorem words_bad (x0 x1 x2 x3 x4 x5 x6 x7 : Int) (hn : (U (BitVec.ofInt 32 x0) == x0 && (U (BitVec.ofInt 32 x1) == x1 && (U (BitVec.ofInt 32 x2) == x2 && (U (BitVec.ofInt 32 x3) == x3 && (U (BitVec.ofInt 32 x4) == x4 && (U (BitVec.ofInt 32 x5) == x5 && (U (BitVec.ofInt 32 x6) == x6 && (U (BitVec.ofInt 32 x7) == x7)))))))) = false) (w : World) : Calls Tryd.prog 51 #[.agg #[.int .i64 x0, .int .i64 x1, .int .i64 x2, .int .i64 x3, .int .i64 x4, .int .i64 x5, .int .i64 x6, .int .i64 x7]] w fun e w' => e = .returned (.bool false) ∧ Below w.heap.size w w' :=
  words31 x0 x1 x2 x3 x4 x5 x6 x7 false (Or.inr ⟨rfl, not_all x0 x1 x2 x3 x4 x5 x6 x7 hn⟩) w
theorem First20 (w : World) :
    Calls Tryd.prog 37 #[] w fun e w' => e = .returned (.agg #[.int .i64 (U F0.a), .int .i64 (U F0.b), .int .i64 (U F0.c), .int .i64 (U F0.d), .int .i64 (U F0.e), .int .i64 (U F0.f), .int .i64 (U F0.g), .int .i64 (U F0.h)]) ∧ Below w.heap.size w w' := by
  go_enter Tryd.func37, Tryd.ntmps37
  go_wp2
  exact bodyPost_ret (v := .agg #[.int .i64 (U F0.a), .int .i64 (U F0.b), .int .i64 (U F0.c), .int .i64 (U F0.d), .int .i64 (U F0.e), .int .i64 (U F0.f), .int .i64 (U F0.g), .int .i64 (U F0.h)]) (by simp [results, Tryd.results37, go_sem, F0, U]) rfl ⟨rfl, (Below.refl _ _).alloc (Nat.le_refl _) _⟩
end Go.Proofs.YthojdcmkajmdjaaDoor

namespace Go.Proofs.YthojdcmkajmdjaaDoor
open Go.ChangeShapes Go.WideShapes Go.ChangeAt Go.RowKit
open Go.ChangeMaps (open_string shut_string)
open Rd
attribute [local go_sem ↓] Go.wp_at_zero Go.wp_at_succ
theorem by_cat (s : St) (k : Nat) : (⟨(St.by s k).toArray⟩ : ByteArray) ++ ⟨#[lo8 (s.w k >>> 24), lo8 (s.w k >>> 16), lo8 (s.w k >>> 8), lo8 (s.w k)]⟩ = ⟨(St.by s (k + 1)).toArray⟩ := by
  apply ByteArray.ext
  rw [ByteArray.data_append]
  apply Array.toList_inj.1
  rw [Array.toList_append]
  rfl
theorem by_size4 (s : St) (k : Nat) : (⟨(St.by s k).toArray⟩ : ByteArray).size = 4 * k := by
  show (St.by s k).toArray.size = 4 * k
  simp [by_length]
set_option maxRecDepth 100000 in
set_option maxHeartbeats 1000000 in
theorem Bytes18_bad (x0 x1 x2 x3 x4 x5 x6 x7 : Int) (hn : (U (BitVec.ofInt 32 x0) == x0 && (U (BitVec.ofInt 32 x1) == x1 && (U (BitVec.ofInt 32 x2) == x2 && (U (BitVec.ofInt 32 x3) == x3 && (U (BitVec.ofInt 32 x4) == x4 && (U (BitVec.ofInt 32 x5) == x5 && (U (BitVec.ofInt 32 x6) == x6 && (U (BitVec.ofInt 32 x7) == x7)))))))) = false) (w : World) : Calls Tryd.prog 39 #[.agg #[.int .i64 x0, .int .i64 x1, .int .i64 x2, .int .i64 x3, .int .i64 x4, .int .i64 x5, .int .i64 x6, .int .i64 x7]] w fun e w' => e = .returned (.tuple #[.string ⟨#[]⟩, .int .i64 11]) ∧ Below w.heap.size w w' := by
  have HN := Lib.hid hn
  clear hn
  go_enter Tryd.func39, Tryd.ntmps39
  go_wp2_with fail
  refine (words_bad x0 x1 x2 x3 x4 x5 x6 x7 HN.out _).mono ?_
  rintro e w1 ⟨rfl, hb1⟩
  have HB1 := Lib.hid (((Below.refl _ w).alloc (Nat.le_refl _) _).trans (hb1.mono (by simp)))
  clear hb1
  go_wp2
  exact bodyPost_ret (v := .tuple #[.string ⟨#[]⟩, .int .i64 11]) (by simp [results, Tryd.results39, go_sem]) rfl ⟨rfl, HB1.out⟩
set_option maxRecDepth 100000 in
set_option maxHeartbeats 1000000 in
theorem Bytes18_ok (s : St) (w : World) : Calls Tryd.prog 39 #[.agg #[.int .i64 (U s.a), .int .i64 (U s.b), .int .i64 (U s.c), .int .i64 (U s.d), .int .i64 (U s.e), .int .i64 (U s.f), .int .i64 (U s.g), .int .i64 (U s.h)]] w fun e w' => e = .returned (.tuple #[.string ⟨(St.by s 8).toArray⟩, .int .i64 0]) ∧ Below w.heap.size w w' := by
  go_enter Tryd.func39, Tryd.ntmps39
  go_wp2_with fail
  refine (words_ok s _).mono ?_
  rintro e w1 ⟨rfl, hb1⟩
  have hz1 := hb1.size
  simp only [World.size_alloc] at hz1
  have HX := Lib.hid ((hb1.block w.heap.size (by simp)).trans (heap_alloc_new w _))
  have HB1 := Lib.hid (((Below.refl _ w).alloc (Nat.le_refl _) _).trans (hb1.mono (by simp)))
  clear hb1
  go_wp2_with fail
  go_loopw [4, 5] (fun t i wr => ∃ k : Nat, k ≤ 8 ∧ i = .int .i64 k ∧ t = .string ⟨(St.by s k).toArray⟩ ∧ wr.heap[w.heap.size]? = some (.cells #[.int .i64 (U s.a), .int .i64 (U s.b), .int .i64 (U s.c), .int .i64 (U s.d), .int .i64 (U s.e), .int .i64 (U s.f), .int .i64 (U s.g), .int .i64 (U s.h)] 58 (0, 0)) ∧ Below w.heap.size w wr) (fun _ i _ => 8 - (intOf i).toNat)
  case atStart => exact ⟨0, by omega, rfl, rfl, HX.out, HB1.out⟩
  case round =>
    obtain ⟨k, hk, rfl, rfl, hxr, hbr⟩ := hrel
    have HXR := Lib.hid hxr
    have HBR := Lib.hid hbr
    by_cases hlt : k < 8
    · have hc : wr.cell? ⟨w.heap.size, k, none⟩ = some (.int .i64 (U (s.w k))) := (cell_of_row wr w.heap.size k _ _ _ hxr).trans (stA_get s k hlt)
      have hlx : w.heap.size < wr.heap.size := (Array.getElem?_eq_some_iff.1 hxr).1
      have i1 : (k : Int) < 8 := by omega
      clear hxr hbr
      have hmx : ¬ 9223372036854775807 < (⟨(St.by s k).toArray⟩ : ByteArray).size + 4 := by rw [by_size4]; omega
      have hcv := cv4
      have hcvd := cv4d
      have e24 := q24 (s.w k)
      have e16 := q16 (s.w k)
      have e8 := q8 (s.w k)
      have e0 := q0 (s.w k)
      obtain ⟨pre, hpre⟩ : ∃ p, (⟨(St.by s k).toArray⟩ : ByteArray) = p := ⟨_, rfl⟩
      rw [hpre] at hmx ⊢
      have HP := Lib.hid hpre
      clear hpre
      go_wp2_with fail
      go_region_held (fun w' => w'.cell? ⟨w.heap.size, k, none⟩ = some (.int .i64 (U (s.w k)))) (repeat (first | assumption | apply keepA | apply keepD | apply keepD1)) (first | fail)
      go_wp2
      go_roundw
      case rel =>
        refine ⟨k + 1, by omega, by go_num, ?_, ?_, (HBR.out.alloc HBR.out.size _).drew⟩
        · rw [← by_cat, HP.out]
        · exact (Below.heap_alloc _ _ _ hlx).trans HXR.out
      case measure => simp [intOf]; omega
    · obtain rfl : k = 8 := by omega
      clear hxr hbr
      go_wp2
      exact bodyPost_ret (v := .tuple #[.string ⟨(St.by s 8).toArray⟩, .int .i64 0]) (by simp [results, Tryd.results39, go_sem]) rfl ⟨rfl, HBR.out⟩
end Go.Proofs.YthojdcmkajmdjaaDoor
