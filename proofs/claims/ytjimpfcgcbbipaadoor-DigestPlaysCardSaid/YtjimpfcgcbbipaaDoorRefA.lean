/- The reference's turn of a word, its exclusive or, its first state and its check of words tell what the arithmetic of words says. Conditions: the arguments are words where a rule says so. -/
import Derived.Test.YtjimpfcgcbbipaaDoorMix
import Derived.StillTailTactics
import Derived.Deep.QuietTactic
import Derived.BigQuiet
import Derived.WalkKit
import Derived.WalkLawsBesides
import Derived.WalkSpells
import Derived.Outline
import Derived.Lib.Hide
namespace Go.Proofs.YtjimpfcgcbbipaaDoor
open Go.ChangeShapes Go.WideShapes Go.ChangeAt Go.RowKit
open Go.ChangeMaps (open_string shut_string)
open Rd
attribute [local go_sem ↓] Go.wp_at_zero Go.wp_at_succ
theorem ofInt64 (x : BitVec 32) : BitVec.ofInt 64 (U x) = x.setWidth 64 := by
  unfold U
  rw [BitVec.ofInt_natCast]
  apply BitVec.eq_of_toNat_eq
  simp
theorem wrap_U64 (x : BitVec 32) : IntKind.i64.wrap (((x.setWidth 64).toNat : Nat) : Int) = U x := by
  have h := x.isLt
  rw [IntWalk.i64_left, BitVec.toNat_setWidth, Nat.mod_eq_of_lt (by omega)]
  unfold wrap64 U
  omega
theorem xor64 (x y : BitVec 32) : bits .xor .i64 (U x) (U y) = U (x ^^^ y) := by
  show IntKind.i64.wrap ((BitVec.ofInt 64 (U x) ^^^ BitVec.ofInt 64 (U y)).toNat : Int) = _
  rw [ofInt64, ofInt64, ← BitVec.setWidth_xor]; exact wrap_U64 _
theorem and64 (x y : BitVec 32) : bits .and .i64 (U x) (U y) = U (x &&& y) := by
  show IntKind.i64.wrap ((BitVec.ofInt 64 (U x) &&& BitVec.ofInt 64 (U y)).toNat : Int) = _
  rw [ofInt64, ofInt64, ← BitVec.setWidth_and]; exact wrap_U64 _
theorem not64 (x : BitVec 32) : wrap64 (4294967295 - U x) = U (~~~ x) := by
  have h := x.isLt
  have e : (~~~ x).toNat = 4294967295 - x.toNat := by rw [BitVec.toNat_not]
  unfold wrap64 U
  omega
attribute [local go_sem] xor64 and64
theorem xor_any (x y z : BitVec 32) (w : World) :
    Calls Tryd.prog 59 #[.int .i64 (U x), .int .i64 (U y), .int .i64 (U z)] w fun e w' => e = .returned (.int .i64 (U (x ^^^ y ^^^ z))) ∧ w = w' := by
  go_enter Tryd.func59, Tryd.ntmps59
  go_wp2
  go_ret
  exact ⟨rfl, rfl⟩
theorem rot_sum (x : BitVec 32) (n : Nat) (h1 : 1 ≤ n) (h2 : n ≤ 31) : x.toNat / 2 ^ n + x.toNat * 2 ^ (32 - n) % 4294967296 = (x.rotateRight n).toNat := by
  have hx := x.isLt
  have hp : 2 ^ 32 = 2 ^ (32 - n) * 2 ^ n := by rw [← Nat.pow_add]; congr 1; omega
  have e : x.toNat * 2 ^ (32 - n) % 2 ^ 32 = 2 ^ (32 - n) * (x.toNat % 2 ^ n) := by
    rw [hp, Nat.mul_comm, Nat.mul_mod_mul_left]
  have hb : x.toNat / 2 ^ n < 2 ^ (32 - n) := by
    apply Nat.div_lt_of_lt_mul
    rw [Nat.mul_comm, ← hp]; exact hx
  rw [BitVec.toNat_rotateRight, Nat.mod_eq_of_lt (show n < 32 by omega), Nat.shiftRight_eq_div_pow, Nat.shiftLeft_eq]
  rw [show (4294967296 : Nat) = 2 ^ 32 from rfl, e, Nat.or_comm, ← Nat.two_pow_add_eq_or_of_lt hb, Nat.add_comm]
theorem rt_2 (x : BitVec 32) : wrap64 (U x / 4 + (wrap64 (U x * 1073741824)).tmod 4294967296) = U (x.rotateRight 2) := by
  have h : x.toNat / 4 + x.toNat * 1073741824 % 4294967296 = (x.rotateRight 2).toNat := rot_sum x 2 (by omega) (by omega)
  have h' : (x.toNat : Int) / 4 + (x.toNat : Int) * 1073741824 % 4294967296 = ((x.rotateRight 2).toNat : Int) := congrArg Int.ofNat h
  have hx := x.isLt
  have hr := (x.rotateRight 2).isLt
  clear h
  rw [show wrap64 (U x * 1073741824) = U x * 1073741824 by unfold wrap64 U; omega]
  rw [Int.tmod_eq_emod_of_nonneg (by unfold U; omega)]
  unfold wrap64 U
  omega
theorem turn_2 (x : BitVec 32) (w : World) :
    Calls Tryd.prog 60 #[.int .i64 (U x), .int .i64 2] w fun e w' => e = .returned (.int .i64 (U (x.rotateRight 2))) ∧ ∃ nq, w' = w.drewN nq := by
  have h := rt_2 x
  go_enter Tryd.func60, Tryd.ntmps60
  go_wp2
  go_quiet (fail)
  go_wp2
  go_ret
  exact ⟨by rw [← h]; rfl, _, rfl⟩
theorem rt_6 (x : BitVec 32) : wrap64 (U x / 64 + (wrap64 (U x * 67108864)).tmod 4294967296) = U (x.rotateRight 6) := by
  have h : x.toNat / 64 + x.toNat * 67108864 % 4294967296 = (x.rotateRight 6).toNat := rot_sum x 6 (by omega) (by omega)
  have h' : (x.toNat : Int) / 64 + (x.toNat : Int) * 67108864 % 4294967296 = ((x.rotateRight 6).toNat : Int) := congrArg Int.ofNat h
  have hx := x.isLt
  have hr := (x.rotateRight 6).isLt
  clear h
  rw [show wrap64 (U x * 67108864) = U x * 67108864 by unfold wrap64 U; omega]
  rw [Int.tmod_eq_emod_of_nonneg (by unfold U; omega)]
  unfold wrap64 U
  omega
theorem turn_6 (x : BitVec 32) (w : World) :
    Calls Tryd.prog 60 #[.int .i64 (U x), .int .i64 6] w fun e w' => e = .returned (.int .i64 (U (x.rotateRight 6))) ∧ ∃ nq, w' = w.drewN nq := by
  have h := rt_6 x
  go_enter Tryd.func60, Tryd.ntmps60
  go_wp2
  go_quiet (fail)
  go_wp2
  go_ret
  exact ⟨by rw [← h]; rfl, _, rfl⟩
theorem rt_7 (x : BitVec 32) : wrap64 (U x / 128 + (wrap64 (U x * 33554432)).tmod 4294967296) = U (x.rotateRight 7) := by
  have h : x.toNat / 128 + x.toNat * 33554432 % 4294967296 = (x.rotateRight 7).toNat := rot_sum x 7 (by omega) (by omega)
  have h' : (x.toNat : Int) / 128 + (x.toNat : Int) * 33554432 % 4294967296 = ((x.rotateRight 7).toNat : Int) := congrArg Int.ofNat h
  have hx := x.isLt
  have hr := (x.rotateRight 7).isLt
  clear h
  rw [show wrap64 (U x * 33554432) = U x * 33554432 by unfold wrap64 U; omega]
  rw [Int.tmod_eq_emod_of_nonneg (by unfold U; omega)]
  unfold wrap64 U
  omega
theorem turn_7 (x : BitVec 32) (w : World) :
    Calls Tryd.prog 60 #[.int .i64 (U x), .int .i64 7] w fun e w' => e = .returned (.int .i64 (U (x.rotateRight 7))) ∧ ∃ nq, w' = w.drewN nq := by
  have h := rt_7 x
  go_enter Tryd.func60, Tryd.ntmps60
  go_wp2
  go_quiet (fail)
  go_wp2
  go_ret
  exact ⟨by rw [← h]; rfl, _, rfl⟩
theorem rt_11 (x : BitVec 32) : wrap64 (U x / 2048 + (wrap64 (U x * 2097152)).tmod 4294967296) = U (x.rotateRight 11) := by
  have h : x.toNat / 2048 + x.toNat * 2097152 % 4294967296 = (x.rotateRight 11).toNat := rot_sum x 11 (by omega) (by omega)
  have h' : (x.toNat : Int) / 2048 + (x.toNat : Int) * 2097152 % 4294967296 = ((x.rotateRight 11).toNat : Int) := congrArg Int.ofNat h
  have hx := x.isLt
  have hr := (x.rotateRight 11).isLt
  clear h
  rw [show wrap64 (U x * 2097152) = U x * 2097152 by unfold wrap64 U; omega]
  rw [Int.tmod_eq_emod_of_nonneg (by unfold U; omega)]
  unfold wrap64 U
  omega
theorem turn_11 (x : BitVec 32) (w : World) :
    Calls Tryd.prog 60 #[.int .i64 (U x), .int .i64 11] w fun e w' => e = .returned (.int .i64 (U (x.rotateRight 11))) ∧ ∃ nq, w' = w.drewN nq := by
  have h := rt_11 x
  go_enter Tryd.func60, Tryd.ntmps60
  go_wp2
  go_quiet (fail)
  go_wp2
  go_ret
  exact ⟨by rw [← h]; rfl, _, rfl⟩
theorem rt_13 (x : BitVec 32) : wrap64 (U x / 8192 + (wrap64 (U x * 524288)).tmod 4294967296) = U (x.rotateRight 13) := by
  have h : x.toNat / 8192 + x.toNat * 524288 % 4294967296 = (x.rotateRight 13).toNat := rot_sum x 13 (by omega) (by omega)
  have h' : (x.toNat : Int) / 8192 + (x.toNat : Int) * 524288 % 4294967296 = ((x.rotateRight 13).toNat : Int) := congrArg Int.ofNat h
  have hx := x.isLt
  have hr := (x.rotateRight 13).isLt
  clear h
  rw [show wrap64 (U x * 524288) = U x * 524288 by unfold wrap64 U; omega]
  rw [Int.tmod_eq_emod_of_nonneg (by unfold U; omega)]
  unfold wrap64 U
  omega
theorem turn_13 (x : BitVec 32) (w : World) :
    Calls Tryd.prog 60 #[.int .i64 (U x), .int .i64 13] w fun e w' => e = .returned (.int .i64 (U (x.rotateRight 13))) ∧ ∃ nq, w' = w.drewN nq := by
  have h := rt_13 x
  go_enter Tryd.func60, Tryd.ntmps60
  go_wp2
  go_quiet (fail)
  go_wp2
  go_ret
  exact ⟨by rw [← h]; rfl, _, rfl⟩
theorem rt_17 (x : BitVec 32) : wrap64 (U x / 131072 + (wrap64 (U x * 32768)).tmod 4294967296) = U (x.rotateRight 17) := by
  have h : x.toNat / 131072 + x.toNat * 32768 % 4294967296 = (x.rotateRight 17).toNat := rot_sum x 17 (by omega) (by omega)
  have h' : (x.toNat : Int) / 131072 + (x.toNat : Int) * 32768 % 4294967296 = ((x.rotateRight 17).toNat : Int) := congrArg Int.ofNat h
  have hx := x.isLt
  have hr := (x.rotateRight 17).isLt
  clear h
  rw [show wrap64 (U x * 32768) = U x * 32768 by unfold wrap64 U; omega]
  rw [Int.tmod_eq_emod_of_nonneg (by unfold U; omega)]
  unfold wrap64 U
  omega
theorem turn_17 (x : BitVec 32) (w : World) :
    Calls Tryd.prog 60 #[.int .i64 (U x), .int .i64 17] w fun e w' => e = .returned (.int .i64 (U (x.rotateRight 17))) ∧ ∃ nq, w' = w.drewN nq := by
  have h := rt_17 x
  go_enter Tryd.func60, Tryd.ntmps60
  go_wp2
  go_quiet (fail)
  go_wp2
  go_ret
  exact ⟨by rw [← h]; rfl, _, rfl⟩
theorem rt_18 (x : BitVec 32) : wrap64 (U x / 262144 + (wrap64 (U x * 16384)).tmod 4294967296) = U (x.rotateRight 18) := by
  have h : x.toNat / 262144 + x.toNat * 16384 % 4294967296 = (x.rotateRight 18).toNat := rot_sum x 18 (by omega) (by omega)
  have h' : (x.toNat : Int) / 262144 + (x.toNat : Int) * 16384 % 4294967296 = ((x.rotateRight 18).toNat : Int) := congrArg Int.ofNat h
  have hx := x.isLt
  have hr := (x.rotateRight 18).isLt
  clear h
  rw [show wrap64 (U x * 16384) = U x * 16384 by unfold wrap64 U; omega]
  rw [Int.tmod_eq_emod_of_nonneg (by unfold U; omega)]
  unfold wrap64 U
  omega
theorem turn_18 (x : BitVec 32) (w : World) :
    Calls Tryd.prog 60 #[.int .i64 (U x), .int .i64 18] w fun e w' => e = .returned (.int .i64 (U (x.rotateRight 18))) ∧ ∃ nq, w' = w.drewN nq := by
  have h := rt_18 x
  go_enter Tryd.func60, Tryd.ntmps60
  go_wp2
  go_quiet (fail)
  go_wp2
  go_ret
  exact ⟨by rw [← h]; rfl, _, rfl⟩
theorem rt_19 (x : BitVec 32) : wrap64 (U x / 524288 + (wrap64 (U x * 8192)).tmod 4294967296) = U (x.rotateRight 19) := by
  have h : x.toNat / 524288 + x.toNat * 8192 % 4294967296 = (x.rotateRight 19).toNat := rot_sum x 19 (by omega) (by omega)
  have h' : (x.toNat : Int) / 524288 + (x.toNat : Int) * 8192 % 4294967296 = ((x.rotateRight 19).toNat : Int) := congrArg Int.ofNat h
  have hx := x.isLt
  have hr := (x.rotateRight 19).isLt
  clear h
  rw [show wrap64 (U x * 8192) = U x * 8192 by unfold wrap64 U; omega]
  rw [Int.tmod_eq_emod_of_nonneg (by unfold U; omega)]
  unfold wrap64 U
  omega
theorem turn_19 (x : BitVec 32) (w : World) :
    Calls Tryd.prog 60 #[.int .i64 (U x), .int .i64 19] w fun e w' => e = .returned (.int .i64 (U (x.rotateRight 19))) ∧ ∃ nq, w' = w.drewN nq := by
  have h := rt_19 x
  go_enter Tryd.func60, Tryd.ntmps60
  go_wp2
  go_quiet (fail)
  go_wp2
  go_ret
  exact ⟨by rw [← h]; rfl, _, rfl⟩
theorem rt_22 (x : BitVec 32) : wrap64 (U x / 4194304 + (wrap64 (U x * 1024)).tmod 4294967296) = U (x.rotateRight 22) := by
  have h : x.toNat / 4194304 + x.toNat * 1024 % 4294967296 = (x.rotateRight 22).toNat := rot_sum x 22 (by omega) (by omega)
  have h' : (x.toNat : Int) / 4194304 + (x.toNat : Int) * 1024 % 4294967296 = ((x.rotateRight 22).toNat : Int) := congrArg Int.ofNat h
  have hx := x.isLt
  have hr := (x.rotateRight 22).isLt
  clear h
  rw [show wrap64 (U x * 1024) = U x * 1024 by unfold wrap64 U; omega]
  rw [Int.tmod_eq_emod_of_nonneg (by unfold U; omega)]
  unfold wrap64 U
  omega
theorem turn_22 (x : BitVec 32) (w : World) :
    Calls Tryd.prog 60 #[.int .i64 (U x), .int .i64 22] w fun e w' => e = .returned (.int .i64 (U (x.rotateRight 22))) ∧ ∃ nq, w' = w.drewN nq := by
  have h := rt_22 x
  go_enter Tryd.func60, Tryd.ntmps60
  go_wp2
  go_quiet (fail)
  go_wp2
  go_ret
  exact ⟨by rw [← h]; rfl, _, rfl⟩
theorem rt_25 (x : BitVec 32) : wrap64 (U x / 33554432 + (wrap64 (U x * 128)).tmod 4294967296) = U (x.rotateRight 25) := by
  have h : x.toNat / 33554432 + x.toNat * 128 % 4294967296 = (x.rotateRight 25).toNat := rot_sum x 25 (by omega) (by omega)
  have h' : (x.toNat : Int) / 33554432 + (x.toNat : Int) * 128 % 4294967296 = ((x.rotateRight 25).toNat : Int) := congrArg Int.ofNat h
  have hx := x.isLt
  have hr := (x.rotateRight 25).isLt
  clear h
  rw [show wrap64 (U x * 128) = U x * 128 by unfold wrap64 U; omega]
  rw [Int.tmod_eq_emod_of_nonneg (by unfold U; omega)]
  unfold wrap64 U
  omega
theorem turn_25 (x : BitVec 32) (w : World) :
    Calls Tryd.prog 60 #[.int .i64 (U x), .int .i64 25] w fun e w' => e = .returned (.int .i64 (U (x.rotateRight 25))) ∧ ∃ nq, w' = w.drewN nq := by
  have h := rt_25 x
  go_enter Tryd.func60, Tryd.ntmps60
  go_wp2
  go_quiet (fail)
  go_wp2
  go_ret
  exact ⟨by rw [← h]; rfl, _, rfl⟩
end Go.Proofs.YtjimpfcgcbbipaaDoor
