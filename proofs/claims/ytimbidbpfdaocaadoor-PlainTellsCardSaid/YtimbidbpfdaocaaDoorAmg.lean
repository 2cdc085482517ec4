/- Whether a byte is among some is told. Conditions: they are not too many. -/
import Derived.Test.YtimbidbpfdaocaaDoorShw
namespace Go.Proofs.YtimbidbpfdaocaaDoor
open Go.RowKit Go.Shelf
open Pl Seqo
def inB (c : UInt8) (l : List UInt8) : Bool := decide (c ∈ l)
theorem get_list (s : ByteArray) (k : Nat) (h : k < s.size) : s.data.toList[k]'(by rw [size_list]; exact h) = s[k] := rfl
theorem u8_beq (x y : UInt8) : ((x.toNat : Int) == (y.toNat : Int)) = decide (x = y) := by
  rw [Bool.eq_iff_iff, beq_iff_eq, decide_eq_true_iff]
  constructor
  · intro h; exact UInt8.toNat_inj.1 (by omega)
  · rintro rfl; rfl
set_option maxHeartbeats 1000000 in
theorem Among_any (c : UInt8) (l : ByteArray) (hl : l.size ≤ 1000) (w : World) :
    Calls Tryd.prog 18 #[.int .u8 (c.toNat : Int), .string l] w fun e w' => e = .returned (.bool (inB c l.data.toList)) ∧ w = w' := by
  go_enter Tryd.func18, Tryd.ntmps18
  go_wp2
  go_loop [5] (fun i => ∃ k : Nat, k ≤ l.size ∧ i = .int .i64 k ∧ ∀ j (hj : j < l.size), j < k → l[j] ≠ c) (fun i => l.size - (intOf i).toNat)
  case atStart => exact ⟨0, Nat.zero_le _, rfl, fun j _ hj => absurd hj (Nat.not_lt_zero _)⟩
  case round =>
    obtain ⟨k, hk, rfl, hne⟩ := hrel
    have HN := Lib.hid hne
    clear hne
    by_cases hlt : k < l.size
    · have hlti : (k : Int) < (l.size : Int) := by omega
      have hbq := u8_beq l[k] c
      by_cases he : l[k] = c
      · rw [decide_eq_true he] at hbq
        have HE := Lib.hid he
        clear he
        go_wp2
        go_ret
        refine ⟨ret_bool ?_, rfl⟩
        symm
        exact decide_eq_true (by rw [← HE.out, ← get_list l k hlt]; exact List.getElem_mem _)
      · rw [decide_eq_false he] at hbq
        have HE := Lib.hid he
        clear he
        go_wp2
        go_round
        case rel =>
          refine ⟨k + 1, by omega, by go_num, fun j hj hjk => ?_⟩
          rcases Nat.lt_or_ge j k with h | h
          · exact HN.out j hj h
          · obtain rfl : j = k := by omega
            exact HE.out
        case measure => simp [intOf]; omega
    · go_wp2
      go_ret
      refine ⟨ret_bool ?_, rfl⟩
      symm
      refine decide_eq_false fun hm => ?_
      obtain ⟨j, hj, e⟩ := List.getElem_of_mem hm
      rw [size_list] at hj
      exact HN.out j hj (by omega) (by rw [← get_list l j hj]; exact e)
end Go.Proofs.YtimbidbpfdaocaaDoor
