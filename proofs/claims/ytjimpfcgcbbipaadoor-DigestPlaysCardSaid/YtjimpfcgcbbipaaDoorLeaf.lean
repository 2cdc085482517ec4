/- The turn of a word, the two small mixes of a schedule and their functions tell what the arithmetic of words says. Conditions: the arguments are words. -/
import Derived.Test.YtjimpfcgcbbipaaDoorRows
import Derived.Test.YtjimpfcgcbbipaaDoorWords
import Derived.WalkKit
import Derived.WalkLawsBesides
import Derived.WalkSpells
import Derived.Outline
namespace Go.Proofs.YtjimpfcgcbbipaaDoor
open Go.RowKit
open Rd
attribute [local go_sem] mod_add bits_and bits_or bits_xor bits_not bits_xor0 wrap64_U
theorem rot_n (x : BitVec 32) (n : Nat) (h1 : 1 ≤ n) (h2 : n ≤ 31) (w : World) :
    Calls Tryd.prog 71 #[.int .u32 (U x), .int .i64 (-n)] w fun e w' => e = .returned (.int .u32 (U (x.rotateRight n))) ∧ w = w' := by
  have ha := and31 n h1 h2
  have hr := rotr_eq' x n h1 h2
  have e1 : ((32 : Int) - (n : Int)).toNat = 32 - n := by omega
  have e2 : IntKind.u64.wrap (32 - (32 - (n : Int))) = (n : Int) := by simp [IntKind.wrap, IntKind.bits, IntKind.signed]; omega
  go_enter Tryd.func71, Tryd.ntmps71
  go_wp2
  go_ret
  exact ⟨rfl, rfl⟩

/-- 'turned(x, places...)' at three places -/
theorem turned3 (x : BitVec 32) (a b c : Nat) (ha1 : 1 ≤ a) (ha2 : a ≤ 31) (hb1 : 1 ≤ b) (hb2 : b ≤ 31) (hc1 : 1 ≤ c) (hc2 : c ≤ 31) (B : Nat) (w : World)
    (h0 : w.cell? ⟨B, 0, none⟩ = some (.int .i64 a)) (h1 : w.cell? ⟨B, 1, none⟩ = some (.int .i64 b)) (h2 : w.cell? ⟨B, 2, none⟩ = some (.int .i64 c)) :
    Calls Tryd.prog 64 #[.int .u32 (U x), .slice (some ⟨B, 0, none⟩) 3 3] w fun e w' => e = .returned (.int .u32 (U (x.rotateRight a ^^^ x.rotateRight b ^^^ x.rotateRight c))) ∧ w = w' := by
  go_enter Tryd.func64, Tryd.ntmps64
  go_wp2
  refine wp_loop_rounds 4 ?_
  rw [rounds_succ]
  go_wp2_with fail
  refine (rot_n _ a ha1 ha2 _).mono ?_
  rintro e w' ⟨rfl, rfl⟩
  go_wp2
  rw [rounds_succ]
  go_wp2_with fail
  refine (rot_n _ b hb1 hb2 _).mono ?_
  rintro e w' ⟨rfl, rfl⟩
  go_wp2
  rw [rounds_succ]
  go_wp2_with fail
  refine (rot_n _ c hc1 hc2 _).mono ?_
  rintro e w' ⟨rfl, rfl⟩
  go_wp2
  rw [rounds_succ]
  go_wp2
  go_ret
  exact ⟨rfl, rfl⟩
theorem turned2 (x : BitVec 32) (a b : Nat) (ha1 : 1 ≤ a) (ha2 : a ≤ 31) (hb1 : 1 ≤ b) (hb2 : b ≤ 31) (B : Nat) (w : World)
    (h0 : w.cell? ⟨B, 0, none⟩ = some (.int .i64 a)) (h1 : w.cell? ⟨B, 1, none⟩ = some (.int .i64 b)) :
    Calls Tryd.prog 64 #[.int .u32 (U x), .slice (some ⟨B, 0, none⟩) 2 2] w fun e w' => e = .returned (.int .u32 (U (x.rotateRight a ^^^ x.rotateRight b))) ∧ w = w' := by
  go_enter Tryd.func64, Tryd.ntmps64
  go_wp2
  refine wp_loop_rounds 3 ?_
  rw [rounds_succ]
  go_wp2_with fail
  refine (rot_n _ a ha1 ha2 _).mono ?_
  rintro e w' ⟨rfl, rfl⟩
  go_wp2
  rw [rounds_succ]
  go_wp2_with fail
  refine (rot_n _ b hb1 hb2 _).mono ?_
  rintro e w' ⟨rfl, rfl⟩
  go_wp2
  rw [rounds_succ]
  go_wp2
  go_ret
  exact ⟨rfl, rfl⟩
/-- 'small0' -/
theorem small0_any (x : BitVec 32) (w : World) :
    Calls Tryd.prog 67 #[.int .u32 (U x)] w fun e w' => e = .returned (.int .u32 (U (x.rotateRight 7 ^^^ x.rotateRight 18 ^^^ x >>> 3))) ∧ w' = w.alloc (.cells #[.int .i64 7, .int .i64 18] 3) := by
  have hs := shr x 3
  simp only [Int.reducePow] at hs
  go_enter Tryd.func67, Tryd.ntmps67
  go_wp2_with fail
  refine (turned2 x 7 18 (by decide) (by decide) (by decide) (by decide) _ _ ?_ ?_).mono ?_
  · go_simp
  · go_simp
  rintro e w' ⟨rfl, rfl⟩
  go_wp2
  go_ret
  exact ⟨rfl, rfl⟩
theorem small1_any (x : BitVec 32) (w : World) :
    Calls Tryd.prog 68 #[.int .u32 (U x)] w fun e w' => e = .returned (.int .u32 (U (x.rotateRight 17 ^^^ x.rotateRight 19 ^^^ x >>> 10))) ∧ w' = w.alloc (.cells #[.int .i64 17, .int .i64 19] 3) := by
  have hs := shr x 10
  simp only [Int.reducePow] at hs
  go_enter Tryd.func68, Tryd.ntmps68
  go_wp2_with fail
  refine (turned2 x 17 19 (by decide) (by decide) (by decide) (by decide) _ _ ?_ ?_).mono ?_
  · go_simp
  · go_simp
  rintro e w' ⟨rfl, rfl⟩
  go_wp2
  go_ret
  exact ⟨rfl, rfl⟩
end Go.Proofs.YtjimpfcgcbbipaaDoor
