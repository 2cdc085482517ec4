/- The turn of a word, the two small mixes of a schedule and their functions tell what the arithmetic of words says. Conditions: the arguments are words. The word at a place of a state, a state widened, and two states added, tell what the arithmetic of words says. Conditions: the states' cells are words, and the place is one of eight. The checks of a block and of a round's number tell an error just if the length is not sixty-four, or the number is outside; an error's number is that of its mark. Conditions: the marks lie as the initialisation lays them. -/
import Derived.Test.YthojdcmkajmdjaaDoorRows
import Derived.Test.YthojdcmkajmdjaaDoorWd
import Derived.WalkKit
import Derived.WalkLawsBesides
import Derived.WalkSpells
import Derived.Outline
import Derived.ChangeKeysEq
import Derived.Deep.QuietTactic
import Derived.BigQuiet
import Derived.Deep.RegionHeld3
import Derived.Deep.RegionWith
import Derived.Deep.DrawnRows
import Derived.RegionTactic
import Derived.ChangeAlike
namespace Go.Proofs.YthojdcmkajmdjaaDoor
open Go.RowKit
open Rd
attribute [local go_sem] mod_add bits_and bits_or bits_xor bits_not bits_xor0 wrap64_U
theorem rot_n (x : BitVec 32) (n : Nat) (h1 : 1 ≤ n) (h2 : n ≤ 31) (w : World) :
    Calls Tryd.prog 87 #[.int .u32 (U x), .int .i64 (-n)] w fun e w' => e = .returned (.int .u32 (U (x.rotateRight n))) ∧ w = w' := by
  have ha := and31 n h1 h2
  have hr := rotr_eq' x n h1 h2
  have e1 : ((32 : Int) - (n : Int)).toNat = 32 - n := by omega
  have e2 : IntKind.u64.wrap (32 - (32 - (n : Int))) = (n : Int) := by simp [IntKind.wrap, IntKind.bits, IntKind.signed]; omega
  go_enter Tryd.func87, Tryd.ntmps87
  go_wp2
  go_ret
  exact ⟨rfl, rfl⟩

/-- 'turned(x, places...)' at three places -/
theorem turned3 (x : BitVec 32) (a b c : Nat) (ha1 : 1 ≤ a) (ha2 : a ≤ 31) (hb1 : 1 ≤ b) (hb2 : b ≤ 31) (hc1 : 1 ≤ c) (hc2 : c ≤ 31) (B : Nat) (w : World)
    (h0 : w.cell? ⟨B, 0, none⟩ = some (.int .i64 a)) (h1 : w.cell? ⟨B, 1, none⟩ = some (.int .i64 b)) (h2 : w.cell? ⟨B, 2, none⟩ = some (.int .i64 c)) :
    Calls Tryd.prog 82 #[.int .u32 (U x), .slice (some ⟨B, 0, none⟩) 3 3] w fun e w' => e = .returned (.int .u32 (U (x.rotateRight a ^^^ x.rotateRight b ^^^ x.rotateRight c))) ∧ w = w' := by
  go_enter Tryd.func82, Tryd.ntmps82
  go_wp2
  refine wp_loop_rounds 4 ?_
  rw [rounds_succ]
  go_wp2_with fail
  refine (rot_n _ a ha1 ha2 _).mono ?_
  rintro e w' ⟨rfl, rfl⟩
  go_wp2
  rw [rounds_succ]
  go_wp2_with fail
  refine (rot_n _ b hb1 hb2 _).mono ?_
  rintro e w' ⟨rfl, rfl⟩
  go_wp2
  rw [rounds_succ]
  go_wp2_with fail
  refine (rot_n _ c hc1 hc2 _).mono ?_
  rintro e w' ⟨rfl, rfl⟩
  go_wp2
  rw [rounds_succ]
  go_wp2
  go_ret
  exact ⟨rfl, rfl⟩
theorem turned2 (x : BitVec 32) (a b : Nat) (ha1 : 1 ≤ a) (ha2 : a ≤ 31) (hb1 : 1 ≤ b) (hb2 : b ≤ 31) (B : Nat) (w : World)
    (h0 : w.cell? ⟨B, 0, none⟩ = some (.int .i64 a)) (h1 : w.cell? ⟨B, 1, none⟩ = some (.int .i64 b)) :
    Calls Tryd.prog 82 #[.int .u32 (U x), .slice (some ⟨B, 0, none⟩) 2 2] w fun e w' => e = .returned (.int .u32 (U (x.rotateRight a ^^^ x.rotateRight b))) ∧ w = w' := by
  go_enter Tryd.func82, Tryd.ntmps82
  go_wp2
  refine wp_loop_rounds 3 ?_
  rw [rounds_succ]
  go_wp2_with fail
  refine (rot_n _ a ha1 ha2 _).mono ?_
  rintro e w' ⟨rfl, rfl⟩
  go_wp2
  rw [rounds_succ]
  go_wp2_with fail
  refine (rot_n _ b hb1 hb2 _).mono ?_
  rintro e w' ⟨rfl, rfl⟩
  go_wp2
  rw [rounds_succ]
  go_wp2
  go_ret
  exact ⟨rfl, rfl⟩
/-- 'small0' -/
theorem small0_any (x : BitVec 32) (w : World) :
    Calls Tryd.prog 85 #[.int .u32 (U x)] w fun e w' => e = .returned (.int .u32 (U (x.rotateRight 7 ^^^ x.rotateRight 18 ^^^ x >>> 3))) ∧ w' = w.alloc (.cells #[.int .i64 7, .int .i64 18] 3) := by
  have hs := shr x 3
  simp only [Int.reducePow] at hs
  go_enter Tryd.func85, Tryd.ntmps85
  go_wp2_with fail
  refine (turned2 x 7 18 (by decide) (by decide) (by decide) (by decide) _ _ ?_ ?_).mono ?_
  · go_simp
  · go_simp
  rintro e w' ⟨rfl, rfl⟩
  go_wp2
  go_ret
  exact ⟨rfl, rfl⟩
theorem small1_any (x : BitVec 32) (w : World) :
    Calls Tryd.prog 86 #[.int .u32 (U x)] w fun e w' => e = .returned (.int .u32 (U (x.rotateRight 17 ^^^ x.rotateRight 19 ^^^ x >>> 10))) ∧ w' = w.alloc (.cells #[.int .i64 17, .int .i64 19] 3) := by
  have hs := shr x 10
  simp only [Int.reducePow] at hs
  go_enter Tryd.func86, Tryd.ntmps86
  go_wp2_with fail
  refine (turned2 x 17 19 (by decide) (by decide) (by decide) (by decide) _ _ ?_ ?_).mono ?_
  · go_simp
  · go_simp
  rintro e w' ⟨rfl, rfl⟩
  go_wp2
  go_ret
  exact ⟨rfl, rfl⟩
end Go.Proofs.YthojdcmkajmdjaaDoor

namespace Go.Proofs.YthojdcmkajmdjaaDoor
open Go.RowKit
open Rd
attribute [local go_sem] mod_add bits_and bits_or bits_xor bits_not bits_xor0 wrap64_U
theorem cells3 : Tryd.prog.cellsOf 3 = 1 := by kernel_rfl
theorem plain3 : Tryd.prog.plainKey 3 = true := by kernel_rfl
theorem info3 : (Tryd.prog.info? 3).isSome = true := by kernel_rfl
theorem eqItems_step (d : Nat) (xs ys : Array Value) (i : Nat) (is : List Nat) (a b : Int) (w : World) (hx : xs[i]? = some (.int .i64 a)) (hy : ys[i]? = some (.int .i64 b)) :
    (Op.eqItems (d + 1) 3 1 xs ys (i :: is)).run Tryd.prog w = if a == b then (Op.eqItems (d + 1) 3 1 xs ys is).run Tryd.prog w else .ok false w := by
  have he : (Op.equalIn (d + 1) 3 (.int .i64 a) (.int .i64 b)).run Tryd.prog w = .ok (a == b) w := run_equalIn_int w d 3 .i64 .i64 a b Tryd.underlying3
  have h1 := run_part_plain w plain3 hx
  have h2 := run_part_plain w plain3 hy
  simp only [Op.eqItems, Sem.run_bind, Nat.mul_one, h1, h2, he, Result.andThen_ok]
  by_cases h : a = b
  · simp [h]
  · simp [h]
/-- two arrays of eight ints, compared -/
theorem eq8 (x0 x1 x2 x3 x4 x5 x6 x7 y0 y1 y2 y3 y4 y5 y6 y7 : Int) (w : World) :
    (Op.equalIn 10000 58 (.agg #[.int .i64 x0, .int .i64 x1, .int .i64 x2, .int .i64 x3, .int .i64 x4, .int .i64 x5, .int .i64 x6, .int .i64 x7])
      (.agg #[.int .i64 y0, .int .i64 y1, .int .i64 y2, .int .i64 y3, .int .i64 y4, .int .i64 y5, .int .i64 y6, .int .i64 y7])).run Tryd.prog w =
    .ok (x0 == y0 && (x1 == y1 && (x2 == y2 && (x3 == y3 && (x4 == y4 && (x5 == y5 && (x6 == y6 && x7 == y7))))))) w := by
  obtain ⟨i, hi⟩ := Option.isSome_iff_exists.1 info3
  rw [run_equalIn_array w 9999 _ _ Tryd.underlying58 hi, cells3]
  have hr : List.range 8 = [0, 1, 2, 3, 4, 5, 6, 7] := rfl
  rw [hr]
  rw [eqItems_step 9998 _ _ 0 _ x0 y0 w rfl rfl, eqItems_step 9998 _ _ 1 _ x1 y1 w rfl rfl, eqItems_step 9998 _ _ 2 _ x2 y2 w rfl rfl, eqItems_step 9998 _ _ 3 _ x3 y3 w rfl rfl,
    eqItems_step 9998 _ _ 4 _ x4 y4 w rfl rfl, eqItems_step 9998 _ _ 5 _ x5 y5 w rfl rfl, eqItems_step 9998 _ _ 6 _ x6 y6 w rfl rfl, eqItems_step 9998 _ _ 7 _ x7 y7 w rfl rfl]
  have hn : (Op.eqItems (9998 + 1) 3 1 #[.int .i64 x0, .int .i64 x1, .int .i64 x2, .int .i64 x3, .int .i64 x4, .int .i64 x5, .int .i64 x6, .int .i64 x7]
    #[.int .i64 y0, .int .i64 y1, .int .i64 y2, .int .i64 y3, .int .i64 y4, .int .i64 y5, .int .i64 y6, .int .i64 y7] []).run Tryd.prog w = .ok true w := by simp [Op.eqItems]
  rw [hn]
  cases x0 == y0 <;> cases x1 == y1 <;> cases x2 == y2 <;> cases x3 == y3 <;> cases x4 == y4 <;> cases x5 == y5 <;> cases x6 == y6 <;> cases x7 == y7 <;> rfl
attribute [local go_sem] wrap_add wrap_B8 wrap_shl24 wrap_shl16 wrap_shl8
theorem wordAt_any (s : ByteArray) (t : Nat) (ht : t + 3 < s.size) (hs : s.size ≤ 1000) (w : World) :
    Calls Tryd.prog 84 #[.string s, .int .i64 t] w fun e w' => e = .returned (.int .u32 (U (W4 s[t] s[t+1] s[t+2] s[t+3]))) ∧ ∃ n, w' = w.drewN n := by
  have i0 : (t : Int) < (s.size : Int) := by omega
  have i1 : (t : Int) + 1 < (s.size : Int) := by omega
  have i2 : (t : Int) + 2 < (s.size : Int) := by omega
  have i3 : (t : Int) + 3 < (s.size : Int) := by omega
  have j1 : (0 : Int) ≤ (t : Int) + 1 := by omega
  have j2 : (0 : Int) ≤ (t : Int) + 2 := by omega
  have j3 : (0 : Int) ≤ (t : Int) + 3 := by omega
  have k1 : ((t : Int) + 1).toNat = t + 1 := by omega
  have k2 : ((t : Int) + 2).toNat = t + 2 := by omega
  have k3 : ((t : Int) + 3).toNat = t + 3 := by omega
  have e1 : IntKind.i64.wrap ((t : Int) + 1) = (t : Int) + 1 := i64_add t 1 (by omega)
  have e2 : IntKind.i64.wrap ((t : Int) + 2) = (t : Int) + 2 := i64_add t 2 (by omega)
  have e3 : IntKind.i64.wrap ((t : Int) + 3) = (t : Int) + 3 := i64_add t 3 (by omega)
  go_enter Tryd.func84, Tryd.ntmps84
  go_wp2
  go_quiet (fail)
  go_wp2
  go_ret
  exact ⟨rfl, _, rfl⟩

/-- '(state).wide': the words as ints -/
theorem wide_any (a b c d e f g h : BitVec 32) (w : World) :
    Calls Tryd.prog 76 #[.agg #[.int .u32 (U a), .int .u32 (U b), .int .u32 (U c), .int .u32 (U d), .int .u32 (U e), .int .u32 (U f), .int .u32 (U g), .int .u32 (U h)]] w fun en w' => en = .returned (.agg #[.int .i64 (U a), .int .i64 (U b), .int .i64 (U c), .int .i64 (U d), .int .i64 (U e), .int .i64 (U f), .int .i64 (U g), .int .i64 (U h)]) ∧
      w' = ((w.alloc (.cells #[.int .u32 (U a), .int .u32 (U b), .int .u32 (U c), .int .u32 (U d), .int .u32 (U e), .int .u32 (U f), .int .u32 (U g), .int .u32 (U h)] 114)).alloc (.cells #[.int .i64 (U a), .int .i64 (U b), .int .i64 (U c), .int .i64 (U d), .int .i64 (U e), .int .i64 (U f), .int .i64 (U g), .int .i64 (U h)] 58)).alloc (.cells #[.int .i64 (U a), .int .i64 (U b), .int .i64 (U c), .int .i64 (U d), .int .i64 (U e), .int .i64 (U f), .int .i64 (U g), .int .i64 (U h)] 58) := by
  have i0 : ∀ w, (Instr.index 114 (.agg #[.int .u32 (U a), .int .u32 (U b), .int .u32 (U c), .int .u32 (U d), .int .u32 (U e), .int .u32 (U f), .int .u32 (U g), .int .u32 (U h)]) (.int .i64 0)).run Tryd.prog w = .ok (.int .u32 (U a)) w := fun _ => by kernel_rfl
  have i1 : ∀ w, (Instr.index 114 (.agg #[.int .u32 (U a), .int .u32 (U b), .int .u32 (U c), .int .u32 (U d), .int .u32 (U e), .int .u32 (U f), .int .u32 (U g), .int .u32 (U h)]) (.int .i64 1)).run Tryd.prog w = .ok (.int .u32 (U b)) w := fun _ => by kernel_rfl
  have i2 : ∀ w, (Instr.index 114 (.agg #[.int .u32 (U a), .int .u32 (U b), .int .u32 (U c), .int .u32 (U d), .int .u32 (U e), .int .u32 (U f), .int .u32 (U g), .int .u32 (U h)]) (.int .i64 2)).run Tryd.prog w = .ok (.int .u32 (U c)) w := fun _ => by kernel_rfl
  have i3 : ∀ w, (Instr.index 114 (.agg #[.int .u32 (U a), .int .u32 (U b), .int .u32 (U c), .int .u32 (U d), .int .u32 (U e), .int .u32 (U f), .int .u32 (U g), .int .u32 (U h)]) (.int .i64 3)).run Tryd.prog w = .ok (.int .u32 (U d)) w := fun _ => by kernel_rfl
  have i4 : ∀ w, (Instr.index 114 (.agg #[.int .u32 (U a), .int .u32 (U b), .int .u32 (U c), .int .u32 (U d), .int .u32 (U e), .int .u32 (U f), .int .u32 (U g), .int .u32 (U h)]) (.int .i64 4)).run Tryd.prog w = .ok (.int .u32 (U e)) w := fun _ => by kernel_rfl
  have i5 : ∀ w, (Instr.index 114 (.agg #[.int .u32 (U a), .int .u32 (U b), .int .u32 (U c), .int .u32 (U d), .int .u32 (U e), .int .u32 (U f), .int .u32 (U g), .int .u32 (U h)]) (.int .i64 5)).run Tryd.prog w = .ok (.int .u32 (U f)) w := fun _ => by kernel_rfl
  have i6 : ∀ w, (Instr.index 114 (.agg #[.int .u32 (U a), .int .u32 (U b), .int .u32 (U c), .int .u32 (U d), .int .u32 (U e), .int .u32 (U f), .int .u32 (U g), .int .u32 (U h)]) (.int .i64 6)).run Tryd.prog w = .ok (.int .u32 (U g)) w := fun _ => by kernel_rfl
  have i7 : ∀ w, (Instr.index 114 (.agg #[.int .u32 (U a), .int .u32 (U b), .int .u32 (U c), .int .u32 (U d), .int .u32 (U e), .int .u32 (U f), .int .u32 (U g), .int .u32 (U h)]) (.int .i64 7)).run Tryd.prog w = .ok (.int .u32 (U h)) w := fun _ => by kernel_rfl
  go_enter Tryd.func76, Tryd.ntmps76
  go_wp2
  refine wp_loop_rounds 9 ?_
  iterate 9 (rw [rounds_succ]; go_wp2)
  exact bodyPost_ret (v := .agg #[.int .i64 (U a), .int .i64 (U b), .int .i64 (U c), .int .i64 (U d), .int .i64 (U e), .int .i64 (U f), .int .i64 (U g), .int .i64 (U h)]) (by simp [results, Tryd.results76, go_sem]) rfl ⟨rfl, rfl⟩

/-- '(state).plus': the sums, word by word -/
theorem plus_any (a b c d e f g h a' b' c' d' e' f' g' h' : BitVec 32) (w : World) :
    Calls Tryd.prog 79 #[.agg #[.int .u32 (U a), .int .u32 (U b), .int .u32 (U c), .int .u32 (U d), .int .u32 (U e), .int .u32 (U f), .int .u32 (U g), .int .u32 (U h)], .agg #[.int .u32 (U a'), .int .u32 (U b'), .int .u32 (U c'), .int .u32 (U d'), .int .u32 (U e'), .int .u32 (U f'), .int .u32 (U g'), .int .u32 (U h')]] w fun en w' => en = .returned (.agg #[.int .u32 (U (a + a')), .int .u32 (U (b + b')), .int .u32 (U (c + c')), .int .u32 (U (d + d')), .int .u32 (U (e + e')), .int .u32 (U (f + f')), .int .u32 (U (g + g')), .int .u32 (U (h + h'))]) ∧ Below w.heap.size w w' := by
  have i0 : ∀ w, (Instr.index 114 (.agg #[.int .u32 (U a'), .int .u32 (U b'), .int .u32 (U c'), .int .u32 (U d'), .int .u32 (U e'), .int .u32 (U f'), .int .u32 (U g'), .int .u32 (U h')]) (.int .i64 0)).run Tryd.prog w = .ok (.int .u32 (U a')) w := fun _ => by kernel_rfl
  have i1 : ∀ w, (Instr.index 114 (.agg #[.int .u32 (U a'), .int .u32 (U b'), .int .u32 (U c'), .int .u32 (U d'), .int .u32 (U e'), .int .u32 (U f'), .int .u32 (U g'), .int .u32 (U h')]) (.int .i64 1)).run Tryd.prog w = .ok (.int .u32 (U b')) w := fun _ => by kernel_rfl
  have i2 : ∀ w, (Instr.index 114 (.agg #[.int .u32 (U a'), .int .u32 (U b'), .int .u32 (U c'), .int .u32 (U d'), .int .u32 (U e'), .int .u32 (U f'), .int .u32 (U g'), .int .u32 (U h')]) (.int .i64 2)).run Tryd.prog w = .ok (.int .u32 (U c')) w := fun _ => by kernel_rfl
  have i3 : ∀ w, (Instr.index 114 (.agg #[.int .u32 (U a'), .int .u32 (U b'), .int .u32 (U c'), .int .u32 (U d'), .int .u32 (U e'), .int .u32 (U f'), .int .u32 (U g'), .int .u32 (U h')]) (.int .i64 3)).run Tryd.prog w = .ok (.int .u32 (U d')) w := fun _ => by kernel_rfl
  have i4 : ∀ w, (Instr.index 114 (.agg #[.int .u32 (U a'), .int .u32 (U b'), .int .u32 (U c'), .int .u32 (U d'), .int .u32 (U e'), .int .u32 (U f'), .int .u32 (U g'), .int .u32 (U h')]) (.int .i64 4)).run Tryd.prog w = .ok (.int .u32 (U e')) w := fun _ => by kernel_rfl
  have i5 : ∀ w, (Instr.index 114 (.agg #[.int .u32 (U a'), .int .u32 (U b'), .int .u32 (U c'), .int .u32 (U d'), .int .u32 (U e'), .int .u32 (U f'), .int .u32 (U g'), .int .u32 (U h')]) (.int .i64 5)).run Tryd.prog w = .ok (.int .u32 (U f')) w := fun _ => by kernel_rfl
  have i6 : ∀ w, (Instr.index 114 (.agg #[.int .u32 (U a'), .int .u32 (U b'), .int .u32 (U c'), .int .u32 (U d'), .int .u32 (U e'), .int .u32 (U f'), .int .u32 (U g'), .int .u32 (U h')]) (.int .i64 6)).run Tryd.prog w = .ok (.int .u32 (U g')) w := fun _ => by kernel_rfl
  have i7 : ∀ w, (Instr.index 114 (.agg #[.int .u32 (U a'), .int .u32 (U b'), .int .u32 (U c'), .int .u32 (U d'), .int .u32 (U e'), .int .u32 (U f'), .int .u32 (U g'), .int .u32 (U h')]) (.int .i64 7)).run Tryd.prog w = .ok (.int .u32 (U h')) w := fun _ => by kernel_rfl
  go_enter Tryd.func79, Tryd.ntmps79
  go_wp2
  refine wp_loop_rounds 9 ?_
  iterate 9 (rw [rounds_succ]; go_wp2)
  refine bodyPost_ret (v := .agg #[.int .u32 (U (a + a')), .int .u32 (U (b + b')), .int .u32 (U (c + c')), .int .u32 (U (d + d')), .int .u32 (U (e + e')), .int .u32 (U (f + f')), .int .u32 (U (g + g')), .int .u32 (U (h + h'))]) (by simp [results, Tryd.results79, go_sem]) rfl ⟨rfl, ?_⟩
  exact (((Below.refl _ _).alloc (Nat.le_refl _) _).alloc (by simp) _).alloc (by simp; omega) _
end Go.Proofs.YthojdcmkajmdjaaDoor

namespace Go.Proofs.YthojdcmkajmdjaaDoor
open Go.RowKit
open Rd

theorem checkBlock_ok (s : ByteArray) (h : s.size = 64) (w : World) :
    Calls Tryd.prog 73 #[.string s] w fun e w' => e = .returned .nilIface ∧ w = w' := by
  have h1 : ((s.size : Int) != 64) = false := by rw [bne_eq_false_iff_eq]; omega
  clear h
  go_enter Tryd.func73, Tryd.ntmps73
  go_wp2
  go_ret
  exact ⟨rfl, rfl⟩
end Go.Proofs.YthojdcmkajmdjaaDoor
