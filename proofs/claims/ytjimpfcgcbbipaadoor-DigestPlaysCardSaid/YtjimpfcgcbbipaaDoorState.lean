/- The word at a place of a state, a state widened, and two states added, tell what the arithmetic of words says. Conditions: the states' cells are words, and the place is one of eight. -/
import Derived.Test.YtjimpfcgcbbipaaDoorRows
import Derived.Test.YtjimpfcgcbbipaaDoorLeaf
import Derived.WalkKit
import Derived.WalkLawsBesides
import Derived.WalkSpells
import Derived.Outline
import Derived.ChangeKeysEq
import Derived.Deep.QuietTactic
import Derived.BigQuiet
import Derived.Deep.RegionHeld3
import Derived.Deep.RegionWith
import Derived.Deep.DrawnRows
import Derived.RegionTactic
import Derived.ChangeAlike
namespace Go.Proofs.YtjimpfcgcbbipaaDoor
open Go.RowKit
open Rd
attribute [local go_sem] mod_add bits_and bits_or bits_xor bits_not bits_xor0 wrap64_U
theorem cells3 : Tryd.prog.cellsOf 3 = 1 := by kernel_rfl
theorem plain3 : Tryd.prog.plainKey 3 = true := by kernel_rfl
theorem info3 : (Tryd.prog.info? 3).isSome = true := by kernel_rfl
theorem eqItems_step (d : Nat) (xs ys : Array Value) (i : Nat) (is : List Nat) (a b : Int) (w : World) (hx : xs[i]? = some (.int .i64 a)) (hy : ys[i]? = some (.int .i64 b)) :
    (Op.eqItems (d + 1) 3 1 xs ys (i :: is)).run Tryd.prog w = if a == b then (Op.eqItems (d + 1) 3 1 xs ys is).run Tryd.prog w else .ok false w := by
  have he : (Op.equalIn (d + 1) 3 (.int .i64 a) (.int .i64 b)).run Tryd.prog w = .ok (a == b) w := run_equalIn_int w d 3 .i64 .i64 a b Tryd.underlying3
  have h1 := run_part_plain w plain3 hx
  have h2 := run_part_plain w plain3 hy
  simp only [Op.eqItems, Sem.run_bind, Nat.mul_one, h1, h2, he, Result.andThen_ok]
  by_cases h : a = b
  · simp [h]
  · simp [h]
/-- two arrays of eight ints, compared -/
theorem eq8 (x0 x1 x2 x3 x4 x5 x6 x7 y0 y1 y2 y3 y4 y5 y6 y7 : Int) (w : World) :
    (Op.equalIn 10000 45 (.agg #[.int .i64 x0, .int .i64 x1, .int .i64 x2, .int .i64 x3, .int .i64 x4, .int .i64 x5, .int .i64 x6, .int .i64 x7])
      (.agg #[.int .i64 y0, .int .i64 y1, .int .i64 y2, .int .i64 y3, .int .i64 y4, .int .i64 y5, .int .i64 y6, .int .i64 y7])).run Tryd.prog w =
    .ok (x0 == y0 && (x1 == y1 && (x2 == y2 && (x3 == y3 && (x4 == y4 && (x5 == y5 && (x6 == y6 && x7 == y7))))))) w := by
  obtain ⟨i, hi⟩ := Option.isSome_iff_exists.1 info3
  rw [run_equalIn_array w 9999 _ _ Tryd.underlying45 hi, cells3]
  have hr : List.range 8 = [0, 1, 2, 3, 4, 5, 6, 7] := rfl
  rw [hr]
  rw [eqItems_step 9998 _ _ 0 _ x0 y0 w rfl rfl, eqItems_step 9998 _ _ 1 _ x1 y1 w rfl rfl, eqItems_step 9998 _ _ 2 _ x2 y2 w rfl rfl, eqItems_step 9998 _ _ 3 _ x3 y3 w rfl rfl,
    eqItems_step 9998 _ _ 4 _ x4 y4 w rfl rfl, eqItems_step 9998 _ _ 5 _ x5 y5 w rfl rfl, eqItems_step 9998 _ _ 6 _ x6 y6 w rfl rfl, eqItems_step 9998 _ _ 7 _ x7 y7 w rfl rfl]
  have hn : (Op.eqItems (9998 + 1) 3 1 #[.int .i64 x0, .int .i64 x1, .int .i64 x2, .int .i64 x3, .int .i64 x4, .int .i64 x5, .int .i64 x6, .int .i64 x7]
    #[.int .i64 y0, .int .i64 y1, .int .i64 y2, .int .i64 y3, .int .i64 y4, .int .i64 y5, .int .i64 y6, .int .i64 y7] []).run Tryd.prog w = .ok true w := by simp [Op.eqItems]
  rw [hn]
  cases x0 == y0 <;> cases x1 == y1 <;> cases x2 == y2 <;> cases x3 == y3 <;> cases x4 == y4 <;> cases x5 == y5 <;> cases x6 == y6 <;> cases x7 == y7 <;> rfl
attribute [local go_sem] wrap_add wrap_B8 wrap_shl24 wrap_shl16 wrap_shl8
theorem wordAt_any (s : ByteArray) (t : Nat) (ht : t + 3 < s.size) (hs : s.size ≤ 1000) (w : World) :
    Calls Tryd.prog 66 #[.string s, .int .i64 t] w fun e w' => e = .returned (.int .u32 (U (W4 s[t] s[t+1] s[t+2] s[t+3]))) ∧ ∃ n, w' = w.drewN n := by
  have i0 : (t : Int) < (s.size : Int) := by omega
  have i1 : (t : Int) + 1 < (s.size : Int) := by omega
  have i2 : (t : Int) + 2 < (s.size : Int) := by omega
  have i3 : (t : Int) + 3 < (s.size : Int) := by omega
  have j1 : (0 : Int) ≤ (t : Int) + 1 := by omega
  have j2 : (0 : Int) ≤ (t : Int) + 2 := by omega
  have j3 : (0 : Int) ≤ (t : Int) + 3 := by omega
  have k1 : ((t : Int) + 1).toNat = t + 1 := by omega
  have k2 : ((t : Int) + 2).toNat = t + 2 := by omega
  have k3 : ((t : Int) + 3).toNat = t + 3 := by omega
  have e1 : IntKind.i64.wrap ((t : Int) + 1) = (t : Int) + 1 := i64_add t 1 (by omega)
  have e2 : IntKind.i64.wrap ((t : Int) + 2) = (t : Int) + 2 := i64_add t 2 (by omega)
  have e3 : IntKind.i64.wrap ((t : Int) + 3) = (t : Int) + 3 := i64_add t 3 (by omega)
  go_enter Tryd.func66, Tryd.ntmps66
  go_wp2
  go_quiet (fail)
  go_wp2
  go_ret
  exact ⟨rfl, _, rfl⟩

/-- '(state).wide': the words as ints -/
theorem wide_any (a b c d e f g h : BitVec 32) (w : World) :
    Calls Tryd.prog 42 #[.agg #[.int .u32 (U a), .int .u32 (U b), .int .u32 (U c), .int .u32 (U d), .int .u32 (U e), .int .u32 (U f), .int .u32 (U g), .int .u32 (U h)]] w fun en w' => en = .returned (.agg #[.int .i64 (U a), .int .i64 (U b), .int .i64 (U c), .int .i64 (U d), .int .i64 (U e), .int .i64 (U f), .int .i64 (U g), .int .i64 (U h)]) ∧
      w' = ((w.alloc (.cells #[.int .u32 (U a), .int .u32 (U b), .int .u32 (U c), .int .u32 (U d), .int .u32 (U e), .int .u32 (U f), .int .u32 (U g), .int .u32 (U h)] 70)).alloc (.cells #[.int .i64 (U a), .int .i64 (U b), .int .i64 (U c), .int .i64 (U d), .int .i64 (U e), .int .i64 (U f), .int .i64 (U g), .int .i64 (U h)] 45)).alloc (.cells #[.int .i64 (U a), .int .i64 (U b), .int .i64 (U c), .int .i64 (U d), .int .i64 (U e), .int .i64 (U f), .int .i64 (U g), .int .i64 (U h)] 45) := by
  have i0 : ∀ w, (Instr.index 70 (.agg #[.int .u32 (U a), .int .u32 (U b), .int .u32 (U c), .int .u32 (U d), .int .u32 (U e), .int .u32 (U f), .int .u32 (U g), .int .u32 (U h)]) (.int .i64 0)).run Tryd.prog w = .ok (.int .u32 (U a)) w := fun _ => by kernel_rfl
  have i1 : ∀ w, (Instr.index 70 (.agg #[.int .u32 (U a), .int .u32 (U b), .int .u32 (U c), .int .u32 (U d), .int .u32 (U e), .int .u32 (U f), .int .u32 (U g), .int .u32 (U h)]) (.int .i64 1)).run Tryd.prog w = .ok (.int .u32 (U b)) w := fun _ => by kernel_rfl
  have i2 : ∀ w, (Instr.index 70 (.agg #[.int .u32 (U a), .int .u32 (U b), .int .u32 (U c), .int .u32 (U d), .int .u32 (U e), .int .u32 (U f), .int .u32 (U g), .int .u32 (U h)]) (.int .i64 2)).run Tryd.prog w = .ok (.int .u32 (U c)) w := fun _ => by kernel_rfl
  have i3 : ∀ w, (Instr.index 70 (.agg #[.int .u32 (U a), .int .u32 (U b), .int .u32 (U c), .int .u32 (U d), .int .u32 (U e), .int .u32 (U f), .int .u32 (U g), .int .u32 (U h)]) (.int .i64 3)).run Tryd.prog w = .ok (.int .u32 (U d)) w := fun _ => by kernel_rfl
  have i4 : ∀ w, (Instr.index 70 (.agg #[.int .u32 (U a), .int .u32 (U b), .int .u32 (U c), .int .u32 (U d), .int .u32 (U e), .int .u32 (U f), .int .u32 (U g), .int .u32 (U h)]) (.int .i64 4)).run Tryd.prog w = .ok (.int .u32 (U e)) w := fun _ => by kernel_rfl
  have i5 : ∀ w, (Instr.index 70 (.agg #[.int .u32 (U a), .int .u32 (U b), .int .u32 (U c), .int .u32 (U d), .int .u32 (U e), .int .u32 (U f), .int .u32 (U g), .int .u32 (U h)]) (.int .i64 5)).run Tryd.prog w = .ok (.int .u32 (U f)) w := fun _ => by kernel_rfl
  have i6 : ∀ w, (Instr.index 70 (.agg #[.int .u32 (U a), .int .u32 (U b), .int .u32 (U c), .int .u32 (U d), .int .u32 (U e), .int .u32 (U f), .int .u32 (U g), .int .u32 (U h)]) (.int .i64 6)).run Tryd.prog w = .ok (.int .u32 (U g)) w := fun _ => by kernel_rfl
  have i7 : ∀ w, (Instr.index 70 (.agg #[.int .u32 (U a), .int .u32 (U b), .int .u32 (U c), .int .u32 (U d), .int .u32 (U e), .int .u32 (U f), .int .u32 (U g), .int .u32 (U h)]) (.int .i64 7)).run Tryd.prog w = .ok (.int .u32 (U h)) w := fun _ => by kernel_rfl
  go_enter Tryd.func42, Tryd.ntmps42
  go_wp2
  refine wp_loop_rounds 9 ?_
  iterate 9 (rw [rounds_succ]; go_wp2)
  exact bodyPost_ret (v := .agg #[.int .i64 (U a), .int .i64 (U b), .int .i64 (U c), .int .i64 (U d), .int .i64 (U e), .int .i64 (U f), .int .i64 (U g), .int .i64 (U h)]) (by simp [results, Tryd.results42, go_sem]) rfl ⟨rfl, rfl⟩

/-- '(state).plus': the sums, word by word -/
theorem plus_any (a b c d e f g h a' b' c' d' e' f' g' h' : BitVec 32) (w : World) :
    Calls Tryd.prog 53 #[.agg #[.int .u32 (U a), .int .u32 (U b), .int .u32 (U c), .int .u32 (U d), .int .u32 (U e), .int .u32 (U f), .int .u32 (U g), .int .u32 (U h)], .agg #[.int .u32 (U a'), .int .u32 (U b'), .int .u32 (U c'), .int .u32 (U d'), .int .u32 (U e'), .int .u32 (U f'), .int .u32 (U g'), .int .u32 (U h')]] w fun en w' => en = .returned (.agg #[.int .u32 (U (a + a')), .int .u32 (U (b + b')), .int .u32 (U (c + c')), .int .u32 (U (d + d')), .int .u32 (U (e + e')), .int .u32 (U (f + f')), .int .u32 (U (g + g')), .int .u32 (U (h + h'))]) ∧ Below w.heap.size w w' := by
  have i0 : ∀ w, (Instr.index 70 (.agg #[.int .u32 (U a'), .int .u32 (U b'), .int .u32 (U c'), .int .u32 (U d'), .int .u32 (U e'), .int .u32 (U f'), .int .u32 (U g'), .int .u32 (U h')]) (.int .i64 0)).run Tryd.prog w = .ok (.int .u32 (U a')) w := fun _ => by kernel_rfl
  have i1 : ∀ w, (Instr.index 70 (.agg #[.int .u32 (U a'), .int .u32 (U b'), .int .u32 (U c'), .int .u32 (U d'), .int .u32 (U e'), .int .u32 (U f'), .int .u32 (U g'), .int .u32 (U h')]) (.int .i64 1)).run Tryd.prog w = .ok (.int .u32 (U b')) w := fun _ => by kernel_rfl
  have i2 : ∀ w, (Instr.index 70 (.agg #[.int .u32 (U a'), .int .u32 (U b'), .int .u32 (U c'), .int .u32 (U d'), .int .u32 (U e'), .int .u32 (U f'), .int .u32 (U g'), .int .u32 (U h')]) (.int .i64 2)).run Tryd.prog w = .ok (.int .u32 (U c')) w := fun _ => by kernel_rfl
  have i3 : ∀ w, (Instr.index 70 (.agg #[.int .u32 (U a'), .int .u32 (U b'), .int .u32 (U c'), .int .u32 (U d'), .int .u32 (U e'), .int .u32 (U f'), .int .u32 (U g'), .int .u32 (U h')]) (.int .i64 3)).run Tryd.prog w = .ok (.int .u32 (U d')) w := fun _ => by kernel_rfl
  have i4 : ∀ w, (Instr.index 70 (.agg #[.int .u32 (U a'), .int .u32 (U b'), .int .u32 (U c'), .int .u32 (U d'), .int .u32 (U e'), .int .u32 (U f'), .int .u32 (U g'), .int .u32 (U h')]) (.int .i64 4)).run Tryd.prog w = .ok (.int .u32 (U e')) w := fun _ => by kernel_rfl
  have i5 : ∀ w, (Instr.index 70 (.agg #[.int .u32 (U a'), .int .u32 (U b'), .int .u32 (U c'), .int .u32 (U d'), .int .u32 (U e'), .int .u32 (U f'), .int .u32 (U g'), .int .u32 (U h')]) (.int .i64 5)).run Tryd.prog w = .ok (.int .u32 (U f')) w := fun _ => by kernel_rfl
  have i6 : ∀ w, (Instr.index 70 (.agg #[.int .u32 (U a'), .int .u32 (U b'), .int .u32 (U c'), .int .u32 (U d'), .int .u32 (U e'), .int .u32 (U f'), .int .u32 (U g'), .int .u32 (U h')]) (.int .i64 6)).run Tryd.prog w = .ok (.int .u32 (U g')) w := fun _ => by kernel_rfl
  have i7 : ∀ w, (Instr.index 70 (.agg #[.int .u32 (U a'), .int .u32 (U b'), .int .u32 (U c'), .int .u32 (U d'), .int .u32 (U e'), .int .u32 (U f'), .int .u32 (U g'), .int .u32 (U h')]) (.int .i64 7)).run Tryd.prog w = .ok (.int .u32 (U h')) w := fun _ => by kernel_rfl
  go_enter Tryd.func53, Tryd.ntmps53
  go_wp2
  refine wp_loop_rounds 9 ?_
  iterate 9 (rw [rounds_succ]; go_wp2)
  refine bodyPost_ret (v := .agg #[.int .u32 (U (a + a')), .int .u32 (U (b + b')), .int .u32 (U (c + c')), .int .u32 (U (d + d')), .int .u32 (U (e + e')), .int .u32 (U (f + f')), .int .u32 (U (g + g')), .int .u32 (U (h + h'))]) (by simp [results, Tryd.results53, go_sem]) rfl ⟨rfl, ?_⟩
  exact (((Below.refl _ _).alloc (Nat.le_refl _) _).alloc (by simp) _).alloc (by simp; omega) _
end Go.Proofs.YtjimpfcgcbbipaaDoor
