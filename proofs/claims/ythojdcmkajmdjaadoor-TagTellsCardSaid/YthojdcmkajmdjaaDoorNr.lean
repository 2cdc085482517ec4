/- Eight numbers are narrowed to words just if each of them is one, and are refused otherwise. Conditions: the marks lie as the initialisation lays them. One round over words makes of a state what the arithmetic of words says. Conditions: the place is below sixty-four and the table lies as the initialisation lays it. All rounds of a block, one by one, make of a state what the arithmetic of words says. Conditions: the schedule has its sixty-four words and the table lies as the initialisation lays it. -/
import Derived.Test.YthojdcmkajmdjaaDoorRows
import Derived.Test.YthojdcmkajmdjaaDoorLf
import Derived.WalkKit
import Derived.WalkLawsBesides
import Derived.WalkSpells
import Derived.Outline
import Derived.Deep.QuietTactic
import Derived.BigQuiet
import Derived.Deep.RegionHeld3
import Derived.Deep.RegionWith
import Derived.Deep.DrawnRows
import Derived.RegionTactic
import Derived.ChangeAlike
import Derived.Lib.Hide
import Derived.ChangeKeysEq
import Derived.Laws.Rows
import Derived.Deep.MidRow
import Derived.LoopTactic
namespace Go.Proofs.YthojdcmkajmdjaaDoor
open Go.RowKit
open Rd

section
attribute [local go_sem] mod_U wrap64_U
/-- 'narrow', of words -/
theorem narrow_ok (a b c d e f g h : BitVec 32) (w : World) :
    Calls Tryd.prog 63 #[.agg #[.int .i64 (U a), .int .i64 (U b), .int .i64 (U c), .int .i64 (U d), .int .i64 (U e), .int .i64 (U f), .int .i64 (U g), .int .i64 (U h)]] w fun en w' => en = .returned (.tuple #[.agg #[.int .u32 (U a), .int .u32 (U b), .int .u32 (U c), .int .u32 (U d), .int .u32 (U e), .int .u32 (U f), .int .u32 (U g), .int .u32 (U h)], .nilIface]) ∧ Below w.heap.size w w' := by
  have i0 : ∀ w, (Instr.index 58 (.agg #[.int .i64 (U a), .int .i64 (U b), .int .i64 (U c), .int .i64 (U d), .int .i64 (U e), .int .i64 (U f), .int .i64 (U g), .int .i64 (U h)]) (.int .i64 0)).run Tryd.prog w = .ok (.int .i64 (U a)) w := fun _ => by kernel_rfl
  have i1 : ∀ w, (Instr.index 58 (.agg #[.int .i64 (U a), .int .i64 (U b), .int .i64 (U c), .int .i64 (U d), .int .i64 (U e), .int .i64 (U f), .int .i64 (U g), .int .i64 (U h)]) (.int .i64 1)).run Tryd.prog w = .ok (.int .i64 (U b)) w := fun _ => by kernel_rfl
  have i2 : ∀ w, (Instr.index 58 (.agg #[.int .i64 (U a), .int .i64 (U b), .int .i64 (U c), .int .i64 (U d), .int .i64 (U e), .int .i64 (U f), .int .i64 (U g), .int .i64 (U h)]) (.int .i64 2)).run Tryd.prog w = .ok (.int .i64 (U c)) w := fun _ => by kernel_rfl
  have i3 : ∀ w, (Instr.index 58 (.agg #[.int .i64 (U a), .int .i64 (U b), .int .i64 (U c), .int .i64 (U d), .int .i64 (U e), .int .i64 (U f), .int .i64 (U g), .int .i64 (U h)]) (.int .i64 3)).run Tryd.prog w = .ok (.int .i64 (U d)) w := fun _ => by kernel_rfl
  have i4 : ∀ w, (Instr.index 58 (.agg #[.int .i64 (U a), .int .i64 (U b), .int .i64 (U c), .int .i64 (U d), .int .i64 (U e), .int .i64 (U f), .int .i64 (U g), .int .i64 (U h)]) (.int .i64 4)).run Tryd.prog w = .ok (.int .i64 (U e)) w := fun _ => by kernel_rfl
  have i5 : ∀ w, (Instr.index 58 (.agg #[.int .i64 (U a), .int .i64 (U b), .int .i64 (U c), .int .i64 (U d), .int .i64 (U e), .int .i64 (U f), .int .i64 (U g), .int .i64 (U h)]) (.int .i64 5)).run Tryd.prog w = .ok (.int .i64 (U f)) w := fun _ => by kernel_rfl
  have i6 : ∀ w, (Instr.index 58 (.agg #[.int .i64 (U a), .int .i64 (U b), .int .i64 (U c), .int .i64 (U d), .int .i64 (U e), .int .i64 (U f), .int .i64 (U g), .int .i64 (U h)]) (.int .i64 6)).run Tryd.prog w = .ok (.int .i64 (U g)) w := fun _ => by kernel_rfl
  have i7 : ∀ w, (Instr.index 58 (.agg #[.int .i64 (U a), .int .i64 (U b), .int .i64 (U c), .int .i64 (U d), .int .i64 (U e), .int .i64 (U f), .int .i64 (U g), .int .i64 (U h)]) (.int .i64 7)).run Tryd.prog w = .ok (.int .i64 (U h)) w := fun _ => by kernel_rfl
  have heq := fun w => eq8 (U a) (U b) (U c) (U d) (U e) (U f) (U g) (U h) (U a) (U b) (U c) (U d) (U e) (U f) (U g) (U h) w
  simp only [beq_self_eq_true, Bool.and_self] at heq
  go_enter Tryd.func63, Tryd.ntmps63
  go_wp2
  refine wp_loop_rounds 9 ?_
  iterate 9 (rw [rounds_succ]; go_wp2)
  go_region_with (first | (go_at_call 76; refine (wide_any _ _ _ _ _ _ _ _ _).mono ?_; rintro e w' ⟨rfl, rfl⟩))
  all_goals go_wp2
  all_goals
    refine bodyPost_ret (v := .tuple #[.agg #[.int .u32 (U a), .int .u32 (U b), .int .u32 (U c), .int .u32 (U d), .int .u32 (U e), .int .u32 (U f), .int .u32 (U g), .int .u32 (U h)], .nilIface]) (by simp [results, Tryd.results63, go_sem]) rfl ⟨rfl, ?_⟩
    repeat (first | exact Below.refl _ _ | apply Below.drew | refine Below.alloc ?_ (by simp; try omega) _)
end
section
attribute [local go_sem] mod_ofInt wrap64_U
end
end Go.Proofs.YthojdcmkajmdjaaDoor

namespace Go.Proofs.YthojdcmkajmdjaaDoor
open Go.RowKit
open Rd
attribute [local go_sem] mod_add wrap_add bits_and bits_or bits_xor bits_not bits_not' bits_xor0 wrap64_U

theorem keepA {w : World} {o : Obj} {a : Addr} {v : Value} (h : w.cell? a = some v) : (w.alloc o).cell? a = some v := (World.cell?_alloc_some w a o (by rw [h]; rfl)).trans h
theorem keepD {w : World} {n : Nat} {a : Addr} {v : Value} (h : w.cell? a = some v) : (w.drewN n).cell? a = some v := h
theorem keepD1 {w : World} {a : Addr} {v : Value} (h : w.cell? a = some v) : (w.drew).cell? a = some v := h
attribute [local go_sem ↓] Go.wp_at_zero Go.wp_at_succ
set_option maxHeartbeats 1000000 in
/-- '(state).round' -/
theorem round_any (a b c d e f g hh x : BitVec 32) (i : Nat) (hi : i < 64) (w : World) (hk : w.cell? ⟨6, i, none⟩ = some (.int .u32 (U (K i)))) :
    Calls Tryd.prog 78 #[.agg #[.int .u32 (U a), .int .u32 (U b), .int .u32 (U c), .int .u32 (U d), .int .u32 (U e), .int .u32 (U f), .int .u32 (U g), .int .u32 (U hh)], .int .i64 i, .int .u32 (U x)] w fun en w' => en = .returned (.agg #[.int .u32 (U (T1 e f g hh (K i) x + T2 a b c)), .int .u32 (U a), .int .u32 (U b), .int .u32 (U c), .int .u32 (U (d + T1 e f g hh (K i) x)), .int .u32 (U e), .int .u32 (U f), .int .u32 (U g)]) ∧ Below w.heap.size w w' := by
  have i0 : (0 : Int) ≤ (i : Int) := by omega
  have i1 : (i : Int) < 64 := by omega
  go_enter Tryd.func78, Tryd.ntmps78
  go_wp2
  go_quiet (fail)
  go_wp2
  go_region_held3 (fun w' => w'.cell? ⟨6, i, none⟩ = some (.int .u32 (U (K i)))) (repeat (first | assumption | apply keepA | apply keepD | apply keepD1))
    (first | (go_at_call 82; refine (turned3 _ 6 11 25 (by decide) (by decide) (by decide) (by decide) (by decide) (by decide) _ _ ?_ ?_ ?_).mono ?_; (go_simp); (go_simp); (go_simp); rintro e w' ⟨rfl, rfl⟩))
  go_wp2_with fail
  refine (turned3 _ 2 13 22 (by decide) (by decide) (by decide) (by decide) (by decide) (by decide) _ _ ?_ ?_ ?_).mono ?_
  · go_simp
  · go_simp
  · go_simp
  rintro en w' ⟨rfl, rfl⟩
  go_wp2
  refine bodyPost_ret (v := .agg #[.int .u32 (U (T1 e f g hh (K i) x + T2 a b c)), .int .u32 (U a), .int .u32 (U b), .int .u32 (U c), .int .u32 (U (d + T1 e f g hh (K i) x)), .int .u32 (U e), .int .u32 (U f), .int .u32 (U g)]) (by simp [results, Tryd.results78, go_sem, T1, T2]) rfl ⟨rfl, ?_⟩
  repeat (first | (with_reducible exact Below.refl _ _) | (with_reducible refine Below.alloc ?_ (by simp; try omega) _) | (with_reducible refine Below.setCell ?_ (by simp; try omega) _) | (with_reducible refine below_drewN ?_ _) | (with_reducible refine Below.drew ?_))
end Go.Proofs.YthojdcmkajmdjaaDoor

namespace Go.Proofs.YthojdcmkajmdjaaDoor
open Go.RowKit
open Rd
attribute [local go_sem] mod_U wrap64_U
theorem size49 : (Tryd.prog.info? 140).map (·.size) = some 64 := by kernel_rfl
theorem plain47 : Tryd.prog.plainKey 112 = true := by kernel_rfl
theorem size47 : (Tryd.prog.info? 112).map (·.size) = some 1 := by kernel_rfl
/-- an array of words, read at an index -/
theorem run_index_words (T n : Nat) (hu : Tryd.prog.underlying T = some (.array n 112)) (xs : Array Value) (k : Nat) (v : Value) (hk : k < n) (hx : xs[k]? = some v) (w : World) :
    (Instr.index T (.agg xs) (.int .i64 k)).run Tryd.prog w = .ok v w := by
  obtain ⟨i, hi, hs⟩ := Option.map_eq_some_iff.1 size47
  have h1 : Tryd.prog.cellsOf 112 = 1 := by simp [Program.cellsOf, hi, hs]
  have hp := run_part_plain w plain47 hx
  have h0 : (0 : Int) ≤ (k : Int) ∧ (k : Int) < (n : Int) := by omega
  have h2 : ¬ n ≤ k := by omega
  simp [h2, Instr.index, asIntOf, run_underlying hu, h0, run_sizeOf w hi, h1, hp]

theorem round_st (s : St) (x : BitVec 32) (i : Nat) (hi : i < 64) (w : World) (hk : w.cell? ⟨6, i, none⟩ = some (.int .u32 (U (K i)))) :
    Calls Tryd.prog 78 #[.agg #[.int .u32 (U s.a), .int .u32 (U s.b), .int .u32 (U s.c), .int .u32 (U s.d), .int .u32 (U s.e), .int .u32 (U s.f), .int .u32 (U s.g), .int .u32 (U s.h)], .int .i64 i, .int .u32 (U x)] w fun en w' =>
      en = .returned (.agg #[.int .u32 (U (s.step i x).a), .int .u32 (U (s.step i x).b), .int .u32 (U (s.step i x).c), .int .u32 (U (s.step i x).d), .int .u32 (U (s.step i x).e), .int .u32 (U (s.step i x).f), .int .u32 (U (s.step i x).g), .int .u32 (U (s.step i x).h)]) ∧ Below w.heap.size w w' :=
  round_any s.a s.b s.c s.d s.e s.f s.g s.h x i hi w hk
theorem plus_st (s t : St) (w : World) :
    Calls Tryd.prog 79 #[.agg #[.int .u32 (U s.a), .int .u32 (U s.b), .int .u32 (U s.c), .int .u32 (U s.d), .int .u32 (U s.e), .int .u32 (U s.f), .int .u32 (U s.g), .int .u32 (U s.h)], .agg #[.int .u32 (U t.a), .int .u32 (U t.b), .int .u32 (U t.c), .int .u32 (U t.d), .int .u32 (U t.e), .int .u32 (U t.f), .int .u32 (U t.g), .int .u32 (U t.h)]] w fun en w' => en = .returned (.agg #[.int .u32 (U (s.add t).a), .int .u32 (U (s.add t).b), .int .u32 (U (s.add t).c), .int .u32 (U (s.add t).d), .int .u32 (U (s.add t).e), .int .u32 (U (s.add t).f), .int .u32 (U (s.add t).g), .int .u32 (U (s.add t).h)]) ∧ Below w.heap.size w w' :=
  plus_any _ _ _ _ _ _ _ _ _ _ _ _ _ _ _ _ w
/-- what the machine's block holds -/
def mach (s b : St) : Array Value := #[.int .u32 (U s.a), .int .u32 (U s.b), .int .u32 (U s.c), .int .u32 (U s.d), .int .u32 (U s.e), .int .u32 (U s.f), .int .u32 (U s.g), .int .u32 (U s.h), .int .u32 (U b.a), .int .u32 (U b.b), .int .u32 (U b.c), .int .u32 (U b.d), .int .u32 (U b.e), .int .u32 (U b.f), .int .u32 (U b.g), .int .u32 (U b.h)]
theorem mach_size (s b : St) : (mach s b).size = 16 := rfl
theorem mach_stored (w1 : World) (Bm : Nat) (t s u : St) (h : w1.heap[Bm]? = some (.cells (mach t s) 137 (0, 0))) :
    ((((((((w1.setCell ⟨Bm, 0, none⟩ (.int .u32 (U u.a))).setCell ⟨Bm, 1, none⟩ (.int .u32 (U u.b))).setCell ⟨Bm, 2, none⟩ (.int .u32 (U u.c))).setCell ⟨Bm, 3, none⟩ (.int .u32 (U u.d))).setCell ⟨Bm, 4, none⟩ (.int .u32 (U u.e))).setCell ⟨Bm, 5, none⟩ (.int .u32 (U u.f))).setCell ⟨Bm, 6, none⟩ (.int .u32 (U u.g))).setCell ⟨Bm, 7, none⟩ (.int .u32 (U u.h))).heap[Bm]? = some (.cells (mach u s) 137 (0, 0)) := by
  have h0 := heap_setCell_same w1 Bm 0 _ _ (.int .u32 (U u.a)) h
  have h1 := heap_setCell_same _ Bm 1 _ _ (.int .u32 (U u.b)) h0
  have h2 := heap_setCell_same _ Bm 2 _ _ (.int .u32 (U u.c)) h1
  have h3 := heap_setCell_same _ Bm 3 _ _ (.int .u32 (U u.d)) h2
  have h4 := heap_setCell_same _ Bm 4 _ _ (.int .u32 (U u.e)) h3
  have h5 := heap_setCell_same _ Bm 5 _ _ (.int .u32 (U u.f)) h4
  have h6 := heap_setCell_same _ Bm 6 _ _ (.int .u32 (U u.g)) h5
  have h7 := heap_setCell_same _ Bm 7 _ _ (.int .u32 (U u.h)) h6
  have e : (((((((((mach t s).setIfInBounds 0 (.int .u32 (U u.a))).setIfInBounds 1 (.int .u32 (U u.b))).setIfInBounds 2 (.int .u32 (U u.c))).setIfInBounds 3 (.int .u32 (U u.d))).setIfInBounds 4 (.int .u32 (U u.e))).setIfInBounds 5 (.int .u32 (U u.f))).setIfInBounds 6 (.int .u32 (U u.g))).setIfInBounds 7 (.int .u32 (U u.h))) = mach u s := by simp [mach]
  rw [e] at h7
  exact h7
theorem mach_below (w w1 : World) (Bm : Nat) (u : St) (h : Below Bm w w1) : Below Bm w ((((((((w1.setCell ⟨Bm, 0, none⟩ (.int .u32 (U u.a))).setCell ⟨Bm, 1, none⟩ (.int .u32 (U u.b))).setCell ⟨Bm, 2, none⟩ (.int .u32 (U u.c))).setCell ⟨Bm, 3, none⟩ (.int .u32 (U u.d))).setCell ⟨Bm, 4, none⟩ (.int .u32 (U u.e))).setCell ⟨Bm, 5, none⟩ (.int .u32 (U u.f))).setCell ⟨Bm, 6, none⟩ (.int .u32 (U u.g))).setCell ⟨Bm, 7, none⟩ (.int .u32 (U u.h))) :=
  (((((((h.setCell (Nat.le_refl _) _).setCell (Nat.le_refl _) _).setCell (Nat.le_refl _) _).setCell (Nat.le_refl _) _).setCell (Nat.le_refl _) _).setCell (Nat.le_refl _) _).setCell (Nat.le_refl _) _).setCell (Nat.le_refl _) _
set_option maxRecDepth 100000 in
set_option maxHeartbeats 1000000 in
/-- '(*machine).run' -/
theorem run_any (l : Nat → BitVec 32) (xs : Array Value) (hsz : xs.size = 64) (hx : ∀ j, j < 64 → xs[j]? = some (.int .u32 (U (l j)))) (s : St) (Bm : Nat) (w : World)
    (h3 : 6 < Bm) (hk : ∀ i, i < 64 → w.cell? ⟨6, i, none⟩ = some (.int .u32 (U (K i)))) (hm : w.heap[Bm]? = some (.cells (mach s s) 137 (0, 0))) :
    Calls Tryd.prog 74 #[.pointer (some ⟨Bm, 0, none⟩), .agg xs] w fun e w' => e = .returned (.tuple #[]) ∧ w'.heap[Bm]? = some (.cells (mach (St.comp l s) s) 137 (0, 0)) ∧ Below Bm w w' := by
  have HK := Lib.hid hk
  have HX := Lib.hid hx
  have HM := Lib.hid hm
  have hlt : Bm < w.heap.size := (Array.getElem?_eq_some_iff.1 hm).1
  clear hk hx hm
  go_enter Tryd.func74, Tryd.ntmps74
  have hg := heap_alloc_new w (.cells xs 140)
  have hi : (Tryd.prog.info? 140).map (·.size) = some xs.size := by rw [hsz]; exact size49
  have HG := Lib.hid hg
  have HI := Lib.hid hi
  clear hg hi hsz
  go_wp2_with (refine wpList_load_row rfl 140 _ rfl w.heap.size rfl 140 xs (0, 0) _ HG.out Tryd.underlying140 rfl HI.out ?_)
  go_loopw [7] (fun i wr => ∃ k : Nat, k ≤ 64 ∧ i = .int .i64 k ∧ wr.heap[Bm]? = some (.cells (mach (St.go l s k) s) 137 (0, 0)) ∧ Below Bm w wr) (fun i _ => 64 - (intOf i).toNat)
  case atStart => exact ⟨0, by omega, rfl, (Below.heap_alloc w _ Bm hlt).trans HM.out, (Below.refl _ _).alloc (by omega) _⟩
  case round =>
    obtain ⟨k, hk, rfl, hmr, hbr⟩ := hrel
    by_cases hlt : k < 64
    · obtain ⟨t, ht⟩ : ∃ t, St.go l s k = t := ⟨_, rfl⟩
      rw [ht] at hmr
      have hix := run_index_words 140 64 Tryd.underlying140 xs k _ hlt (HX.out k hlt) wr
      have hc := (hbr.cell (p := ⟨6, k, none⟩) h3).trans (HK.out k hlt)
      have c0 : wr.cell? ⟨Bm, 0, none⟩ = some (.int .u32 (U t.a)) := cell_of_row wr Bm 0 _ _ _ hmr
      have c1 : wr.cell? ⟨Bm, 1, none⟩ = some (.int .u32 (U t.b)) := cell_of_row wr Bm 1 _ _ _ hmr
      have c2 : wr.cell? ⟨Bm, 2, none⟩ = some (.int .u32 (U t.c)) := cell_of_row wr Bm 2 _ _ _ hmr
      have c3 : wr.cell? ⟨Bm, 3, none⟩ = some (.int .u32 (U t.d)) := cell_of_row wr Bm 3 _ _ _ hmr
      have c4 : wr.cell? ⟨Bm, 4, none⟩ = some (.int .u32 (U t.e)) := cell_of_row wr Bm 4 _ _ _ hmr
      have c5 : wr.cell? ⟨Bm, 5, none⟩ = some (.int .u32 (U t.f)) := cell_of_row wr Bm 5 _ _ _ hmr
      have c6 : wr.cell? ⟨Bm, 6, none⟩ = some (.int .u32 (U t.g)) := cell_of_row wr Bm 6 _ _ _ hmr
      have c7 : wr.cell? ⟨Bm, 7, none⟩ = some (.int .u32 (U t.h)) := cell_of_row wr Bm 7 _ _ _ hmr
      have HT := Lib.hid ht
      have HMR := Lib.hid hmr
      have HBR := Lib.hid hbr
      have hsz : Bm < wr.heap.size := (Array.getElem?_eq_some_iff.1 hmr).1
      clear ht hmr hbr
      go_wp2_with fail
      refine (round_st t (l k) k hlt _ hc).mono ?_
      rintro en w1 ⟨rfl, hb1⟩
      have hm1 := (hb1.block Bm hsz).trans HMR.out
      clear hc c0 c1 c2 c3 c4 c5 c6 c7
      have d0 : w1.cell? ⟨Bm, 0, none⟩ = some (.int .u32 (U t.a)) := cell_of_row w1 Bm 0 _ _ _ hm1
      have f0 : w1.frozen? ⟨Bm, 0, none⟩ = false := frozen_of_row w1 Bm 0 _ _ hm1
      have d1 : w1.cell? ⟨Bm, 1, none⟩ = some (.int .u32 (U t.b)) := cell_of_row w1 Bm 1 _ _ _ hm1
      have f1 : w1.frozen? ⟨Bm, 1, none⟩ = false := frozen_of_row w1 Bm 1 _ _ hm1
      have d2 : w1.cell? ⟨Bm, 2, none⟩ = some (.int .u32 (U t.c)) := cell_of_row w1 Bm 2 _ _ _ hm1
      have f2 : w1.frozen? ⟨Bm, 2, none⟩ = false := frozen_of_row w1 Bm 2 _ _ hm1
      have d3 : w1.cell? ⟨Bm, 3, none⟩ = some (.int .u32 (U t.d)) := cell_of_row w1 Bm 3 _ _ _ hm1
      have f3 : w1.frozen? ⟨Bm, 3, none⟩ = false := frozen_of_row w1 Bm 3 _ _ hm1
      have d4 : w1.cell? ⟨Bm, 4, none⟩ = some (.int .u32 (U t.e)) := cell_of_row w1 Bm 4 _ _ _ hm1
      have f4 : w1.frozen? ⟨Bm, 4, none⟩ = false := frozen_of_row w1 Bm 4 _ _ hm1
      have d5 : w1.cell? ⟨Bm, 5, none⟩ = some (.int .u32 (U t.f)) := cell_of_row w1 Bm 5 _ _ _ hm1
      have f5 : w1.frozen? ⟨Bm, 5, none⟩ = false := frozen_of_row w1 Bm 5 _ _ hm1
      have d6 : w1.cell? ⟨Bm, 6, none⟩ = some (.int .u32 (U t.g)) := cell_of_row w1 Bm 6 _ _ _ hm1
      have f6 : w1.frozen? ⟨Bm, 6, none⟩ = false := frozen_of_row w1 Bm 6 _ _ hm1
      have d7 : w1.cell? ⟨Bm, 7, none⟩ = some (.int .u32 (U t.h)) := cell_of_row w1 Bm 7 _ _ _ hm1
      have f7 : w1.frozen? ⟨Bm, 7, none⟩ = false := frozen_of_row w1 Bm 7 _ _ hm1
      have HB1 := Lib.hid hb1
      have HM1 := Lib.hid hm1
      clear hb1 hm1
      go_wp2
      go_roundw
      case rel =>
        refine ⟨k + 1, by omega, by go_num, ?_, mach_below w w1 Bm _ (HBR.out.trans (HB1.out.mono (by omega)))⟩
        have e := mach_stored w1 Bm t s (t.step k (l k)) HM1.out
        rw [show St.go l s (k + 1) = t.step k (l k) by rw [← HT.out]; rfl]
        exact e
      case measure => simp [intOf]; omega
    · obtain rfl : k = 64 := by omega
      obtain ⟨t, ht⟩ : ∃ t, St.go l s 64 = t := ⟨_, rfl⟩
      rw [ht] at hmr
      have c0 : wr.cell? ⟨Bm, 0, none⟩ = some (.int .u32 (U t.a)) := cell_of_row wr Bm 0 _ _ _ hmr
      have c1 : wr.cell? ⟨Bm, 1, none⟩ = some (.int .u32 (U t.b)) := cell_of_row wr Bm 1 _ _ _ hmr
      have c2 : wr.cell? ⟨Bm, 2, none⟩ = some (.int .u32 (U t.c)) := cell_of_row wr Bm 2 _ _ _ hmr
      have c3 : wr.cell? ⟨Bm, 3, none⟩ = some (.int .u32 (U t.d)) := cell_of_row wr Bm 3 _ _ _ hmr
      have c4 : wr.cell? ⟨Bm, 4, none⟩ = some (.int .u32 (U t.e)) := cell_of_row wr Bm 4 _ _ _ hmr
      have c5 : wr.cell? ⟨Bm, 5, none⟩ = some (.int .u32 (U t.f)) := cell_of_row wr Bm 5 _ _ _ hmr
      have c6 : wr.cell? ⟨Bm, 6, none⟩ = some (.int .u32 (U t.g)) := cell_of_row wr Bm 6 _ _ _ hmr
      have c7 : wr.cell? ⟨Bm, 7, none⟩ = some (.int .u32 (U t.h)) := cell_of_row wr Bm 7 _ _ _ hmr
      have e0 : wr.cell? ⟨Bm, 8, none⟩ = some (.int .u32 (U s.a)) := cell_of_row wr Bm 8 _ _ _ hmr
      have e1 : wr.cell? ⟨Bm, 9, none⟩ = some (.int .u32 (U s.b)) := cell_of_row wr Bm 9 _ _ _ hmr
      have e2 : wr.cell? ⟨Bm, 10, none⟩ = some (.int .u32 (U s.c)) := cell_of_row wr Bm 10 _ _ _ hmr
      have e3 : wr.cell? ⟨Bm, 11, none⟩ = some (.int .u32 (U s.d)) := cell_of_row wr Bm 11 _ _ _ hmr
      have e4 : wr.cell? ⟨Bm, 12, none⟩ = some (.int .u32 (U s.e)) := cell_of_row wr Bm 12 _ _ _ hmr
      have e5 : wr.cell? ⟨Bm, 13, none⟩ = some (.int .u32 (U s.f)) := cell_of_row wr Bm 13 _ _ _ hmr
      have e6 : wr.cell? ⟨Bm, 14, none⟩ = some (.int .u32 (U s.g)) := cell_of_row wr Bm 14 _ _ _ hmr
      have e7 : wr.cell? ⟨Bm, 15, none⟩ = some (.int .u32 (U s.h)) := cell_of_row wr Bm 15 _ _ _ hmr
      have HT := Lib.hid ht
      have HMR := Lib.hid hmr
      have HBR := Lib.hid hbr
      have hsz : Bm < wr.heap.size := (Array.getElem?_eq_some_iff.1 hmr).1
      clear ht hmr hbr
      go_wp2_with fail
      go_region_with (first | (go_at_call 79; refine (plus_st _ _ _).mono ?_; rintro en w1 ⟨rfl, hb1⟩; have hm1 : w1.heap[Bm]? = some (.cells (mach t s) 137 (0, 0)) := (hb1.block Bm (by simpa using hsz)).trans HMR.out; have d0 : w1.cell? ⟨Bm, 0, none⟩ = some (.int .u32 (U t.a)) := cell_of_row w1 Bm 0 _ _ _ hm1; have f0 : w1.frozen? ⟨Bm, 0, none⟩ = false := frozen_of_row w1 Bm 0 _ _ hm1; have d1 : w1.cell? ⟨Bm, 1, none⟩ = some (.int .u32 (U t.b)) := cell_of_row w1 Bm 1 _ _ _ hm1; have f1 : w1.frozen? ⟨Bm, 1, none⟩ = false := frozen_of_row w1 Bm 1 _ _ hm1; have d2 : w1.cell? ⟨Bm, 2, none⟩ = some (.int .u32 (U t.c)) := cell_of_row w1 Bm 2 _ _ _ hm1; have f2 : w1.frozen? ⟨Bm, 2, none⟩ = false := frozen_of_row w1 Bm 2 _ _ hm1; have d3 : w1.cell? ⟨Bm, 3, none⟩ = some (.int .u32 (U t.d)) := cell_of_row w1 Bm 3 _ _ _ hm1; have f3 : w1.frozen? ⟨Bm, 3, none⟩ = false := frozen_of_row w1 Bm 3 _ _ hm1; have d4 : w1.cell? ⟨Bm, 4, none⟩ = some (.int .u32 (U t.e)) := cell_of_row w1 Bm 4 _ _ _ hm1; have f4 : w1.frozen? ⟨Bm, 4, none⟩ = false := frozen_of_row w1 Bm 4 _ _ hm1; have d5 : w1.cell? ⟨Bm, 5, none⟩ = some (.int .u32 (U t.f)) := cell_of_row w1 Bm 5 _ _ _ hm1; have f5 : w1.frozen? ⟨Bm, 5, none⟩ = false := frozen_of_row w1 Bm 5 _ _ hm1; have d6 : w1.cell? ⟨Bm, 6, none⟩ = some (.int .u32 (U t.g)) := cell_of_row w1 Bm 6 _ _ _ hm1; have f6 : w1.frozen? ⟨Bm, 6, none⟩ = false := frozen_of_row w1 Bm 6 _ _ hm1; have d7 : w1.cell? ⟨Bm, 7, none⟩ = some (.int .u32 (U t.h)) := cell_of_row w1 Bm 7 _ _ _ hm1; have f7 : w1.frozen? ⟨Bm, 7, none⟩ = false := frozen_of_row w1 Bm 7 _ _ hm1; have HB1 := Lib.hid hb1; have HM1 := Lib.hid hm1; clear hb1 hm1 c0 c1 c2 c3 c4 c5 c6 c7 e0 e1 e2 e3 e4 e5 e6 e7))
      all_goals
        go_end0
        refine ⟨rfl, ?_, mach_below w _ Bm _ (HBR.out.drew.trans (HB1.out.mono (Nat.le_of_lt hsz)))⟩
        rw [show St.comp l s = t.add s by rw [← HT.out]; rfl]
        exact mach_stored _ Bm t s (t.add s) HM1.out
end Go.Proofs.YthojdcmkajmdjaaDoor
