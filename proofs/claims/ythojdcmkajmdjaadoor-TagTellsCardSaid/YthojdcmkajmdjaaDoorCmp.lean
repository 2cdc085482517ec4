/- The package's state with a block answers as the arithmetic of words says, and with its errors; its first state is the known one. Conditions: the variables lie as the initialisation lays them. -/
import Derived.Test.YthojdcmkajmdjaaDoorRows
import Derived.Test.YthojdcmkajmdjaaDoorSc
import Derived.Test.YthojdcmkajmdjaaDoorWd
import Derived.WalkKit
import Derived.WalkLawsBesides
import Derived.WalkSpells
import Derived.Outline
import Derived.Lib.Hide
import Derived.Deep.QuietTactic
import Derived.BigQuiet
import Derived.Deep.RegionHeld3
import Derived.Deep.RegionWith
import Derived.Deep.DrawnRows
import Derived.RegionTactic
import Derived.ChangeAlike
namespace Go.Proofs.YthojdcmkajmdjaaDoor
open Go.RowKit
open Rd
attribute [local go_sem] mod_U wrap64_U

/-- the words of a block, a schedule's -/
theorem sch_words (b : ByteArray) : ∀ j, j < 64 → (schA (mw b) 64)[j]? = some (.int .u32 (U (Wd (mw b) j))) := fun j hj => schA_get (mw b) j hj
set_option maxRecDepth 100000 in
set_option maxHeartbeats 2000000 in
theorem Compress_ok (s : St) (b : ByteArray) (hs : b.size = 64) {B : Nat} (w : World) (E : Env B w) :
    Calls Tryd.prog 62 #[.agg #[.int .i64 (U s.a), .int .i64 (U s.b), .int .i64 (U s.c), .int .i64 (U s.d), .int .i64 (U s.e), .int .i64 (U s.f), .int .i64 (U s.g), .int .i64 (U s.h)], .string b] w fun e w' => e = .returned (.tuple #[.agg #[.int .i64 (U (St.comp (Wd (mw b)) s).a), .int .i64 (U (St.comp (Wd (mw b)) s).b), .int .i64 (U (St.comp (Wd (mw b)) s).c), .int .i64 (U (St.comp (Wd (mw b)) s).d), .int .i64 (U (St.comp (Wd (mw b)) s).e), .int .i64 (U (St.comp (Wd (mw b)) s).f), .int .i64 (U (St.comp (Wd (mw b)) s).g), .int .i64 (U (St.comp (Wd (mw b)) s).h)], .int .i64 0]) ∧ Below w.heap.size w w' := by
  have HE := Lib.hid E
  have HS := Lib.hid hs
  clear E hs
  go_enter Tryd.func62, Tryd.ntmps62
  go_wp2_with fail
  refine (narrow_st s _).mono ?_
  rintro en w1 ⟨rfl, hb1⟩
  have hr1 := (hb1.block (w.heap.size + 1) (by simp)).trans (heap_alloc2_new w _ _)
  have hz1 := hb1.size
  have hB1 : Below w.heap.size w w1 := (((Below.refl _ w).alloc (Nat.le_refl _) _).alloc (by simp) _).trans (hb1.mono (by simp; omega))
  simp only [World.size_alloc] at hz1
  have HR1 := Lib.hid hr1
  have HB1 := Lib.hid hB1
  clear hr1 hB1 hb1
  go_wp2_with fail
  refine (checkBlock_ok b HS.out _).mono ?_
  rintro en w2 ⟨rfl, rfl⟩
  go_wp2_with fail
  refine (sched_any b HS.out _).mono ?_
  rintro en w2 ⟨rfl, hb2⟩
  have hm2 : w2.heap[w1.heap.size + 1]? = some (.cells (mach s s) 137 (0, 0)) := (hb2.block (w1.heap.size + 1) (by simp)).trans (heap_alloc2_new w1 _ _)
  have hz2 := hb2.size
  simp only [World.size_alloc] at hz2
  have hr2 := (hb2.block (w.heap.size + 1) (by simp; omega)).trans ((Below.heap_alloc _ _ _ (by simp; omega)).trans ((Below.heap_alloc w1 _ _ (by omega)).trans HR1.out))
  have hB2 : Below w.heap.size w w2 := ((HB1.out.alloc (by omega) _).alloc (by simp; omega) _).trans (hb2.mono (by simp; omega))
  have HR2 := Lib.hid hr2
  have HB2 := Lib.hid hB2
  have HM2 := Lib.hid hm2
  clear hr2 hB2 hb2 hm2
  go_wp2_with fail
  refine (run_any (Wd (mw b)) (schA (mw b) 64) (schA_size _ _) (sch_words b) s (w1.heap.size + 1) _ ?_ (HE.out.below' HB2.out).con HM2.out).mono ?_
  · have h1 := HE.out.bw; have h2 := HE.out.b6; omega
  rintro en w3 ⟨rfl, hm3, hb3⟩
  have hz3 := hb3.size
  have hr3 := (hb3.block (w.heap.size + 1) (by omega)).trans HR2.out
  have hB3 : Below w.heap.size w w3 := HB2.out.trans (hb3.mono (by omega))
  obtain ⟨t, ht⟩ : ∃ t, (St.comp (Wd (mw b)) s) = t := ⟨_, rfl⟩
  rw [ht] at hm3
  have d0 : w3.cell? ⟨w1.heap.size + 1, 0, none⟩ = some (.int .u32 (U t.a)) := cell_of_row w3 _ 0 _ _ _ hm3
  have d1 : w3.cell? ⟨w1.heap.size + 1, 1, none⟩ = some (.int .u32 (U t.b)) := cell_of_row w3 _ 1 _ _ _ hm3
  have d2 : w3.cell? ⟨w1.heap.size + 1, 2, none⟩ = some (.int .u32 (U t.c)) := cell_of_row w3 _ 2 _ _ _ hm3
  have d3 : w3.cell? ⟨w1.heap.size + 1, 3, none⟩ = some (.int .u32 (U t.d)) := cell_of_row w3 _ 3 _ _ _ hm3
  have d4 : w3.cell? ⟨w1.heap.size + 1, 4, none⟩ = some (.int .u32 (U t.e)) := cell_of_row w3 _ 4 _ _ _ hm3
  have d5 : w3.cell? ⟨w1.heap.size + 1, 5, none⟩ = some (.int .u32 (U t.f)) := cell_of_row w3 _ 5 _ _ _ hm3
  have d6 : w3.cell? ⟨w1.heap.size + 1, 6, none⟩ = some (.int .u32 (U t.g)) := cell_of_row w3 _ 6 _ _ _ hm3
  have d7 : w3.cell? ⟨w1.heap.size + 1, 7, none⟩ = some (.int .u32 (U t.h)) := cell_of_row w3 _ 7 _ _ _ hm3
  have HT := Lib.hid ht
  have HR3 := Lib.hid hr3
  have HB3 := Lib.hid hB3
  clear hr3 hB3 hb3 hm3 ht
  go_wp2_with fail
  refine (wide_st t _).mono ?_
  rintro en w4 ⟨rfl, hb4⟩
  have hr4 := (hb4.block (w.heap.size + 1) (by omega)).trans HR3.out
  obtain ⟨⟨c0, c1, c2, c3, c4, c5, c6, c7⟩, ⟨f0, f1, f2, f3, f4, f5, f6, f7⟩⟩ := eight hr4
  have hB4 : Below w.heap.size w w4 := HB3.out.trans (hb4.mono (by omega))
  have HB4 := Lib.hid hB4
  clear hr4 hB4 hb4 d0 d1 d2 d3 d4 d5 d6 d7
  go_wp2
  refine bodyPost_ret (v := .tuple #[.agg #[.int .i64 (U t.a), .int .i64 (U t.b), .int .i64 (U t.c), .int .i64 (U t.d), .int .i64 (U t.e), .int .i64 (U t.f), .int .i64 (U t.g), .int .i64 (U t.h)], .int .i64 0]) (by simp [results, Tryd.results62, go_sem, *]) rfl ⟨by rw [HT.out], below8 HB4.out _ (by omega) _ _ _ _ _ _ _ _⟩
theorem First_any (w : World) :
    Calls Tryd.prog 58 #[] w fun e w' => e = .returned (.agg #[.int .i64 (U F0.a), .int .i64 (U F0.b), .int .i64 (U F0.c), .int .i64 (U F0.d), .int .i64 (U F0.e), .int .i64 (U F0.f), .int .i64 (U F0.g), .int .i64 (U F0.h)]) ∧ Below w.heap.size w w' := by
  go_enter Tryd.func58, Tryd.ntmps58
  go_wp2
  refine bodyPost_ret (v := .agg #[.int .i64 (U F0.a), .int .i64 (U F0.b), .int .i64 (U F0.c), .int .i64 (U F0.d), .int .i64 (U F0.e), .int .i64 (U F0.f), .int .i64 (U F0.g), .int .i64 (U F0.h)]) (by simp [results, Tryd.results58, go_sem, F0, U]) rfl ⟨rfl, ?_⟩
  exact (Below.refl _ _).alloc (Nat.le_refl _) _
end Go.Proofs.YthojdcmkajmdjaaDoor
