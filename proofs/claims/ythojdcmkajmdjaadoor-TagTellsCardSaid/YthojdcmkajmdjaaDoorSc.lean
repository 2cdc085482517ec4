/- A block's schedule over words is the arithmetic's, word by word. Conditions: the block has sixty-four bytes. The package's schedule answers as the arithmetic of words says, and with its error for a block of another length. Conditions: the variables lie as the initialisation lays them. -/
import Derived.Test.YthojdcmkajmdjaaDoorIter
import Derived.RangeFuncNested
import Derived.RangeFuncBound
import Derived.RangeFuncCalls
import Derived.RangeFuncLeaves
import Derived.Shelf.Abstract
import Derived.Shelf.RegionOpen
import Derived.WalkKit
import Derived.OwnWalkIn
import Derived.TacticsInMore
import Derived.LoopNIn
import Derived.LoopIn
import Derived.ControlIn
import Derived.WalkLawsBesides
import Derived.WalkSpells
import Derived.Outline
import Derived.WalkMore
import Derived.Lib.Hide
import Derived.Deep.QuietTactic
import Derived.BigQuiet
import Derived.Deep.RegionHeld3
import Derived.Deep.RegionWith
import Derived.Deep.DrawnRows
import Derived.RegionTactic
import Derived.ChangeAlike
import Derived.Laws.Rows
import Derived.Test.YthojdcmkajmdjaaDoorRows
import Derived.Test.YthojdcmkajmdjaaDoorBt
import Derived.OwnWalk
import Derived.Deep.MidRow
namespace Go.Proofs.YthojdcmkajmdjaaDoor
open Go.RowKit Go.Shelf
open Rd Till

attribute [local go_sem] Oper.semAt_some
attribute [local go_sem] mod_U wrap64_U
theorem size49s : (Tryd.prog.info? 140).map (·.size) = some 64 := by kernel_rfl
theorem words_any (s : ByteArray) (w : World) :
    Calls Tryd.prog 80 #[.string s] w fun e w' => e = .returned (.func (.func 83) #[] #[.pointer (some ⟨w.heap.size, 0, none⟩)]) ∧ w' = w.alloc (.cells #[.string s] 9) := by
  go_enter Tryd.func80, Tryd.ntmps80
  go_wp2
  go_ret
  exact ⟨rfl, rfl⟩
/-- a schedule's cells, t of them laid -/
def schA (m : Nat → BitVec 32) (t : Nat) : Array Value := ((List.range 64).map fun j => Value.int .u32 (U (if j < t then Wd m j else 0#32))).toArray
theorem schA_size (m : Nat → BitVec 32) (t : Nat) : (schA m t).size = 64 := by simp [schA]
theorem schA_zero (m : Nat → BitVec 32) : schA m 0 = #[.int .u32 0, .int .u32 0, .int .u32 0, .int .u32 0, .int .u32 0, .int .u32 0, .int .u32 0, .int .u32 0, .int .u32 0, .int .u32 0, .int .u32 0, .int .u32 0, .int .u32 0, .int .u32 0, .int .u32 0, .int .u32 0, .int .u32 0, .int .u32 0, .int .u32 0, .int .u32 0, .int .u32 0, .int .u32 0, .int .u32 0, .int .u32 0, .int .u32 0, .int .u32 0, .int .u32 0, .int .u32 0, .int .u32 0, .int .u32 0, .int .u32 0, .int .u32 0, .int .u32 0, .int .u32 0, .int .u32 0, .int .u32 0, .int .u32 0, .int .u32 0, .int .u32 0, .int .u32 0, .int .u32 0, .int .u32 0, .int .u32 0, .int .u32 0, .int .u32 0, .int .u32 0, .int .u32 0, .int .u32 0, .int .u32 0, .int .u32 0, .int .u32 0, .int .u32 0, .int .u32 0, .int .u32 0, .int .u32 0, .int .u32 0, .int .u32 0, .int .u32 0, .int .u32 0, .int .u32 0, .int .u32 0, .int .u32 0, .int .u32 0, .int .u32 0] := rfl
theorem schA_get (m : Nat → BitVec 32) (j : Nat) (h : j < 64) : (schA m 64)[j]? = some (.int .u32 (U (Wd m j))) := by
  unfold schA; simp [h]
theorem schA_set (m : Nat → BitVec 32) (t : Nat) (ht : t < 64) : (schA m t).setIfInBounds t (.int .u32 (U (Wd m t))) = schA m (t + 1) := by
  apply Array.ext
  · simp [schA]
  · intro j h1 h2
    have hj : j < 64 := by simpa [schA] using h2
    by_cases e : j = t
    · subst e; simp [schA]
    · rw [Array.getElem_setIfInBounds_ne (by simpa [schA] using hj) (by omega)]
      have : (j < t) = (j < t + 1) := by simp; omega
      simp [schA, this]
set_option maxRecDepth 100000 in
set_option maxHeartbeats 2000000 in
theorem sched_in (s : ByteArray) (hs : s.size = 64) (w : World) :
    CallsIn Fence.wide 6 Tryd.prog 75 #[.string s] w fun e w' => e = .returned (.agg (schA (mw s) 64)) ∧ Below w.heap.size w w' := by
  refine callsIn_of_wp_marks Tryd.func75 rfl trivial ?_ rfl
  simp only [Tryd.ntmps75, List.size_toArray, List.length_cons, List.length_nil, Nat.reduceAdd, Nat.reduceSub, Array.replicate_succ, Array.replicate_zero, List.push_toArray, List.append_toArray, List.nil_append, List.cons_append]
  refine wpIn_wide.2 ?_
  go_wp2
  go_step3
  go_wp2
  go_step3
  go_wp2_with (go_at_call 80; refine (words_any s _).mono ?_; rintro e w' ⟨rfl, rfl⟩)
  refine (wpIn_wide (n := 6)).1 ?_
  rw [← schA_zero (mw s)]
  have hW0 : (((w.alloc (.cells (schA (mw s) 0) 140)).alloc (.cells (schA (mw s) 0) 140)).alloc (.cells #[.string s] 9)).heap.size = w.heap.size + 3 := by simp
  refine wpIn_rangeFunc_till rfl (by decide) (gf := 83) (lb := #[.pointer (some ⟨w.heap.size + 1 + 1, 0, none⟩)]) rfl trivial (enters_of Tryd.func83 (by kernel_rfl) rfl)
    (words_till 5 s hs (w.heap.size + 1 + 1)) (fun _ => rfl) (.exit 0)
    (fun t W => W.heap[w.heap.size]? = some (.cells (schA (mw s) 0) 140 (0, 0)) ∧ W.heap[w.heap.size + 1]? = some (.cells (schA (mw s) t) 140 (0, 0)) ∧ W.cell? ⟨w.heap.size + 1 + 1, 0, none⟩ = some (.string s) ∧ Below w.heap.size w W ∧ w.heap.size + 3 ≤ W.heap.size)
    (fun W => W.heap[w.heap.size]? = some (.cells (schA (mw s) 0) 140 (0, 0)) ∧ W.heap[w.heap.size + 1]? = some (.cells (schA (mw s) 64) 140 (0, 0)) ∧ W.cell? ⟨w.heap.size + 1 + 1, 0, none⟩ = some (.string s) ∧ Below w.heap.size w W ∧ w.heap.size + 3 ≤ W.heap.size)
    ?hI ?hIx (fun _ _ h => h.2.2.1) ?h0
    (fun t => { tmps := #[.string s, undef, .pointer (some ⟨w.heap.size, 0, none⟩), .pointer (some ⟨w.heap.size + 1, 0, none⟩), .int .i64 t, .int .u32 (U (Wd (mw s) t)), .string s, .func (.func 83) #[] #[.pointer (some ⟨w.heap.size + 1 + 1, 0, none⟩)], .int .i64 t, .int .u32 (U (Wd (mw s) t)), undef, undef, undef, undef, undef, undef], defers := [] })
    ?hassign ?hbody ?hstop
  case hI =>
    rintro t A B r ⟨h1, h2, h3, h4, h5⟩ hg hr
    rw [hW0] at hr
    exact ⟨(hg.block _ (by omega) (by simp; omega)).trans h1, (hg.block _ (by omega) (by simp; omega)).trans h2, hg.cell h3 (by simp; omega), h4.grown hg (by omega) (by simp; omega), Nat.le_trans h5 hg.size⟩
  case hIx =>
    rintro A B r ⟨h1, h2, h3, h4, h5⟩ hg hr
    rw [hW0] at hr
    exact ⟨(hg.block _ (by omega) (by simp; omega)).trans h1, (hg.block _ (by omega) (by simp; omega)).trans h2, hg.cell h3 (by simp; omega), h4.grown hg (by omega) (by simp; omega), Nat.le_trans h5 hg.size⟩
  case h0 =>
    refine ⟨?_, ?_, ?_, ((((Below.refl _ w).alloc (Nat.le_refl _) _).alloc (by simp) _).alloc (by simp; omega) _), by simp⟩
    · rw [Below.heap_alloc _ _ _ (by simp; omega), Below.heap_alloc _ _ _ (by simp)]; exact World.alloc_heap_new w _
    · rw [Below.heap_alloc _ _ _ (by simp)]
      have h := World.alloc_heap_new (w.alloc (.cells (schA (mw s) 0) 140)) (.cells (schA (mw s) 0) 140)
      rwa [World.size_alloc] at h
    · have h := World.alloc_heap_new ((w.alloc (.cells (schA (mw s) 0) 140)).alloc (.cells (schA (mw s) 0) 140)) (.cells #[.string s] 9)
      rw [World.size_alloc, World.size_alloc] at h
      exact cell_of_row _ _ 0 _ _ _ h
  case hassign =>
    intro l t W K hK
    gi_wp2
    exact hK
  case hbody =>
    rintro l t W ht ⟨h1, h2, h3, h4, h5⟩
    by_cases hlt : t < 64
    · have hne : ((t : Int) == 64) = false := by rw [beq_eq_false_iff_ne]; omega
      have i1 : (t : Int) < 64 := by omega
      have hc : W.cell? ⟨w.heap.size + 1, t, none⟩ = (schA (mw s) t)[t]? := cell_of_row W _ t _ _ _ h2
      have hs1 : (schA (mw s) t)[t]? = some (.int .u32 (U 0#32)) := by unfold schA; simp [hlt]
      rw [hs1] at hc
      have hf : W.frozen? ⟨w.heap.size + 1, t, none⟩ = false := frozen_of_row W _ t _ _ h2
      have H1 := Lib.hid h1
      have H2 := Lib.hid h2
      have H3 := Lib.hid h3
      have H4 := Lib.hid h4
      have H5 := Lib.hid h5
      have HW := Lib.hid hW0
      clear h1 h2 h3 h4 h5 hs1 hW0
      gi_wp2
      refine ⟨hlt, ⟨by simp, fun k hk _ => ?_⟩, ?_, ?_, ?_, ?_, ?_⟩
      · rw [HW.out] at hk; exact Below.heap_setCell W _ _ k (by simp; omega)
      · rw [Below.heap_setCell W _ _ _ (by simp)]; exact H1.out
      · rw [← schA_set _ _ hlt]; exact heap_setCell_same W _ _ _ _ _ H2.out
      · exact (World.cell?_setCell_other W _ _ _ (fun e => by have := congrArg Addr.block e; simp at this)).trans H3.out
      · exact H4.out.setCell (by simp) _
      · simpa using H5.out
    · obtain rfl : t = 64 := by omega
      have H1 := Lib.hid h1
      have H2 := Lib.hid h2
      have H3 := Lib.hid h3
      have H4 := Lib.hid h4
      have H5 := Lib.hid h5
      clear h1 h2 h3 h4 h5 hW0
      gi_wp2
      exact ⟨rfl, Past.refl _ _, H1.out, H2.out, H3.out, H4.out, H5.out⟩
  case hstop =>
    rintro D W hD ⟨h1, h2, h3, h4, h5⟩ hK
    have HI := Lib.hid (show (Tryd.prog.info? 140).map (·.size) = some (schA (mw s) 64).size by rw [schA_size]; exact size49s)
    have HZ : Hid ((schA (mw s) 0).size = (schA (mw s) 64).size) := Lib.hid (by rw [schA_size, schA_size])
    have HO : Hid ((schA (mw s) 64).all (·.oneCell') = true) := Lib.hid (by unfold schA; simp [Value.oneCell'])
    have H1 := Lib.hid h1
    have H2 := Lib.hid h2
    have H4 := Lib.hid h4
    have H5 := Lib.hid h5
    have HK := Lib.hid hK
    have HD := Lib.hid hD
    clear h1 h2 h3 h4 h5 hK hD hW0
    refine wpIn_wide.2 ?_
    go_wp2_with (first
      | (refine wpList_load_row rfl 140 _ rfl (w.heap.size + 1) rfl 140 (schA (mw s) 64) (0, 0) _ H2.out Tryd.underlying140 rfl HI.out ?_)
      | (refine wpList_store_row rfl 140 _ _ rfl w.heap.size (schA (mw s) 64) rfl rfl 140 (schA (mw s) 0) H1.out HI.out HZ.out HO.out ?_))
    rw [Exit.noGoto_ret]
    have hD3 : w.heap.size + 3 ≤ D := by have h := HD.out; simp at h; omega
    have hset : (W.setRow w.heap.size (schA (mw s) 64)).heap[w.heap.size]? = some (.cells (schA (mw s) 64) 140 (0, 0)) := setRow_heap W w.heap.size (schA (mw s) 0) _ 140 (0, 0) H1.out
    have hoth : ∀ k, k ≠ w.heap.size → (W.setRow w.heap.size (schA (mw s) 64)).heap[k]? = W.heap[k]? := fun k hk => setRow_other W w.heap.size k _ hk
    have hKD : (W.setRow w.heap.size (schA (mw s) 64)).heap[D]? = some (.deferred (some [])) := (hoth D (by omega)).trans HK.out
    refine ⟨by simp, .inl ⟨_, _, rfl, run_takeDeferred hKD, ?_⟩⟩
    refine ⟨.agg (schA (mw s) 64), results_cell_row rfl _ _ w.heap.size 140 _ (0, 0) _ rfl ((World.putObj_heap_other (by omega)).trans hset) Tryd.underlying140 rfl HI.out, rfl, ?_⟩
    have hb : Below w.heap.size w (W.setRow w.heap.size (schA (mw s) 64)) := H4.out.trans ⟨rfl, rfl, rfl, by simp, fun k hk => hoth k (by omega)⟩
    exact hb.trans ⟨rfl, rfl, rfl, by simp, fun k hk => World.putObj_heap_other (by omega)⟩
theorem sched_any (s : ByteArray) (hs : s.size = 64) (w : World) :
    Calls Tryd.prog 75 #[.string s] w fun e w' => e = .returned (.agg (schA (mw s) 64)) ∧ Below w.heap.size w w' :=
  callsIn_wide.1 (sched_in s hs w)
end Go.Proofs.YthojdcmkajmdjaaDoor

namespace Go.Proofs.YthojdcmkajmdjaaDoor
open Go.RowKit
open Rd
attribute [local go_sem] mod_U wrap64_U

theorem info3i : (Tryd.prog.info? 3).map (fun i => (i.zero, i.size, i.bytes)) = some (some (.int .i64 0), 1, 8) := by kernel_rfl
/-- the first k words, as ints -/
def ints (m : Nat → BitVec 32) (k : Nat) : List Value := (List.range k).map fun j => .int .i64 (U (Wd m j))
theorem ints_succ (m : Nat → BitVec 32) (k : Nat) : ints m (k + 1) = ints m k ++ [.int .i64 (U (Wd m k))] := by simp [ints, List.range_succ]
theorem ints_get (m : Nat → BitVec 32) (k j : Nat) (h : j < k) : (ints m k)[j]? = some (.int .i64 (U (Wd m j))) := by simp [ints, h]
/-- what 'Schedule' leaves: a new list of the words, and no error -/
def SchedPost (m : Nat → BitVec 32) (w : World) (e : Ending) (w' : World) : Prop :=
  ∃ G, e = .returned (.tuple #[.slice (some ⟨G, 0, none⟩) 64 64, .int .i64 0]) ∧ w.heap.size ≤ G ∧ G < w'.heap.size ∧ (∀ j, j < 64 → w'.cell? ⟨G, j, none⟩ = some (.int .i64 (U (Wd m j)))) ∧ Below w.heap.size w w'
end Go.Proofs.YthojdcmkajmdjaaDoor
