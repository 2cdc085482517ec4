/- The iterator over a block's words yields its sixteen words in their order, whatever order its cells are laid in. Conditions: the block has sixty-four bytes. -/
import Derived.Test.YthojdcmkajmdjaaDoorLf
import Derived.Test.YthojdcmkajmdjaaDoorTl
import Derived.RangeFuncNested
import Derived.RangeFuncBound
import Derived.RangeFuncCalls
import Derived.RangeFuncLeaves
import Derived.Shelf.Abstract
import Derived.Shelf.RegionOpen
import Derived.WalkKit
import Derived.OwnWalkIn
import Derived.TacticsInMore
import Derived.LoopNIn
import Derived.LoopIn
import Derived.ControlIn
import Derived.WalkLawsBesides
import Derived.WalkSpells
import Derived.Outline
import Derived.Lib.Hide
import Derived.Deep.QuietTactic
import Derived.BigQuiet
import Derived.Deep.RegionHeld3
import Derived.Deep.RegionWith
import Derived.Deep.DrawnRows
import Derived.Deep.DeepCutAuto
import Derived.RegionTactic
import Derived.ChangeAlike
import Derived.Laws.Rows
namespace Go.Proofs.YthojdcmkajmdjaaDoor
open Go.RowKit Go.Shelf
open Rd Till

attribute [local go_sem] Oper.semAt_some
attribute [local go_sem] mod_add wrap_add mod_U wrap64_U
attribute [local go_sem ↓] Go.wp_at_zero Go.wp_at_succ
theorem itKeepA {w : World} {o : Obj} {a : Addr} {v : Value} (h : w.cell? a = some v) : (w.alloc o).cell? a = some v := (World.cell?_alloc_some w a o (by rw [h]; rfl)).trans h
theorem itKeepD {w : World} {n : Nat} {a : Addr} {v : Value} (h : w.cell? a = some v) : (w.drewN n).cell? a = some v := h
theorem itKeepD1 {w : World} {a : Addr} {v : Value} (h : w.cell? a = some v) : (w.drew).cell? a = some v := h
theorem itKeepF {w : World} {o : Obj} {a : Addr} {v : Value} (h : w.cell? a = some v) (hf : w.frozen? a = false) : (w.alloc o).frozen? a = false := by
  exact (World.frozen?_of_block (Below.heap_alloc w o _ (World.block_lt_of_cell? w a h))).trans hf
theorem itKeepS {w : World} {B i j : Nat} {u v : Value} (hne : i ≠ j) (h : w.cell? ⟨B, i, none⟩ = some v) : (w.setCell ⟨B, j, none⟩ u).cell? ⟨B, i, none⟩ = some v :=
  (World.cell?_setCell_other w _ _ _ (fun e => hne (by cases e; rfl))).trans h
theorem itKeepSF {w : World} {a b : Addr} {u : Value} (h : w.frozen? a = false) : (w.setCell b u).frozen? a = false := by rw [World.frozen?_setCell]; exact h
/-- a turn of the block B, and new blocks -/
theorem gB_refl (w : World) (B : Nat) : w.grownBy w (some B) := World.grownBy.refl w _
theorem gB_drewN {w w' : World} {B : Nat} (h : w.grownBy w' (some B)) (n : Nat) : w.grownBy (w'.drewN n) (some B) := ⟨h.os, h.tape, h.output, h.size, h.block⟩
theorem gB_drew {w w' : World} {B : Nat} (h : w.grownBy w' (some B)) : w.grownBy w'.drew (some B) := ⟨h.os, h.tape, h.output, h.size, h.block⟩
theorem gB_alloc {w w' : World} {B : Nat} (h : w.grownBy w' (some B)) (o : Obj) : w.grownBy (w'.alloc o) (some B) :=
  ⟨h.os, h.tape, h.output, by have := h.size; simp; omega, fun k hk hne => (Below.heap_alloc w' o k (Nat.lt_of_lt_of_le hk h.size)).trans (h.block k hk hne)⟩
theorem gB_setCell {w w' : World} {B : Nat} (h : w.grownBy w' (some B)) (j : Nat) (v : Value) : w.grownBy (w'.setCell ⟨B, j, none⟩ v) (some B) :=
  ⟨h.os, h.tape, h.output, by have := h.size; simp; omega, fun k hk hne => (Below.heap_setCell w' _ v k (fun e => hne (by rw [e]))).trans (h.block k hk hne)⟩
/-- the cells that the iterator keeps -/
def lastA (m : Nat → BitVec 32) (t : Nat) : Array Value := ((List.range 16).map fun j => Value.int .u32 (U (Lst m t j))).toArray
theorem lastA_get (m : Nat → BitVec 32) (t j : Nat) (h : j < 16) : (lastA m t)[j]? = some (.int .u32 (U (Lst m t j))) := by
  unfold lastA; simp [h]
theorem lastA_zero (m : Nat → BitVec 32) : lastA m 0 = #[.int .u32 0, .int .u32 0, .int .u32 0, .int .u32 0, .int .u32 0, .int .u32 0, .int .u32 0, .int .u32 0, .int .u32 0, .int .u32 0, .int .u32 0, .int .u32 0, .int .u32 0, .int .u32 0, .int .u32 0, .int .u32 0] := rfl
theorem lastA_set (m : Nat → BitVec 32) (t : Nat) : (lastA m t).setIfInBounds (t % 16) (.int .u32 (U (Wd m t))) = lastA m (t + 1) := by
  apply Array.ext
  · simp [lastA]
  · intro j h1 h2
    have hj : j < 16 := by simpa [lastA] using h1
    by_cases e : j = t % 16
    · subst e; simp [lastA, Lst, Wd]
    · rw [Array.getElem_setIfInBounds_ne (by simpa [lastA] using hj) (by omega)]
      simp [lastA, Lst, e]
theorem wordAt4 (s : ByteArray) (hs : s.size = 64) (t : Nat) (ht : t < 16) (w : World) :
    Calls Tryd.prog 84 #[.string s, .int .i64 (4 * (t : Int))] w fun e w' => e = .returned (.int .u32 (U (Wd (mw s) t))) ∧ ∃ n, w' = w.drewN n := by
  have h := wordAt_any s (4 * t) (by omega) (by omega) w
  have e : ((4 * t : Nat) : Int) = 4 * (t : Int) := by omega
  rw [e] at h
  refine h.mono ?_
  rintro en w' ⟨rfl, hw⟩
  refine ⟨?_, hw⟩
  unfold Wd nw mw
  rw [if_pos ht, dif_pos (by omega)]

set_option maxRecDepth 100000 in
set_option maxHeartbeats 20000000 in
/-- the words' iterator, where the round of the word 64 leaves it -/
theorem words_in (n : Nat) (s : ByteArray) (hs : s.size = 64) (l Bs B0 : Nat) (J : Nat → World → Prop) (Jx : World → Prop)
    (hJ : ∀ t W W', J t W → W.grownBy W' (some B0) → J t W')
    (hS : ∀ t W, J t W → W.cell? ⟨Bs, 0, none⟩ = some (.string s))
    (hY : ∀ t W, t ≤ 64 → J t W → YieldAt Fence.wide (n - 1) Tryd.prog l #[.int .i64 t, .int .u32 (U (Wd (mw s) t))] W fun e W' =>
      (e = .returned (.bool true) ∧ t < 64 ∧ J (t + 1) W' ∧ KeepC B0 W W') ∨ (e = .returned (.bool false) ∧ Jx W'))
    (W : World) (hB0 : W.heap.size = B0) (h0 : J 0 W) :
    CallsIn Fence.wide n Tryd.prog 83 #[.func (.yield l) #[] #[], .pointer (some ⟨Bs, 0, none⟩)] W fun e W' => (∃ v, e = .returned v) ∧ Jx W' := by
  have HJ := Lib.hid hJ
  have HS := Lib.hid hS
  have HY := Lib.hid hY
  have H0 := Lib.hid h0
  clear hJ hS hY h0
  subst hB0
  refine callsIn_of_wp Tryd.func83 rfl trivial ?_ rfl
  simp only [Tryd.ntmps83, List.size_toArray, List.length_cons, List.length_nil, Nat.reduceAdd, Nat.reduceSub, Array.replicate_succ, Array.replicate_zero, List.push_toArray, List.append_toArray, List.nil_append, List.cons_append]
  gi_wp2
  gi_loopw [4] (fun i wr => ∃ t : Nat, t ≤ 64 ∧ i = .int .i64 t ∧ J t wr ∧ wr.heap[W.heap.size]? = some (.cells (lastA (mw s) t) 152 (0, 0))) (fun i _ => 64 - (intOf i).toNat)
  case atStart => exact ⟨0, by omega, rfl, HJ.out 0 W _ H0.out (gB_alloc (gB_refl W _) _), by rw [lastA_zero]; exact World.alloc_heap_new W _⟩
  case round =>
    obtain ⟨t, ht, rfl, hj, hm⟩ := hrel
    have hc := HS.out t wr hj
    have hf : ∀ j, wr.frozen? ⟨W.heap.size, j, none⟩ = false := fun j => frozen_of_row wr W.heap.size j _ _ hm
    have hr : ∀ j, j < 16 → wr.cell? ⟨W.heap.size, j, none⟩ = some (.int .u32 (U (Lst (mw s) t j))) := fun j hj => (cell_of_row wr W.heap.size j _ _ _ hm).trans (lastA_get _ _ j hj)
    have HF := Lib.hid hf
    have HR := Lib.hid hr
    have HJW := Lib.hid hj
    have HM := Lib.hid hm
    clear hf hr hj hm
    have m0 : (0 : Int) ≤ (t : Int) % 16 := by omega
    have m1 : (t : Int) % 16 < 16 := by omega
    have m2 : ((t : Int) % 16).toNat = t % 16 := by omega
    by_cases h16 : t < 16
    · have hw := HR.out (t % 16) (by omega)
      have hfz := HF.out (t % 16)
      gi_wp2
      refine ⟨trivial, fun h => absurd h (by decide), ?_⟩
      refine (callsIn_wide.2 (wordAt4 s hs t h16 _)).mono ?_
      rintro en w' ⟨rfl, nq, rfl⟩
      have hX : J t ((wr.drewN nq).setCell ⟨W.heap.size, t % 16, none⟩ (.int .u32 (U (Wd (mw s) t)))) := HJ.out t wr _ HJW.out (gB_setCell (gB_drewN (gB_refl _ _) _) _ _)
      have hMX : ((wr.drewN nq).setCell ⟨W.heap.size, t % 16, none⟩ (.int .u32 (U (Wd (mw s) t)))).heap[W.heap.size]? = some (.cells (lastA (mw s) (t + 1)) 152 (0, 0)) := by
        rw [← lastA_set]; exact heap_setCell_same (wr.drewN nq) _ _ _ _ _ HM.out
      have HMX := Lib.hid hMX
      obtain ⟨fn, tmps, assign, body, hy, hR⟩ := HY.out t _ ht hX
      clear hMX hX
      gi_wp2
      refine ⟨fun h => absurd h (by decide), ?_⟩
      refine hR.mono ?_
      rintro e W3 (⟨rfl, h64, hJ3, hk3⟩ | ⟨rfl, hJx3⟩)
      · have HJ3 := Lib.hid hJ3
        have HK3 := Lib.hid hk3
        clear hJ3 hk3 hy hR
        gi_wp2
        go_roundw
        case rel => exact ⟨t + 1, by omega, by go_num, HJ3.out, HK3.out _ _ _ (Nat.le_refl _) HMX.out⟩
        case measure => simp [intOf]; omega
      · have HJx3 := Lib.hid hJx3
        clear hJx3 hy hR
        gi_wp2
        refine bodyPost_ret (results_none rfl _ _ _) rfl ?_
        exact ⟨⟨_, rfl⟩, HJx3.out⟩
    · have hw := HR.out (t % 16) (by omega)
      have hfz := HF.out (t % 16)
      obtain ⟨j15, hj15⟩ : ∃ j, (t - 15) % 16 = j := ⟨_, rfl⟩
      obtain ⟨j7, hj7⟩ : ∃ j, (t - 7) % 16 = j := ⟨_, rfl⟩
      obtain ⟨j2, hj2⟩ : ∃ j, (t - 2) % 16 = j := ⟨_, rfl⟩
      have b15 : (j15 : Int) < 16 := by omega
      have b7 : (j7 : Int) < 16 := by omega
      have b2 : (j2 : Int) < 16 := by omega
      have n15 : j15 ≠ t % 16 := by omega
      have n7 : j7 ≠ t % 16 := by omega
      have n2 : j2 ≠ t % 16 := by omega
      have hBs : W.heap.size < wr.heap.size := (Array.getElem?_eq_some_iff.1 HM.out).1
      have hw15 := HR.out j15 (by omega)
      have hw7 := HR.out j7 (by omega)
      have hw2 := HR.out j2 (by omega)
      have e15 : IntKind.i64.wrap ((t : Int) - 15) = (t : Int) - 15 := by simp [IntKind.wrap, IntKind.bits, IntKind.signed]; omega
      have e7 : IntKind.i64.wrap ((t : Int) - 7) = (t : Int) - 7 := by simp [IntKind.wrap, IntKind.bits, IntKind.signed]; omega
      have e2 : IntKind.i64.wrap ((t : Int) - 2) = (t : Int) - 2 := by simp [IntKind.wrap, IntKind.bits, IntKind.signed]; omega
      have r15 : ((t : Int) - 15).tmod 16 = (j15 : Int) := by rw [Int.tmod_eq_emod_of_nonneg (by omega)]; omega
      have r7 : ((t : Int) - 7).tmod 16 = (j7 : Int) := by rw [Int.tmod_eq_emod_of_nonneg (by omega)]; omega
      have r2 : ((t : Int) - 2).tmod 16 = (j2 : Int) := by rw [Int.tmod_eq_emod_of_nonneg (by omega)]; omega
      have HJ15 := Lib.hid hj15
      have HJ7 := Lib.hid hj7
      have HJ2 := Lib.hid hj2
      clear hj15 hj7 hj2
      gi_wp2
      refine wpIn_wide.2 ?_
      go_cut [] from 18 to 42 (fun wx => wx = (((wr.setCell ⟨W.heap.size, t % 16, none⟩ (.int .u32 (U (Lst (mw s) t (t % 16) + (((Lst (mw s) t j15).rotateRight 7 ^^^ (Lst (mw s) t j15).rotateRight 18 ^^^ Lst (mw s) t j15 >>> 3) + Lst (mw s) t j7 + ((Lst (mw s) t j2).rotateRight 17 ^^^ (Lst (mw s) t j2).rotateRight 19 ^^^ Lst (mw s) t j2 >>> 10)))))).alloc (.cells #[.int .i64 7, .int .i64 18] 3)).alloc (.cells #[.int .i64 17, .int .i64 19] 3)).drew)
      case first =>
        clear HY HJ HS H0 HR HF HJW HM HJ15 HJ7 HJ2 hc hs ht
        go_region_with (first | (go_at_call 85; refine (small0_any _ _).mono ?_; rintro e w' ⟨rfl, rfl⟩) | (go_at_call 86; refine (small1_any _ _).mono ?_; rintro e w' ⟨rfl, rfl⟩))
        all_goals (go_wp2_with fail; go_meet; exact rfl)
      case rest =>
        have hwd : (Lst (mw s) t (t % 16) + (((Lst (mw s) t j15).rotateRight 7 ^^^ (Lst (mw s) t j15).rotateRight 18 ^^^ Lst (mw s) t j15 >>> 3) + Lst (mw s) t j7 + ((Lst (mw s) t j2).rotateRight 17 ^^^ (Lst (mw s) t j2).rotateRight 19 ^^^ Lst (mw s) t j2 >>> 10))) = Wd (mw s) t := by
          unfold Wd nw
          rw [if_neg h16, HJ15.out, HJ7.out, HJ2.out]
          rfl
        rw [hwd] at hcut
        have hX : J t wc := HJ.out t wr _ HJW.out (by rw [hcut]; exact gB_drew (gB_alloc (gB_alloc (gB_setCell (gB_refl _ _) _ _) _) _))
        have hMX : wc.heap[W.heap.size]? = some (.cells (lastA (mw s) (t + 1)) 152 (0, 0)) := by
          have h := heap_setCell_same wr W.heap.size (t % 16) _ _ (.int .u32 (U (Wd (mw s) t))) HM.out
          rw [lastA_set] at h
          rw [hcut]
          refine (Below.heap_alloc _ _ _ (by simp; omega)).trans ((Below.heap_alloc _ _ _ (by simp; omega)).trans h)
        have hcx : wc.cell? ⟨W.heap.size, t % 16, none⟩ = some (.int .u32 (U (Wd (mw s) t))) := by
          rw [cell_of_row wc _ _ _ _ _ hMX, lastA_get _ _ _ (by omega)]
          simp [Lst, Wd]
        have HMX := Lib.hid hMX
        obtain ⟨fn, tmps, assign, body, hy, hR⟩ := HY.out t _ ht hX
        clear hMX hX hcut hwd hw hfz hw15 hw7 hw2 hc
        clear e15 e7 e2 r15 r7 r2 b15 b7 b2 n15 n7 n2
        gi_wp2
        refine ⟨fun h => absurd h (by decide), ?_⟩
        refine hR.mono ?_
        rintro e W3 (⟨rfl, h64, hJ3, hk3⟩ | ⟨rfl, hJx3⟩)
        · have HJ3 := Lib.hid hJ3
          have HK3 := Lib.hid hk3
          clear hJ3 hk3 hy hR
          gi_wp2
          go_roundw
          case rel => exact ⟨t + 1, by omega, by go_num, HJ3.out, HK3.out _ _ _ (Nat.le_refl _) HMX.out⟩
          case measure => simp [intOf]; omega
        · have HJx3 := Lib.hid hJx3
          clear hJx3 hy hR
          gi_wp2
          refine bodyPost_ret (results_none rfl _ _ _) rfl ?_
          exact ⟨⟨_, rfl⟩, HJx3.out⟩
theorem words_till (n : Nat) (s : ByteArray) (hs : s.size = 64) (Bs : Nat) :
    SeqTill Fence.wide n Tryd.prog 83 #[.pointer (some ⟨Bs, 0, none⟩)] (fun t => #[.int .i64 t, .int .u32 (U (Wd (mw s) t))]) 64 (fun A => A.cell? ⟨Bs, 0, none⟩ = some (.string s)) :=
  fun l J Jx W hJ hS hY h0 => words_in n s hs l Bs W.heap.size J Jx hJ hS hY W rfl h0
end Go.Proofs.YthojdcmkajmdjaaDoor
