/- The reference's round makes of a state what the arithmetic of words says, or there is an error. Conditions: those of each rule. The reference's state with a block is the arithmetic's, given its schedule. Conditions: the block has sixty-four bytes, the table lies at its place. -/
import Derived.Test.YthojdcmkajmdjaaDoorMix
import Derived.Test.YthojdcmkajmdjaaDoorRf
import Derived.Deep.RegionHeld3
import Derived.StillTailTactics
import Derived.Deep.RegionHeld
import Derived.Deep.RegionWith
import Derived.Deep.DrawnRows
import Derived.Deep.DeepCutAuto
import Derived.Deep.QuietTactic
import Derived.BigQuiet
import Derived.WalkKit
import Derived.WalkLawsBesides
import Derived.WalkSpells
import Derived.Outline
import Derived.Lib.Hide
namespace Go.Proofs.YthojdcmkajmdjaaDoor
open Go.ChangeShapes Go.WideShapes Go.ChangeAt Go.RowKit
open Go.ChangeMaps (open_string shut_string)
open Rd
attribute [local go_sem ↓] Go.wp_at_zero Go.wp_at_succ
theorem sum2 (a b : BitVec 32) : (wrap64 (U a + U b)).tmod 4294967296 = U (a + b) := add_wrap a b
theorem sum5 (a b c d e : BitVec 32) : (wrap64 (wrap64 (wrap64 (wrap64 (U a + U b) + U c) + U d) + U e)).tmod 4294967296 = U (a + b + c + d + e) := by
  have h1 := U_nonneg a; have h2 := U_lt a; have h3 := U_nonneg b; have h4 := U_lt b; have h5 := U_nonneg c; have h6 := U_lt c
  have h7 := U_nonneg d; have h8 := U_lt d; have h9 := U_nonneg e; have h10 := U_lt e
  rw [show wrap64 (wrap64 (wrap64 (wrap64 (U a + U b) + U c) + U d) + U e) = U a + U b + U c + U d + U e by unfold wrap64; omega]
  rw [Int.tmod_eq_emod_of_nonneg (by omega)]
  have e1 := mod_add a b; have e2 := mod_add (a + b) c; have e3 := mod_add (a + b + c) d; have e4 := mod_add (a + b + c + d) e
  omega
attribute [local go_sem] xor64 and64 not64 sum2 sum5
set_option maxRecDepth 100000 in
set_option maxHeartbeats 1000000 in
theorem Round14_ok (s : St) (i : Nat) (hi : i < 64) (x : BitVec 32) (w : World) (h0 : 3 < w.heap.size) (hk : w.cell? ⟨3, i, none⟩ = some (.int .i64 (U (K i)))) :
    Calls Tryd.prog 53 #[.agg #[.int .i64 (U s.a), .int .i64 (U s.b), .int .i64 (U s.c), .int .i64 (U s.d), .int .i64 (U s.e), .int .i64 (U s.f), .int .i64 (U s.g), .int .i64 (U s.h)], .int .i64 i, .int .i64 (U x)] w fun e w' => e = .returned (.tuple #[.agg #[.int .i64 (U (s.step i x).a), .int .i64 (U (s.step i x).b), .int .i64 (U (s.step i x).c), .int .i64 (U (s.step i x).d), .int .i64 (U (s.step i x).e), .int .i64 (U (s.step i x).f), .int .i64 (U (s.step i x).g), .int .i64 (U (s.step i x).h)], .int .i64 0]) ∧ Below w.heap.size w w' := by
  have HK := Lib.hid hk
  clear hk
  have hx1 := U_nonneg x
  have hx2 : ¬ 4294967295 < U x := by have := U_lt x; omega
  have hx3 : ¬ U x < 0 := by omega
  have hi1 : ¬ (i : Int) < 0 := by omega
  have hi2 : ¬ 63 < (i : Int) := by omega
  have hi3 : (i : Int) < 64 := by omega
  go_enter Tryd.func53, Tryd.ntmps53
  go_wp2_with fail
  refine (words_ok s _).mono ?_
  rintro e w1 ⟨rfl, hb1⟩
  have hz1 := hb1.size
  simp only [World.size_alloc] at hz1
  have hbx := (hb1.block w.heap.size (by simp; omega)).trans ((Below.heap_alloc _ _ _ (by simp)).trans (heap_alloc_new w _))
  have HX := Lib.hid hbx
  have hry := (hb1.block (w.heap.size + 1) (by simp)).trans (by have h := heap_alloc_new (w.alloc (.cells #[.int .i64 (U s.a), .int .i64 (U s.b), .int .i64 (U s.c), .int .i64 (U s.d), .int .i64 (U s.e), .int .i64 (U s.f), .int .i64 (U s.g), .int .i64 (U s.h)] 58)) (.cells #[.int .i64 0, .int .i64 0, .int .i64 0, .int .i64 0, .int .i64 0, .int .i64 0, .int .i64 0, .int .i64 0] 58); simp only [World.size_alloc] at h; exact h)
  have HB1 := Lib.hid ((((Below.refl _ w).alloc (Nat.le_refl _) _).alloc (by simp) _).trans (hb1.mono (by simp; omega)))
  have HRY := Lib.hid hry
  obtain ⟨⟨c0, c1, c2, c3, c4, c5, c6, c7⟩, _⟩ := eight hbx
  clear hry
  have hk1 := (HB1.out.cell (p := ⟨3, i, none⟩) h0).trans HK.out
  clear hb1 hbx
  go_wp2_with (first
    | (go_at_call 67; refine (xor_any _ _ _ _).mono ?_; rintro en w' ⟨rfl, rfl⟩))
  go_quiet (first
    | (go_at_call 67; exact Calls.quiet_of_same ((xor_any _ _ _ _).mono fun _ _ h => ⟨h.1, h.2.symm⟩))
    | (go_at_call_of 68 (Value.int .i64 6); exact Calls.quiet_of (turn_6 _ _))
    | (go_at_call_of 68 (Value.int .i64 11); exact Calls.quiet_of (turn_11 _ _))
    | (go_at_call_of 68 (Value.int .i64 25); exact Calls.quiet_of (turn_25 _ _)))
  have c0' : (w1.drewN nq).cell? ⟨w.heap.size, 0, none⟩ = _ := c0
  have c1' : (w1.drewN nq).cell? ⟨w.heap.size, 1, none⟩ = _ := c1
  have c2' : (w1.drewN nq).cell? ⟨w.heap.size, 2, none⟩ = _ := c2
  have c3' : (w1.drewN nq).cell? ⟨w.heap.size, 3, none⟩ = _ := c3
  have c5' : (w1.drewN nq).cell? ⟨w.heap.size, 5, none⟩ = _ := c5
  have c6' : (w1.drewN nq).cell? ⟨w.heap.size, 6, none⟩ = _ := c6
  have hry' : (w1.drewN nq).heap[w.heap.size + 1]? = _ := HRY.out
  obtain ⟨⟨d0, d1, d2, d3, d4, d5, d6, d7⟩, ⟨f0, f1, f2, f3, f4, f5, f6, f7⟩⟩ := eight hry'
  have HR2 := Lib.hid hry'
  have HB2 := Lib.hid (below_drewN HB1.out nq)
  clear c0 c1 c2 c3 c4 c5 c6 c7 hry'
  generalize w1.drewN nq = w2 at *
  go_wp2_with (first
    | (go_at_call 67; refine (xor_any _ _ _ _).mono ?_; rintro en w' ⟨rfl, rfl⟩)
    | (go_at_call_of 68 (Value.int .i64 2); refine (turn_2 _ _).mono ?_; rintro en w' ⟨rfl, n2, rfl⟩)
    | (go_at_call_of 68 (Value.int .i64 13); refine (turn_13 _ _).mono ?_; rintro en w' ⟨rfl, n13, rfl⟩)
    | (go_at_call_of 68 (Value.int .i64 22); refine (turn_22 _ _).mono ?_; rintro en w' ⟨rfl, n22, rfl⟩))
  refine bodyPost_ret (v := .tuple #[.agg #[.int .i64 (U (s.step i x).a), .int .i64 (U (s.step i x).b), .int .i64 (U (s.step i x).c), .int .i64 (U (s.step i x).d), .int .i64 (U (s.step i x).e), .int .i64 (U (s.step i x).f), .int .i64 (U (s.step i x).g), .int .i64 (U (s.step i x).h)], .int .i64 0]) ?_ rfl ⟨rfl, below8 (below_drewN HB2.out (n2 + n13 + n22)) (w.heap.size + 1) (by omega) _ _ _ _ _ _ _ _⟩
  · simp [results, Tryd.results53, go_sem, T1, T2, St.step, d0, d1, d2, d3, d4, d5, d6, d7]
end Go.Proofs.YthojdcmkajmdjaaDoor

namespace Go.Proofs.YthojdcmkajmdjaaDoor
open Go.ChangeShapes Go.WideShapes Go.ChangeAt Go.RowKit
open Go.ChangeMaps (open_string shut_string)
open Rd
attribute [local go_sem ↓] Go.wp_at_zero Go.wp_at_succ
/-- what the reference's schedule is known to tell -/
def Tells12 (b : ByteArray) : Prop :=
  ∀ w : World, Calls Tryd.prog 52 #[.string b] w fun e w' => ∃ G c, e = .returned (.tuple #[.slice (some ⟨G, 0, none⟩) 64 c, .int .i64 0]) ∧ w.heap.size ≤ G ∧ G < w'.heap.size ∧ (∀ j, j < 64 → w'.cell? ⟨G, j, none⟩ = some (.int .i64 (U ((Wd (mw b)) j)))) ∧ Below w.heap.size w w'
set_option maxRecDepth 100000 in
set_option maxHeartbeats 4000000 in
theorem Compress16_ok (s : St) (b : ByteArray) (hS : Tells12 b) (w : World) (h0 : 3 < w.heap.size) (hk : ∀ i, i < 64 → w.cell? ⟨3, i, none⟩ = some (.int .i64 (U (K i)))) :
    Calls Tryd.prog 38 #[.agg #[.int .i64 (U s.a), .int .i64 (U s.b), .int .i64 (U s.c), .int .i64 (U s.d), .int .i64 (U s.e), .int .i64 (U s.f), .int .i64 (U s.g), .int .i64 (U s.h)], .string b] w fun e w' => e = .returned (.tuple #[.agg #[.int .i64 (U (St.comp (Wd (mw b)) s).a), .int .i64 (U (St.comp (Wd (mw b)) s).b), .int .i64 (U (St.comp (Wd (mw b)) s).c), .int .i64 (U (St.comp (Wd (mw b)) s).d), .int .i64 (U (St.comp (Wd (mw b)) s).e), .int .i64 (U (St.comp (Wd (mw b)) s).f), .int .i64 (U (St.comp (Wd (mw b)) s).g), .int .i64 (U (St.comp (Wd (mw b)) s).h)], .int .i64 0]) ∧ Below w.heap.size w w' := by
  have HS := Lib.hid hS
  have HK := Lib.hid hk
  clear hS hk
  go_enter Tryd.func38, Tryd.ntmps38
  go_wp2_with fail
  refine (words_ok s _).mono ?_
  rintro e w1 ⟨rfl, hb1⟩
  have hz1 := hb1.size
  simp only [World.size_alloc] at hz1
  have HX := Lib.hid ((hb1.block w.heap.size (by simp; omega)).trans ((Below.heap_alloc _ _ _ (by simp)).trans (heap_alloc_new w _)))
  have HY := Lib.hid ((hb1.block (w.heap.size + 1) (by simp)).trans (by have h := heap_alloc_new (w.alloc (.cells #[.int .i64 (U s.a), .int .i64 (U s.b), .int .i64 (U s.c), .int .i64 (U s.d), .int .i64 (U s.e), .int .i64 (U s.f), .int .i64 (U s.g), .int .i64 (U s.h)] 58)) (.cells #[.int .i64 0, .int .i64 0, .int .i64 0, .int .i64 0, .int .i64 0, .int .i64 0, .int .i64 0, .int .i64 0] 58); simp only [World.size_alloc] at h; exact h))
  have HB1 := Lib.hid ((((Below.refl _ w).alloc (Nat.le_refl _) _).alloc (by simp) _).trans (hb1.mono (by simp; omega)))
  clear hb1
  go_wp2_with fail
  refine (HS.out _).mono ?_
  rintro en w4 ⟨G, c, rfl, hG1, hG4, hcs, hb4⟩
  have hz4 := hb4.size
  have HG4 := Lib.hid hcs
  have hs4 := (hb4.block w.heap.size (by omega)).trans HX.out
  have HS4 := Lib.hid hs4
  have HY4 := Lib.hid ((hb4.block (w.heap.size + 1) (by omega)).trans HY.out)
  have HB4 := Lib.hid (HB1.out.trans (hb4.mono (by omega)))
  obtain ⟨⟨c0, c1, c2, c3, c4, c5, c6, c7⟩, _⟩ := eight hs4
  clear hb4 hcs hs4
  go_wp2_with fail
  clear c0 c1 c2 c3 c4 c5 c6 c7
  go_loopw [9] (fun i wr => ∃ k : Nat, k ≤ 64 ∧ i = .int .i64 k ∧ wr.heap[w4.heap.size]? = some (.cells #[.int .i64 (U (St.go (Wd (mw b)) s k).a), .int .i64 (U (St.go (Wd (mw b)) s k).b), .int .i64 (U (St.go (Wd (mw b)) s k).c), .int .i64 (U (St.go (Wd (mw b)) s k).d), .int .i64 (U (St.go (Wd (mw b)) s k).e), .int .i64 (U (St.go (Wd (mw b)) s k).f), .int .i64 (U (St.go (Wd (mw b)) s k).g), .int .i64 (U (St.go (Wd (mw b)) s k).h)] 58 (0, 0)) ∧ Below w4.heap.size w4 wr) (fun i _ => 64 - (intOf i).toNat)
  case atStart => exact ⟨0, by omega, rfl, heap_alloc_new w4 _, (Below.refl _ _).alloc (Nat.le_refl _) _⟩
  case round =>
    obtain ⟨k, hk, rfl, hxr, hbr⟩ := hrel
    obtain ⟨t, ht⟩ : ∃ t, St.go (Wd (mw b)) s k = t := ⟨_, rfl⟩
    rw [ht] at hxr
    have hlx : w4.heap.size < wr.heap.size := (Array.getElem?_eq_some_iff.1 hxr).1
    have HT := Lib.hid ht
    have HXR := Lib.hid hxr
    have HBR := Lib.hid hbr
    obtain ⟨⟨c0, c1, c2, c3, c4, c5, c6, c7⟩, ⟨f0, f1, f2, f3, f4, f5, f6, f7⟩⟩ := eight hxr
    by_cases hlt : k < 64
    · have hg := (hbr.cell (p := ⟨G, k, none⟩) hG4).trans (HG4.out k hlt)
      have hkr := Lib.hid ((hbr.cell (p := ⟨3, k, none⟩) (show 3 < w4.heap.size by omega)).trans ((HB4.out.cell (p := ⟨3, k, none⟩) h0).trans (HK.out k hlt)))
      have i1 : (k : Int) < 64 := by omega
      clear ht hxr hbr
      go_wp2_with fail
      go_region_with (first
        | (go_at_call 53; refine (Round14_ok t k hlt ((Wd (mw b)) k) _ (by first | omega | (simp; omega)) (by exact hkr.out)).mono ?_; rintro e w5 ⟨rfl, hb5⟩; have hx5 := (hb5.block w4.heap.size (by simpa using hlx)).trans HXR.out; have HX5 := Lib.hid hx5; have hz5 := hb5.size; simp at hz5; have HB5 := Lib.hid hb5; clear hb5; obtain ⟨⟨e0, e1, e2, e3, e4, e5, e6, e7⟩, ⟨g0, g1, g2, g3, g4, g5, g6, g7⟩⟩ := eight hx5; clear hx5))
      all_goals
        go_wp2
        go_roundw
        case rel =>
          refine ⟨k + 1, by omega, by go_num, ?_, ?_⟩
          · have e := stored8 _ w4.heap.size _ _ _ _ _ _ _ _ (.int .i64 (U (t.step k ((Wd (mw b)) k)).a)) (.int .i64 (U (t.step k ((Wd (mw b)) k)).b)) (.int .i64 (U (t.step k ((Wd (mw b)) k)).c)) (.int .i64 (U (t.step k ((Wd (mw b)) k)).d)) (.int .i64 (U (t.step k ((Wd (mw b)) k)).e)) (.int .i64 (U (t.step k ((Wd (mw b)) k)).f)) (.int .i64 (U (t.step k ((Wd (mw b)) k)).g)) (.int .i64 (U (t.step k ((Wd (mw b)) k)).h)) HX5.out
            rw [show St.go (Wd (mw b)) s (k + 1) = t.step k ((Wd (mw b)) k) by rw [← HT.out]; rfl]
            exact e
          · exact below8 (HBR.out.drew.trans (HB5.out.mono (by simp; omega))) w4.heap.size (Nat.le_refl _) _ _ _ _ _ _ _ _
        case measure => simp [intOf]; omega
    · have hk64 : k = 64 := by omega
      have i64n : ¬ (k : Int) < 64 := by omega
      clear ht hxr hbr c0 c1 c2 c3 c4 c5 c6 c7 f0 f1 f2 f3 f4 f5 f6 f7
      go_wp2_with fail
      go_loopw [10] (fun i wq => ∃ m : Nat, m ≤ 8 ∧ i = .int .i64 m ∧ wq.heap[w4.heap.size]? = some (.cells (mixA t s m) 58 (0, 0)) ∧ Below w4.heap.size w4 wq) (fun i _ => 8 - (intOf i).toNat)
      case atStart => exact ⟨0, by omega, rfl, HXR.out, HBR.out⟩
      case round =>
        obtain ⟨m, hm, rfl, hxq, hbq⟩ := hrel
        have hsq := (hbq.block w.heap.size (by omega)).trans HS4.out
        have hyq := (hbq.block (w.heap.size + 1) (by omega)).trans HY4.out
        have HXQ := Lib.hid hxq
        have HBQ := Lib.hid hbq
        by_cases hlt : m < 8
        · have hx : wr.cell? ⟨w4.heap.size, m, none⟩ = some (.int .i64 (U (t.w m))) := (cell_of_row wr w4.heap.size m _ _ _ hxq).trans (mixA_get t s m hlt)
          have hy : wr.cell? ⟨w.heap.size, m, none⟩ = some (.int .i64 (U (s.w m))) := (cell_of_row wr w.heap.size m _ _ _ hsq).trans (stA_get s m hlt)
          have hf : wr.frozen? ⟨w4.heap.size, m, none⟩ = false := frozen_of_row wr w4.heap.size m _ _ hxq
          have i1 : (m : Int) < 8 := by omega
          have hadd := add_wrap (t.w m) (s.w m)
          clear hxq hbq hsq hyq
          go_wp2_with fail
          go_still_tail 9, (by kernel_rfl)
          change wpList _ _ _ _ _ wr.drew
          have hxd : wr.drew.cell? ⟨w4.heap.size, m, none⟩ = some (.int .i64 (U (t.w m))) := hx
          have hfd : wr.drew.frozen? ⟨w4.heap.size, m, none⟩ = false := hf
          go_wp2
          go_roundw
          case rel =>
            refine ⟨m + 1, by omega, by go_num, ?_, (HBQ.out.setCell (p := ⟨w4.heap.size, m, none⟩) (Nat.le_refl _) _).drew⟩
            have e := heap_setCell_same wr w4.heap.size m _ _ (.int .i64 (U ((t.add s).w m))) HXQ.out
            rw [mixA_set t s m hlt, add_w t s m hlt] at e
            exact e
          case measure => simp [intOf]; omega
        · obtain rfl : m = 8 := by omega
          rw [mixA_all] at hxq
          obtain ⟨⟨c0, c1, c2, c3, c4, c5, c6, c7⟩, _⟩ := eight hxq
          obtain ⟨⟨d0, d1, d2, d3, d4, d5, d6, d7⟩, ⟨f0, f1, f2, f3, f4, f5, f6, f7⟩⟩ := eight hyq
          have hcomp : St.comp (Wd (mw b)) s = t.add s := by rw [← HT.out, hk64]; rfl
          clear hxq hbq hsq hyq
          go_wp2
          rw [hcomp]
          refine bodyPost_ret (v := .tuple #[.agg #[.int .i64 (U (t.add s).a), .int .i64 (U (t.add s).b), .int .i64 (U (t.add s).c), .int .i64 (U (t.add s).d), .int .i64 (U (t.add s).e), .int .i64 (U (t.add s).f), .int .i64 (U (t.add s).g), .int .i64 (U (t.add s).h)], .int .i64 0]) ?_ rfl ⟨rfl, below8 (HB4.out.trans (HBQ.out.mono (by omega))) (w.heap.size + 1) (by omega) _ _ _ _ _ _ _ _⟩
          simp [results, Tryd.results38, go_sem, d0, d1, d2, d3, d4, d5, d6, d7]
end Go.Proofs.YthojdcmkajmdjaaDoor
