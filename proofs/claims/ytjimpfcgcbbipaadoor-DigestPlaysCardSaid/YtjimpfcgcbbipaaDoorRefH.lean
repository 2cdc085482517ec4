/- The reference's state with a block is the arithmetic's, given its schedule. Conditions: the block has sixty-four bytes, the table lies at its place. -/
import Derived.Test.YtjimpfcgcbbipaaDoorMix
import Derived.Test.YtjimpfcgcbbipaaDoorRefA
import Derived.Test.YtjimpfcgcbbipaaDoorRefB
import Derived.Test.YtjimpfcgcbbipaaDoorRefC
import Derived.Deep.RegionHeld3
import Derived.Test.YtjimpfcgcbbipaaDoorRefE
import Derived.StillTailTactics
import Derived.Deep.RegionHeld
import Derived.Deep.RegionWith
import Derived.Deep.DrawnRows
import Derived.Deep.DeepCutAuto
import Derived.Deep.QuietTactic
import Derived.BigQuiet
import Derived.WalkKit
import Derived.WalkLawsBesides
import Derived.WalkSpells
import Derived.Outline
import Derived.Lib.Hide
namespace Go.Proofs.YtjimpfcgcbbipaaDoor
open Go.ChangeShapes Go.WideShapes Go.ChangeAt Go.RowKit
open Go.ChangeMaps (open_string shut_string)
open Rd
attribute [local go_sem ↓] Go.wp_at_zero Go.wp_at_succ
/-- what the reference's schedule is known to tell -/
def Tells12 (b : ByteArray) : Prop :=
  ∀ w : World, Calls Tryd.prog 46 #[.string b] w fun e w' => ∃ G c, e = .returned (.tuple #[.slice (some ⟨G, 0, none⟩) 64 c, .int .i64 0]) ∧ w.heap.size ≤ G ∧ G < w'.heap.size ∧ (∀ j, j < 64 → w'.cell? ⟨G, j, none⟩ = some (.int .i64 (U ((Wd (mw b)) j)))) ∧ Below w.heap.size w w'
set_option maxRecDepth 100000 in
set_option maxHeartbeats 4000000 in
theorem Compress16_ok (s : St) (b : ByteArray) (hS : Tells12 b) (w : World) (h0 : 5 < w.heap.size) (hk : ∀ i, i < 64 → w.cell? ⟨5, i, none⟩ = some (.int .i64 (U (K i)))) :
    Calls Tryd.prog 33 #[.agg #[.int .i64 (U s.a), .int .i64 (U s.b), .int .i64 (U s.c), .int .i64 (U s.d), .int .i64 (U s.e), .int .i64 (U s.f), .int .i64 (U s.g), .int .i64 (U s.h)], .string b] w fun e w' => e = .returned (.tuple #[.agg #[.int .i64 (U (St.comp (Wd (mw b)) s).a), .int .i64 (U (St.comp (Wd (mw b)) s).b), .int .i64 (U (St.comp (Wd (mw b)) s).c), .int .i64 (U (St.comp (Wd (mw b)) s).d), .int .i64 (U (St.comp (Wd (mw b)) s).e), .int .i64 (U (St.comp (Wd (mw b)) s).f), .int .i64 (U (St.comp (Wd (mw b)) s).g), .int .i64 (U (St.comp (Wd (mw b)) s).h)], .int .i64 0]) ∧ Below w.heap.size w w' := by
  have HS := Lib.hid hS
  have HK := Lib.hid hk
  clear hS hk
  go_enter Tryd.func33, Tryd.ntmps33
  go_wp2_with fail
  refine (words_ok s _).mono ?_
  rintro e w1 ⟨rfl, hb1⟩
  have hz1 := hb1.size
  simp only [World.size_alloc] at hz1
  have HX := Lib.hid ((hb1.block w.heap.size (by simp; omega)).trans ((Below.heap_alloc _ _ _ (by simp)).trans (heap_alloc_new w _)))
  have HY := Lib.hid ((hb1.block (w.heap.size + 1) (by simp)).trans (by have h := heap_alloc_new (w.alloc (.cells #[.int .i64 (U s.a), .int .i64 (U s.b), .int .i64 (U s.c), .int .i64 (U s.d), .int .i64 (U s.e), .int .i64 (U s.f), .int .i64 (U s.g), .int .i64 (U s.h)] 45)) (.cells #[.int .i64 0, .int .i64 0, .int .i64 0, .int .i64 0, .int .i64 0, .int .i64 0, .int .i64 0, .int .i64 0] 45); simp only [World.size_alloc] at h; exact h))
  have HB1 := Lib.hid ((((Below.refl _ w).alloc (Nat.le_refl _) _).alloc (by simp) _).trans (hb1.mono (by simp; omega)))
  clear hb1
  go_wp2_with fail
  refine (HS.out _).mono ?_
  rintro en w4 ⟨G, c, rfl, hG1, hG4, hcs, hb4⟩
  have hz4 := hb4.size
  have HG4 := Lib.hid hcs
  have hs4 := (hb4.block w.heap.size (by omega)).trans HX.out
  have HS4 := Lib.hid hs4
  have HY4 := Lib.hid ((hb4.block (w.heap.size + 1) (by omega)).trans HY.out)
  have HB4 := Lib.hid (HB1.out.trans (hb4.mono (by omega)))
  obtain ⟨⟨c0, c1, c2, c3, c4, c5, c6, c7⟩, _⟩ := eight hs4
  clear hb4 hcs hs4
  go_wp2_with fail
  clear c0 c1 c2 c3 c4 c5 c6 c7
  go_loopw [9] (fun i wr => ∃ k : Nat, k ≤ 64 ∧ i = .int .i64 k ∧ wr.heap[w4.heap.size]? = some (.cells #[.int .i64 (U (St.go (Wd (mw b)) s k).a), .int .i64 (U (St.go (Wd (mw b)) s k).b), .int .i64 (U (St.go (Wd (mw b)) s k).c), .int .i64 (U (St.go (Wd (mw b)) s k).d), .int .i64 (U (St.go (Wd (mw b)) s k).e), .int .i64 (U (St.go (Wd (mw b)) s k).f), .int .i64 (U (St.go (Wd (mw b)) s k).g), .int .i64 (U (St.go (Wd (mw b)) s k).h)] 45 (0, 0)) ∧ Below w4.heap.size w4 wr) (fun i _ => 64 - (intOf i).toNat)
  case atStart => exact ⟨0, by omega, rfl, heap_alloc_new w4 _, (Below.refl _ _).alloc (Nat.le_refl _) _⟩
  case round =>
    obtain ⟨k, hk, rfl, hxr, hbr⟩ := hrel
    obtain ⟨t, ht⟩ : ∃ t, St.go (Wd (mw b)) s k = t := ⟨_, rfl⟩
    rw [ht] at hxr
    have hlx : w4.heap.size < wr.heap.size := (Array.getElem?_eq_some_iff.1 hxr).1
    have HT := Lib.hid ht
    have HXR := Lib.hid hxr
    have HBR := Lib.hid hbr
    obtain ⟨⟨c0, c1, c2, c3, c4, c5, c6, c7⟩, ⟨f0, f1, f2, f3, f4, f5, f6, f7⟩⟩ := eight hxr
    by_cases hlt : k < 64
    · have hg := (hbr.cell (p := ⟨G, k, none⟩) hG4).trans (HG4.out k hlt)
      have hkr := Lib.hid ((hbr.cell (p := ⟨5, k, none⟩) (show 5 < w4.heap.size by omega)).trans ((HB4.out.cell (p := ⟨5, k, none⟩) h0).trans (HK.out k hlt)))
      have i1 : (k : Int) < 64 := by omega
      clear ht hxr hbr
      go_wp2_with fail
      go_region_with (first
        | (go_at_call 47; refine (Round14_ok t k hlt ((Wd (mw b)) k) _ (by first | omega | (simp; omega)) (by exact hkr.out)).mono ?_; rintro e w5 ⟨rfl, hb5⟩; have hx5 := (hb5.block w4.heap.size (by simpa using hlx)).trans HXR.out; have HX5 := Lib.hid hx5; have hz5 := hb5.size; simp at hz5; have HB5 := Lib.hid hb5; clear hb5; obtain ⟨⟨e0, e1, e2, e3, e4, e5, e6, e7⟩, ⟨g0, g1, g2, g3, g4, g5, g6, g7⟩⟩ := eight hx5; clear hx5))
      all_goals
        go_wp2
        go_roundw
        case rel =>
          refine ⟨k + 1, by omega, by go_num, ?_, ?_⟩
          · have e := stored8 _ w4.heap.size _ _ _ _ _ _ _ _ (.int .i64 (U (t.step k ((Wd (mw b)) k)).a)) (.int .i64 (U (t.step k ((Wd (mw b)) k)).b)) (.int .i64 (U (t.step k ((Wd (mw b)) k)).c)) (.int .i64 (U (t.step k ((Wd (mw b)) k)).d)) (.int .i64 (U (t.step k ((Wd (mw b)) k)).e)) (.int .i64 (U (t.step k ((Wd (mw b)) k)).f)) (.int .i64 (U (t.step k ((Wd (mw b)) k)).g)) (.int .i64 (U (t.step k ((Wd (mw b)) k)).h)) HX5.out
            rw [show St.go (Wd (mw b)) s (k + 1) = t.step k ((Wd (mw b)) k) by rw [← HT.out]; rfl]
            exact e
          · exact below8 (HBR.out.drew.trans (HB5.out.mono (by simp; omega))) w4.heap.size (Nat.le_refl _) _ _ _ _ _ _ _ _
        case measure => simp [intOf]; omega
    · have hk64 : k = 64 := by omega
      have i64n : ¬ (k : Int) < 64 := by omega
      clear ht hxr hbr c0 c1 c2 c3 c4 c5 c6 c7 f0 f1 f2 f3 f4 f5 f6 f7
      go_wp2_with fail
      go_loopw [10] (fun i wq => ∃ m : Nat, m ≤ 8 ∧ i = .int .i64 m ∧ wq.heap[w4.heap.size]? = some (.cells (mixA t s m) 45 (0, 0)) ∧ Below w4.heap.size w4 wq) (fun i _ => 8 - (intOf i).toNat)
      case atStart => exact ⟨0, by omega, rfl, HXR.out, HBR.out⟩
      case round =>
        obtain ⟨m, hm, rfl, hxq, hbq⟩ := hrel
        have hsq := (hbq.block w.heap.size (by omega)).trans HS4.out
        have hyq := (hbq.block (w.heap.size + 1) (by omega)).trans HY4.out
        have HXQ := Lib.hid hxq
        have HBQ := Lib.hid hbq
        by_cases hlt : m < 8
        · have hx : wr.cell? ⟨w4.heap.size, m, none⟩ = some (.int .i64 (U (t.w m))) := (cell_of_row wr w4.heap.size m _ _ _ hxq).trans (mixA_get t s m hlt)
          have hy : wr.cell? ⟨w.heap.size, m, none⟩ = some (.int .i64 (U (s.w m))) := (cell_of_row wr w.heap.size m _ _ _ hsq).trans (stA_get s m hlt)
          have hf : wr.frozen? ⟨w4.heap.size, m, none⟩ = false := frozen_of_row wr w4.heap.size m _ _ hxq
          have i1 : (m : Int) < 8 := by omega
          have hadd := add_wrap (t.w m) (s.w m)
          clear hxq hbq hsq hyq
          go_wp2_with fail
          go_still_tail 9, (by kernel_rfl)
          change wpList _ _ _ _ _ wr.drew
          have hxd : wr.drew.cell? ⟨w4.heap.size, m, none⟩ = some (.int .i64 (U (t.w m))) := hx
          have hfd : wr.drew.frozen? ⟨w4.heap.size, m, none⟩ = false := hf
          go_wp2
          go_roundw
          case rel =>
            refine ⟨m + 1, by omega, by go_num, ?_, (HBQ.out.setCell (p := ⟨w4.heap.size, m, none⟩) (Nat.le_refl _) _).drew⟩
            have e := heap_setCell_same wr w4.heap.size m _ _ (.int .i64 (U ((t.add s).w m))) HXQ.out
            rw [mixA_set t s m hlt, add_w t s m hlt] at e
            exact e
          case measure => simp [intOf]; omega
        · obtain rfl : m = 8 := by omega
          rw [mixA_all] at hxq
          obtain ⟨⟨c0, c1, c2, c3, c4, c5, c6, c7⟩, _⟩ := eight hxq
          obtain ⟨⟨d0, d1, d2, d3, d4, d5, d6, d7⟩, ⟨f0, f1, f2, f3, f4, f5, f6, f7⟩⟩ := eight hyq
          have hcomp : St.comp (Wd (mw b)) s = t.add s := by rw [← HT.out, hk64]; rfl
          clear hxq hbq hsq hyq
          go_wp2
          rw [hcomp]
          refine bodyPost_ret (v := .tuple #[.agg #[.int .i64 (U (t.add s).a), .int .i64 (U (t.add s).b), .int .i64 (U (t.add s).c), .int .i64 (U (t.add s).d), .int .i64 (U (t.add s).e), .int .i64 (U (t.add s).f), .int .i64 (U (t.add s).g), .int .i64 (U (t.add s).h)], .int .i64 0]) ?_ rfl ⟨rfl, below8 (HB4.out.trans (HBQ.out.mono (by omega))) (w.heap.size + 1) (by omega) _ _ _ _ _ _ _ _⟩
          simp [results, Tryd.results33, go_sem, d0, d1, d2, d3, d4, d5, d6, d7]
end Go.Proofs.YtjimpfcgcbbipaaDoor
