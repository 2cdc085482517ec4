/- A buffer to which nothing is added has what it had. Conditions: the buffer lies in a block of its own. -/
import Derived.Test.YtjimpfcgcbbipaaDoorAdd
import Derived.Test.YtjimpfcgcbbipaaDoorCmp
import Derived.Test.YtjimpfcgcbbipaaDoorBufL
import Derived.Test.YtjimpfcgcbbipaaDoorErrs
import Derived.Shelf.Abstract
import Derived.Shelf.RegionOpen
import Derived.WalkMore
import Derived.Deep.DeepCutAuto
import Derived.RangeFuncBox
import Derived.Deep.AppendLies
namespace Go.Proofs.YtjimpfcgcbbipaaDoor
open Go.RowKit Go.Shelf
open Rd Dg Box
attribute [local go_sem] Oper.semAt_some
set_option maxRecDepth 100000 in
set_option maxHeartbeats 4000000 in
theorem add_none (b : Nat) (T : TypeId) (m : List UInt8) (w : World) (hb : Holds b T m w) :
    Calls Tryd.prog 35 #[.pointer (some ⟨b, 0, none⟩), .slice none 0 0] w fun e w' => e = .returned .nilIface ∧ Holds b T m w' ∧ w.grownBy w' (some b) := by
  obtain ⟨s, hs, hr⟩ := hb
  have hblt : b < w.heap.size := (Array.getElem?_eq_some_iff.1 hr).1
  obtain ⟨w0, hw0⟩ : ∃ w0, (w.alloc (.cells #[.pointer (some ⟨b, 0, none⟩)] 85)).alloc (.cells #[.nilIface] 54) = w0 := ⟨_, rfl⟩
  have hz0 : w0.heap.size = w.heap.size + 2 := by rw [← hw0]; simp
  have hr0 : w0.heap[b]? = some (.cells (bufA s (roomL m) m.length) T (0, 0)) := by
    rw [← hw0, Below.heap_alloc _ _ _ (by simp; omega), Below.heap_alloc _ _ _ hblt]; exact hr
  have hpb0 : w0.heap[w.heap.size]? = some (.cells #[.pointer (some ⟨b, 0, none⟩)] 85 (0, 0)) := by
    rw [← hw0, Below.heap_alloc _ _ _ (by simp)]; exact heap_alloc_new w _
  have hrc0 : w0.heap[w.heap.size + 1]? = some (.cells #[.nilIface] 54 (0, 0)) := by
    rw [← hw0]; have h := heap_alloc_new (w.alloc (.cells #[.pointer (some ⟨b, 0, none⟩)] 85)) (.cells #[.nilIface] 54); rwa [World.size_alloc] at h
  have hg0 : Below w.heap.size w w0 := by rw [← hw0]; exact ((Below.refl _ w).alloc (Nat.le_refl _) _).alloc (by simp) _
  have hlm : (roomL m).length = 64 := roomL_length m
  have hcb0 : w0.cell? ⟨w.heap.size, 0, none⟩ = some (.pointer (some ⟨b, 0, none⟩)) := cell_of_row _ _ 0 _ _ _ hpb0
  have hcc0 : w0.cell? ⟨b, 72, none⟩ = some (.int .i64 (m.length : Int)) := by rw [cell_of_row _ _ 72 _ _ _ hr0, bufA_count _ _ _ hlm]
  go_enter Tryd.func35, Tryd.ntmps35
  go_wp2_with fail
  have HG0 := Lib.hid hg0
  have HR0 := Lib.hid hr0
  have HPB0 := Lib.hid hpb0
  have HRC0 := Lib.hid hrc0
  have HS := Lib.hid hs
  clear hr0 hpb0 hrc0 hg0 hs hr hw0
  go_step3
  refine wp_seq_k fun K hK => ?_
  go_cut [] from 11 to 19 (fun wc => wc.heap[b]? = some (.cells (bufA (stOf m (m.length / 64)) (roomL m) m.length) T (0, 0)) ∧ w0.grownBy wc (some b))
  case first =>
    by_cases hm : m.length = 0
    · have hmi : (m.length : Int) = 0 := by omega
      go_wp2_with fail
      refine wp_hideQ ?_
      go_region_with (first
        | (go_at_call 25; refine (First_any _).mono ?_; rintro en w5 ⟨rfl, hb5⟩; have hx5 := (hb5.block b (by simp; omega)).trans HR0.out; have hcb5 := (hb5.cell (p := ⟨w.heap.size, 0, none⟩) (by simp; omega)).trans hcb0; have HX5 := Lib.hid hx5; have HB5 := Lib.hid hb5; clear hb5; obtain ⟨⟨e0, e1, e2, e3, e4, e5, e6, e7⟩, ⟨g0, g1, g2, g3, g4, g5, g6, g7⟩⟩ := eightB hx5; clear hx5))
      all_goals
        go_wp2_with fail
        go_meet
        rw [stOf_nil m hm]
        have hg := grown8 b (gB_of_below HB5.out (some b)) (.int .i64 (U F0.a)) (.int .i64 (U F0.b)) (.int .i64 (U F0.c)) (.int .i64 (U F0.d)) (.int .i64 (U F0.e)) (.int .i64 (U F0.f)) (.int .i64 (U F0.g)) (.int .i64 (U F0.h))
        exact ⟨stored8B F0 HX5.out, ⟨hg.os, hg.tape, hg.output, hg.size, hg.block⟩⟩
    · have hmi : ¬ (m.length : Int) = 0 := by omega
      have hmb : ((m.length : Int) == 0) = false := beq_eq_false_iff_ne.2 hmi
      go_wp2_with fail
      go_meet
      have hst : s = stOf m (m.length / 64) := HS.out (fun h => hm (by rw [h]; exact List.length_nil))
      rw [← hst]
      exact ⟨HR0.out, World.grownBy.refl _ _⟩
  case rest =>
    obtain ⟨hrw, hgw⟩ := hcut
    have hrcw : wc.heap[w.heap.size + 1]? = some (.cells #[.nilIface] 54 (0, 0)) := (hgw.block _ (by omega) (by simp; omega)).trans HRC0.out
    have hcw4 := cell_of_row wc (w.heap.size + 1) 0 _ _ _ hrcw
    have hfw4 := frozen_of_row wc (w.heap.size + 1) 0 _ _ hrcw
    have HRW := Lib.hid hrw
    have HGW := Lib.hid hgw
    have HRCW := Lib.hid hrcw
    clear hrw hgw hrcw
    refine hK _ _ ?_
    clear hK
    go_wp2_with fail
    go_step3
    go_wp2_with fail
    refine wp_loop_rounds 1 ?_
    rw [rounds_succ]
    go_wp2_with fail
    have hr4 := heap_setCell_same wc (w.heap.size + 1) 0 _ _ .nilIface HRCW.out
    have hcr := cell_of_row _ (w.heap.size + 1) 0 _ _ _ hr4
    have hgA : w.grownBy wc (some b) := (gB_of_below HG0.out (some b)).trans HGW.out
    try rw [Exit.noGoto_ret]
    refine bodyPost_ret (v := .nilIface) (by simp [results, Tryd.results35, go_sem, hcr]) rfl ⟨rfl, ⟨stOf m (m.length / 64), fun _ => rfl, ?_⟩, grown_on hgA (gB_setCell (gB_refl wc (w.heap.size + 1)) 0 .nilIface) (by omega)⟩
    rw [Below.heap_setCell wc _ _ b (by simp; omega)]
    exact HRW.out
end Go.Proofs.YtjimpfcgcbbipaaDoor
