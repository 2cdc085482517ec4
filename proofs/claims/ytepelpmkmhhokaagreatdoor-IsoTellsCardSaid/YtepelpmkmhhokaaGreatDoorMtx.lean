/- A pair's kids, side by side, where both nodes are known; the first two of a row are taken off; the Roots. Conditions: the nodes are known. The Roots, side by side. Conditions: none. The rule that no node is with two others. Conditions: the maps lie. -/
import Derived.Test.YtepelpmkmhhokaaGreatDoorVnx
import Derived.Deep.RegionHeld3
set_option maxRecDepth 100000
namespace Go.Proofs.YtepelpmkmhhokaaGreatDoor
open Go.RowKit Go.Shelf
open Scs
theorem at3r (w : World) (o0 o1 o2 : Obj) : ∃ W, (((w.alloc o0).alloc o1).alloc o2) = W ∧ W.heap.size = w.heap.size + 3 ∧ Below w.heap.size w W ∧ W.heap[w.heap.size]? = some o0 ∧ W.heap[w.heap.size + 1]? = some o1 ∧ W.heap[w.heap.size + 1 + 1]? = some o2 := by
  refine ⟨_, rfl, by simp, (((Below.refl _ w).alloc (Nat.le_refl _) _).alloc (by simp) _).alloc (by simp; omega) _, ?_, ?_, ?_⟩
  · rw [Below.heap_alloc _ _ _ (by simp; omega), Below.heap_alloc _ _ _ (by simp)]
    exact heap_alloc_new w o0
  · rw [Below.heap_alloc _ _ _ (by simp)]
    have h := heap_alloc_new (w.alloc o0) o1
    rwa [World.size_alloc] at h
  · have h := heap_alloc_new ((w.alloc o0).alloc o1) o2
    rwa [World.size_alloc, World.size_alloc] at h
theorem field51 (a0 a1 a2 : Int) (s : ByteArray) (v : Value) (w : World) (p : Option Addr) (n c : Nat) : (Instr.field 51 (.agg #[.int .i64 a0, .int .i64 a1, .int .i64 a2, .string s, v, .slice p n c]) 3).run Tryz.prog w = .ok (.slice p n c) w := by kernel_rfl
set_option maxHeartbeats 16000000 in
theorem kids64_any (ra rb : Int) (ma mb ca cb : Nat) (pa pb : Option Addr) (Ka Kb i j : Nat) (f h : Fn) (qk qd qk' qd' : Option Addr) (nk ck nd cd nk' ck' nd' cd' : Nat) (w : World) (ka : Kv Ka i (ndV f qk nk ck qd nd cd) w) (kb : Kv Kb j (ndV h qk' nk' ck' qd' nd' cd') w) :
    Calls Tryz.prog 64 #[.agg #[.int .i64 ra, .slice pa ma ca, .map (some Ka), .int .i64 rb, .slice pb mb cb, .map (some Kb)], .agg #[.int .i64 i, .int .i64 j]] w fun e w' => e = .returned (.agg #[.slice qd nd cd, .slice qd' nd' cd']) ∧ Below w.heap.size w w' := by
  obtain ⟨W, hW, hz, hb, h0, h1, h2⟩ := at3r w (.cells #[.int .i64 ra, .slice pa ma ca, .map (some Ka), .int .i64 rb, .slice pb mb cb, .map (some Kb)] 57) (.cells #[.int .i64 i, .int .i64 j] 39) (.cells #[.slice none 0 0, .slice none 0 0] 124)
  obtain ⟨M, hM, hMf⟩ := ka
  obtain ⟨N, hN, hNf⟩ := kb
  have hM' := hM.keep (hb.block _ hM.lt)
  have hN' := hN.keep (hb.block _ hN.lt)
  have hbx : Bx w.heap.size (.int .i64 ra) (.slice pa ma ca) (.map (some Ka)) (.int .i64 rb) (.slice pb mb cb) (.map (some Kb)) (w.heap.size + 1) i j W := ⟨h0, h1⟩
  have step : ∀ W' W'', Bx w.heap.size (.int .i64 ra) (.slice pa ma ca) (.map (some Ka)) (.int .i64 rb) (.slice pb mb cb) (.map (some Kb)) (w.heap.size + 1) i j W' → Below W'.heap.size W' W'' → Bx w.heap.size (.int .i64 ra) (.slice pa ma ca) (.map (some Ka)) (.int .i64 rb) (.slice pb mb cb) (.map (some Kb)) (w.heap.size + 1) i j W'' := fun W' W'' h hb => ⟨(hb.block _ (Array.getElem?_eq_some_iff.1 h.box).1).trans h.box, (hb.block _ (Array.getElem?_eq_some_iff.1 h.pair).1).trans h.pair⟩
  have HA := Lib.hid fun W' (h : Hid (Bx w.heap.size (.int .i64 ra) (.slice pa ma ca) (.map (some Ka)) (.int .i64 rb) (.slice pb mb cb) (.map (some Kb)) (w.heap.size + 1) i j W')) (hb : Below W.heap.size W W') => (node_known ra #[] ma pa ca Ka i M f.k f.x.1 f.x.2.1 f.x.2.2 qk nk ck qd nd cd W' (hM'.keep (hb.block _ hM'.lt)) hMf).mono fun e W'' (r : e = _ ∧ Below W'.heap.size W' W'') => show e = _ ∧ Hid (Bx w.heap.size (.int .i64 ra) (.slice pa ma ca) (.map (some Ka)) (.int .i64 rb) (.slice pb mb cb) (.map (some Kb)) (w.heap.size + 1) i j W'') ∧ Hid (Below W.heap.size W W'') from ⟨r.1, step _ _ h.out r.2, hb.trans (r.2.mono hb.size)⟩
  have HB := Lib.hid fun W' (h' : Hid (Bx w.heap.size (.int .i64 ra) (.slice pa ma ca) (.map (some Ka)) (.int .i64 rb) (.slice pb mb cb) (.map (some Kb)) (w.heap.size + 1) i j W')) (hb : Below W.heap.size W W') => (node_known rb #[] mb pb cb Kb j N h.k h.x.1 h.x.2.1 h.x.2.2 qk' nk' ck' qd' nd' cd' W' (hN'.keep (hb.block _ hN'.lt)) hNf).mono fun e W'' (r : e = _ ∧ Below W'.heap.size W' W'') => show e = _ ∧ Hid (Bx w.heap.size (.int .i64 ra) (.slice pa ma ca) (.map (some Ka)) (.int .i64 rb) (.slice pb mb cb) (.map (some Kb)) (w.heap.size + 1) i j W'') ∧ Hid (Below W.heap.size W W'') from ⟨r.1, step _ _ h'.out r.2, hb.trans (r.2.mono hb.size)⟩
  have HX := Lib.hid hbx
  have HW := Lib.hid hW
  have HBW := Lib.hid hb
  have HR := Lib.hid h2
  have HZ := Lib.hid (show w.heap.size + 2 < W.heap.size by omega)
  clear hW hz hb h0 h1 h2 hM hMf hN hNf hM' hN' hbx step
  have hfl := field51
  go_enter Tryz.func64, Tryz.ntmps64
  go_upto_region 1 with fail
  rw [HW.out]
  go_region_held3 (S8v w.heap.size (.int .i64 ra) (.slice pa ma ca) (.map (some Ka)) (.int .i64 rb) (.slice pb mb cb) (.map (some Kb)) (w.heap.size + 1) i j) ((refine Bx.s8 ?_; repeat (first | (with_reducible refine Hid.out ?_; assumption) | with_reducible refine Bx.drew ?_ | (with_reducible refine Bx.set ?_ _ _ _ ?_ ?_; rotate_left; omega; omega)))) (first
    | ((with_reducible refine (HA.out _ ?hx ?hb).mono ?_)
       case hx => (refine Lib.hid ?_; repeat (first | (with_reducible refine Hid.out ?_; assumption) | with_reducible refine Bx.drew ?_))
       case hb => repeat (first | with_reducible exact Below.refl _ _ | with_reducible refine Below.drew ?_ | (with_reducible refine Hid.out ?_; assumption))
       rintro e wA ⟨rfl, hxA, hbA⟩)
    | ((with_reducible refine (HB.out _ ?hx ?hb).mono ?_)
       case hx => (refine Lib.hid ?_; repeat (first | (with_reducible refine Hid.out ?_; assumption) | with_reducible refine Bx.drew ?_))
       case hb => repeat (first | with_reducible exact Below.refl _ _ | with_reducible refine Below.drew ?_ | (with_reducible refine Hid.out ?_; assumption))
       rintro e wB ⟨rfl, hxB, hbB⟩
       have rR := (hbB.out.block _ HZ.out).trans HR.out
       have t0 := cell_of_row _ _ 0 _ _ _ rR
       have t1 := cell_of_row _ _ 1 _ _ _ rR
       have t2 := frozen_of_row _ _ 0 _ _ rR
       have t3 := frozen_of_row _ _ 1 _ _ rR
       clear rR))
  go_wp2_with fail
  have rR := heap_setCell_same _ _ 1 _ _ (.slice qd' nd' cd') (heap_setCell_same _ _ 0 _ _ (.slice qd nd cd) ((hbB.out.block _ HZ.out).trans HR.out))
  have u0 := cell_of_row _ _ 0 _ _ _ rR
  have u1 := cell_of_row _ _ 1 _ _ _ rR
  refine bodyPost_ret (v := .agg #[.slice qd nd cd, .slice qd' nd' cd']) (by simp [results, Tryz.results64, go_sem, u0, u1]) rfl ?_
  have hz := HZ.out
  have hbw := HBW.out.trans (hbB.out.mono (by omega))
  exact ⟨rfl, (hbw.setCell (by simp only; omega) _).setCell (by simp only; omega) _⟩
theorem tl_run (g o n c : Nat) (w : World) (hn : n + 1 ≤ c) : (Instr.slice 41 (.slice (some ⟨g, o, none⟩) (n + 1) c) (some (.int .i64 1)) none none).run Tryz.prog w = .ok (.slice (some (tl g o c)) n (c - 1)) w := by
  unfold tl
  have h1 : (1 : Int) ≤ ((n : Int) + 1) := by omega
  by_cases h : c = 1
  · rw [if_pos h]
    subst h
    have : n = 0 := by omega
    subst this
    simp [Instr.slice, Instr.sliceBounds, Instr.sliceBound, run_underlying Tryz.underlying41, asIntOf, sizeOf, Result.andThen, go_sem]
  · rw [if_neg h]
    simp [Instr.slice, Instr.sliceBounds, Instr.sliceBound, run_underlying Tryz.underlying41, asIntOf, sizeOf, Result.andThen, go_sem, h, h1, show Tryz.t3.size = 1 from by kernel_rfl]
set_option maxHeartbeats 8000000 in
theorem take63_any (g o ga oa gb ob n ca cb : Nat) (a b : Int) (w : World) (h0 : w.cell? ⟨g, o, none⟩ = some (.slice (some ⟨ga, oa, none⟩) (n + 1) ca)) (h1 : w.cell? ⟨g, o + 1, none⟩ = some (.slice (some ⟨gb, ob, none⟩) (n + 1) cb)) (f0 : w.frozen? ⟨g, o, none⟩ = false) (f1 : w.frozen? ⟨g, o + 1, none⟩ = false)
    (x0 : w.cell? ⟨ga, oa, none⟩ = some (.int .i64 a)) (x1 : w.cell? ⟨gb, ob, none⟩ = some (.int .i64 b)) (hna : n + 1 ≤ ca) (hnb : n + 1 ≤ cb) :
    Calls Tryz.prog 63 #[.pointer (some ⟨g, o, none⟩)] w fun e w' => e = .returned (.agg #[.int .i64 a, .int .i64 b]) ∧ w.grownBy w' (some g) ∧ w'.heap[g]? = ((w.setCell ⟨g, o, none⟩ (.slice (some (tl ga oa ca)) n (ca - 1))).setCell ⟨g, o + 1, none⟩ (.slice (some (tl gb ob cb)) n (cb - 1))).heap[g]? := by
  obtain ⟨W, hW, hz, hb, hr0⟩ := at1 w (.cells #[.int .i64 0, .int .i64 0] 39)
  have lift : ∀ p v, w.cell? p = some v → W.cell? p = some v := fun p v h => (hb.cell (World.block_lt_of_cell? w p (by rw [h]))).trans h
  have h0' := lift _ _ h0
  have h1' := lift _ _ h1
  have x0' := lift _ _ x0
  have x1' := lift _ _ x1
  have hgl : g < w.heap.size := World.block_lt_of_cell? w ⟨g, o, none⟩ (by rw [h0])
  have s0 := fun w => tl_run ga oa n ca w hna
  have s1 := fun w => tl_run gb ob n cb w hnb
  have i1 : (0 : Int) < ((n + 1 : Nat) : Int) := by omega
  have lg : g < W.heap.size := World.block_lt_of_cell? W ⟨g, o, none⟩ (by rw [h0'])
  have lga : ga < W.heap.size := World.block_lt_of_cell? W ⟨ga, oa, none⟩ (by rw [x0'])
  have lgb : gb < W.heap.size := World.block_lt_of_cell? W ⟨gb, ob, none⟩ (by rw [x1'])
  have f0' : W.frozen? ⟨g, o, none⟩ = false := (World.frozen?_of_block (w := w) (hb.block g hgl)).trans f0
  have f1' : W.frozen? ⟨g, o + 1, none⟩ = false := (World.frozen?_of_block (w := w) (hb.block g hgl)).trans f1
  have HW := Lib.hid hW
  have HB := Lib.hid hb
  have HR0 := Lib.hid hr0
  have HGL := Lib.hid hgl
  clear hW hb hr0 h0 h1 x0 x1 lift hgl hz f0 f1
  go_enter Tryz.func63, Tryz.ntmps63
  go_upto_region 1 with fail
  rw [HW.out]
  go_region
  obtain ⟨W2, hW2⟩ : ∃ W2, (W.alloc (.cells #[.int .i64 a, .int .i64 b] 39)).drew = W2 := ⟨_, rfl⟩
  have hb2 : Below W.heap.size W W2 := by rw [← hW2]; exact ((Below.refl _ W).alloc (Nat.le_refl _) _).drew
  have hp2 : W2.heap[W.heap.size]? = some (.cells #[.int .i64 a, .int .i64 b] 39 (0, 0)) := by rw [← hW2]; exact heap_alloc_new W _
  have hzW : w.heap.size < W.heap.size := (Array.getElem?_eq_some_iff.1 HR0.out).1
  have hr2 := (hb2.block w.heap.size hzW).trans HR0.out
  have k0 := (hb2.cell (p := ⟨g, o, none⟩) lg).trans h0'
  have k1 := (hb2.cell (p := ⟨g, o + 1, none⟩) lg).trans h1'
  have g0 : W2.frozen? ⟨g, o, none⟩ = false := (World.frozen?_of_block (w := W) (hb2.block g lg)).trans f0'
  have g1 : W2.frozen? ⟨g, o + 1, none⟩ = false := (World.frozen?_of_block (w := W) (hb2.block g lg)).trans f1'
  have HB2 := Lib.hid (HB.out.trans (hb2.mono HB.out.size))
  have HP2 := Lib.hid hp2
  have HR2 := Lib.hid hr2
  have HG2 := Lib.hid (hb2.block g lg)
  have HLG := Lib.hid lg
  have HLW := Lib.hid hzW
  rw [hW2]
  clear hW2 hb2 hp2 hr2 h0' h1' f0' f1' x0' x1' lg lga lgb hzW
  go_wp2_with fail
  go_region
  obtain ⟨W3, hW3⟩ : ∃ W3, ((W2.setCell ⟨g, o, none⟩ (.slice (some (tl ga oa ca)) n (ca - 1))).setCell ⟨g, o + 1, none⟩ (.slice (some (tl gb ob cb)) n (cb - 1))).drew = W3 := ⟨_, rfl⟩
  rw [hW3]
  have hg3 : W2.grownBy W3 (some g) := by rw [← hW3]; exact gB_drew (gB_setCell (gB_setCell (gB_refl _ _) _ _) _ _)
  have hgl := HGL.out
  have hzW := HLW.out
  have hz2 := HB2.out.size
  have hz0 : w.heap.size < W2.heap.size := (Array.getElem?_eq_some_iff.1 HR2.out).1
  have hzp : W.heap.size < W2.heap.size := (Array.getElem?_eq_some_iff.1 HP2.out).1
  have hp3 := (hg3.block W.heap.size hzp (by simp; omega)).trans HP2.out
  have hr3 := (hg3.block w.heap.size hz0 (by simp; omega)).trans HR2.out
  have p0 := cell_of_row _ _ 0 _ _ _ hp3
  have p1 := cell_of_row _ _ 1 _ _ _ hp3
  have r0 := cell_of_row _ _ 0 _ _ _ hr3
  have r1 := cell_of_row _ _ 1 _ _ _ hr3
  have e0 := frozen_of_row _ _ 0 _ _ hr3
  have e1 := frozen_of_row _ _ 1 _ _ hr3
  have hgg : W3.heap[g]? = ((w.setCell ⟨g, o, none⟩ (.slice (some (tl ga oa ca)) n (ca - 1))).setCell ⟨g, o + 1, none⟩ (.slice (some (tl gb ob cb)) n (cb - 1))).heap[g]? := by
    have e : W2.heap[g]? = w.heap[g]? := HB2.out.block g hgl
    rw [← hW3]
    simp only [World.drew, World.setCell, Array.getElem?_modify, if_pos, e]
  have HGG := Lib.hid hgg
  have HG3 := Lib.hid hg3
  have HR3 := Lib.hid hr3
  clear hgg hg3 hp3 hr3 hW3 k0 k1 g0 g1 hgl hzW hz2 hz0 hzp
  go_wp2_with fail
  have rR := heap_setCell_same _ _ 1 _ _ (.int .i64 b) (heap_setCell_same _ _ 0 _ _ (.int .i64 a) HR3.out)
  have u0 := cell_of_row _ _ 0 _ _ _ rR
  have u1 := cell_of_row _ _ 1 _ _ _ rR
  refine bodyPost_ret (v := .agg #[.int .i64 a, .int .i64 b]) (by simp [results, Tryz.results63, go_sem, u0, u1]) rfl ?_
  have hgl := HGL.out
  have h4 : W3.grownBy ((W3.setCell ⟨w.heap.size, 0, none⟩ (.int .i64 a)).setCell ⟨w.heap.size, 1, none⟩ (.int .i64 b)) (some w.heap.size) := gB_setCell (gB_setCell (gB_refl _ _) _ _) _ _
  have hz2 := HB2.out.size
  have hz3 := HG3.out.size
  refine ⟨rfl, ⟨h4.os.trans (HG3.out.os.trans HB2.out.os), h4.tape.trans (HG3.out.tape.trans HB2.out.tape), h4.output.trans (HG3.out.output.trans HB2.out.output), by have := h4.size; omega, fun k hk hne => (h4.block k (by omega) (by simp; omega)).trans ((HG3.out.block k (by omega) hne).trans (HB2.out.block k hk))⟩, (h4.block g (by omega) (by simp; omega)).trans HGG.out⟩
end Go.Proofs.YtepelpmkmhhokaaGreatDoor

set_option maxRecDepth 100000
namespace Go.Proofs.YtepelpmkmhhokaaGreatDoor
open Go.RowKit Go.Shelf
open Scs
set_option maxHeartbeats 8000000 in
theorem roots62_any (ra rb : Int) (ma mb ca cb : Nat) (pa pb : Option Addr) (Ka Kb : Nat) (w : World) :
    Calls Tryz.prog 62 #[.agg #[.int .i64 ra, .slice pa ma ca, .map (some Ka), .int .i64 rb, .slice pb mb cb, .map (some Kb)]] w fun e w' => ∃ b1 b2, e = .returned (.agg #[.slice (some ⟨b1, 0, none⟩) 1 1, .slice (some ⟨b2, 0, none⟩) 1 1]) ∧ w.heap.size ≤ b1 ∧ w.heap.size ≤ b2 ∧ w'.heap[b1]? = some (.cells #[.int .i64 ra] 3 (0, 0)) ∧ w'.heap[b2]? = some (.cells #[.int .i64 rb] 3 (0, 0)) ∧ Below w.heap.size w w' := by
  obtain ⟨W, hW, hz, hb, hr0, hr1⟩ := at2 w (.cells #[.int .i64 ra, .slice pa ma ca, .map (some Ka), .int .i64 rb, .slice pb mb cb, .map (some Kb)] 57) (.cells #[.slice none 0 0, .slice none 0 0] 124)
  obtain ⟨c0, c1, c2, c3, c4, c5⟩ := cell6 hr0
  have l0 : w.heap.size < W.heap.size := (Array.getElem?_eq_some_iff.1 hr0).1
  have l1 : w.heap.size + 1 < W.heap.size := (Array.getElem?_eq_some_iff.1 hr1).1
  have d0 := cell_of_row _ _ 0 _ _ _ hr1
  have d1 := cell_of_row _ _ 1 _ _ _ hr1
  have e0 := frozen_of_row _ _ 0 _ _ hr1
  have e1 := frozen_of_row _ _ 1 _ _ hr1
  have HW := Lib.hid hW
  have HB := Lib.hid hb
  have HR1 := Lib.hid hr1
  clear hW hb hr0 hr1 hz
  go_enter Tryz.func62, Tryz.ntmps62
  go_upto_region 1 with fail
  rw [HW.out]
  go_wp2_with fail
  have rR := heap_setCell_same _ _ 1 _ _ (.slice (some ⟨W.heap.size + 1, 0, none⟩) 1 1) (heap_setCell_same _ _ 0 _ _ (.slice (some ⟨W.heap.size, 0, none⟩) 1 1) HR1.out)
  have hg : W.grownBy ((W.setCell ⟨w.heap.size + 1, 0, none⟩ (.slice (some ⟨W.heap.size, 0, none⟩) 1 1)).setCell ⟨w.heap.size + 1, 1, none⟩ (.slice (some ⟨W.heap.size + 1, 0, none⟩) 1 1)) (some (w.heap.size + 1)) := gB_setCell (gB_setCell (gB_refl _ _) _ _) _ _
  obtain ⟨W3, hW3, hz3⟩ : ∃ W3, ((W.setCell ⟨w.heap.size + 1, 0, none⟩ (.slice (some ⟨W.heap.size, 0, none⟩) 1 1)).setCell ⟨w.heap.size + 1, 1, none⟩ (.slice (some ⟨W.heap.size + 1, 0, none⟩) 1 1)) = W3 ∧ W3.heap.size = W.heap.size := ⟨_, rfl, by simp⟩
  rw [hW3] at rR hg ⊢
  obtain ⟨W5, hW5, hz5, hb5, h50, h51⟩ := at2 W3 (.cells #[.int .i64 ra] 3) (.cells #[.int .i64 rb] 3)
  rw [hz3] at h50 h51
  rw [hW5]
  have rR5 := (hb5.block _ (by omega)).trans rR
  have u0 := cell_of_row _ _ 0 _ _ _ rR5
  have u1 := cell_of_row _ _ 1 _ _ _ rR5
  refine bodyPost_ret (v := .agg #[.slice (some ⟨W.heap.size, 0, none⟩) 1 1, .slice (some ⟨W.heap.size + 1, 0, none⟩) 1 1]) (by simp [results, Tryz.results62, go_sem, u0, u1]) rfl ?_
  have hw := HB.out.size
  exact ⟨_, _, rfl, by omega, by omega, h50, h51, HB.out.trans ((below_of_grown hg (by omega) hw).trans (hb5.mono (by omega)))⟩
end Go.Proofs.YtepelpmkmhhokaaGreatDoor

set_option maxRecDepth 100000
namespace Go.Proofs.YtepelpmkmhhokaaGreatDoor
open Go.RowKit Go.Shelf
open Scs
theorem zero3 (w : World) : (zeroValue 3).run Tryz.prog w = .ok (.int .i64 0) w := by kernel_rfl
set_option maxHeartbeats 8000000 in
theorem take30_bad (A B : Nat) (LA LB : List (Int × Value)) (i j : Int) (g o c : Nat) (a2 : Addr) (w : World) (hA : HasM w A LA) (hB : HasM w B LB) (p0 : w.cell? ⟨g, o, none⟩ = some (.int .i64 i)) (p1 : w.cell? ⟨g, o + 1, none⟩ = some (.int .i64 j)) (he : End1 w 2 a2)
    (hbad : (∃ b, findI i LA = some (.int .i64 b) ∧ b ≠ j) ∨ (findI i LA = none ∧ ∃ a, findI j LB = some (.int .i64 a) ∧ a ≠ i)) :
    Calls Tryz.prog 30 #[.agg #[.map (some A), .map (some B)], .slice (some ⟨g, o, none⟩) 1 c] w fun e w' => e = .returned (.iface 242 (.pointer (some a2))) ∧ Below w.heap.size w w' := by
  obtain ⟨W, hW, hz, hb, hr0⟩ := at1 w (.cells #[.map (some A), .map (some B)] 74)
  have q0 : W.cell? ⟨g, o, none⟩ = some (.int .i64 i) := (hb.cell (p := ⟨g, o, none⟩) (World.block_lt_of_cell? w ⟨g, o, none⟩ (by rw [p0]))).trans p0
  have q1 : W.cell? ⟨g, o + 1, none⟩ = some (.int .i64 j) := (hb.cell (p := ⟨g, o + 1, none⟩) (World.block_lt_of_cell? w ⟨g, o + 1, none⟩ (by rw [p1]))).trans p1
  obtain ⟨W4, hW4, hz4, hb4, hr4⟩ := at1 W (.cells #[.int .i64 i, .int .i64 j] 39)
  have hbw : Below w.heap.size w W4 := hb.trans (hb4.mono hb.size)
  have hr04 := (hb4.block _ (Array.getElem?_eq_some_iff.1 hr0).1).trans hr0
  have hA4 := hA.keep (hbw.block _ hA.lt)
  have hB4 := hB.keep (hbw.block _ hB.lt)
  have e2 := (he.below hbw).1
  have lA := look_int2 Tryz.underlying72 W4 A i LA (zero3 W4) hA4
  have lB := look_int2 Tryz.underlying72 W4 B j LB (zero3 W4) hB4
  have m0 := cell_of_row _ _ 0 _ _ _ hr04
  have m1 := cell_of_row _ _ 1 _ _ _ hr04
  have k0 := cell_of_row _ _ 0 _ _ _ hr4
  have k1 := cell_of_row _ _ 1 _ _ _ hr4
  have HW := Lib.hid hW
  have HW4 := Lib.hid hW4
  have HBW := Lib.hid hbw
  clear hW hz hb hr0 p0 p1 hW4 hz4 hb4 hr4 hbw hr04 hA4 hB4 hA hB he
  rcases hbad with ⟨b, hf, hne⟩ | ⟨hf, a, hf2, hne⟩
  · rw [hf] at lA
    simp only [Option.getD, Option.isSome] at lA
    have hne1 : (b != j) = true := by simp [hne]
    obtain ⟨vb, hvb⟩ : ∃ v, (findI j LB).getD (.int .i64 0) = v := ⟨_, rfl⟩
    obtain ⟨bb, hbb⟩ : ∃ v, (findI j LB).isSome = v := ⟨_, rfl⟩
    rw [hvb, hbb] at lB
    clear hf hne hvb hbb
    go_enter Tryz.func30, Tryz.ntmps30
    go_upto_region 1 with fail
    rw [HW.out]
    go_upto_region 2 with fail
    refine wp_loop_rounds 1 ?_
    rw [rounds_succ]
    go_upto_region 4 with fail
    rw [HW4.out]
    go_wp2_with fail
    go_ret
    exact ⟨rfl, HBW.out⟩
  · rw [hf] at lA
    rw [hf2] at lB
    simp only [Option.getD, Option.isSome] at lA lB
    have hne1 : (a != i) = true := by simp [hne]
    clear hf hf2 hne
    go_enter Tryz.func30, Tryz.ntmps30
    go_upto_region 1 with fail
    rw [HW.out]
    go_upto_region 2 with fail
    refine wp_loop_rounds 1 ?_
    rw [rounds_succ]
    go_upto_region 4 with fail
    rw [HW4.out]
    go_wp2_with fail
    go_ret
    exact ⟨rfl, HBW.out⟩
set_option maxHeartbeats 8000000 in
theorem take30_good (A B : Nat) (LA LB : List (Int × Value)) (i j : Int) (g o c : Nat) (w : World) (hA : HasM w A LA) (hB : HasM w B LB) (hAB : A ≠ B) (p0 : w.cell? ⟨g, o, none⟩ = some (.int .i64 i)) (p1 : w.cell? ⟨g, o + 1, none⟩ = some (.int .i64 j))
    (hf : findI i LA = none) (hf2 : findI j LB = none) :
    Calls Tryz.prog 30 #[.agg #[.map (some A), .map (some B)], .slice (some ⟨g, o, none⟩) 1 c] w fun e w' => e = .returned .nilIface ∧ HasM w' A (LA ++ [(i, .int .i64 j)]) ∧ HasM w' B (LB ++ [(j, .int .i64 i)]) ∧ Grw (fun k => k = A ∨ k = B) w w' := by
  obtain ⟨W, hW, hz, hb, hr0⟩ := at1 w (.cells #[.map (some A), .map (some B)] 74)
  have q0 : W.cell? ⟨g, o, none⟩ = some (.int .i64 i) := (hb.cell (p := ⟨g, o, none⟩) (World.block_lt_of_cell? w ⟨g, o, none⟩ (by rw [p0]))).trans p0
  have q1 : W.cell? ⟨g, o + 1, none⟩ = some (.int .i64 j) := (hb.cell (p := ⟨g, o + 1, none⟩) (World.block_lt_of_cell? w ⟨g, o + 1, none⟩ (by rw [p1]))).trans p1
  obtain ⟨W4, hW4, hz4, hb4, hr4⟩ := at1 W (.cells #[.int .i64 i, .int .i64 j] 39)
  have hbw : Below w.heap.size w W4 := hb.trans (hb4.mono hb.size)
  have hr04 := (hb4.block _ (Array.getElem?_eq_some_iff.1 hr0).1).trans hr0
  have hA4 := hA.keep (hbw.block _ hA.lt)
  have hB4 := hB.keep (hbw.block _ hB.lt)
  have lA := look_int2 Tryz.underlying72 W4 A i LA (zero3 W4) hA4
  have lB := look_int2 Tryz.underlying72 W4 B j LB (zero3 W4) hB4
  rw [hf] at lA
  rw [hf2] at lB
  simp only [Option.getD, Option.isSome] at lA lB
  have hA5 : HasM W4.drew A LA := hA4
  have hp1 := put_int Tryz.underlying72 W4.drew A i (.int .i64 j) LA hA5 hf
  have hh1 := hA5.put (i, .int .i64 j)
  obtain ⟨W5, hW5⟩ : ∃ W5, W4.drew.putObj A (.map (entI (LA ++ [(i, Value.int .i64 j)]) 0).toArray (LA ++ [(i, Value.int .i64 j)]).length) = W5 := ⟨_, rfl⟩
  rw [hW5] at hp1 hh1
  have hg5 : W4.drew.grownBy W5 (some A) := by rw [← hW5]; exact Seqo.turn _ _ _
  have hB5 : HasM W5 B LB := HasM.keep (w := W4.drew) hB4 (hg5.block B hB4.lt (by simp; exact fun e => hAB e.symm))
  have hp2 := put_int Tryz.underlying72 W5 B j (.int .i64 i) LB hB5 hf2
  have hh2 := hB5.put (j, .int .i64 i)
  obtain ⟨W6, hW6⟩ : ∃ W6, W5.putObj B (.map (entI (LB ++ [(j, Value.int .i64 i)]) 0).toArray (LB ++ [(j, Value.int .i64 i)]).length) = W6 := ⟨_, rfl⟩
  rw [hW6] at hp2 hh2
  have hg6 : W5.grownBy W6 (some B) := by rw [← hW6]; exact Seqo.turn _ _ _
  have hr05 : W5.heap[w.heap.size]? = _ := (hg5.block w.heap.size (Array.getElem?_eq_some_iff.1 hr04).1 (by
    have := hA.lt
    simp
    omega)).trans hr04
  have hr55 : W5.heap[W.heap.size]? = _ := (hg5.block W.heap.size (Array.getElem?_eq_some_iff.1 hr4).1 (by
    have := hA.lt
    have := hb.size
    simp
    omega)).trans hr4
  have m50 := cell_of_row _ _ 0 _ _ _ hr05
  have m51 := cell_of_row _ _ 1 _ _ _ hr05
  have k50 := cell_of_row _ _ 0 _ _ _ hr55
  have k51 := cell_of_row _ _ 1 _ _ _ hr55
  have m0 := cell_of_row _ _ 0 _ _ _ hr04
  have m1 := cell_of_row _ _ 1 _ _ _ hr04
  have k0 := cell_of_row _ _ 0 _ _ _ hr4
  have k1 := cell_of_row _ _ 1 _ _ _ hr4
  have HW := Lib.hid hW
  have HW4 := Lib.hid hW4
  have HBW := Lib.hid hbw
  have HH1 := Lib.hid (hh1.keep (hg6.block A hh1.lt (by simp; exact hAB)))
  have HH2 := Lib.hid hh2
  have HGG := Lib.hid (show Grw (fun k => k = A ∨ k = B) w W6 from
    (Grw.of_below hbw).trans (((Grw.refl _ W4).drew.trans (Grw.of_grown hg5 (.inl rfl))).trans (Grw.of_grown hg6 (.inr rfl))))
  clear hW hz hb hr0 p0 p1 hW4 hz4 hb4 hr4 hbw hr04 hA4 hB4 hA hB hf hf2 hA5 hh1 hW5 hg5 hB5 hh2 hW6 hg6 hr05 hr55
  go_enter Tryz.func30, Tryz.ntmps30
  go_upto_region 1 with fail
  rw [HW.out]
  go_upto_region 2 with fail
  refine wp_loop_rounds 2 ?_
  rw [rounds_succ]
  go_upto_region 4 with fail
  rw [HW4.out]
  go_wp2_with fail
  go_region
  go_wp2_with fail
  rw [rounds_succ]
  go_wp2_with fail
  go_ret
  exact ⟨rfl, HH1.out, HH2.out, HGG.out⟩
theorem newMatch_any (w : World) : Calls Tryz.prog 29 #[] w fun e w' => ∃ A B, e = .returned (.agg #[.map (some A), .map (some B)]) ∧ w.heap.size ≤ A ∧ w.heap.size ≤ B ∧ A ≠ B ∧ HasM w' A [] ∧ HasM w' B [] ∧ Below w.heap.size w w' := by
  have hmm := @run_makeMap Tryz.prog
  obtain ⟨W, hW, hz, hb, hr0⟩ := at1 w (.cells #[.map none, .map none] 74)
  have c0 := cell_of_row _ _ 0 _ _ _ hr0
  have c1 := cell_of_row _ _ 1 _ _ _ hr0
  have e0 := frozen_of_row _ _ 0 _ _ hr0
  have e1 := frozen_of_row _ _ 1 _ _ hr0
  have l0 : w.heap.size < W.heap.size := (Array.getElem?_eq_some_iff.1 hr0).1
  have HW := Lib.hid hW
  have HB := Lib.hid hb
  have HR := Lib.hid hr0
  clear hW hb hr0 hz
  go_enter Tryz.func29, Tryz.ntmps29
  go_upto_region 1 with fail
  rw [HW.out]
  go_wp2_with fail
  have rR := heap_setCell_same _ _ 1 _ _ (.map (some (W.heap.size + 1))) (heap_setCell_same _ _ 0 _ _ (.map (some W.heap.size)) HR.out)
  have hg : W.grownBy ((W.setCell ⟨w.heap.size, 0, none⟩ (.map (some W.heap.size))).setCell ⟨w.heap.size, 1, none⟩ (.map (some (W.heap.size + 1)))) (some w.heap.size) := gB_setCell (gB_setCell (gB_refl _ _) _ _) _ _
  obtain ⟨W3, hW3, hz3⟩ : ∃ W3, ((W.setCell ⟨w.heap.size, 0, none⟩ (.map (some W.heap.size))).setCell ⟨w.heap.size, 1, none⟩ (.map (some (W.heap.size + 1)))) = W3 ∧ W3.heap.size = W.heap.size := ⟨_, rfl, by simp⟩
  rw [hW3] at rR hg ⊢
  obtain ⟨W5, hW5, hz5, hb5, h50, h51⟩ := at2 W3 (.map #[] 0) (.map #[] 0)
  rw [hz3] at h50 h51
  rw [hW5]
  have rR5 := (hb5.block _ (by omega)).trans rR
  have u0 := cell_of_row _ _ 0 _ _ _ rR5
  have u1 := cell_of_row _ _ 1 _ _ _ rR5
  refine bodyPost_ret (v := .agg #[.map (some W.heap.size), .map (some (W.heap.size + 1))]) (by simp [results, Tryz.results29, go_sem, u0, u1]) rfl ?_
  have hw := HB.out.size
  exact ⟨_, _, rfl, by omega, by omega, by omega, h50, h51, HB.out.trans ((below_of_grown hg (by omega) hw).trans (hb5.mono (by omega)))⟩
end Go.Proofs.YtepelpmkmhhokaaGreatDoor
