/- A piece that is added is behind what the buffer has. Conditions: the buffer lies in a block of its own, and what it has then is not too long. -/
import Derived.Test.YthojdcmkajmdjaaDoorCuts
import Derived.Test.YthojdcmkajmdjaaDoorCmp
import Derived.Test.YthojdcmkajmdjaaDoorBf
import Derived.Test.YthojdcmkajmdjaaDoorEr
import Derived.Shelf.Abstract
import Derived.Shelf.RegionOpen
import Derived.WalkMore
import Derived.Deep.DeepCutAuto
import Derived.RangeFuncBox
import Derived.Deep.AppendLies
namespace Go.Proofs.YthojdcmkajmdjaaDoor
open Go.RowKit Go.Shelf
open Rd Dg Box
attribute [local go_sem] Oper.semAt_some
theorem grown_on {w A B : World} {b r : Nat} (h : w.grownBy A (some b)) (k : A.grownBy B (some r)) (hr : w.heap.size ≤ r) : w.grownBy B (some b) :=
  ⟨k.os.trans h.os, k.tape.trans h.tape, k.output.trans h.output, Nat.le_trans h.size k.size, fun j hj hne => (k.block j (Nat.lt_of_lt_of_le hj h.size) (by simp; omega)).trans (h.block j hj hne)⟩
theorem past_of {W W' : World} {b B Bx : Nat} (h : W.grownBy W' (some b)) (hb : b < B) (hbx : b ≠ Bx) (hx : Bx < W.heap.size) : Past B Bx W W' :=
  ⟨h.size, h.block Bx hx (by simp; omega), fun k hk hl => h.block k hl (by simp; omega)⟩
theorem below_of_grown {w w' : World} {b B : Nat} (h : w.grownBy w' (some b)) (hb : B ≤ b) (hB : B ≤ w.heap.size) : Below B w w' := ⟨h.os, h.tape, h.output, h.size, fun k hk => h.block k (by omega) (by simp; omega)⟩
theorem Lies.kept {G q : Nat} {L : List UInt8} {A B : World} (h : Lies G q L A) (hb : B.heap[G]? = A.heap[G]?) : Lies G q L B := fun j hj => (World.cell?_of_block (a := ⟨G, q + j, none⟩) hb).trans (h j hj)
theorem part_blk (m p : List UInt8) (t : Nat) (h : 64 * t + 64 ≤ (tailL m p).length) : (⟨(part (tailL m p) t).toArray⟩ : ByteArray) = blkB (m ++ p) (m.length / 64 + t) := by
  unfold blkB part
  congr 2
  apply List.ext_getElem?
  intro i
  by_cases hi : i < 64
  · rw [List.getElem?_take_of_lt hi, List.getElem?_drop, List.getElem?_map, List.getElem?_range hi]
    have e := tailL_get m p (64 * t + i)
    rw [List.getD_eq_getElem?_getD, List.getElem?_eq_getElem (by omega), show 64 * (m.length / 64) + (64 * t + i) = 64 * (m.length / 64 + t) + i by omega] at e
    rw [List.getElem?_eq_getElem (by omega)]
    simpa using e
  · rw [List.getElem?_eq_none (by simp; omega), List.getElem?_eq_none (by simp; omega)]
theorem part_room (m p : List UInt8) (Q : ByteArray) (h : (⟨(part (tailL m p) ((tailL m p).length / 64)).toArray⟩ : ByteArray) = Q) :
    Go.Lib.strCells Q ++ List.replicate (64 - Q.size) (Value.int .u8 0) = roomL (m ++ p) := by
  have hQs : Q.size = (tailL m p).length - 64 * ((tailL m p).length / 64) := by
    rw [← h]
    have := part_length (tailL m p) ((tailL m p).length / 64)
    simp only [ByteArray.size, List.size_toArray, this]
    omega
  have hall := tailL_all m p
  apply List.ext_getElem?
  intro i
  by_cases hi : i < 64
  · rw [roomL_get _ i hi]
    have e := tailL_get m p (64 * ((tailL m p).length / 64) + i)
    rw [show 64 * (m.length / 64) + (64 * ((tailL m p).length / 64) + i) = 64 * ((m ++ p).length / 64) + i by omega] at e
    rw [← e]
    by_cases hl : i < Q.size
    · have hx : 64 * ((tailL m p).length / 64) + i < (tailL m p).length := by omega
      have hs : Go.Lib.strCells Q = (part (tailL m p) ((tailL m p).length / 64)).map cellOf := by rw [← h]; rfl
      rw [List.getElem?_append_left (by rw [Go.Lib.strCells_length]; exact hl), List.getD_eq_getElem?_getD, hs, List.getElem?_map]
      unfold part
      rw [List.getElem?_take_of_lt hi, List.getElem?_drop, List.getElem?_eq_getElem hx]
      rfl
    · have hx : (tailL m p).length ≤ 64 * ((tailL m p).length / 64) + i := by omega
      rw [List.getElem?_append_right (by rw [Go.Lib.strCells_length]; omega), Go.Lib.strCells_length, List.getElem?_replicate_of_lt (by omega), List.getD_eq_getElem?_getD, List.getElem?_eq_none hx]
      rfl
  · rw [List.getElem?_eq_none (by rw [List.length_append, Go.Lib.strCells_length, List.length_replicate]; omega), List.getElem?_eq_none (by rw [roomL_length]; omega)]
theorem wp_hideQ {P : Program} {c : Code} {K : Act → World → Prop} {Q : Exit → Act → World → Prop} {a : Act} {w : World} (h : c.wp P (Exit.then K fun _ _ _ => False) a w) : c.wp P (Exit.then K Q) a w :=
  wp_mono h fun e a w hq => by cases e <;> first | exact hq | exact hq.elim
set_option maxRecDepth 100000 in
set_option maxHeartbeats 4000000 in
theorem add_in (b : Nat) (T : TypeId) (m : List UInt8) (p : ByteArray) (hlen : m.length + p.size ≤ 1000000) (B pg pc : Nat) (w : World) (E : Env B w) (hbB : B ≤ b) (hpb : pg ≠ b)
    (hb : Holds b T m w) (hp : w.cell? ⟨pg, 0, none⟩ = some (.string p)) :
    CallsIn Fence.wide 6 Tryd.prog 45 #[.pointer (some ⟨b, 0, none⟩), .slice (some ⟨pg, 0, none⟩) 1 pc] w fun e w' => e = .returned .nilIface ∧ Holds b T (m ++ p.data.toList) w' ∧ w.grownBy w' (some b) := by
  obtain ⟨s, hs, hr⟩ := hb
  have hblt : b < w.heap.size := (Array.getElem?_eq_some_iff.1 hr).1
  have hplt : pg < w.heap.size := World.block_lt_of_cell? w ⟨pg, 0, none⟩ (by rw [hp])
  obtain ⟨w0, hw0⟩ : ∃ w0, (w.alloc (.cells #[.pointer (some ⟨b, 0, none⟩)] 85)).alloc (.cells #[.nilIface] 36) = w0 := ⟨_, rfl⟩
  have hz0 : w0.heap.size = w.heap.size + 2 := by rw [← hw0]; simp
  have hr0 : w0.heap[b]? = some (.cells (bufA s (roomL m) m.length) T (0, 0)) := by
    rw [← hw0, Below.heap_alloc _ _ _ (by simp; omega), Below.heap_alloc _ _ _ hblt]; exact hr
  have hpb0 : w0.heap[w.heap.size]? = some (.cells #[.pointer (some ⟨b, 0, none⟩)] 85 (0, 0)) := by
    rw [← hw0, Below.heap_alloc _ _ _ (by simp)]; exact heap_alloc_new w _
  have hrc0 : w0.heap[w.heap.size + 1]? = some (.cells #[.nilIface] 36 (0, 0)) := by
    rw [← hw0]; have h := heap_alloc_new (w.alloc (.cells #[.pointer (some ⟨b, 0, none⟩)] 85)) (.cells #[.nilIface] 36); rwa [World.size_alloc] at h
  have hg0 : Below w.heap.size w w0 := by rw [← hw0]; exact ((Below.refl _ w).alloc (Nat.le_refl _) _).alloc (by simp) _
  have hlm : (roomL m).length = 64 := roomL_length m
  have HE := Lib.hid E
  have hcb0 : w0.cell? ⟨w.heap.size, 0, none⟩ = some (.pointer (some ⟨b, 0, none⟩)) := cell_of_row _ _ 0 _ _ _ hpb0
  have hcc0 : w0.cell? ⟨b, 72, none⟩ = some (.int .i64 (m.length : Int)) := by rw [cell_of_row _ _ 72 _ _ _ hr0, bufA_count _ _ _ hlm]
  refine callsIn_of_wp_marks Tryd.func45 rfl trivial ?_ rfl
  simp only [Tryd.ntmps45, List.size_toArray, List.length_cons, List.length_nil, Nat.reduceAdd, Nat.reduceSub, Array.replicate_succ, Array.replicate_zero, List.push_toArray, List.append_toArray, List.nil_append, List.cons_append]
  refine wpIn_wide.2 ?_
  go_wp2_with fail
  have HE0 := Lib.hid (E.below (hg0.mono E.bw))
  have HG0 := Lib.hid hg0
  have HR0 := Lib.hid hr0
  have HPB0 := Lib.hid hpb0
  have HRC0 := Lib.hid hrc0
  have HS := Lib.hid hs
  have HP0 := Lib.hid ((hg0.cell (p := ⟨pg, 0, none⟩) hplt).trans hp)
  clear hr0 hpb0 hrc0 hg0 hs hr hp E hw0
  go_step3
  refine wp_seq_k fun K hK => ?_
  go_cut [] from 11 to 19 (fun wc => wc.heap[b]? = some (.cells (bufA (stOf m (m.length / 64)) (roomL m) m.length) T (0, 0)) ∧ w0.grownBy wc (some b))
  case first =>
    by_cases hm : m.length = 0
    · have hmi : (m.length : Int) = 0 := by omega
      go_wp2_with fail
      refine wp_hideQ ?_
      go_region_with (first
        | (go_at_call 58; refine (First_any _).mono ?_; rintro en w5 ⟨rfl, hb5⟩; have hx5 := (hb5.block b (by simp; omega)).trans HR0.out; have hcb5 := (hb5.cell (p := ⟨w.heap.size, 0, none⟩) (by simp; omega)).trans hcb0; have HX5 := Lib.hid hx5; have HB5 := Lib.hid hb5; clear hb5; obtain ⟨⟨e0, e1, e2, e3, e4, e5, e6, e7⟩, ⟨g0, g1, g2, g3, g4, g5, g6, g7⟩⟩ := eightB hx5; clear hx5))
      all_goals
        go_wp2_with fail
        go_meet
        rw [stOf_nil m hm]
        have hg := grown8 b (gB_of_below HB5.out (some b)) (.int .i64 (U F0.a)) (.int .i64 (U F0.b)) (.int .i64 (U F0.c)) (.int .i64 (U F0.d)) (.int .i64 (U F0.e)) (.int .i64 (U F0.f)) (.int .i64 (U F0.g)) (.int .i64 (U F0.h))
        exact ⟨stored8B F0 HX5.out, ⟨hg.os, hg.tape, hg.output, hg.size, hg.block⟩⟩
    · have hmi : ¬ (m.length : Int) = 0 := by omega
      have hmb : ((m.length : Int) == 0) = false := beq_eq_false_iff_ne.2 hmi
      go_wp2_with fail
      go_meet
      have hst : s = stOf m (m.length / 64) := HS.out (fun h => hm (by rw [h]; exact List.length_nil))
      rw [← hst]
      exact ⟨HR0.out, World.grownBy.refl _ _⟩
  case rest =>
    obtain ⟨hrw, hgw⟩ := hcut
    have hcw : wc.cell? ⟨w.heap.size, 0, none⟩ = some (.pointer (some ⟨b, 0, none⟩)) := (hgw.cell_far ⟨w.heap.size, 0, none⟩ (by simp; omega) (by simp; omega)).trans hcb0
    have hpw : wc.cell? ⟨pg, 0, none⟩ = some (.string p) := (hgw.cell_far ⟨pg, 0, none⟩ (by simp; omega) (by simp; omega)).trans HP0.out
    have hnw : wc.cell? ⟨b, 72, none⟩ = some (.int .i64 (m.length : Int)) := by rw [cell_of_row _ _ 72 _ _ _ hrw, bufA_count _ _ _ hlm]
    have hol : ∀ j v, ((m.drop (64 * (m.length / 64))).map cellOf)[j]? = some v → wc.cell? ⟨b, 8 + j, none⟩ = some v := by
      intro j v hv
      have hj : j < m.length % 64 := by have h := (List.getElem?_eq_some_iff.1 hv).1; simp at h; omega
      rw [cell_of_row _ _ _ _ _ _ hrw, bufA_room _ _ _ j hlm (by omega), ← hv, ← room_take, List.getElem?_take_of_lt hj]
    obtain ⟨i5, hi5, hz5, hs5, hb5⟩ := info_parts info5b
    obtain ⟨G, qo, c, w1, hrun, hcap, hcells, hGlt, hGor, hgr1⟩ := run_append_text (P := Tryd.prog) wc 29 9 29 5 i5 Tryd.underlying29 Tryd.underlying9 hi5 hz5 hs5 hb5 b 8 (m.length % 64) ((m.drop (64 * (m.length / 64))).map cellOf) (by simp; omega) hol (by have := hgw.size; omega) p (by omega)
    have HRUN := Lib.hid hrun
    have hr1 : w1.heap[b]? = some (.cells (bufA (stOf m (m.length / 64)) (roomL m) m.length) T (0, 0)) := (hgr1.block b (by have := hgw.size; omega) (by simp)).trans hrw
    have hc1 : w1.cell? ⟨w.heap.size, 0, none⟩ = some (.pointer (some ⟨b, 0, none⟩)) := (hgr1.cell_far ⟨w.heap.size, 0, none⟩ (by have := hgw.size; simp; omega) (by simp)).trans hcw
    have hn1 : w1.cell? ⟨b, 72, none⟩ = some (.int .i64 (m.length : Int)) := by rw [cell_of_row _ _ 72 _ _ _ hr1, bufA_count _ _ _ hlm]
    have hf1 := frozen_of_row w1 b 72 _ _ hr1
    obtain ⟨N, hN⟩ : ∃ N, (m ++ p.data.toList).length = N := ⟨_, rfl⟩
    have hsum : (m.length : Int) + (p.size : Int) = (N : Int) := by rw [← hN, List.length_append, Array.length_toList]; exact (Int.natCast_add _ _).symm
    have HN := Lib.hid hN
    clear hN
    have HRW := Lib.hid hrw
    have HGW := Lib.hid hgw
    have HCELL := Lib.hid hcells
    have HGOR := Lib.hid hGor
    have HGR1 := Lib.hid hgr1
    have HR1 := Lib.hid hr1
    have hcut1 := hcap
    clear hrw hgw hcells hGor hgr1 hol hr1 hrun hi5 hz5 hs5 hb5
    have hws : w0.heap.size ≤ wc.heap.size := HGW.out.size
    have hw1s : wc.heap.size ≤ w1.heap.size := HGR1.out.size
    refine hK _ _ ?_
    clear hK
    go_wp2_with fail
    go_step3
    go_wp2_with fail
    refine wp_loop_rounds 2 ?_
    rw [rounds_succ]
    go_wp2_with (first
      | (go_at_call 59; refine (rest_any b m.length (by omega) _ hnw).mono ?_; rintro e w' ⟨rfl, rfl⟩)
      | (at_builtin; refine Go.Lib.wpList_append_run _ rfl _ _ _ _ rfl _ _ rfl rfl _ _ HRUN.out ?_)
      | (go_at_call 60; refine (cuts_any _ _ _ _).mono ?_; rintro e w' ⟨rfl, rfl⟩))
    have hLl : (tailL m p.data.toList).length = m.length % 64 + p.size := by rw [tailL_length, Array.length_toList]; rfl
    have hLc : (tailL m p.data.toList).map cellOf = (m.drop (64 * (m.length / 64))).map cellOf ++ Go.Lib.strCells p := by rw [tailL, List.map_append]; rfl
    obtain ⟨w3, hw3⟩ : ∃ w3, (w1.setCell ⟨b, 72, none⟩ (.int .i64 (N : Int))).alloc (.cells #[.slice (some ⟨G, qo, none⟩) (m.length % 64 + p.size) c] 29) = w3 := ⟨_, rfl⟩
    rw [hw3]
    have hz3 : w3.heap.size = w1.heap.size + 1 := by rw [← hw3]; simp
    have hr3 : w3.heap[b]? = some (.cells (bufA (stOf m (m.length / 64)) (roomL m) N) T (0, 0)) := by
      rw [← hw3, Below.heap_alloc _ _ _ (by simp; omega)]
      exact storedN N hlm HR1.out
    have hg13 : w1.grownBy w3 (some b) := by rw [← hw3]; exact gB_alloc (gB_setCell (gB_refl w1 b) 72 _) _
    have hgw3 : w.grownBy w3 (some b) := (((gB_of_below HG0.out (some b)).trans HGW.out).trans (gB_none HGR1.out (some b))).trans hg13
    have hbx3 : w3.heap[w1.heap.size]? = some (.cells #[sliceT G qo c (tailL m p.data.toList) 0] 29 (0, 0)) := by
      have h := heap_alloc_new (w1.setCell ⟨b, 72, none⟩ (.int .i64 (N : Int))) (.cells #[.slice (some ⟨G, qo, none⟩) (m.length % 64 + p.size) c] 29)
      rw [hw3] at h
      have e : sliceT G qo c (tailL m p.data.toList) 0 = .slice (some ⟨G, qo, none⟩) (m.length % 64 + p.size) c := by simp [sliceT, offT, hLl]
      rw [e]
      simpa using h
    have hli3 : Lies G qo (tailL m p.data.toList) w3 := by
      intro j hj
      have h1 : w1.cell? ⟨G, qo + j, none⟩ = some (cellOf (tailL m p.data.toList)[j]) := HCELL.out j _ (by rw [← hLc]; simp [hj])
      rw [← hw3]
      refine (World.cell?_alloc_lt _ _ ⟨G, qo + j, none⟩ (by simpa using hGlt)).trans ?_
      by_cases hGb : G = b
      · rcases HGOR.out with ⟨h0, _, h8⟩ | ⟨_, hGw⟩
        · refine (World.cell?_setCell_other w1 _ _ _ (fun e => ?_)).trans h1
          have := congrArg Addr.off e
          simp at this
          omega
        · omega
      · refine (World.cell?_setCell_other w1 _ _ _ (fun e => ?_)).trans h1
        exact hGb (congrArg Addr.block e).symm
    have hpb3 : w3.heap[w.heap.size]? = some (.cells #[.pointer (some ⟨b, 0, none⟩)] 85 (0, 0)) := by
      rw [hg13.block _ (by omega) (by simp; omega), HGR1.out.block _ (by omega) (by simp), HGW.out.block _ (by omega) (by simp; omega)]; exact HPB0.out
    have hrc3 : w3.heap[w.heap.size + 1]? = some (.cells #[.nilIface] 36 (0, 0)) := by
      rw [hg13.block _ (by omega) (by simp; omega), HGR1.out.block _ (by omega) (by simp), HGW.out.block _ (by omega) (by simp; omega)]; exact HRC0.out
    have hM64 : (m ++ p.data.toList).length / 64 = m.length / 64 + (tailL m p.data.toList).length / 64 := tailL_all m p.data.toList
    refine (wpIn_wide (n := 6)).1 ?_
    refine wpIn_rangeFunc_box rfl (by decide) (gf := 72) (lb := #[.pointer (some ⟨w1.heap.size, 0, none⟩)]) rfl trivial (enters_of Tryd.func72 (by kernel_rfl) rfl)
      (cuts_box 5 (tailL m p.data.toList) G qo c w1.heap.size (by rw [hLl]; exact hcap) (by omega)) (fun _ => rfl) (.exit 1)
      (fun t W => W.heap[b]? = some (.cells (bufA (stOf (m ++ p.data.toList) (m.length / 64 + t)) (roomL m) N) T (0, 0)) ∧ Lies G qo (tailL m p.data.toList) W ∧ W.heap[w.heap.size]? = some (.cells #[.pointer (some ⟨b, 0, none⟩)] 85 (0, 0)) ∧ W.heap[w.heap.size + 1]? = some (.cells #[.nilIface] 36 (0, 0)) ∧ w.grownBy W (some b) ∧ w3.heap.size ≤ W.heap.size)
      (fun W => W.heap[b]? = some (.cells (bufA (stOf (m ++ p.data.toList) ((m ++ p.data.toList).length / 64)) (roomL (m ++ p.data.toList)) N) T (0, 0)) ∧ W.heap[w.heap.size + 1]? = some (.cells #[.nilIface] 36 (0, 0)) ∧ w.grownBy W (some b) ∧ w3.heap.size ≤ W.heap.size)
      ?hI ?hIx (fun _ _ h => h.2.1) hbx3 ?h0
      (fun t => { tmps := #[Value.pointer (some ⟨b, 0, none⟩), Value.slice (some ⟨pg, 0, none⟩) 1 pc, Value.pointer (some ⟨w.heap.size, 0, none⟩), undef, Value.pointer (some ⟨w.heap.size + 1, 0, none⟩), undef, Value.string p, Value.slice (some ⟨G, qo, none⟩) (m.length % 64 + p.size) c, Value.string ⟨(part (tailL m p.data.toList) t).toArray⟩, undef, undef, u11, u12, u13, u14, u15, u16, u17, u18, u19, Value.slice (some ⟨pg, 0, none⟩) 1 pc, Value.int .i64 1, Value.int .i64 0, Value.bool true, Value.pointer (some ⟨pg, 0, none⟩), Value.string p, Value.pointer (some ⟨b, 0, none⟩), Value.slice (some ⟨b, 8, none⟩) (m.length % 64) (m.length % 64), Value.string p, Value.slice (some ⟨G, qo, none⟩) (m.length % 64 + p.size) c, Value.pointer (some ⟨b, 0, none⟩), Value.pointer (some ⟨b, 0, none⟩), Value.pointer (some ⟨b, 72, none⟩), Value.int .i64 (m.length : Int), Value.string p, Value.int .i64 (p.size : Int), Value.int .i64 (N : Int), Value.pointer (some ⟨b, 0, none⟩), Value.pointer (some ⟨b, 72, none⟩), Value.slice (some ⟨G, qo, none⟩) (m.length % 64 + p.size) c, Value.func (.func 72) #[] #[.pointer (some ⟨w1.heap.size, 0, none⟩)], Value.string ⟨(part (tailL m p.data.toList) t).toArray⟩, undef, undef, undef, undef, undef, undef, undef, undef, undef, undef, undef, undef, undef, undef, undef, undef, undef, undef, undef, undef, undef, undef, undef, undef, undef, undef, undef], defers := [] })
      ?hassign ?hbody ?hstop
    case hI =>
      rintro t A C r ⟨h1, h2, h3, h4, h5, h6⟩ hg hr
      have hrw : w.heap.size ≤ r := by omega
      exact ⟨(hg.block _ (by omega) (by simp; omega)).trans h1, h2.kept (hg.block _ (by omega) (by simp; omega)), (hg.block _ (by omega) (by simp; omega)).trans h3, (hg.block _ (by omega) (by simp; omega)).trans h4, grown_on h5 hg hrw, Nat.le_trans h6 hg.size⟩
    case hIx =>
      rintro A C r ⟨h1, h4, h5, h6⟩ hg hr
      exact ⟨(hg.block _ (by omega) (by simp; omega)).trans h1, (hg.block _ (by omega) (by simp; omega)).trans h4, grown_on h5 hg (by omega), Nat.le_trans h6 hg.size⟩
    case h0 =>
      refine ⟨?_, hli3, hpb3, hrc3, hgw3, Nat.le_refl _⟩
      rw [Nat.add_zero, stOf_append m p.data.toList _ (by omega)]
      exact hr3
    case hassign =>
      intro l t W K hK
      gi_wp2
      exact hK
    case hbody =>
      rintro l t W ht ⟨h1, h2, h3, h4, h5, h6⟩
      have hcP : W.cell? ⟨w.heap.size, 0, none⟩ = some (.pointer (some ⟨b, 0, none⟩)) := cell_of_row _ _ 0 _ _ _ h3
      have hpl := part_length (tailL m p.data.toList) t
      have hx1 : b < w3.heap.size := by omega
      have hx2 : b ≠ w1.heap.size := by omega
      have hx3 : w1.heap.size < W.heap.size := by omega
      have hx4 : w.heap.size + 1 < W.heap.size := by omega
      have hx5 : G < W.heap.size := by omega
      obtain ⟨Q, hQ⟩ : ∃ Q : ByteArray, (⟨(part (tailL m p.data.toList) t).toArray⟩ : ByteArray) = Q := ⟨_, rfl⟩
      have hQs : Q.size = min 64 ((tailL m p.data.toList).length - 64 * t) := by rw [← hQ, ← hpl]; simp [ByteArray.size]
      rw [hQ]
      have H1 := Lib.hid h1
      have H2 := Lib.hid h2
      have H3 := Lib.hid h3
      have H4 := Lib.hid h4
      have H5 := Lib.hid h5
      have H6 := Lib.hid h6
      have HQ := Lib.hid hQ
      by_cases hlt : t < (tailL m p.data.toList).length / 64
      · have hQ64 : Q.size = 64 := by omega
        have g1 : ¬ (Q.size : Int) < 64 := by omega
        obtain ⟨⟨c0, c1, c2, c3, c4, c5, c6, c7⟩, ⟨f0, f1, f2, f3, f4, f5, f6, f7⟩⟩ := eightB h1
        have hEW : Env B W := HE.out.below (below_of_grown h5 hbB HE.out.bw)
        have hblk : Q = blkB (m ++ p.data.toList) (m.length / 64 + t) := by rw [← hQ]; exact part_blk m p.data.toList t (by omega)
        have hbW : b < W.heap.size := by omega
        have hpW : w.heap.size < W.heap.size := by omega
        have hstep : St.comp (Wd (mw Q)) (stOf (m ++ p.data.toList) (m.length / 64 + t)) = stOf (m ++ p.data.toList) (m.length / 64 + (t + 1)) := by rw [hblk]; rfl
        obtain ⟨s1, hs1⟩ : ∃ s1, St.comp (Wd (mw Q)) (stOf (m ++ p.data.toList) (m.length / 64 + t)) = s1 := ⟨_, rfl⟩
        have hC := Compress_ok (stOf (m ++ p.data.toList) (m.length / 64 + t)) Q hQ64 W hEW
        rw [hs1] at hC
        have HC := Lib.hid hC
        have HST := Lib.hid (hs1.symm.trans hstep)
        clear h1 h2 h3 h4 h5 h6 hQ hpl hblk hstep hs1 hC hEW
        gi_wp2
        refine ⟨trivial, ?_⟩
        refine (CallsIn.inRound l (callsIn_wide.2 HC.out)).mono ?_
        rintro e w5 ⟨rfl, hb5⟩
        have hw5 := hb5.size
        have hr5 := (hb5.block b hbW).trans H1.out
        have hc5 : w5.cell? ⟨w.heap.size, 0, none⟩ = some (.pointer (some ⟨b, 0, none⟩)) := (hb5.cell (p := ⟨w.heap.size, 0, none⟩) (by simp; omega)).trans hcP
        have hb5s : b < w5.heap.size := by omega
        have hp5s : w.heap.size < w5.heap.size := by omega
        have HB5 := Lib.hid hb5
        have HR5 := Lib.hid hr5
        clear c0 c1 c2 c3 c4 c5 c6 c7 f0 f1 f2 f3 f4 f5 f6 f7 hcP
        obtain ⟨⟨c0, c1, c2, c3, c4, c5, c6, c7⟩, ⟨f0, f1, f2, f3, f4, f5, f6, f7⟩⟩ := eightB hr5
        clear hb5 hr5
        gi_wp2
        have hr5' := stored8B s1 HR5.out
        have hr6 := (Below.heap_alloc _ (.cells #[.int .i64 (U s1.a), .int .i64 (U s1.b), .int .i64 (U s1.c), .int .i64 (U s1.d), .int .i64 (U s1.e), .int .i64 (U s1.f), .int .i64 (U s1.g), .int .i64 (U s1.h)] 58) b (Array.getElem?_eq_some_iff.1 hr5').1).trans hr5'
        have hg6 := gB_alloc (grown8 b (gB_of_below HB5.out (some b)) (.int .i64 (U s1.a)) (.int .i64 (U s1.b)) (.int .i64 (U s1.c)) (.int .i64 (U s1.d)) (.int .i64 (U s1.e)) (.int .i64 (U s1.f)) (.int .i64 (U s1.g)) (.int .i64 (U s1.h))) (.cells #[.int .i64 (U s1.a), .int .i64 (U s1.b), .int .i64 (U s1.c), .int .i64 (U s1.d), .int .i64 (U s1.e), .int .i64 (U s1.f), .int .i64 (U s1.g), .int .i64 (U s1.h)] 58)
        have hGb : G ≠ b := by
          rcases HGOR.out with ⟨hp0, _, _⟩ | ⟨_, hGw⟩
          · rw [hLl, hp0] at hlt; omega
          · omega
        refine ⟨hlt, past_of hg6 hx1 hx2 hx3, by rw [← HST.out]; exact hr6, H2.out.kept (hg6.block G hx5 (by simp; omega)), (hg6.block _ hpW (by simp; omega)).trans H3.out, (hg6.block _ hx4 (by simp; omega)).trans H4.out, H5.out.trans hg6, Nat.le_trans H6.out hg6.size⟩
      · have hQ64 : Q.size < 64 := by omega
        have g1 : (Q.size : Int) < 64 := by omega
        obtain rfl : t = (tailL m p.data.toList).length / 64 := by omega
        have hroom := part_room m p.data.toList Q hQ
        have hK := keep_any b T (stOf (m ++ p.data.toList) (m.length / 64 + (tailL m p.data.toList).length / 64)) (roomL m) N hlm Q hQ64 W h1
        rw [hroom, ← hM64] at hK
        have HK := Lib.hid hK
        clear h1 h2 h3 h4 h5 h6 hQ hpl hroom hK
        gi_wp2
        refine ⟨trivial, ?_⟩
        refine (CallsIn.inRound l (callsIn_wide.2 HK.out)).mono ?_
        rintro e w5 ⟨rfl, hb5, hg5, hz5⟩
        have HB5 := Lib.hid hb5
        have HG5 := Lib.hid hg5
        clear hb5 hg5 hz5
        gi_wp2
        exact ⟨rfl, past_of HG5.out hx1 hx2 hx3, HB5.out, (HG5.out.block _ hx4 (by simp; omega)).trans H4.out, H5.out.trans HG5.out, Nat.le_trans H6.out HG5.out.size⟩
    case hstop =>
      rintro D W hD ⟨h1, h4, h5, h6⟩ hK
      have hc4 := cell_of_row W (w.heap.size + 1) 0 _ _ _ h4
      have hf4 := frozen_of_row W (w.heap.size + 1) 0 _ _ h4
      have H1 := Lib.hid h1
      have H4 := Lib.hid h4
      have H5 := Lib.hid h5
      have HK := Lib.hid hK
      clear h1 h4 h5 h6 hK
      refine wpIn_wide.2 ?_
      go_wp2_with fail
      rw [rounds_succ]
      go_wp2_with fail
      rw [Exit.noGoto_ret]
      have hD3 : w.heap.size + 1 < D := by omega
      have hDb : b < D := by omega
      have hrcW : (W.setCell ⟨w.heap.size + 1, 0, none⟩ .nilIface).heap[w.heap.size + 1]? = some (.cells #[.nilIface] 36 (0, 0)) := heap_setCell_same W (w.heap.size + 1) 0 _ _ .nilIface H4.out
      have hKD : (W.setCell ⟨w.heap.size + 1, 0, none⟩ .nilIface).heap[D]? = some (.deferred (some [])) := (Below.heap_setCell W _ _ D (by simp; omega)).trans HK.out
      refine ⟨by simp, .inl ⟨_, _, rfl, run_takeDeferred hKD, ?_⟩⟩
      have hcr := cell_of_row _ (w.heap.size + 1) 0 _ _ _ ((World.putObj_heap_other (w := W.setCell ⟨w.heap.size + 1, 0, none⟩ .nilIface) (r := D) (o := .deferred none) (show w.heap.size + 1 ≠ D by omega)).trans hrcW)
      refine ⟨.nilIface, by simp [results, Tryd.results45, go_sem, hcr], rfl, ⟨stOf (m ++ p.data.toList) ((m ++ p.data.toList).length / 64), fun _ => rfl, ?_⟩, grown_on (grown_on H5.out (gB_setCell (gB_refl W (w.heap.size + 1)) 0 .nilIface) (by omega)) (turn _ D _) (by omega)⟩
      rw [World.putObj_heap_other (by omega), Below.heap_setCell W _ _ b (by simp; omega)]
      have h1 := H1.out
      rw [← HN.out] at h1
      exact h1
/-- a piece added -/
theorem add_one (b : Nat) (T : TypeId) (m : List UInt8) (p : ByteArray) (hlen : m.length + p.size ≤ 1000000) (B pg pc : Nat) (w : World) (E : Env B w) (hbB : B ≤ b) (hpb : pg ≠ b)
    (hb : Holds b T m w) (hp : w.cell? ⟨pg, 0, none⟩ = some (.string p)) :
    Calls Tryd.prog 45 #[.pointer (some ⟨b, 0, none⟩), .slice (some ⟨pg, 0, none⟩) 1 pc] w fun e w' => e = .returned .nilIface ∧ Holds b T (m ++ p.data.toList) w' ∧ w.grownBy w' (some b) :=
  callsIn_wide.1 (add_in b T m p hlen B pg pc w E hbB hpb hb hp)
end Go.Proofs.YthojdcmkajmdjaaDoor
