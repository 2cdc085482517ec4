/- A buffer's sum is the state's bytes that its message and its end make. Conditions: the buffer lies in a block of its own, and what it has is not too long. A buffer to which nothing is added has what it had. Conditions: the buffer lies in a block of its own. A buffer's sum is the state's bytes that its message and its end make. Conditions: the buffer lies in a block of its own, and what it has is not too long. -/
import Derived.Test.YthojdcmkajmdjaaDoorAdd
import Derived.Test.YthojdcmkajmdjaaDoorEndOf
import Derived.Test.YthojdcmkajmdjaaDoorEr
import Derived.Test.YthojdcmkajmdjaaDoorCmp
import Derived.Test.YthojdcmkajmdjaaDoorBf
import Derived.Shelf.Abstract
import Derived.Shelf.RegionOpen
import Derived.WalkMore
import Derived.Deep.DeepCutAuto
import Derived.RangeFuncBox
import Derived.Deep.AppendLies
namespace Go.Proofs.YthojdcmkajmdjaaDoor
open Go.RowKit Go.Shelf
open Rd Dg Box
/-- a message's sum -/
def dig (m : List UInt8) : ByteArray := ⟨(St.by (stOf (m ++ endL m.length) ((m ++ endL m.length).length / 64)) 8).toArray⟩
theorem Dg.Holds.count {b : Nat} {T : TypeId} {m : List UInt8} {w : World} (h : Holds b T m w) : w.cell? ⟨b, 72, none⟩ = some (.int .i64 (m.length : Int)) := by
  obtain ⟨s, _, h2⟩ := h
  rw [cell_of_row _ _ 72 _ _ _ h2, bufA_count _ _ _ (roomL_length m)]
theorem Env.on {b B : Nat} {w w' : World} (E : Env B w) (hbB : B ≤ b) (h : w.grownBy w' (some b)) : Env B w' := E.below (below_of_grown h hbB E.bw)
set_option maxRecDepth 100000 in
set_option maxHeartbeats 2000000 in
theorem sum_one (b : Nat) (T : TypeId) (m : List UInt8) (p : ByteArray) (hlen : m.length + p.size ≤ 100000) (B pg pc : Nat) (w : World) (E : Env B w) (hbB : B ≤ b) (hpb : pg ≠ b)
    (hb : Holds b T m w) (hp : w.cell? ⟨pg, 0, none⟩ = some (.string p)) :
    Calls Tryd.prog 32 #[.pointer (some ⟨b, 0, none⟩), .slice (some ⟨pg, 0, none⟩) 1 pc] w fun e w' => e = .returned (.tuple #[.string (dig (m ++ p.data.toList)), .nilIface]) ∧ w.grownBy w' (some b) ∧ ∃ M', Holds b T M' w' := by
  have hbl := hb.lt
  have hA := add_one b T m p (by omega) B pg pc w E hbB hpb hb hp
  have HE := Lib.hid E
  clear E hb hp
  go_enter Tryd.func32, Tryd.ntmps32
  go_wp2_with fail
  refine hA.mono ?_
  rintro e w1 ⟨rfl, hh1, hg1⟩
  have hz1 := hg1.size
  obtain ⟨M, hM⟩ : ∃ M, m ++ p.data.toList = M := ⟨_, rfl⟩
  have hMl : M.length ≤ 100000 := by rw [← hM, List.length_append, Array.length_toList]; exact hlen
  rw [hM] at hh1
  have HM := Lib.hid hM
  clear hM
  have hc1 := hh1.count
  have HH1 := Lib.hid hh1
  have HG1 := Lib.hid hg1
  have HE1 := Lib.hid (HE.out.on hbB hg1)
  clear hh1 hg1 hA
  go_wp2_with fail
  obtain ⟨Q, hQ⟩ : ∃ Q : ByteArray, (⟨(endL M.length).toArray⟩ : ByteArray) = Q := ⟨_, rfl⟩
  have hEn := endOf_any M.length (by omega) w1
  rw [hQ] at hEn
  have HQ := Lib.hid hQ
  clear hQ
  refine hEn.mono ?_
  clear hEn
  rintro e w2 ⟨rfl, hb2⟩
  have hz2 := hb2.size
  have hh2 := HH1.out.kept (hb2.block b (by omega))
  have HE2 := Lib.hid (HE1.out.below' hb2)
  have HB2 := Lib.hid hb2
  have HH2 := Lib.hid hh2
  clear hb2 hh2 hc1
  go_wp2_with fail
  have hel : Q.size ≤ 72 := by rw [← HQ.out]; exact (endL_bounds M.length).2
  have hQL : Q.data.toList = endL M.length := by rw [← HQ.out]
  have hA2 := add_one b T M Q (by omega) B w2.heap.size 1 (w2.alloc (.cells #[.string Q] 9)) (HE2.out.below' ((Below.refl _ _).alloc (Nat.le_refl _) _)) hbB (by omega) (HH2.out.kept (Below.heap_alloc _ _ _ (by omega))) (cell_of_row _ _ 0 _ _ _ (heap_alloc_new w2 _))
  rw [hQL] at hA2
  refine hA2.mono ?_
  rintro e w3 ⟨rfl, hh3, hg3⟩
  have hz3 := hg3.size
  simp only [World.size_alloc] at hz3
  have HH3 := Lib.hid hh3
  obtain ⟨s, hs, hr3⟩ := hh3
  have hne : M ++ (endL M.length) ≠ [] := by intro h; have := congrArg List.length h; simp [endL] at this
  have hs' := hs hne
  obtain ⟨⟨c0, c1, c2, c3, c4, c5, c6, c7⟩, _⟩ := eightB hr3
  have HG3 := Lib.hid hg3
  have HS := Lib.hid hs'
  clear hr3 hs hs' hne hg3 hA2
  go_wp2_with fail
  refine (Bytes_ok s _).mono ?_
  rintro e w4 ⟨rfl, hb4⟩
  have HB4 := Lib.hid hb4
  have hh4 := Lib.hid (HH3.out.kept (hb4.block b (by omega)))
  clear hb4 c0 c1 c2 c3 c4 c5 c6 c7
  go_wp2
  have hg : w.grownBy w4 (some b) := by
    have h12 : w1.grownBy (w2.alloc (.cells #[.string Q] 9)) (some b) := gB_alloc (gB_of_below HB2.out (some b)) _
    exact ((HG1.out.trans h12).trans HG3.out).trans (gB_of_below HB4.out (some b))
  have hd : (⟨(St.by s 8).toArray⟩ : ByteArray) = dig (m ++ p.data.toList) := by rw [HM.out]; unfold dig; rw [HS.out]
  rw [← hd]
  refine bodyPost_ret (v := .tuple #[.string ⟨(St.by s 8).toArray⟩, .nilIface]) (by simp [results, Tryd.results32, go_sem]) rfl ⟨rfl, hg, _, hh4.out⟩
end Go.Proofs.YthojdcmkajmdjaaDoor

namespace Go.Proofs.YthojdcmkajmdjaaDoor
open Go.RowKit Go.Shelf
open Rd Dg Box
attribute [local go_sem] Oper.semAt_some
set_option maxRecDepth 100000 in
set_option maxHeartbeats 4000000 in
theorem add_none (b : Nat) (T : TypeId) (m : List UInt8) (w : World) (hb : Holds b T m w) :
    Calls Tryd.prog 45 #[.pointer (some ⟨b, 0, none⟩), .slice none 0 0] w fun e w' => e = .returned .nilIface ∧ Holds b T m w' ∧ w.grownBy w' (some b) := by
  obtain ⟨s, hs, hr⟩ := hb
  have hblt : b < w.heap.size := (Array.getElem?_eq_some_iff.1 hr).1
  obtain ⟨w0, hw0⟩ : ∃ w0, (w.alloc (.cells #[.pointer (some ⟨b, 0, none⟩)] 85)).alloc (.cells #[.nilIface] 36) = w0 := ⟨_, rfl⟩
  have hz0 : w0.heap.size = w.heap.size + 2 := by rw [← hw0]; simp
  have hr0 : w0.heap[b]? = some (.cells (bufA s (roomL m) m.length) T (0, 0)) := by
    rw [← hw0, Below.heap_alloc _ _ _ (by simp; omega), Below.heap_alloc _ _ _ hblt]; exact hr
  have hpb0 : w0.heap[w.heap.size]? = some (.cells #[.pointer (some ⟨b, 0, none⟩)] 85 (0, 0)) := by
    rw [← hw0, Below.heap_alloc _ _ _ (by simp)]; exact heap_alloc_new w _
  have hrc0 : w0.heap[w.heap.size + 1]? = some (.cells #[.nilIface] 36 (0, 0)) := by
    rw [← hw0]; have h := heap_alloc_new (w.alloc (.cells #[.pointer (some ⟨b, 0, none⟩)] 85)) (.cells #[.nilIface] 36); rwa [World.size_alloc] at h
  have hg0 : Below w.heap.size w w0 := by rw [← hw0]; exact ((Below.refl _ w).alloc (Nat.le_refl _) _).alloc (by simp) _
  have hlm : (roomL m).length = 64 := roomL_length m
  have hcb0 : w0.cell? ⟨w.heap.size, 0, none⟩ = some (.pointer (some ⟨b, 0, none⟩)) := cell_of_row _ _ 0 _ _ _ hpb0
  have hcc0 : w0.cell? ⟨b, 72, none⟩ = some (.int .i64 (m.length : Int)) := by rw [cell_of_row _ _ 72 _ _ _ hr0, bufA_count _ _ _ hlm]
  go_enter Tryd.func45, Tryd.ntmps45
  go_wp2_with fail
  have HG0 := Lib.hid hg0
  have HR0 := Lib.hid hr0
  have HPB0 := Lib.hid hpb0
  have HRC0 := Lib.hid hrc0
  have HS := Lib.hid hs
  clear hr0 hpb0 hrc0 hg0 hs hr hw0
  go_step3
  refine wp_seq_k fun K hK => ?_
  go_cut [] from 11 to 19 (fun wc => wc.heap[b]? = some (.cells (bufA (stOf m (m.length / 64)) (roomL m) m.length) T (0, 0)) ∧ w0.grownBy wc (some b))
  case first =>
    by_cases hm : m.length = 0
    · have hmi : (m.length : Int) = 0 := by omega
      go_wp2_with fail
      refine wp_hideQ ?_
      go_region_with (first
        | (go_at_call 58; refine (First_any _).mono ?_; rintro en w5 ⟨rfl, hb5⟩; have hx5 := (hb5.block b (by simp; omega)).trans HR0.out; have hcb5 := (hb5.cell (p := ⟨w.heap.size, 0, none⟩) (by simp; omega)).trans hcb0; have HX5 := Lib.hid hx5; have HB5 := Lib.hid hb5; clear hb5; obtain ⟨⟨e0, e1, e2, e3, e4, e5, e6, e7⟩, ⟨g0, g1, g2, g3, g4, g5, g6, g7⟩⟩ := eightB hx5; clear hx5))
      all_goals
        go_wp2_with fail
        go_meet
        rw [stOf_nil m hm]
        have hg := grown8 b (gB_of_below HB5.out (some b)) (.int .i64 (U F0.a)) (.int .i64 (U F0.b)) (.int .i64 (U F0.c)) (.int .i64 (U F0.d)) (.int .i64 (U F0.e)) (.int .i64 (U F0.f)) (.int .i64 (U F0.g)) (.int .i64 (U F0.h))
        exact ⟨stored8B F0 HX5.out, ⟨hg.os, hg.tape, hg.output, hg.size, hg.block⟩⟩
    · have hmi : ¬ (m.length : Int) = 0 := by omega
      have hmb : ((m.length : Int) == 0) = false := beq_eq_false_iff_ne.2 hmi
      go_wp2_with fail
      go_meet
      have hst : s = stOf m (m.length / 64) := HS.out (fun h => hm (by rw [h]; exact List.length_nil))
      rw [← hst]
      exact ⟨HR0.out, World.grownBy.refl _ _⟩
  case rest =>
    obtain ⟨hrw, hgw⟩ := hcut
    have hrcw : wc.heap[w.heap.size + 1]? = some (.cells #[.nilIface] 36 (0, 0)) := (hgw.block _ (by omega) (by simp; omega)).trans HRC0.out
    have hcw4 := cell_of_row wc (w.heap.size + 1) 0 _ _ _ hrcw
    have hfw4 := frozen_of_row wc (w.heap.size + 1) 0 _ _ hrcw
    have HRW := Lib.hid hrw
    have HGW := Lib.hid hgw
    have HRCW := Lib.hid hrcw
    clear hrw hgw hrcw
    refine hK _ _ ?_
    clear hK
    go_wp2_with fail
    go_step3
    go_wp2_with fail
    refine wp_loop_rounds 1 ?_
    rw [rounds_succ]
    go_wp2_with fail
    have hr4 := heap_setCell_same wc (w.heap.size + 1) 0 _ _ .nilIface HRCW.out
    have hcr := cell_of_row _ (w.heap.size + 1) 0 _ _ _ hr4
    have hgA : w.grownBy wc (some b) := (gB_of_below HG0.out (some b)).trans HGW.out
    try rw [Exit.noGoto_ret]
    refine bodyPost_ret (v := .nilIface) (by simp [results, Tryd.results45, go_sem, hcr]) rfl ⟨rfl, ⟨stOf m (m.length / 64), fun _ => rfl, ?_⟩, grown_on hgA (gB_setCell (gB_refl wc (w.heap.size + 1)) 0 .nilIface) (by omega)⟩
    rw [Below.heap_setCell wc _ _ b (by simp; omega)]
    exact HRW.out
end Go.Proofs.YthojdcmkajmdjaaDoor

namespace Go.Proofs.YthojdcmkajmdjaaDoor
open Go.RowKit Go.Shelf
open Rd Dg Box
set_option maxRecDepth 100000 in
set_option maxHeartbeats 2000000 in
theorem sum_none (b : Nat) (T : TypeId) (m : List UInt8) (hlen : m.length ≤ 100000) (B : Nat) (w : World) (E : Env B w) (hbB : B ≤ b) (hb : Holds b T m w) :
    Calls Tryd.prog 32 #[.pointer (some ⟨b, 0, none⟩), .slice none 0 0] w fun e w' => e = .returned (.tuple #[.string (dig (m)), .nilIface]) ∧ w.grownBy w' (some b) ∧ ∃ M', Holds b T M' w' := by
  have hbl := hb.lt
  have hA := add_none b T m w hb
  have HE := Lib.hid E
  clear E hb
  go_enter Tryd.func32, Tryd.ntmps32
  go_wp2_with fail
  refine hA.mono ?_
  rintro e w1 ⟨rfl, hh1, hg1⟩
  have hz1 := hg1.size
  obtain ⟨M, hM⟩ : ∃ M, m = M := ⟨_, rfl⟩
  have hMl : M.length ≤ 100000 := by rw [← hM]; exact hlen
  rw [hM] at hh1
  have HM := Lib.hid hM
  clear hM
  have hc1 := hh1.count
  have HH1 := Lib.hid hh1
  have HG1 := Lib.hid hg1
  have HE1 := Lib.hid (HE.out.on hbB hg1)
  clear hh1 hg1 hA
  go_wp2_with fail
  obtain ⟨Q, hQ⟩ : ∃ Q : ByteArray, (⟨(endL M.length).toArray⟩ : ByteArray) = Q := ⟨_, rfl⟩
  have hEn := endOf_any M.length (by omega) w1
  rw [hQ] at hEn
  have HQ := Lib.hid hQ
  clear hQ
  refine hEn.mono ?_
  clear hEn
  rintro e w2 ⟨rfl, hb2⟩
  have hz2 := hb2.size
  have hh2 := HH1.out.kept (hb2.block b (by omega))
  have HE2 := Lib.hid (HE1.out.below' hb2)
  have HB2 := Lib.hid hb2
  have HH2 := Lib.hid hh2
  clear hb2 hh2 hc1
  go_wp2_with fail
  have hel : Q.size ≤ 72 := by rw [← HQ.out]; exact (endL_bounds M.length).2
  have hQL : Q.data.toList = endL M.length := by rw [← HQ.out]
  have hA2 := add_one b T M Q (by omega) B w2.heap.size 1 (w2.alloc (.cells #[.string Q] 9)) (HE2.out.below' ((Below.refl _ _).alloc (Nat.le_refl _) _)) hbB (by omega) (HH2.out.kept (Below.heap_alloc _ _ _ (by omega))) (cell_of_row _ _ 0 _ _ _ (heap_alloc_new w2 _))
  rw [hQL] at hA2
  refine hA2.mono ?_
  rintro e w3 ⟨rfl, hh3, hg3⟩
  have hz3 := hg3.size
  simp only [World.size_alloc] at hz3
  have HH3 := Lib.hid hh3
  obtain ⟨s, hs, hr3⟩ := hh3
  have hne : M ++ (endL M.length) ≠ [] := by intro h; have := congrArg List.length h; simp [endL] at this
  have hs' := hs hne
  obtain ⟨⟨c0, c1, c2, c3, c4, c5, c6, c7⟩, _⟩ := eightB hr3
  have HG3 := Lib.hid hg3
  have HS := Lib.hid hs'
  clear hr3 hs hs' hne hg3 hA2
  go_wp2_with fail
  refine (Bytes_ok s _).mono ?_
  rintro e w4 ⟨rfl, hb4⟩
  have HB4 := Lib.hid hb4
  have hh4 := Lib.hid (HH3.out.kept (hb4.block b (by omega)))
  clear hb4 c0 c1 c2 c3 c4 c5 c6 c7
  go_wp2
  have hg : w.grownBy w4 (some b) := by
    have h12 : w1.grownBy (w2.alloc (.cells #[.string Q] 9)) (some b) := gB_alloc (gB_of_below HB2.out (some b)) _
    exact ((HG1.out.trans h12).trans HG3.out).trans (gB_of_below HB4.out (some b))
  have hd : (⟨(St.by s 8).toArray⟩ : ByteArray) = dig (m) := by rw [HM.out]; unfold dig; rw [HS.out]
  rw [← hd]
  refine bodyPost_ret (v := .tuple #[.string ⟨(St.by s 8).toArray⟩, .nilIface]) (by simp [results, Tryd.results32, go_sem]) rfl ⟨rfl, hg, _, hh4.out⟩
end Go.Proofs.YthojdcmkajmdjaaDoor
