/- A hasher's sum is the sum of what it has, and it has the same then. Conditions: the hasher lies in a block of its own. The package's calls answer as the message's arithmetic says, or with an error where there is no message. Conditions: those of each rule. -/
import Derived.Test.YthojdcmkajmdjaaDoorSm
import Derived.Defers
import Derived.StillTailTactics
import Derived.Test.YthojdcmkajmdjaaDoorEr
namespace Go.Proofs.YthojdcmkajmdjaaDoor
open Go.RowKit Go.Shelf
open Rd Dg Box
set_option maxRecDepth 100000 in
theorem putBack_d (b : Nat) (T : TypeId) (old new : Array Value) (h1 : new.size = 73) (h2 : old.size = 73) (ho : new.all (·.oneCell') = true) (u : FrameMode) (w : World) (hb : w.heap[b]? = some (.cells old T (0, 0))) :
    CallsD Tryd.prog 66 #[.pointer (some ⟨b, 0, none⟩), .agg new] u w fun e u' w' => u' = u ∧ (e = .returned (.tuple #[]) ∧ w'.heap[b]? = some (.cells new T (0, 0)) ∧ w.grownBy w' (some b)) := by
  have hall : Hid (new.all (·.oneCell') = true) := Lib.hid ho
  have HI := Lib.hid (show (Tryd.prog.info? 61).map (·.size) = some new.size by rw [h1]; exact size61)
  have hx := heap_alloc_new w (.cells new 61)
  have hb' := (Below.heap_alloc w (.cells new 61) b (Array.getElem?_eq_some_iff.1 hb).1).trans hb
  have HX := Lib.hid hx
  have HBX := Lib.hid hb'
  have HZ := Lib.hid (show old.size = new.size by rw [h1, h2])
  clear ho hx hb'
  go_enter_d Tryd.func66, Tryd.ntmps66
  go_wp2_with (first
    | (refine wpList_load_row rfl 61 _ rfl w.heap.size rfl 61 new (0, 0) _ HX.out Tryd.underlying61 rfl HI.out ?_)
    | (refine wpList_store_row rfl 61 _ _ rfl b new rfl rfl T old HBX.out HI.out HZ.out hall.out ?_))
  go_end0
  exact ⟨rfl, setRow_heap _ b old new T (0, 0) HBX.out, ⟨rfl, rfl, rfl, by simp, fun k hk hne => (setRow_other _ b k new (fun e => hne (by rw [e]))).trans (Below.heap_alloc w _ k hk)⟩⟩
theorem bufA_one (s : St) (m : List UInt8) (n : Nat) : (bufA s (roomL m) n).all (·.oneCell') = true := by
  rw [Array.all_eq_true']
  intro v hv
  simp only [bufA, stL, roomL, cellOf, List.mem_toArray, List.mem_append, List.mem_cons, List.mem_map, List.not_mem_nil, or_false] at hv
  rcases hv with ((rfl | rfl | rfl | rfl | rfl | rfl | rfl | rfl) | ⟨j, _, rfl⟩) | rfl <;> rfl
theorem still_load_row {P : Program} {w : World} {ops : Array Oper} {rest : List Oper} {o : Oper} {a : Act} {Q : Act → Prop} (hgd : o.guard = none) (ty : TypeId) (x : Operand) (ho : o.op = .load ty x)
    (g : Nat) (hx : a.eval x = .pointer (some ⟨g, 0, none⟩)) (t : TypeId) (cs : Array Value) (fr : Nat × Nat) (d : TypeDesc) (hg : w.heap[g]? = some (.cells cs t fr))
    (hu : P.underlying ty = some d) (hd : (match d with | .struct _ | .array _ _ => true | _ => false) = true) (hi : (P.info? ty).map (·.size) = some cs.size)
    (h : wpStill P ops w Q rest (a.put o.dst (.agg cs))) : wpStill P ops w Q (o :: rest) a := by
  refine wpStill_step (fun K hK => ?_)
  have hw : Region.wanted o (yielded ops a.tmps) = true := by simp [Region.wanted, hgd]
  rw [if_pos hw]
  unfold Oper.still execOp
  simp only [ho, hx, Instr.loadAt, Instr.sureAddr, Sem.run_bind, Sem.run_pure, Result.andThen_ok, run_loadVar_row w g t ty cs fr d hg hu hd hi]
  exact ⟨rfl, hK _ h⟩
set_option maxRecDepth 100000 in
set_option maxHeartbeats 2000000 in
theorem hsum_any (b : Nat) (T : TypeId) (m : List UInt8) (hlen : m.length ≤ 100000) (B : Nat) (w : World) (E : Env B w) (hbB : B ≤ b) (hb : Holds b T m w) :
    Calls Tryd.prog 50 #[.pointer (some ⟨b, 0, none⟩)] w fun e w' => e = .returned (.string (dig m)) ∧ Holds b T m w' ∧ w.grownBy w' (some b) := by
  have hS := sum_none b T m hlen B w.drew (E.below ⟨rfl, rfl, rfl, Nat.le_refl _, fun _ _ => rfl⟩) hbB hb
  obtain ⟨s, hs, hr⟩ := hb
  have hsz : (bufA s (roomL m) m.length).size = 73 := bufA_size _ _ _ (roomL_length m)
  have hone := bufA_one s m m.length
  have hr' : w.drew.heap[b]? = some (.cells (bufA s (roomL m) m.length) T (0, 0)) := hr
  obtain ⟨A, hA⟩ : ∃ A, bufA s (roomL m) m.length = A := ⟨_, rfl⟩
  rw [hA] at hsz hone hr'
  have HR := Lib.hid hr'
  have HI := Lib.hid (show (Tryd.prog.info? 61).map (·.size) = some A.size by rw [hsz]; exact size61)
  have HS := Lib.hid hS
  have HA := Lib.hid hA
  have H1 := Lib.hid hone
  have HQ := Lib.hid hs
  have HZ := Lib.hid hsz
  clear hS hs hr hsz hone hr' hA E
  go_enter_defers Tryd.func50, Tryd.ntmps50
  go_wp2_with fail
  go_still_tail 7, (by kernel_rfl)
  refine still_load_row rfl 61 _ rfl b rfl T A (0, 0) _ HR.out Tryd.underlying61 rfl HI.out ?_
  refine wpStill_nil ?_
  change wpList _ _ _ _ _ w.drew
  go_wp2_with fail
  refine HS.out.mono ?_
  rintro e w1 ⟨rfl, hg1, M', s', hs', hr1⟩
  have HG1 := Lib.hid hg1
  have HR1 := Lib.hid hr1
  clear hg1 hs' hr1
  go_wp2_with fail
  refine leaves_cons (f := 66) (args := #[.pointer (some ⟨b, 0, none⟩), .agg A]) (by simp) (by simp [go_sem]) ?_
  refine (putBack_d b T _ A HZ.out (bufA_size _ _ _ (roomL_length _)) H1.out .returning _ HR1.out).mono ?_
  rintro e u' w2 ⟨rfl, rfl, hr2, hg2⟩
  refine ⟨_, results_tmp rfl _ _ _, rfl, ⟨s, HQ.out, ?_⟩, ?_⟩
  · rw [HA.out]; exact hr2
  · have hg : w.drew.grownBy w2 (some b) := HG1.out.trans hg2
    exact ⟨hg.os, hg.tape, hg.output, hg.size, hg.block⟩
end Go.Proofs.YthojdcmkajmdjaaDoor

namespace Go.Proofs.YthojdcmkajmdjaaDoor
open Go.RowKit Go.Shelf
open Rd Dg Box
def S0 : St := ⟨0#32, 0#32, 0#32, 0#32, 0#32, 0#32, 0#32, 0#32⟩
theorem zero_row : bufA S0 (roomL []) 0 = (List.replicate 8 (Value.int .i64 0) ++ List.replicate 64 (Value.int .u8 0) ++ [Value.int .i64 0]).toArray := by rfl
theorem zc61 : Tryd.zeroCells61 = bufA S0 (roomL []) 0 := by kernel_rfl
theorem Dg.Holds.zero {b : Nat} {T : TypeId} {w : World} (h : w.heap[b]? = some (.cells (bufA S0 (roomL []) 0) T (0, 0))) : Holds b T [] w := ⟨S0, fun h => absurd rfl h, h⟩
set_option maxRecDepth 100000 in
set_option maxHeartbeats 1000000 in
theorem New_any (w : World) :
    Calls Tryd.prog 33 #[] w fun e w' => e = .returned (.pointer (some ⟨w.heap.size, 0, none⟩)) ∧ Holds w.heap.size 90 [] w' ∧ Below w.heap.size w w' := by
  go_enter Tryd.func33, Tryd.ntmps33
  go_wp2
  go_ret
  exact ⟨rfl, Dg.Holds.zero (heap_alloc_new w _), (Below.refl _ w).alloc (Nat.le_refl _) _⟩
set_option maxRecDepth 100000 in
set_option maxHeartbeats 1000000 in
theorem Reset_any (b : Nat) (T : TypeId) (m : List UInt8) (w : World) (hb : Holds b T m w) :
    Calls Tryd.prog 48 #[.pointer (some ⟨b, 0, none⟩)] w fun e w' => e = .returned (.tuple #[]) ∧ Holds b T [] w' ∧ w.grownBy w' (some b) := by
  obtain ⟨s, hs, hr⟩ := hb
  have hP := putBack_any b T (bufA s (roomL m) m.length) (bufA S0 (roomL []) 0) (bufA_size _ _ _ (roomL_length _)) (bufA_size _ _ _ (roomL_length _)) (bufA_one _ _ _) w hr
  clear hs hr
  go_enter Tryd.func48, Tryd.ntmps48
  go_wp2_with fail
  refine hP.mono ?_
  rintro e w1 ⟨rfl, hr1, hg1⟩
  have HR1 := Lib.hid hr1
  have HG1 := Lib.hid hg1
  clear hr1 hg1 hP
  go_wp2
  go_end0
  exact ⟨rfl, Dg.Holds.zero HR1.out, HG1.out⟩
set_option maxRecDepth 100000 in
set_option maxHeartbeats 1000000 in
theorem Write_ok (b : Nat) (T : TypeId) (m : List UInt8) (p : ByteArray) (hlen : m.length + p.size ≤ 100000) (B : Nat) (w : World) (E : Env B w) (hbB : B ≤ b) (hb : Holds b T m w) :
    Calls Tryd.prog 49 #[.pointer (some ⟨b, 0, none⟩), .string p] w fun e w' => e = .returned (.int .i64 0) ∧ Holds b T (m ++ p.data.toList) w' ∧ w.grownBy w' (some b) := by
  have hbl := hb.lt
  have hc := hb.count
  have HB := Lib.hid hb
  have HE := Lib.hid E
  clear hb E
  go_enter Tryd.func49, Tryd.ntmps49
  go_wp2_with fail
  refine (check2_ok (m.length : Int) (p.size : Int) (by omega) (by omega) (by omega) _ _ _ (cell_of_row _ _ 0 _ _ _ (heap_alloc_new w _)) (cell_of_row _ _ 1 _ _ _ (heap_alloc_new w _))).mono ?_
  rintro e w1 ⟨rfl, rfl⟩
  go_wp2_with fail
  have hw2 : w.grownBy ((w.alloc (.cells #[.int .i64 (m.length : Int), .int .i64 (p.size : Int)] 3)).alloc (.cells #[.string p] 9)) (some b) := gB_alloc (gB_alloc (gB_refl w b) _) _
  have hH2 : Holds b T m ((w.alloc (.cells #[.int .i64 (m.length : Int), .int .i64 (p.size : Int)] 3)).alloc (.cells #[.string p] 9)) := HB.out.kept ((Below.heap_alloc _ _ _ (by simp; omega)).trans (Below.heap_alloc _ _ _ hbl))
  have hP2 := cell_of_row _ _ 0 _ _ _ (heap_alloc_new (w.alloc (.cells #[.int .i64 (m.length : Int), .int .i64 (p.size : Int)] 3)) (.cells #[.string p] 9))
  rw [World.size_alloc] at hP2
  refine (add_one b T m p (by omega) B _ _ _ (HE.out.on hbB hw2) hbB (by omega) hH2 hP2).mono ?_
  rintro e w3 ⟨rfl, hh3, hg3⟩
  have HH3 := Lib.hid hh3
  have HG3 := Lib.hid (hw2.trans hg3)
  clear hh3 hg3 hw2 hH2 hP2
  have hz3 := HG3.out.size
  go_wp2_with fail
  refine (number_nil _).mono ?_
  rintro e w4 ⟨rfl, hb4⟩
  have HB4 := Lib.hid hb4
  have HH4 := Lib.hid (HH3.out.kept (hb4.block b (by omega)))
  clear hb4
  go_wp2
  go_ret
  exact ⟨rfl, HH4.out, HG3.out.trans (gB_of_below HB4.out (some b))⟩
set_option maxRecDepth 100000 in
set_option maxHeartbeats 1000000 in
theorem Write_long (b : Nat) (T : TypeId) (m : List UInt8) (p : ByteArray) (hm : m.length ≤ 100000) (hlen : 100000 < m.length + p.size) (B : Nat) (w : World) (E : Env B w) (hb : Holds b T m w) :
    Calls Tryd.prog 49 #[.pointer (some ⟨b, 0, none⟩), .string p] w fun e w' => e = .returned (.int .i64 20) ∧ Holds b T m w' ∧ w.grownBy w' (some b) := by
  have hbl := hb.lt
  have hc := hb.count
  have HB := Lib.hid hb
  have HE := Lib.hid E
  clear hb E
  have hel := (HE.out.below' ((Below.refl w.heap.size w).alloc (Nat.le_refl _) (.cells #[.int .i64 (m.length : Int), .int .i64 (p.size : Int)] 3))).el
  go_enter Tryd.func49, Tryd.ntmps49
  go_wp2_with fail
  refine (check2_bad (m.length : Int) (p.size : Int) (by omega) (by omega) (by omega) _ _ _ (cell_of_row _ _ 0 _ _ _ (heap_alloc_new w _)) (cell_of_row _ _ 1 _ _ _ (heap_alloc_new w _)) hel).mono ?_
  rintro e w1 ⟨v, rfl, hf1, hb1⟩
  obtain ⟨fp, fx, rfl, hfr⟩ := hf1
  have hz1 := hb1.size
  simp only [World.size_alloc] at hz1
  have hF1 : Fault 20 (.iface 80 (.pointer (some ⟨fp, 0, none⟩))) w1 := ⟨fp, fx, rfl, hfr⟩
  have HB1 := Lib.hid (((Below.refl w.heap.size w).alloc (Nat.le_refl _) (.cells #[.int .i64 (m.length : Int), .int .i64 (p.size : Int)] 3)).trans (hb1.mono (by simp)))
  have HF1 := Lib.hid hF1
  have HE1 := Lib.hid (HE.out.below' HB1.out)
  clear hb1 hfr hF1 hc hel
  go_wp2_with fail
  refine (number_fault _ 20 _ HF1.out HE1.out.et).mono ?_
  rintro e w2 ⟨rfl, hb2⟩
  have HB2 := Lib.hid (HB1.out.trans (hb2.mono (by omega)))
  clear hb2
  go_wp2
  go_ret
  exact ⟨rfl, HB.out.kept (HB2.out.block b hbl), gB_of_below HB2.out (some b)⟩
set_option maxRecDepth 100000 in
set_option maxHeartbeats 1000000 in
theorem Sum_ok (p : ByteArray) (hlen : p.size ≤ 100000) (B : Nat) (w : World) (E : Env B w) :
    Calls Tryd.prog 19 #[.string p] w fun e w' => e = .returned (.tuple #[.string (dig p.data.toList), .int .i64 0]) ∧ Below w.heap.size w w' := by
  have HE := Lib.hid E
  clear E
  go_enter Tryd.func19, Tryd.ntmps19
  go_wp2_with fail
  refine (check1_ok (p.size : Int) (by omega) (by omega) _ _ _ (cell_of_row _ _ 0 _ _ _ (heap_alloc_new w _))).mono ?_
  rintro e w1 ⟨rfl, rfl⟩
  go_wp2_with fail
  obtain ⟨w3, hw3⟩ : ∃ w3, ((w.alloc (.cells #[.int .i64 (p.size : Int)] 3)).alloc (.cells Tryd.zeroCells61 61)).alloc (.cells #[.string p] 9) = w3 := ⟨_, rfl⟩
  have hb3 : Below w.heap.size w w3 := by rw [← hw3]; exact (((Below.refl _ w).alloc (Nat.le_refl _) _).alloc (by simp) _).alloc (by simp; omega) _
  have hr3 : w3.heap[w.heap.size + 1]? = some (.cells (bufA S0 (roomL []) 0) 61 (0, 0)) := by
    rw [← hw3, Below.heap_alloc _ _ _ (by simp)]
    have h := heap_alloc_new (w.alloc (.cells #[.int .i64 (p.size : Int)] 3)) (.cells Tryd.zeroCells61 61)
    rw [World.size_alloc, zc61] at h
    exact h
  have hp3 : w3.cell? ⟨w.heap.size + 1 + 1, 0, none⟩ = some (.string p) := by
    rw [← hw3]
    have h := cell_of_row _ _ 0 _ _ _ (heap_alloc_new ((w.alloc (.cells #[.int .i64 (p.size : Int)] 3)).alloc (.cells Tryd.zeroCells61 61)) (.cells #[.string p] 9))
    rw [World.size_alloc, World.size_alloc] at h
    exact h
  have hS := sum_one (w.heap.size + 1) 61 [] p (by simpa using hlen) B (w.heap.size + 1 + 1) 1 w3 (HE.out.below' hb3) (by have := HE.out.bw; omega) (by omega) (Dg.Holds.zero hr3) hp3
  rw [List.nil_append] at hS
  have hz3 : w3.heap.size = w.heap.size + 3 := by rw [← hw3]; simp
  rw [hw3]
  have HB3 := Lib.hid hb3
  clear hr3 hp3 hw3 hb3
  refine hS.mono ?_
  rintro e w4 ⟨rfl, hg4, _⟩
  have hz4 := hg4.size
  have HB4 := Lib.hid (HB3.out.trans (below_of_grown hg4 (show w.heap.size ≤ w.heap.size + 1 by omega) (by omega)))
  clear hg4 hS
  go_wp2_with fail
  refine (number_nil _).mono ?_
  rintro e w5 ⟨rfl, hb5⟩
  have HB5 := Lib.hid (HB4.out.trans (hb5.mono (by omega)))
  clear hb5
  go_wp2
  refine bodyPost_ret (v := .tuple #[.string (dig p.data.toList), .int .i64 0]) (by simp [results, Tryd.results19, go_sem]) rfl ⟨rfl, HB5.out⟩
set_option maxRecDepth 100000 in
set_option maxHeartbeats 1000000 in
theorem Sum_long (p : ByteArray) (hlen : 100000 < p.size) (B : Nat) (w : World) (E : Env B w) :
    Calls Tryd.prog 19 #[.string p] w fun e w' => e = .returned (.tuple #[.string ⟨#[]⟩, .int .i64 20]) ∧ Below w.heap.size w w' := by
  have HE := Lib.hid E
  clear E
  have hel := (HE.out.below' ((Below.refl w.heap.size w).alloc (Nat.le_refl _) (.cells #[.int .i64 (p.size : Int)] 3))).el
  go_enter Tryd.func19, Tryd.ntmps19
  go_wp2_with fail
  refine (check1_bad (p.size : Int) (by omega) _ _ _ (cell_of_row _ _ 0 _ _ _ (heap_alloc_new w _)) hel).mono ?_
  rintro e w1 ⟨v, rfl, hf1, hb1⟩
  obtain ⟨fp, fx, rfl, hfr⟩ := hf1
  have hz1 := hb1.size
  simp only [World.size_alloc] at hz1
  have hF1 : Fault 20 (.iface 80 (.pointer (some ⟨fp, 0, none⟩))) w1 := ⟨fp, fx, rfl, hfr⟩
  have HB1 := Lib.hid (((Below.refl w.heap.size w).alloc (Nat.le_refl _) (.cells #[.int .i64 (p.size : Int)] 3)).trans (hb1.mono (by simp)))
  have HF1 := Lib.hid hF1
  have HE1 := Lib.hid (HE.out.below' HB1.out)
  clear hb1 hfr hF1 hel
  go_wp2_with fail
  refine (number_fault _ 20 _ HF1.out HE1.out.et).mono ?_
  rintro e w2 ⟨rfl, hb2⟩
  have HB2 := Lib.hid (HB1.out.trans (hb2.mono (by omega)))
  clear hb2
  go_wp2
  refine bodyPost_ret (v := .tuple #[.string ⟨#[]⟩, .int .i64 20]) (by simp [results, Tryd.results19, go_sem]) rfl ⟨rfl, HB2.out⟩
end Go.Proofs.YthojdcmkajmdjaaDoor
