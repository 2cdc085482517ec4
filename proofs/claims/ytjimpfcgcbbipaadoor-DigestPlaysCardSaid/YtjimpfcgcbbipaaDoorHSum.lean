/- A hasher's sum is the sum of what it has, and it has the same then. Conditions: the hasher lies in a block of its own. -/
import Derived.Test.YtjimpfcgcbbipaaDoorSumN
import Derived.Defers
import Derived.StillTailTactics
namespace Go.Proofs.YtjimpfcgcbbipaaDoor
open Go.RowKit Go.Shelf
open Rd Dg Box
set_option maxRecDepth 100000 in
theorem putBack_d (b : Nat) (T : TypeId) (old new : Array Value) (h1 : new.size = 73) (h2 : old.size = 73) (ho : new.all (·.oneCell') = true) (u : FrameMode) (w : World) (hb : w.heap[b]? = some (.cells old T (0, 0))) :
    CallsD Tryd.prog 36 #[.pointer (some ⟨b, 0, none⟩), .agg new] u w fun e u' w' => u' = u ∧ (e = .returned (.tuple #[]) ∧ w'.heap[b]? = some (.cells new T (0, 0)) ∧ w.grownBy w' (some b)) := by
  have hall : Hid (new.all (·.oneCell') = true) := Lib.hid ho
  have HI := Lib.hid (show (Tryd.prog.info? 61).map (·.size) = some new.size by rw [h1]; exact size61)
  have hx := heap_alloc_new w (.cells new 61)
  have hb' := (Below.heap_alloc w (.cells new 61) b (Array.getElem?_eq_some_iff.1 hb).1).trans hb
  have HX := Lib.hid hx
  have HBX := Lib.hid hb'
  have HZ := Lib.hid (show old.size = new.size by rw [h1, h2])
  clear ho hx hb'
  go_enter_d Tryd.func36, Tryd.ntmps36
  go_wp2_with (first
    | (refine wpList_load_row rfl 61 _ rfl w.heap.size rfl 61 new (0, 0) _ HX.out Tryd.underlying61 rfl HI.out ?_)
    | (refine wpList_store_row rfl 61 _ _ rfl b new rfl rfl T old HBX.out HI.out HZ.out hall.out ?_))
  go_end0
  exact ⟨rfl, setRow_heap _ b old new T (0, 0) HBX.out, ⟨rfl, rfl, rfl, by simp, fun k hk hne => (setRow_other _ b k new (fun e => hne (by rw [e]))).trans (Below.heap_alloc w _ k hk)⟩⟩
theorem bufA_one (s : St) (m : List UInt8) (n : Nat) : (bufA s (roomL m) n).all (·.oneCell') = true := by
  rw [Array.all_eq_true']
  intro v hv
  simp only [bufA, stL, roomL, cellOf, List.mem_toArray, List.mem_append, List.mem_cons, List.mem_map, List.not_mem_nil, or_false] at hv
  rcases hv with ((rfl | rfl | rfl | rfl | rfl | rfl | rfl | rfl) | ⟨j, _, rfl⟩) | rfl <;> rfl
theorem still_load_row {P : Program} {w : World} {ops : Array Oper} {rest : List Oper} {o : Oper} {a : Act} {Q : Act → Prop} (hgd : o.guard = none) (ty : TypeId) (x : Operand) (ho : o.op = .load ty x)
    (g : Nat) (hx : a.eval x = .pointer (some ⟨g, 0, none⟩)) (t : TypeId) (cs : Array Value) (fr : Nat × Nat) (d : TypeDesc) (hg : w.heap[g]? = some (.cells cs t fr))
    (hu : P.underlying ty = some d) (hd : (match d with | .struct _ | .array _ _ => true | _ => false) = true) (hi : (P.info? ty).map (·.size) = some cs.size)
    (h : wpStill P ops w Q rest (a.put o.dst (.agg cs))) : wpStill P ops w Q (o :: rest) a := by
  refine wpStill_step (fun K hK => ?_)
  have hw : Region.wanted o (yielded ops a.tmps) = true := by simp [Region.wanted, hgd]
  rw [if_pos hw]
  unfold Oper.still execOp
  simp only [ho, hx, Instr.loadAt, Instr.sureAddr, Sem.run_bind, Sem.run_pure, Result.andThen_ok, run_loadVar_row w g t ty cs fr d hg hu hd hi]
  exact ⟨rfl, hK _ h⟩
set_option maxRecDepth 100000 in
set_option maxHeartbeats 2000000 in
theorem hsum_any (b : Nat) (T : TypeId) (m : List UInt8) (hlen : m.length ≤ 100000) (B : Nat) (w : World) (E : Env B w) (hbB : B ≤ b) (hb : Holds b T m w) :
    Calls Tryd.prog 20 #[.pointer (some ⟨b, 0, none⟩)] w fun e w' => e = .returned (.string (dig m)) ∧ Holds b T m w' ∧ w.grownBy w' (some b) := by
  have hS := sum_none b T m hlen B w.drew (E.below ⟨rfl, rfl, rfl, Nat.le_refl _, fun _ _ => rfl⟩) hbB hb
  obtain ⟨s, hs, hr⟩ := hb
  have hsz : (bufA s (roomL m) m.length).size = 73 := bufA_size _ _ _ (roomL_length m)
  have hone := bufA_one s m m.length
  have hr' : w.drew.heap[b]? = some (.cells (bufA s (roomL m) m.length) T (0, 0)) := hr
  obtain ⟨A, hA⟩ : ∃ A, bufA s (roomL m) m.length = A := ⟨_, rfl⟩
  rw [hA] at hsz hone hr'
  have HR := Lib.hid hr'
  have HI := Lib.hid (show (Tryd.prog.info? 61).map (·.size) = some A.size by rw [hsz]; exact size61)
  have HS := Lib.hid hS
  have HA := Lib.hid hA
  have H1 := Lib.hid hone
  have HQ := Lib.hid hs
  have HZ := Lib.hid hsz
  clear hS hs hr hsz hone hr' hA E
  go_enter_defers Tryd.func20, Tryd.ntmps20
  go_wp2_with fail
  go_still_tail 7, (by kernel_rfl)
  refine still_load_row rfl 61 _ rfl b rfl T A (0, 0) _ HR.out Tryd.underlying61 rfl HI.out ?_
  refine wpStill_nil ?_
  change wpList _ _ _ _ _ w.drew
  go_wp2_with fail
  refine HS.out.mono ?_
  rintro e w1 ⟨rfl, hg1, M', s', hs', hr1⟩
  have HG1 := Lib.hid hg1
  have HR1 := Lib.hid hr1
  clear hg1 hs' hr1
  go_wp2_with fail
  refine leaves_cons (f := 36) (args := #[.pointer (some ⟨b, 0, none⟩), .agg A]) (by simp) (by simp [go_sem]) ?_
  refine (putBack_d b T _ A HZ.out (bufA_size _ _ _ (roomL_length _)) H1.out .returning _ HR1.out).mono ?_
  rintro e u' w2 ⟨rfl, rfl, hr2, hg2⟩
  refine ⟨_, results_tmp rfl _ _ _, rfl, ⟨s, HQ.out, ?_⟩, ?_⟩
  · rw [HA.out]; exact hr2
  · have hg : w.drew.grownBy w2 (some b) := HG1.out.trans hg2
    exact ⟨hg.os, hg.tape, hg.output, hg.size, hg.block⟩
end Go.Proofs.YtjimpfcgcbbipaaDoor
