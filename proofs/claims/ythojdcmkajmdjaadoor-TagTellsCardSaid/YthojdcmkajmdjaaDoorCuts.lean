/- The iterator over a row's blocks yields them in their order, and at last what fills none. Conditions: the row's bytes stay as they are. -/
import Derived.Test.YthojdcmkajmdjaaDoorBf
import Derived.Test.YthojdcmkajmdjaaDoorTl
import Derived.Test.YthojdcmkajmdjaaDoorIter
import Derived.RangeFuncNested
import Derived.RangeFuncBound
import Derived.RangeFuncCalls
import Derived.RangeFuncLeaves
import Derived.OwnWalkIn
import Derived.TacticsInMore
import Derived.LoopNIn
import Derived.LoopIn
import Derived.ControlIn
import Derived.Laws.IdiomStrings
namespace Go.Proofs.YthojdcmkajmdjaaDoor
open Go.RowKit
open Rd Dg Box
set_option maxRecDepth 100000 in
theorem slice58_to (g o len cap : Nat) (h : 64 ≤ len) (_hc : len ≤ cap) (w : World) : (Instr.slice 29 (.slice (some ⟨g, o, none⟩) len cap) none (some (.int .i64 64)) none).run Tryd.prog w = .ok (.slice (some ⟨g, o, none⟩) 64 cap) w := by
  have he : Tryd.prog.elem 29 = 5 := by kernel_rfl
  obtain ⟨i, hi, _, hs, _⟩ := info_parts info5b
  have hu : Tryd.prog.underlying 29 = some (.slice (Tryd.prog.elem 29)) := by rw [he]; exact Tryd.underlying29
  refine (run_slice_h (P := Tryd.prog) w 29 (some ⟨g, o, none⟩) len cap hu .i64 64 (by omega) (by omega)).trans ?_
  have ea : (⟨g, o, none⟩ : Addr).add 0 = ⟨g, o, none⟩ := addr_add g o 0
  have h0 : cap ≠ 0 := by omega
  rw [he]
  simp [sizeOf, typeInfo, hi, hs, Result.andThen, sliced, ea, h0]
set_option maxRecDepth 100000 in
theorem slice58_from (g o len cap : Nat) (h : 64 ≤ len) (_hc : len ≤ cap) (w : World) : (Instr.slice 29 (.slice (some ⟨g, o, none⟩) len cap) (some (.int .i64 64)) none none).run Tryd.prog w = .ok (.slice (some ⟨g, if cap = 64 then o else o + 64, none⟩) (len - 64) (cap - 64)) w := by
  have he : Tryd.prog.elem 29 = 5 := by kernel_rfl
  obtain ⟨i, hi, _, hs, _⟩ := info_parts info5b
  have hu : Tryd.prog.underlying 29 = some (.slice (Tryd.prog.elem 29)) := by rw [he]; exact Tryd.underlying29
  refine (run_slice_l (P := Tryd.prog) w 29 (some ⟨g, o, none⟩) len cap hu .i64 64 (by omega) (by omega)).trans ?_
  have ea : (⟨g, o, none⟩ : Addr).add 64 = ⟨g, o + 64, none⟩ := addr_add g o 64
  rw [he]
  by_cases hc2 : cap = 64
  · simp [sizeOf, typeInfo, hi, hs, Result.andThen, sliced, hc2]
  · simp [sizeOf, typeInfo, hi, hs, Result.andThen, sliced, ea, hc2]
/-- the part of a list that round t tells -/
def part (L : List UInt8) (t : Nat) : List UInt8 := (L.drop (64 * t)).take 64
theorem part_length (L : List UInt8) (t : Nat) : (part L t).length = min 64 (L.length - 64 * t) := by simp [part]
/-- where the slice of round t begins -/
def offT (q c t : Nat) : Nat := if t ≠ 0 ∧ c = 64 * t then q + 64 * (t - 1) else q + 64 * t
theorem offT_in (q c t : Nat) (h : 64 * t < c) : offT q c t = q + 64 * t := by unfold offT; rw [if_neg (by omega)]
theorem offT_next (q c t : Nat) (h : 64 * t < c) : (if c - 64 * t = 64 then offT q c t else offT q c t + 64) = offT q c (t + 1) := by
  rw [offT_in q c t h]
  unfold offT
  by_cases hc : c = 64 * (t + 1)
  · rw [if_pos (by omega), if_pos (by omega)]; omega
  · rw [if_neg (by omega), if_neg (by omega)]; omega
/-- the slice of round t -/
def sliceT (G q c : Nat) (L : List UInt8) (t : Nat) : Value := .slice (some ⟨G, offT q c t, none⟩) (L.length - 64 * t) (c - 64 * t)
/-- the row's bytes lie -/
def Lies (G q : Nat) (L : List UInt8) (w : World) : Prop := ∀ j (hj : j < L.length), w.cell? ⟨G, q + j, none⟩ = some (cellOf L[j])
theorem part_conv (G q c n : Nat) (L : List UInt8) (t : Nat) (hn : n = (part L t).length) (w : World) (hc : L.length ≤ c) (h : Lies G q L w) :
    (convert 29 9 (.slice (some ⟨G, offT q c t, none⟩) n (c - 64 * t))).run Tryd.prog w = .ok (.string ⟨(part L t).toArray⟩) w := by
  subst hn
  refine run_convert_bytes_back w 29 9 5 ⟨G, offT q c t, none⟩ _ (part L t) Tryd.underlying29 Tryd.underlying5 Tryd.underlying9 (fun j hj => ?_)
  have hj2 := hj
  rw [part_length] at hj2
  rw [addr_add, offT_in q c t (by omega)]
  have e := h (64 * t + j) (by omega)
  rw [← Nat.add_assoc] at e
  rw [e]
  simp [part, cellOf]
set_option maxRecDepth 100000 in
set_option maxHeartbeats 4000000 in
theorem cuts_in (n : Nat) (L : List UInt8) (G q c Bx : Nat) (hc : L.length ≤ c) (_hG : G ≠ Bx) (l : Nat) (J : Nat → World → Prop) (Jx : World → Prop) (W : World)
    (hJ : ∀ t A B, J t A → A.grownBy B (some Bx) → J t B) (hS : ∀ t A, J t A → Lies G q L A)
    (hY : ∀ t A, t ≤ L.length / 64 → J t A → YieldAt Fence.wide (n - 1) Tryd.prog l #[.string ⟨(part L t).toArray⟩] A fun e B =>
      (e = .returned (.bool true) ∧ t < L.length / 64 ∧ J (t + 1) B ∧ B.heap[Bx]? = A.heap[Bx]?) ∨ (e = .returned (.bool false) ∧ Jx B))
    (hbx : W.heap[Bx]? = some (.cells #[sliceT G q c L 0] 29 (0, 0))) (h0 : J 0 W) :
    CallsIn Fence.wide n Tryd.prog 72 #[.func (.yield l) #[] #[], .pointer (some ⟨Bx, 0, none⟩)] W fun e W' => (∃ v, e = .returned v) ∧ Jx W' := by
  have HJ := Lib.hid hJ
  have HS := Lib.hid hS
  have HY := Lib.hid hY
  have H0 := Lib.hid h0
  have HB := Lib.hid hbx
  clear hJ hS hY h0 hbx
  refine callsIn_of_wp Tryd.func72 rfl trivial ?_ rfl
  simp only [Tryd.ntmps72, List.size_toArray, List.length_cons, List.length_nil, Nat.reduceAdd, Nat.reduceSub, Array.replicate_succ, Array.replicate_zero, List.push_toArray, List.append_toArray, List.nil_append, List.cons_append]
  gi_wp2
  gi_loopw [] (fun wr => ∃ t : Nat, t ≤ L.length / 64 ∧ J t wr ∧ wr.heap[Bx]? = some (.cells #[sliceT G q c L t] 29 (0, 0))) (fun wr => match wr.cell? ⟨Bx, 0, none⟩ with | some (.slice _ k _) => k | _ => 0)
  case atStart => exact ⟨0, Nat.zero_le _, H0.out, HB.out⟩
  case round =>
    obtain ⟨t, ht, hj, hb⟩ := hrel
    have hcb : wr.cell? ⟨Bx, 0, none⟩ = some (.slice (some ⟨G, offT q c t, none⟩) (L.length - 64 * t) (c - 64 * t)) := cell_of_row wr Bx 0 _ _ _ hb
    obtain ⟨len, hlen⟩ : ∃ len, L.length - 64 * t = len := ⟨_, rfl⟩
    obtain ⟨cap, hcap⟩ : ∃ cap, c - 64 * t = cap := ⟨_, rfl⟩
    obtain ⟨off, hoff⟩ : ∃ off, offT q c t = off := ⟨_, rfl⟩
    rw [hlen, hcap, hoff] at hcb
    have hpc := part_conv G q c (part L t).length L t rfl wr hc (HS.out t wr hj)
    have hpl := part_length L t
    rw [hoff, hcap, hpl, hlen] at hpc
    have HCB := Lib.hid hcb
    have HJW := Lib.hid hj
    have HBW := Lib.hid hb
    have HC := Lib.hid hcap
    have HO := Lib.hid hoff
    have HL := Lib.hid hlen
    by_cases hlt : 64 ≤ len
    · have g1 : (64 : Int) ≤ (len : Int) := by omega
      have hs1 := slice58_to G off len cap hlt (by omega) wr
      rw [show min 64 len = 64 by omega] at hpc
      obtain ⟨fn, tmps, assign, body, hy, hR⟩ := HY.out t wr (by omega) hj
      have hX := Lib.hid hR
      clear hR hj hb hpl hcap hoff hlen
      gi_wp2
      refine ⟨fun h => absurd h (by decide), ?_⟩
      refine hX.out.mono ?_
      rintro e W3 (⟨rfl, hN, hJ3, hk3⟩ | ⟨rfl, hJx3⟩)
      · have HJ3 := Lib.hid hJ3
        have hb3 := hk3.trans HBW.out
        have hc3 : W3.cell? ⟨Bx, 0, none⟩ = some (.slice (some ⟨G, off, none⟩) len cap) := by
          rw [cell_of_row W3 Bx 0 _ _ _ hb3, ← HC.out, ← HO.out, ← HL.out]; rfl
        have hf3 := frozen_of_row W3 Bx 0 _ _ hb3
        have hs2 := slice58_from G off len cap hlt (by have := HC.out; have := HL.out; omega) W3
        have HB3 := Lib.hid hb3
        clear hJ3 hk3 hb3 hy hcb hpc hs1 g1
        gi_wp2
        have ev : (Value.slice (some ⟨G, if cap = 64 then off else off + 64, none⟩) (len - 64) (cap - 64)) = sliceT G q c L (t + 1) := by
          have h1 := HC.out; have h2 := HL.out; have h3 := HO.out
          have hn := offT_next q c t (by omega)
          rw [h1, h3] at hn
          unfold sliceT
          rw [← hn, show L.length - 64 * (t + 1) = len - 64 by omega, show c - 64 * (t + 1) = cap - 64 by omega]
        rw [ev, HCB.out]
        have e := heap_setCell_same W3 Bx 0 _ _ (sliceT G q c L (t + 1)) HB3.out
        refine ⟨⟨t + 1, by omega, HJ.out (t + 1) W3 _ HJ3.out (gB_setCell (gB_refl W3 Bx) 0 _), e⟩, ?_⟩
        rw [cell_of_row _ Bx 0 _ _ _ e]
        have h2 := HL.out
        show L.length - 64 * (t + 1) < len
        omega
      · have HJx3 := Lib.hid hJx3
        clear hJx3 hy hcb hpc hs1 g1
        gi_wp2
        refine bodyPost_ret (results_none rfl _ _ _) rfl ?_
        exact ⟨⟨_, rfl⟩, HJx3.out⟩
    · have g1 : ¬ (64 : Int) ≤ (len : Int) := by omega
      have htN : t = L.length / 64 := by omega
      rw [show min 64 len = len by omega] at hpc
      obtain ⟨fn, tmps, assign, body, hy, hR⟩ := HY.out t wr (by omega) hj
      have hX := Lib.hid hR
      have HT := Lib.hid htN
      clear hR hj hb hpl hcap hoff hlen htN
      gi_wp2
      refine ⟨fun h => absurd h (by decide), ?_⟩
      refine hX.out.mono ?_
      rintro e W3 (⟨rfl, hN, _, _⟩ | ⟨rfl, hJx3⟩)
      · exact absurd HT.out (by omega)
      · have HJx3 := Lib.hid hJx3
        clear hJx3 hy hcb hpc g1
        gi_wp2
        go_end0
        exact ⟨⟨_, rfl⟩, HJx3.out⟩
theorem cuts_box (n : Nat) (L : List UInt8) (G q c Bx : Nat) (hc : L.length ≤ c) (hG : G ≠ Bx) :
    SeqBox Fence.wide n Tryd.prog 72 #[.pointer (some ⟨Bx, 0, none⟩)] (fun t => #[.string ⟨(part L t).toArray⟩]) (L.length / 64) Bx (.cells #[sliceT G q c L 0] 29 (0, 0)) (Lies G q L) :=
  fun l J Jx W hJ hS hY hbx h0 => cuts_in n L G q c Bx hc hG l J Jx W hJ hS hY hbx h0
end Go.Proofs.YthojdcmkajmdjaaDoor
