/- The package's iterator yields a graph's nodes by their places. Conditions: the graph lies as it is. -/
import Derived.Test.YtfpcjdopfodfnaaGreatDoorAri
set_option maxRecDepth 100000
namespace Go.Proofs.YtfpcjdopfodfnaaGreatDoor
open Go.RowKit Go.Shelf
open Scs Seqo
open Go.Sort (HoldsK)
attribute [local go_sem] Oper.semAt_some
set_option maxHeartbeats 4000000 in
theorem views_in (n : Nat) (L : Array Fn) (p : Option Addr) (cap : Nat) (l Bs : Nat) (J : Nat → World → Prop) (Jx : World → Prop) (W : World)
    (hJ : ∀ t A B r, J t A → A.grownBy B (some r) → W.heap.size ≤ r → J t B)
    (hS : ∀ t A, J t A → A.cell? ⟨Bs, 1, none⟩ = some (.slice p L.size cap) ∧ Gl A p L)
    (hY : ∀ t A, t < L.size → J t A → W.heap.size ≤ A.heap.size → YieldAt Fence.wide (n - 1) Tryz.prog l #[.int .i64 t, vV L[t]! L.size] A fun e B =>
      (e = .returned (.bool true) ∧ J (t + 1) B ∧ Keeps W.heap.size A B) ∨ (e = .returned (.bool false) ∧ Jx B))
    (h0 : J 0 W) :
    CallsIn Fence.wide n Tryz.prog 58 #[.func (.yield l) #[] #[], .pointer (some ⟨Bs, 0, none⟩)] W fun e W' => (∃ v, e = .returned v) ∧ (J L.size W' ∨ Jx W') := by
  obtain ⟨hc0, hs0⟩ := hS 0 W h0
  have hsm := hs0.small
  have HS := Lib.hid hS
  have HJ := Lib.hid hJ
  have HY := Lib.hid hY
  have H0 := Lib.hid h0
  clear hS hY h0 hJ hs0
  refine callsIn_of_wp Tryz.func58 rfl trivial ?_ rfl
  simp only [Tryz.ntmps58, List.size_toArray, List.length_cons, List.length_nil, Nat.reduceAdd, Nat.reduceSub, Array.replicate_succ, Array.replicate_zero, List.push_toArray, List.append_toArray, List.nil_append, List.cons_append]
  gi_wp2
  gi_loopw [8, 3, 4] (fun i _ _ wr => ∃ t : Nat, t ≤ L.size ∧ i = .int .i64 t ∧ J t wr ∧ W.heap.size ≤ wr.heap.size) (fun i _ _ _ => L.size - (intOf i).toNat)
  case atStart => exact ⟨0, by omega, rfl, H0.out, Nat.le_refl _⟩
  case round =>
    obtain ⟨t, ht, rfl, hj, hz⟩ := hrel
    clear hc0
    obtain ⟨hcs, hs⟩ := HS.out t wr hj
    by_cases hlt : t < L.size
    · have hlti : (t : Int) < (L.size : Int) := by omega
      obtain ⟨blk, off, rfl, hbl, c0, c1, c2, c3, c4, c5⟩ := hs.at t hlt
      obtain ⟨f, hf⟩ : ∃ f, L[t]! = f := ⟨_, rfl⟩
      rw [hf] at c0 c1 c2 c3 c4 c5
      have hj2 := HJ.out t wr (wr.alloc (.cells #[.int .i64 f.k, .int .i64 f.x.1, .int .i64 f.x.2.1, .string f.x.2.2, .slice f.pk f.keys.size f.ck, .slice f.pd f.kids.size f.cd] 47)) wr.heap.size hj (gB_alloc (gB_refl wr _) _) hz
      obtain ⟨hcs2, _⟩ := HS.out t _ hj2
      obtain ⟨fn, tmps, assign, body, hy, hR⟩ := HY.out t _ hlt hj2 (by simp; omega)
      rw [hf] at hy
      unfold vV at hy
      have HR := Lib.hid hR
      clear hj hR hs hf hj2
      gi_wp2
      refine ⟨fun h => absurd h (by decide), ?_⟩
      refine HR.out.mono ?_
      rintro e W3 (⟨rfl, hJ3, hk3⟩ | ⟨rfl, hJx3⟩)
      · have HJ3 := Lib.hid hJ3
        have hz3 : W.heap.size ≤ W3.heap.size := by have h1 := hk3.1; simp only [World.size_alloc] at h1; omega
        clear hJ3 hy c0 c1 c2 c3 c4 c5 hk3 hcs hcs2
        gi_wp2
        go_roundw
        case rel => exact ⟨t + 1, by omega, by go_num, HJ3.out, hz3⟩
        case measure => simp [intOf]; omega
      · have HJx3 := Lib.hid hJx3
        clear hJx3 hy c0 c1 c2 c3 c4 c5 hcs hcs2
        gi_wp2
        refine bodyPost_ret (results_none rfl _ _ _) rfl ?_
        exact ⟨⟨_, rfl⟩, .inr HJx3.out⟩
    · have htN : t = L.size := by omega
      have HJW := Lib.hid hj
      have HT := Lib.hid htN
      clear hj htN hs hsm hcs
      gi_wp2
      go_end0
      exact ⟨⟨_, rfl⟩, .inl (by rw [← HT.out]; exact HJW.out)⟩
theorem views_run (n : Nat) (L : Array Fn) (p : Option Addr) (cap : Nat) (Bs : Nat) :
    SeqOwn Fence.wide n Tryz.prog 58 #[.pointer (some ⟨Bs, 0, none⟩)] (fun t => #[.int .i64 t, vV L[t]! L.size]) L.size (fun A => A.cell? ⟨Bs, 1, none⟩ = some (.slice p L.size cap) ∧ Gl A p L) :=
  fun l J Jx W hJ hS hY h0 => views_in n L p cap l Bs J Jx W hJ hS hY h0
theorem views_any (root : Int) (p : Option Addr) (m c : Nat) (w : World) : Calls Tryz.prog 41 #[.agg #[.int .i64 root, .slice p m c]] w fun e w' => e = .returned (.func (.func 58) #[] #[.pointer (some ⟨w.heap.size, 0, none⟩)]) ∧ w' = w.alloc (.cells #[.int .i64 root, .slice p m c] 24) := by
  go_enter Tryz.func41, Tryz.ntmps41
  go_wp2
  go_ret
  exact ⟨rfl, rfl⟩
end Go.Proofs.YtfpcjdopfodfnaaGreatDoor
