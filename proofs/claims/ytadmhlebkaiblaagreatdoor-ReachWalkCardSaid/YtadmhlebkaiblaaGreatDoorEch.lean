/- The package's iterator yields a list's scalars, in their order, and comes to an end. Conditions: the list lies as it is. -/
import Derived.Test.YtadmhlebkaiblaaGreatDoorOrdx
import Derived.Test.YtadmhlebkaiblaaGreatDoorOwx
import Derived.Shelf.GgSortFunc.RowK
import Derived.Shelf.Abstract
import Derived.Shelf.RegionOpen
import Derived.WalkKit
import Derived.OwnWalkIn
import Derived.TacticsInMore
import Derived.LoopNIn
import Derived.LoopIn
import Derived.ControlIn
import Derived.WalkLawsBesides
import Derived.WalkSpells
import Derived.Outline
import Derived.Lib.OthersKept
set_option maxRecDepth 100000
namespace Go.Proofs.YtadmhlebkaiblaaGreatDoor
open Go.RowKit Go.Shelf
open Go.Sort (HoldsK)
open Scs Seqo
attribute [local go_sem] Oper.semAt_some
/-- a slice of scalars, as it lies -/
structure Sl (w : World) (p : Option Addr) (l : Array Sc) : Prop where
  small : l.size ≤ 1000000
  short : ∀ t, t < l.size → l[t]!.2.2.size ≤ 1000000
  lies : l.size = 0 ∨ ∃ blk off, p = some ⟨blk, off, none⟩ ∧ blk < w.heap.size ∧ HoldsK encS 3 w blk off l
theorem Sl.cells {w : World} {blk off : Nat} {l : Array Sc} (h : HoldsK encS 3 w blk off l) (k : Nat) (hk : k < l.size) :
    w.cell? ⟨blk, off + k * 3, none⟩ = some (.int .i64 l[k]!.1) ∧ w.cell? ⟨blk, off + k * 3 + 1, none⟩ = some (.int .i64 l[k]!.2.1) ∧ w.cell? ⟨blk, off + k * 3 + 2, none⟩ = some (.string l[k]!.2.2) :=
  ⟨(h.cell (c := 0) hk (by decide)).1, (h.cell (c := 1) hk (by decide)).1, (h.cell (c := 2) hk (by decide)).1⟩
set_option maxHeartbeats 2000000 in
theorem each_in (n : Nat) (d : Array Sc) (p : Option Addr) (cap : Nat) (l Bs : Nat) (J : Nat → World → Prop) (Jx : World → Prop) (W : World)
    (hJ : ∀ t A B r, J t A → A.grownBy B (some r) → W.heap.size ≤ r → J t B)
    (hS : ∀ t A, J t A → A.cell? ⟨Bs, 0, none⟩ = some (.slice p d.size cap) ∧ Sl A p d)
    (hY : ∀ t A, t < d.size → J t A → W.heap.size ≤ A.heap.size → YieldAt Fence.wide (n - 1) Tryz.prog l #[aggS d[t]!] A fun e B =>
      (e = .returned (.bool true) ∧ J (t + 1) B ∧ Keeps W.heap.size A B) ∨ (e = .returned (.bool false) ∧ Jx B))
    (h0 : J 0 W) :
    CallsIn Fence.wide n Tryz.prog 85 #[.func (.yield l) #[] #[], .pointer (some ⟨Bs, 0, none⟩)] W fun e W' => (∃ v, e = .returned v) ∧ (J d.size W' ∨ Jx W') := by
  obtain ⟨hc0, hs0⟩ := hS 0 W h0
  have hsm := hs0.small
  have HS := Lib.hid hS
  have HJ := Lib.hid hJ
  have HY := Lib.hid hY
  have H0 := Lib.hid h0
  clear hS hY h0 hJ hs0
  refine callsIn_of_wp Tryz.func85 rfl trivial ?_ rfl
  simp only [Tryz.ntmps85, List.size_toArray, List.length_cons, List.length_nil, Nat.reduceAdd, Nat.reduceSub, Array.replicate_succ, Array.replicate_zero, List.push_toArray, List.append_toArray, List.nil_append, List.cons_append]
  gi_wp2
  gi_loopw [7] (fun i wr => ∃ t : Nat, t ≤ d.size ∧ i = .int .i64 t ∧ J t wr ∧ W.heap.size ≤ wr.heap.size) (fun i _ => d.size - (intOf i).toNat)
  case atStart => exact ⟨0, by omega, rfl, H0.out, Nat.le_refl _⟩
  case round =>
    obtain ⟨t, ht, rfl, hj, hz⟩ := hrel
    clear hc0
    obtain ⟨_, hs⟩ := HS.out t wr hj
    by_cases hlt : t < d.size
    · have hlti : (t : Int) < (d.size : Int) := by omega
      rcases hs.lies with h | ⟨blk, off, rfl, hbl, hH⟩
      · omega
      obtain ⟨c0, c1, c2⟩ := Sl.cells hH t hlt
      obtain ⟨x, hx⟩ : ∃ x, d[t]! = x := ⟨_, rfl⟩
      rw [hx] at c0 c1 c2
      have hj2 := HJ.out t wr (wr.alloc (.cells #[.int .i64 x.1, .int .i64 x.2.1, .string x.2.2] 46)) wr.heap.size hj (gB_alloc (gB_refl wr _) _) hz
      obtain ⟨fn, tmps, assign, body, hy, hR⟩ := HY.out t _ hlt hj2 (by simp; omega)
      rw [hx] at hy
      unfold aggS at hy
      have HR := Lib.hid hR
      clear hj hR hH hs hx hj2
      gi_wp2
      refine ⟨fun h => absurd h (by decide), ?_⟩
      refine HR.out.mono ?_
      rintro e W3 (⟨rfl, hJ3, hk3⟩ | ⟨rfl, hJx3⟩)
      · have HJ3 := Lib.hid hJ3
        have hz3 : W.heap.size ≤ W3.heap.size := by have h1 := hk3.1; simp only [World.size_alloc] at h1; omega
        clear hJ3 hy c0 c1 c2 hk3
        gi_wp2
        go_roundw
        case rel => exact ⟨t + 1, by omega, by go_num, HJ3.out, hz3⟩
        case measure => simp [intOf]; omega
      · have HJx3 := Lib.hid hJx3
        clear hJx3 hy c0 c1 c2
        gi_wp2
        refine bodyPost_ret (results_none rfl _ _ _) rfl ?_
        exact ⟨⟨_, rfl⟩, .inr HJx3.out⟩
    · have htN : t = d.size := by omega
      have HJW := Lib.hid hj
      have HT := Lib.hid htN
      clear hj htN hs hsm
      gi_wp2
      go_end0
      exact ⟨⟨_, rfl⟩, .inl (by rw [← HT.out]; exact HJW.out)⟩
theorem each_run (n : Nat) (d : Array Sc) (p : Option Addr) (cap : Nat) (Bs : Nat) :
    SeqOwn Fence.wide n Tryz.prog 85 #[.pointer (some ⟨Bs, 0, none⟩)] (fun t => #[aggS d[t]!]) d.size (fun A => A.cell? ⟨Bs, 0, none⟩ = some (.slice p d.size cap) ∧ Sl A p d) :=
  fun l J Jx W hJ hS hY h0 => each_in n d p cap l Bs J Jx W hJ hS hY h0
theorem each_any (p : Option Addr) (m c : Nat) (w : World) : Calls Tryz.prog 66 #[.slice p m c] w fun e w' => e = .returned (.func (.func 85) #[] #[.pointer (some ⟨w.heap.size, 0, none⟩)]) ∧ w' = w.alloc (.cells #[.slice p m c] 42) := by
  go_enter Tryz.func66, Tryz.ntmps66
  go_wp2
  go_ret
  exact ⟨rfl, rfl⟩
theorem HoldsK_of {w w' : World} {blk off : Nat} {d : Array Sc} (h : HoldsK encS 3 w blk off d) (hb : w'.heap[blk]? = w.heap[blk]?) : HoldsK encS 3 w' blk off d := fun j hj =>
  ⟨(World.cell?_of_block (w := w) hb).trans (h j hj).1, (World.frozen?_of_block (w := w) hb).trans (h j hj).2⟩
theorem Sl.below {w w' : World} {p : Option Addr} {d : Array Sc} (h : Sl w p d) (hb : Below w.heap.size w w') : Sl w' p d := by
  refine ⟨h.small, h.short, ?_⟩
  rcases h.lies with h0 | ⟨blk, off, hp, hbl, hH⟩
  · exact .inl h0
  · exact .inr ⟨blk, off, hp, Nat.lt_of_lt_of_le hbl hb.size, HoldsK_of hH (hb.block blk hbl)⟩
theorem Sl.grown {A B : World} {p : Option Addr} {d : Array Sc} {r : Nat} (h : Sl A p d) (hg : A.grownBy B (some r)) (hw : ∀ blk off, p = some ⟨blk, off, none⟩ → blk ≠ r) : Sl B p d := by
  refine ⟨h.small, h.short, ?_⟩
  rcases h.lies with h0 | ⟨blk, off, hp, hbl, hH⟩
  · exact .inl h0
  · exact .inr ⟨blk, off, hp, Nat.lt_of_lt_of_le hbl hg.size, HoldsK_of hH (hg.block blk hbl (fun e => hw blk off hp (by first | exact Option.some.inj e | exact (Option.some.inj e).symm)))⟩
end Go.Proofs.YtadmhlebkaiblaaGreatDoor
