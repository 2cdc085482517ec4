/- The reference tells that two rows of the same scalars are the same. Conditions: both rows lie whole. -/
import Derived.Test.YtfpcjdopfodfnaaGreatDoorTwi
set_option maxRecDepth 100000
namespace Go.Proofs.YtfpcjdopfodfnaaGreatDoor
open Go.RowKit Go.Shelf
open Scs
open Go.Sort (HoldsK)
theorem Sl.at {w : World} {p : Option Addr} {l : Array Sc} (h : Sl w p l) (k : Nat) (hk : k < l.size) :
    ∃ blk off, p = some ⟨blk, off, none⟩ ∧ blk < w.heap.size ∧ w.cell? ⟨blk, off + k * 3, none⟩ = some (.int .i64 l[k]!.1) ∧ w.cell? ⟨blk, off + k * 3 + 1, none⟩ = some (.int .i64 l[k]!.2.1) ∧ w.cell? ⟨blk, off + k * 3 + 2, none⟩ = some (.string l[k]!.2.2) := by
  rcases h.lies with h0 | ⟨blk, off, rfl, hb, hh⟩
  · omega
  · exact ⟨blk, off, rfl, hb, Sl.cells hh k hk⟩
theorem same_self (x : Sc) : sameB x.1 x.2.1 x.2.2 x.1 x.2.1 x.2.2 = true := by rw [sameB_iff]; simp
theorem ne_sc (x : Sc) (w : World) :
    (binOp .neq 26 (.agg #[.int .i64 x.1, .int .i64 x.2.1, .string x.2.2]) (.agg #[.int .i64 x.1, .int .i64 x.2.1, .string x.2.2])).run Tryz.prog w = .ok (.bool false) w := by
  have h := equal_sc x.1 x.2.1 x.2.2 x.1 x.2.1 x.2.2 w
  rw [same_self] at h
  rw [run_neq_struct, h]
  rfl
set_option maxHeartbeats 4000000 in
theorem Same_yes (d : Array Sc) (p q : Option Addr) (c1 c2 : Nat) (w : World) (hp : Sl w p d) (hq : Sl w q d) :
    Calls Tryz.prog 23 #[.slice p d.size c1, .slice q d.size c2] w fun e w' => e = .returned (.bool true) ∧ Below w.heap.size w w' := by
  have HP := Lib.hid hp
  have HQ := Lib.hid hq
  have hnn : ¬ ((d.size : Int) ≠ (d.size : Int)) := by simp
  have hsm := hp.small
  obtain ⟨n, hn⟩ : ∃ n, d.size = n := ⟨_, rfl⟩
  rw [hn] at hsm hnn ⊢
  have HN := Lib.hid hn
  clear hp hq hn
  go_enter Tryz.func23, Tryz.ntmps23
  go_wp2_with fail
  go_loopw [5] (fun i wr => ∃ k : Nat, k ≤ n ∧ i = .int .i64 k ∧ Below w.heap.size w wr) (fun i _ => n - (intOf i).toNat)
  case atStart => exact ⟨0, by omega, rfl, Below.refl _ _⟩
  case round =>
    obtain ⟨k, hk, rfl, hb⟩ := hrel
    have HB := Lib.hid hb
    clear hb
    by_cases hlt : k < n
    · have i1 : (k : Int) < (n : Int) := by omega
      obtain ⟨g, o, rfl, hg, hc0, hc1, hc2⟩ := (HP.out.at k (by rw [HN.out]; exact hlt))
      obtain ⟨g2, o2, rfl, hg2, hd0, hd1, hd2⟩ := (HQ.out.at k (by rw [HN.out]; exact hlt))
      have x0 := (HB.out.cell (p := ⟨g, o + k * 3, none⟩) hg).trans hc0
      have x1 := (HB.out.cell (p := ⟨g, o + k * 3 + 1, none⟩) hg).trans hc1
      have x2 := (HB.out.cell (p := ⟨g, o + k * 3 + 2, none⟩) hg).trans hc2
      have y0 := (HB.out.cell (p := ⟨g2, o2 + k * 3, none⟩) hg2).trans hd0
      have y1 := (HB.out.cell (p := ⟨g2, o2 + k * 3 + 1, none⟩) hg2).trans hd1
      have y2 := (HB.out.cell (p := ⟨g2, o2 + k * 3 + 2, none⟩) hg2).trans hd2
      obtain ⟨x, hx⟩ : ∃ x, d[k]! = x := ⟨_, rfl⟩
      rw [hx] at x0 x1 x2 y0 y1 y2
      have q := ne_sc x
      have qg := guard_sc
      clear hc0 hc1 hc2 hd0 hd1 hd2 hx
      go_wp2_with fail
      go_region
      go_wp2_with fail
      go_roundw
      case rel => exact ⟨k + 1, by omega, by go_num, HB.out.drew⟩
      case measure => simp [intOf]; omega
    · have i1 : ¬ (k : Int) < (n : Int) := by omega
      go_wp2
      go_ret
      exact ⟨rfl, HB.out⟩
end Go.Proofs.YtfpcjdopfodfnaaGreatDoor
