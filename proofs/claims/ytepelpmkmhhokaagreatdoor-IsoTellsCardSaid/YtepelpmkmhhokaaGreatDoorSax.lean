/- The reference tells that two rows of the same scalars are the same. Conditions: both rows lie whole. The reference tells whether a scalar is there more than once. Conditions: the row lies whole. -/
import Derived.Test.YtepelpmkmhhokaaGreatDoorMtw
set_option maxRecDepth 100000
namespace Go.Proofs.YtepelpmkmhhokaaGreatDoor
open Go.RowKit Go.Shelf
open Scs
open Go.Sort (HoldsK)
theorem Sl.at {w : World} {p : Option Addr} {l : Array Sc} (h : Sl w p l) (k : Nat) (hk : k < l.size) :
    ∃ blk off, p = some ⟨blk, off, none⟩ ∧ blk < w.heap.size ∧ w.cell? ⟨blk, off + k * 3, none⟩ = some (.int .i64 l[k]!.1) ∧ w.cell? ⟨blk, off + k * 3 + 1, none⟩ = some (.int .i64 l[k]!.2.1) ∧ w.cell? ⟨blk, off + k * 3 + 2, none⟩ = some (.string l[k]!.2.2) := by
  rcases h.lies with h0 | ⟨blk, off, rfl, hb, hh⟩
  · omega
  · exact ⟨blk, off, rfl, hb, Sl.cells hh k hk⟩
theorem same_self (x : Sc) : sameB x.1 x.2.1 x.2.2 x.1 x.2.1 x.2.2 = true := by rw [sameB_iff]; simp
theorem ne_sc (x : Sc) (w : World) :
    (binOp .neq 48 (.agg #[.int .i64 x.1, .int .i64 x.2.1, .string x.2.2]) (.agg #[.int .i64 x.1, .int .i64 x.2.1, .string x.2.2])).run Tryz.prog w = .ok (.bool false) w := by
  have h := equal_sc x.1 x.2.1 x.2.2 x.1 x.2.1 x.2.2 w
  rw [same_self] at h
  rw [run_neq_struct, h]
  rfl
set_option maxHeartbeats 4000000 in
theorem Same_yes (d : Array Sc) (p q : Option Addr) (c1 c2 : Nat) (w : World) (hp : Sl w p d) (hq : Sl w q d) :
    Calls Tryz.prog 36 #[.slice p d.size c1, .slice q d.size c2] w fun e w' => e = .returned (.bool true) ∧ Below w.heap.size w w' := by
  have HP := Lib.hid hp
  have HQ := Lib.hid hq
  have hnn : ¬ ((d.size : Int) ≠ (d.size : Int)) := by simp
  have hsm := hp.small
  obtain ⟨n, hn⟩ : ∃ n, d.size = n := ⟨_, rfl⟩
  rw [hn] at hsm hnn ⊢
  have HN := Lib.hid hn
  clear hp hq hn
  go_enter Tryz.func36, Tryz.ntmps36
  go_wp2_with fail
  go_loopw [5] (fun i wr => ∃ k : Nat, k ≤ n ∧ i = .int .i64 k ∧ Below w.heap.size w wr) (fun i _ => n - (intOf i).toNat)
  case atStart => exact ⟨0, by omega, rfl, Below.refl _ _⟩
  case round =>
    obtain ⟨k, hk, rfl, hb⟩ := hrel
    have HB := Lib.hid hb
    clear hb
    by_cases hlt : k < n
    · have i1 : (k : Int) < (n : Int) := by omega
      obtain ⟨g, o, rfl, hg, hc0, hc1, hc2⟩ := (HP.out.at k (by rw [HN.out]; exact hlt))
      obtain ⟨g2, o2, rfl, hg2, hd0, hd1, hd2⟩ := (HQ.out.at k (by rw [HN.out]; exact hlt))
      have x0 := (HB.out.cell (p := ⟨g, o + k * 3, none⟩) hg).trans hc0
      have x1 := (HB.out.cell (p := ⟨g, o + k * 3 + 1, none⟩) hg).trans hc1
      have x2 := (HB.out.cell (p := ⟨g, o + k * 3 + 2, none⟩) hg).trans hc2
      have y0 := (HB.out.cell (p := ⟨g2, o2 + k * 3, none⟩) hg2).trans hd0
      have y1 := (HB.out.cell (p := ⟨g2, o2 + k * 3 + 1, none⟩) hg2).trans hd1
      have y2 := (HB.out.cell (p := ⟨g2, o2 + k * 3 + 2, none⟩) hg2).trans hd2
      obtain ⟨x, hx⟩ : ∃ x, d[k]! = x := ⟨_, rfl⟩
      rw [hx] at x0 x1 x2 y0 y1 y2
      have q := ne_sc x
      have qg := guard_sc
      clear hc0 hc1 hc2 hd0 hd1 hd2 hx
      go_wp2_with fail
      go_region
      go_wp2_with fail
      go_roundw
      case rel => exact ⟨k + 1, by omega, by go_num, HB.out.drew⟩
      case measure => simp [intOf]; omega
    · have i1 : ¬ (k : Int) < (n : Int) := by omega
      go_wp2
      go_ret
      exact ⟨rfl, HB.out⟩
end Go.Proofs.YtepelpmkmhhokaaGreatDoor

set_option maxRecDepth 100000
namespace Go.Proofs.YtepelpmkmhhokaaGreatDoor
open Go.RowKit Go.Shelf
open Scs
open Go.Sort (HoldsK)
theorem twice_pair (d : Array Sc) (j k : Nat) (hj : j < k) (hk : k < d.size) (h : d[j]! = d[k]!) : twiceB d.toList = true := by
  rw [twice_iff]
  intro hn
  have h1 := List.pairwise_iff_getElem.1 hn j k (by rw [Array.length_toList]; omega) (by rw [Array.length_toList]; exact hk) hj
  simp only [Array.getElem_toList] at h1
  rw [getElem!_pos d j (by omega), getElem!_pos d k hk] at h
  exact h1 h
theorem twice_none (d : Array Sc) (h : ∀ k, k < d.size → ∀ j, j < k → d[j]! ≠ d[k]!) : twiceB d.toList = false := by
  refine twice_nodup ?_
  refine List.pairwise_iff_getElem.2 fun i j hi hj hij => ?_
  rw [Array.length_toList] at hi hj
  have h1 := h j hj i hij
  rw [getElem!_pos d i (by omega), getElem!_pos d j hj] at h1
  simpa using h1
theorem eq_get (x y : Sc) (w : World) :
    (binOp .eql 48 (.agg #[.int .i64 x.1, .int .i64 x.2.1, .string x.2.2]) (.agg #[.int .i64 y.1, .int .i64 y.2.1, .string y.2.2])).run Tryz.prog w = .ok (.bool (decide (x = y))) w := by
  have h := eq_sc x.1 x.2.1 x.2.2 y.1 y.2.1 y.2.2 w
  rw [sameB_iff] at h
  exact h
set_option maxHeartbeats 4000000 in
theorem Twice_ref (d : Array Sc) (p : Option Addr) (c1 : Nat) (w : World) (hp : Sl w p d) :
    Calls Tryz.prog 68 #[.slice p d.size c1] w fun e w' => e = .returned (.bool (twiceB d.toList)) ∧ Below w.heap.size w w' := by
  have HP := Lib.hid hp
  have hsm := hp.small
  have hpair := twice_pair d
  have hnone := twice_none d
  obtain ⟨B, hB⟩ : ∃ B, twiceB d.toList = B := ⟨_, rfl⟩
  obtain ⟨n, hn⟩ : ∃ n, d.size = n := ⟨_, rfl⟩
  rw [hB] at hpair hnone ⊢
  rw [hn] at hsm hpair hnone ⊢
  have HN := Lib.hid hn
  have HPA := Lib.hid hpair
  have HNO := Lib.hid hnone
  clear hp hn hB hpair hnone
  go_enter Tryz.func68, Tryz.ntmps68
  go_wp2_with fail
  go_loopw [3] (fun i wr => ∃ k : Nat, k ≤ n ∧ i = .int .i64 k ∧ (∀ k', k' < k → ∀ j, j < k' → d[j]! ≠ d[k']!) ∧ Below w.heap.size w wr) (fun i _ => n - (intOf i).toNat)
  case atStart => exact ⟨0, by omega, rfl, fun _ h => by omega, Below.refl _ _⟩
  case round =>
    obtain ⟨k, hk, rfl, hno, hb⟩ := hrel
    have HB := Lib.hid hb
    have HO := Lib.hid hno
    clear hb hno
    by_cases hlt : k < n
    · have i1 : (k : Int) < (n : Int) := by omega
      obtain ⟨g, o, rfl, hg, hc0, hc1, hc2⟩ := (HP.out.at k (by rw [HN.out]; exact hlt))
      go_wp2_with fail
      go_loopw [4] (fun i wq => ∃ j : Nat, j ≤ k ∧ i = .int .i64 j ∧ (∀ j', j' < j → d[j']! ≠ d[k]!) ∧ Below w.heap.size w wq) (fun i _ => k - (intOf i).toNat)
      case atStart => exact ⟨0, by omega, rfl, fun _ h => by omega, HB.out⟩
      case round =>
        obtain ⟨j, hj, rfl, hno, hb⟩ := hrel
        have HB2 := Lib.hid hb
        have HO2 := Lib.hid hno
        clear hb hno
        by_cases hjt : j < k
        · have i2 : (j : Int) < (k : Int) := by omega
          obtain ⟨g2, o2, he2, hg2, hd0, hd1, hd2⟩ := (HP.out.at j (by rw [HN.out]; omega))
          obtain ⟨rfl, rfl⟩ : g = g2 ∧ o = o2 := by
            injection he2 with h
            injection h with h1 h2
            exact ⟨h1, h2⟩
          have x0 := (HB2.out.cell (p := ⟨g, o + k * 3, none⟩) hg).trans hc0
          have x1 := (HB2.out.cell (p := ⟨g, o + k * 3 + 1, none⟩) hg).trans hc1
          have x2 := (HB2.out.cell (p := ⟨g, o + k * 3 + 2, none⟩) hg).trans hc2
          have y0 := (HB2.out.cell (p := ⟨g, o + j * 3, none⟩) hg).trans hd0
          have y1 := (HB2.out.cell (p := ⟨g, o + j * 3 + 1, none⟩) hg).trans hd1
          have y2 := (HB2.out.cell (p := ⟨g, o + j * 3 + 2, none⟩) hg).trans hd2
          have hj1 : (j : Int) < (n : Int) := by omega
          have q := eq_get d[k]! d[j]!
          have qg := guard_sc
          by_cases hq : d[j]! = d[k]!
          · rw [decide_eq_true hq.symm] at q
            have hBt := HPA.out j k hjt hlt hq
            clear hc0 hc1 hc2 hd0 hd1 hd2 he2
            generalize d[k]! = x at x0 x1 x2 q
            generalize d[j]! = y at y0 y1 y2 q
            clear hq
            go_wp2_with fail
            go_region
            all_goals
              go_wp2_with fail
              go_ret
              exact ⟨by rw [hBt]; rfl, HB2.out.drew⟩
          · have hq' := Lib.hid hq
            rw [decide_eq_false (fun h => hq h.symm)] at q
            clear hc0 hc1 hc2 hd0 hd1 hd2 he2 hq
            generalize hx : d[k]! = x at x0 x1 x2 q
            generalize hy : d[j]! = y at y0 y1 y2 q
            have hxy := Lib.hid hx
            have hyy := Lib.hid hy
            clear hx hy
            go_wp2_with fail
            go_region
            go_wp2_with fail
            go_roundw
            case rel =>
              refine ⟨j + 1, by omega, by go_num, fun j' hj' => ?_, HB2.out.drew⟩
              rcases Nat.lt_succ_iff_lt_or_eq.1 hj' with h | rfl
              · rw [← hxy.out]; exact HO2.out j' h
              · rw [← hxy.out]; exact hq'.out
            case measure => simp [intOf]; omega
        · have i2 : ¬ (j : Int) < (k : Int) := by omega
          clear hc0 hc1 hc2
          go_wp2_with fail
          go_roundw
          case rel =>
            refine ⟨k + 1, by omega, by go_num, fun k' hk' j' hj' => ?_, HB2.out⟩
            rcases Nat.lt_succ_iff_lt_or_eq.1 hk' with h | rfl
            · exact HO.out k' h j' hj'
            · exact HO2.out j' (by omega)
          case measure => simp [intOf]; omega
    · have i1 : ¬ (k : Int) < (n : Int) := by omega
      go_wp2
      go_ret
      exact ⟨by rw [HNO.out fun k' hk' => HO.out k' (by omega)]; rfl, HB.out⟩
end Go.Proofs.YtepelpmkmhhokaaGreatDoor
