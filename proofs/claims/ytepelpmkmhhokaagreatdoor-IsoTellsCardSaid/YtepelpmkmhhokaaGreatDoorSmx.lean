/- A small graph is chapter 7's cut of one, or none at all. Conditions: the graph lies. Whether two rows of pairs are the same. Conditions: both rows lie whole. The statements' own example holds. Conditions: the surroundings. -/
import Derived.Test.YtepelpmkmhhokaaGreatDoorAcu
import Derived.Test.YtepelpmkmhhokaaGreatDoorKbx
import Derived.Test.YtepelpmkmhhokaaGreatDoorAcx
import Derived.Test.YtepelpmkmhhokaaGreatDoorMtw
import Derived.Test.YtepelpmkmhhokaaGreatDoorSax
import Derived.Test.YtepelpmkmhhokaaGreatDoorAsx
import Derived.Test.YtepelpmkmhhokaaGreatDoorAlx
import Derived.Test.YtepelpmkmhhokaaGreatDoorAcv
set_option maxRecDepth 100000
namespace Go.Proofs.YtepelpmkmhhokaaGreatDoor
open Go.RowKit Go.Shelf
open Scs
theorem go_lower {b b' : Nat} {W : World} {v : Value} {L : List Fn} (h : GO b W v L) (hb : b' ≤ b) : GO b' W v L :=
  ⟨own_low h.row hb, fun f hf => ⟨own_low (h.nodes f hf).ks hb, own_low (h.nodes f hf).ds hb, (h.nodes f hf).k12, (h.nodes f hf).d12, (h.nodes f hf).xs, (h.nodes f hf).kx⟩⟩
set_option maxHeartbeats 8000000 in
theorem Small11_any (root : Int) (L : Array Fn) (p : Option Addr) (cap : Nat) (w : World) (hg : GlR w p L) :
    Calls Tryz.prog 11 #[.agg #[.int .i64 root, .slice p L.size cap], .int .i64 30] w fun e w' => ∃ r q n c, e = .returned (.agg #[.int .i64 r, .slice q n c]) ∧ (∃ L' : List Fn, L'.length = n ∧ n ≤ 201 ∧ GO w.heap.size w' (.slice q n c) L') ∧ Below w.heap.size w w' := by
  have HG := Lib.hid hg
  clear hg
  obtain ⟨W, hW, hz, hb, h0⟩ := at1 w (.cells #[.int .i64 root, .slice p L.size cap] 24)
  have q0 := cell_of_row _ _ 0 _ _ _ h0
  have q1 := cell_of_row _ _ 1 _ _ _ h0
  have HW := Lib.hid hW
  have HB := Lib.hid hb
  have HC := Lib.hid fun W' (h : Below w.heap.size w W') => Cut07_any root L p cap W' (HG.out.below h)
  clear hW hb h0
  go_enter Tryz.func11, Tryz.ntmps11
  go_upto_region 1 with fail
  rw [HW.out]
  by_cases hn : L.size > 30
  · have i1 : (L.size : Int) > 30 := by omega
    go_wp2_with fail
    have x0 := heap_alloc_new W (.cells #[.int .i64 (-1), .slice none 0 0] 24)
    rw [hz] at x0
    have e0 := cell_of_row _ _ 0 _ _ _ x0
    have e1 := cell_of_row _ _ 1 _ _ _ x0
    refine bodyPost_ret (v := .agg #[.int .i64 (-1), .slice none 0 0]) (by simp [results, Tryz.results11, go_sem, e0, e1]) rfl ?_
    exact ⟨-1, none, 0, 0, rfl, ⟨[], rfl, by omega, ⟨World.ownsRow_nil _ _ _ _, fun f hf => by cases hf⟩⟩, HB.out.alloc HB.out.size _⟩
  · have i1 : ¬ (L.size : Int) > 30 := by omega
    go_wp2_with fail
    have HB2 := Lib.hid (HB.out.alloc HB.out.size (.cells #[.int .i64 0, .slice none 0 0] 24))
    have x0 := heap_alloc_new W (.cells #[.int .i64 0, .slice none 0 0] 24)
    obtain ⟨W2, hW2⟩ : ∃ W2, W.alloc (.cells #[.int .i64 0, .slice none 0 0] 24) = W2 := ⟨_, rfl⟩
    have hz2 : W2.heap.size = w.heap.size + 2 := by rw [← hW2]; simp; omega
    rw [hW2, hz] at x0
    rw [hW2] at HB2 ⊢
    refine (HC.out W2 HB2.out).mono ?_
    rintro e w2 ⟨q, n, c, rfl, ⟨L', h1, h2, h3⟩, hb⟩
    have x1 := (hb.block _ (by omega)).trans x0
    have e0 := frozen_of_row _ _ 0 _ _ x1
    have e1 := frozen_of_row _ _ 1 _ _ x1
    have d0 := cell_of_row _ _ 0 _ _ _ x1
    have d1 := cell_of_row _ _ 1 _ _ _ x1
    have r1 := heap_setCell_same _ (w.heap.size + 1) 1 _ _ (.slice q n c) (heap_setCell_same w2 (w.heap.size + 1) 0 _ _ (.int .i64 root) x1)
    have g1 : w2.grownBy ((w2.setCell ⟨w.heap.size + 1, 0, none⟩ (.int .i64 root)).setCell ⟨w.heap.size + 1, 1, none⟩ (.slice q n c)) (some (w.heap.size + 1)) := gB_setCell (gB_setCell (gB_refl _ _) _ _) _ _
    have HR := Lib.hid (show _ ∧ _ ∧ _ ∧ _ from ⟨h1, h2, h3, hb⟩)
    clear h1 h2 h3 hb q0 q1 hW2 x0
    go_upto_region 4 with fail
    obtain ⟨W3, hW3⟩ : ∃ W3, (w2.setCell ⟨w.heap.size + 1, 0, none⟩ (.int .i64 root)).setCell ⟨w.heap.size + 1, 1, none⟩ (.slice q n c) = W3 := ⟨_, rfl⟩
    rw [hW3] at r1 g1 ⊢
    have m0 := cell_of_row _ _ 0 _ _ _ r1
    have m1 := cell_of_row _ _ 1 _ _ _ r1
    refine bodyPost_ret (v := .agg #[.int .i64 root, .slice q n c]) (by simp [results, Tryz.results11, go_sem, m0, m1]) rfl ?_
    obtain ⟨h1, h2, h3, hb⟩ := HR.out
    have hz3 := hb.size
    exact ⟨root, q, n, c, rfl, ⟨L', h1, h2, go_lower (GO.keepB h3 g1 (by omega)) (by omega)⟩, (HB2.out.trans (hb.mono (by omega))).trans (below_of_grown g1 (by omega) (by omega))⟩
end Go.Proofs.YtepelpmkmhhokaaGreatDoor

set_option maxRecDepth 100000
namespace Go.Proofs.YtepelpmkmhhokaaGreatDoor
open Go.RowKit Go.Shelf
open Scs
/-- a row of pairs lies -/
def Pl (w : World) (p : Option Addr) (l : Array (Int × Int)) : Prop := ∀ k, k < l.size → ∃ g o, p = some ⟨g, o, none⟩ ∧ g < w.heap.size ∧ w.cell? ⟨g, o + k * 2, none⟩ = some (.int .i64 l[k]!.1) ∧ w.cell? ⟨g, o + k * 2 + 1, none⟩ = some (.int .i64 l[k]!.2)
theorem Pl.below {w w' : World} {p : Option Addr} {l : Array (Int × Int)} (h : Pl w p l) (hb : Below w.heap.size w w') : Pl w' p l := fun k hk => by
  obtain ⟨g, o, hp, hg, h0, h1⟩ := h k hk
  exact ⟨g, o, hp, Nat.lt_of_lt_of_le hg hb.size, (hb.cell (p := ⟨g, o + k * 2, none⟩) hg).trans h0, (hb.cell (p := ⟨g, o + k * 2 + 1, none⟩) hg).trans h1⟩
theorem ne_pair (x y : Int × Int) (w : World) : (binOp .neq 39 (.agg #[.int .i64 x.1, .int .i64 x.2]) (.agg #[.int .i64 y.1, .int .i64 y.2])).run Tryz.prog w = .ok (.bool (decide (x ≠ y))) w := by
  have h := equal_pair x y w
  unfold aggP at h
  rw [run_neq_struct]
  have h' : (Op.equalIn 10000 39 (.agg #[.int .i64 x.1, .int .i64 x.2]) (.agg #[.int .i64 y.1, .int .i64 y.2])).run Tryz.prog w = .ok (decide (x = y)) w := h
  rw [h']
  by_cases e : x = y <;> simp [e]
set_option maxHeartbeats 4000000 in
theorem Same16_any (a b : Array (Int × Int)) (n m : Nat) (p q : Option Addr) (c1 c2 : Nat) (w : World) (hn : a.size = n) (hm : b.size = m) (hsm : n < 4611686018427387904) (hp : Pl w p a) (hq : Pl w q b) :
    Calls Tryz.prog 16 #[.slice p n c1, .slice q m c2] w fun e w' => e = .returned (.bool (decide (a = b))) ∧ Below w.heap.size w w' := by
  have HP := Lib.hid hp
  have HQ := Lib.hid hq
  have HN := Lib.hid hn
  have HM := Lib.hid hm
  clear hp hq hn hm
  by_cases hnm : n = m
  · subst hnm
    obtain ⟨r, hr⟩ : ∃ r, decide (a = b) = r := ⟨_, rfl⟩
    have HR := Lib.hid hr
    rw [hr]
    clear hr
    have hnn : ¬ ((n : Int) ≠ (n : Int)) := by simp
    go_enter Tryz.func16, Tryz.ntmps16
    go_wp2_with fail
    go_loopw [5] (fun i wr => ∃ k : Nat, k ≤ n ∧ i = .int .i64 k ∧ Hid (∀ j, j < k → a[j]! = b[j]!) ∧ Below w.heap.size w wr) (fun i _ => n - (intOf i).toNat)
    case atStart => exact ⟨0, by omega, rfl, fun j hj => by omega, Below.refl _ _⟩
    case round =>
      obtain ⟨k, hk, rfl, hall, hb⟩ := hrel
      have HB := Lib.hid hb
      clear hb
      by_cases hlt : k < n
      · have i1 : (k : Int) < (n : Int) := by omega
        obtain ⟨g, o, rfl, hg, hc0, hc1⟩ := (HP.out k (by rw [HN.out]; exact hlt))
        obtain ⟨g2, o2, rfl, hg2, hd0, hd1⟩ := (HQ.out k (by rw [HM.out]; exact hlt))
        have x0 := (HB.out.cell (p := ⟨g, o + k * 2, none⟩) hg).trans hc0
        have x1 := (HB.out.cell (p := ⟨g, o + k * 2 + 1, none⟩) hg).trans hc1
        have y0 := (HB.out.cell (p := ⟨g2, o2 + k * 2, none⟩) hg2).trans hd0
        have y1 := (HB.out.cell (p := ⟨g2, o2 + k * 2 + 1, none⟩) hg2).trans hd1
        obtain ⟨x, hx⟩ : ∃ x, a[k]! = x := ⟨_, rfl⟩
        obtain ⟨y, hy⟩ : ∃ x, b[k]! = x := ⟨_, rfl⟩
        rw [hx] at x0 x1
        rw [hy] at y0 y1
        have HX := Lib.hid hx
        have HY := Lib.hid hy
        clear hc0 hc1 hd0 hd1 hx hy
        have q := ne_pair x y
        have qg := guard_pair
        by_cases e : x = y
        · have he : decide (x ≠ y) = false := by simp [e]
          rw [he] at q
          have HEQ := Lib.hid e
          clear e he
          go_wp2_with fail
          go_region
          go_wp2_with fail
          go_roundw
          case rel => exact ⟨k + 1, by omega, by go_num, (fun j hj => by
            by_cases h : j = k
            · rw [h, HX.out, HY.out, HEQ.out]
            · exact hall.out j (by omega)), HB.out.drew⟩
          case measure => simp [intOf]; omega
        · have he : decide (x ≠ y) = true := by simp [e]
          rw [he] at q
          have HEQ := Lib.hid e
          clear e he
          go_wp2_with fail
          go_region
          go_wp2_with fail
          go_ret
          refine ⟨?_, HB.out.drew⟩
          rw [← HR.out, decide_eq_false fun e => HEQ.out (by rw [← HX.out, ← HY.out, e])]
          rfl
      · have i1 : ¬ (k : Int) < (n : Int) := by omega
        go_wp2
        go_ret
        refine ⟨?_, HB.out⟩
        have hab : a = b := arr_ext (HN.out.trans HM.out.symm) fun j hj => hall.out j (by have := HN.out; omega)
        rw [← HR.out, decide_eq_true hab]
        rfl
  · have hnn : ((n : Int) ≠ (m : Int)) := by omega
    have hd : decide (a = b) = false := decide_eq_false fun e => hnm (by have h1 := HN.out; have h2 := HM.out; rw [e] at h1; omega)
    rw [hd]
    go_enter Tryz.func16, Tryz.ntmps16
    go_wp2_with fail
    go_ret
    exact ⟨rfl, Below.refl _ _⟩
end Go.Proofs.YtepelpmkmhhokaaGreatDoor

set_option maxRecDepth 100000
namespace Go.Proofs.YtepelpmkmhhokaaGreatDoor
open Go.RowKit Go.Shelf
open Scs Dfs
abbrev zk (pd : Option Addr) (x : Int) : Fn := { k := 1, x := nullS, pk := none, ck := 0, keys := #[], pd := pd, cd := 1, kids := #[x] }
theorem xpairs (p q r : Option Addr) : pairsG 0 0 #[zk p 0] #[zk q 1, zk r 0] = ([0, 1], true, 0) := by kernel_rfl
theorem xalike (p q r : Option Addr) : alikeG 0 0 #[zk p 0] #[zk q 1, zk r 0] = (false, 0) := by kernel_rfl
theorem xalike2 (q r : Option Addr) : alikeG 0 1 #[zk q 1, zk r 0] #[zk q 1, zk r 0] = (true, 0) := by kernel_rfl
theorem xpairs2 (p : Option Addr) : pairsG 0 0 #[zk p 0] #[] = ([], false, 70) := by kernel_rfl
theorem rep_at (l : List (Int × Int)) (k : Nat) (hk : k < l.length) : (l.flatMap fun x => [(.int .i64 x.1 : Value), .int .i64 x.2])[k * 2]? = some (.int .i64 l[k].1) ∧ (l.flatMap fun x => [(.int .i64 x.1 : Value), .int .i64 x.2])[k * 2 + 1]? = some (.int .i64 l[k].2) := by
  induction l generalizing k with
  | nil => simp at hk
  | cons x t ih =>
    rw [List.flatMap_cons]
    cases k with
    | zero => exact ⟨rfl, rfl⟩
    | succ k =>
      have := ih k (by simpa using hk)
      rw [show (k + 1) * 2 = k * 2 + 1 + 1 by omega]
      simpa using this
/-- a row of one's own of pairs lies -/
theorem pl_own {W : World} {b n : Nat} {v : Value} (M : Nat) {ps : List Nat} (h : W.ownsRow b 39 2 v n (pairV M ps)) (hn : n = ps.length) : ∃ q c, v = .slice q n c ∧ Pl W q (ps.map fun p => (((p / M : Nat) : Int), ((p % M : Nat) : Int))).toArray := by
  rcases h with ⟨_, ⟨h1, h2⟩ | ⟨g, c, cur, h1, _, hr, _, _, _, hx⟩⟩
  · refine ⟨none, 0, by rw [h1, h2], fun k hk => ?_⟩
    simp at hk
    omega
  · refine ⟨_, c, h1, fun k hk => ⟨g, 0, rfl, (Array.getElem?_eq_some_iff.1 hr).1, ?_⟩⟩
    have hk2 : k < ps.length := by simpa using hk
    have e : pairV M ps = (ps.map fun p => (((p / M : Nat) : Int), ((p % M : Nat) : Int))).flatMap fun x => [(.int .i64 x.1 : Value), .int .i64 x.2] := by
      rw [List.flatMap_map]
      rfl
    have hq := rep_at (ps.map fun p => (((p / M : Nat) : Int), ((p % M : Nat) : Int))) k (by simpa using hk2)
    rw [← e, ← hx, List.getElem?_take, List.getElem?_take, if_pos (by omega), if_pos (by omega), Array.getElem?_toList, Array.getElem?_toList] at hq
    rw [cell_of_row _ _ _ _ _ _ hr, cell_of_row _ _ _ _ _ _ hr, Nat.zero_add, getElem!_pos _ k hk, hq.1, hq.2]
    simp
theorem graphA (W : World) (B C : Nat) (x : Int) (hB : B < W.heap.size) (hC : C < W.heap.size)
    (h0 : W.heap[B]? = some (.cells #[.int .i64 x] 3 (0, 0)))
    (h1 : W.heap[C]? = some (.cells #[.int .i64 1, .int .i64 0, .int .i64 0, .string ⟨#[]⟩, .slice none 0 0, .slice (some ⟨B, 0, none⟩) 1 1] 51 (0, 0))) :
    Gl W (some ⟨C, 0, none⟩) #[zk (some ⟨B, 0, none⟩) x] := by
  refine ⟨by simp, fun t ht => ?_, .inr ⟨_, 0, rfl, hC, holdsK_of_row h1 fun j hj => ?_⟩⟩
  · have ht2 : t < 1 := ht
    obtain rfl : t = 0 := by omega
    refine ⟨of_decide_eq_true (by kernel_rfl), Sl.nil _ _, ⟨of_decide_eq_true (by kernel_rfl), .inr ⟨_, 0, rfl, by omega, fun j hj => ?_⟩⟩⟩
    have hj2 : j < 1 := hj
    obtain rfl : j = 0 := by omega
    rw [cell_of_row _ _ _ _ _ _ h0]
    rfl
  · have hj2 : j < 6 := hj
    obtain rfl | rfl | rfl | rfl | rfl | rfl : j = 0 ∨ j = 1 ∨ j = 2 ∨ j = 3 ∨ j = 4 ∨ j = 5 := by omega
    all_goals rfl
theorem graphB (W : World) (B B' C : Nat) (x y : Int) (hB : B < W.heap.size) (hB' : B' < W.heap.size) (hC : C < W.heap.size)
    (h0 : W.heap[B]? = some (.cells #[.int .i64 x] 3 (0, 0))) (h2 : W.heap[B']? = some (.cells #[.int .i64 y] 3 (0, 0)))
    (h1 : W.heap[C]? = some (.cells #[.int .i64 1, .int .i64 0, .int .i64 0, .string ⟨#[]⟩, .slice none 0 0, .slice (some ⟨B, 0, none⟩) 1 1, .int .i64 1, .int .i64 0, .int .i64 0, .string ⟨#[]⟩, .slice none 0 0, .slice (some ⟨B', 0, none⟩) 1 1] 51 (0, 0))) :
    Gl W (some ⟨C, 0, none⟩) #[zk (some ⟨B, 0, none⟩) x, zk (some ⟨B', 0, none⟩) y] := by
  refine ⟨by simp, fun t ht => ?_, .inr ⟨_, 0, rfl, hC, holdsK_of_row h1 fun j hj => ?_⟩⟩
  · have ht2 : t < 2 := ht
    obtain rfl | rfl : t = 0 ∨ t = 1 := by omega
    · refine ⟨of_decide_eq_true (by kernel_rfl), Sl.nil _ _, ⟨of_decide_eq_true (by kernel_rfl), .inr ⟨_, 0, rfl, by omega, fun j hj => ?_⟩⟩⟩
      have hj2 : j < 1 := hj
      obtain rfl : j = 0 := by omega
      rw [cell_of_row _ _ _ _ _ _ h0]
      rfl
    · refine ⟨of_decide_eq_true (by kernel_rfl), Sl.nil _ _, ⟨of_decide_eq_true (by kernel_rfl), .inr ⟨_, 0, rfl, by omega, fun j hj => ?_⟩⟩⟩
      have hj2 : j < 1 := hj
      obtain rfl : j = 0 := by omega
      rw [cell_of_row _ _ _ _ _ _ h2]
      rfl
  · have hj2 : j < 12 := hj
    obtain rfl | rfl | rfl | rfl | rfl | rfl | rfl | rfl | rfl | rfl | rfl | rfl := lt12 hj2 <;> rfl
set_option maxHeartbeats 16000000 in
theorem shown10_any (w : World) (E : Env w) : Calls Tryz.prog 10 #[] w fun e w' => e = .returned (.bool true) ∧ Below w.heap.size w w' := by
  obtain ⟨v3, hW3, hz3, hb3, h0, h1, h2⟩ := at3o w (.cells #[.int .i64 0] 3) (.cells #[.int .i64 1, .int .i64 0, .int .i64 0, .string ⟨#[]⟩, .slice none 0 0, .slice (some ⟨w.heap.size, 0, none⟩) 1 1] 51) (.cells #[.int .i64 0, .slice (some ⟨w.heap.size + 1, 0, none⟩) 1 1] 24)
  obtain ⟨v6, hW6, hz6, hb6, h3, h4, h5⟩ := at3 v3 (.cells #[.int .i64 1] 3) (.cells #[.int .i64 0] 3) (.cells #[.int .i64 1, .int .i64 0, .int .i64 0, .string ⟨#[]⟩, .slice none 0 0, .slice (some ⟨w.heap.size + 1 + 1 + 1, 0, none⟩) 1 1, .int .i64 1, .int .i64 0, .int .i64 0, .string ⟨#[]⟩, .slice none 0 0, .slice (some ⟨w.heap.size + 1 + 1 + 1 + 1, 0, none⟩) 1 1] 51)
  obtain ⟨v7, hW7, hz7, hb7, h6⟩ := at1 v6 (.cells #[.int .i64 0, .slice (some ⟨w.heap.size + 1 + 1 + 1 + 1 + 1, 0, none⟩) 2 2] 24)
  have k0 := (hb7.block _ (by omega)).trans ((hb6.block _ (by omega)).trans h0)
  have k1 := (hb7.block _ (by omega)).trans ((hb6.block _ (by omega)).trans h1)
  have k2 := (hb7.block _ (by omega)).trans ((hb6.block _ (by omega)).trans h2)
  have k3 := (hb7.block _ (by omega)).trans h3
  have k4 := (hb7.block _ (by omega)).trans h4
  have k5 := (hb7.block _ (by omega)).trans h5
  rw [hz3] at k3 k4 k5
  rw [show v6.heap.size = w.heap.size + 1 + 1 + 1 + 1 + 1 + 1 by omega] at h6
  have hA := graphA v7 w.heap.size (w.heap.size + 1) 0 (by omega) (by omega) k0 k1
  have hB := graphB v7 (w.heap.size + 1 + 1 + 1) (w.heap.size + 1 + 1 + 1 + 1) (w.heap.size + 1 + 1 + 1 + 1 + 1) 1 0 (by omega) (by omega) (by omega) k3 k4 k5
  have hb37 := (hb3.trans (hb6.mono hb3.size))
  have hb := hb37.trans (hb7.mono hb37.size)
  obtain ⟨D, hD⟩ : ∃ D, #[zk (some ⟨w.heap.size, 0, none⟩) 0] = D := ⟨_, rfl⟩
  obtain ⟨F, hF⟩ : ∃ F, #[zk (some ⟨w.heap.size + 1 + 1 + 1, 0, none⟩) 1, zk (some ⟨w.heap.size + 1 + 1 + 1 + 1, 0, none⟩) 0] = F := ⟨_, rfl⟩
  have e1 : pairsG 0 0 D F = ([0, 1], true, 0) := by rw [← hD, ← hF]; exact xpairs _ _ _
  have e2 : alikeG 0 0 D F = (false, 0) := by rw [← hD, ← hF]; exact xalike _ _ _
  have e3 : alikeG 0 1 F F = (true, 0) := by rw [← hF]; exact xalike2 _ _
  have e4 : pairsG 0 0 D #[] = ([], false, 70) := by rw [← hD]; exact xpairs2 _
  have hDs : D.size = 1 := by rw [← hD]; rfl
  have hFs : F.size = 2 := by rw [← hF]; rfl
  have hD12 : ∀ t, t < D.size → D[t]!.keys.size ≤ 12 := fun t ht => by
    obtain rfl : t = 0 := by omega
    rw [← hD]
    exact of_decide_eq_true (by kernel_rfl)
  have hF12 : ∀ t, t < F.size → F[t]!.keys.size ≤ 12 := fun t ht => by
    rw [← hF]
    obtain rfl | rfl : t = 0 ∨ t = 1 := by omega
    · exact of_decide_eq_true (by kernel_rfl)
    · exact of_decide_eq_true (by kernel_rfl)
  rw [hD] at hA
  rw [hF] at hB
  have c1 := fun W E G G' => Pairs12_in 0 0 D F 1 2 (some ⟨w.heap.size + 1, 0, none⟩) (some ⟨w.heap.size + 1 + 1 + 1 + 1 + 1, 0, none⟩) 1 2 W hDs hFs E G G' hD12 hF12
  have c2 := fun W E G G' => Alike14_in 0 0 D F 1 2 (some ⟨w.heap.size + 1, 0, none⟩) (some ⟨w.heap.size + 1 + 1 + 1 + 1 + 1, 0, none⟩) 1 2 W hDs hFs E G G' hD12 hF12
  have c3 := fun W E G G' => Alike14_in 0 1 F F 2 2 (some ⟨w.heap.size + 1 + 1 + 1 + 1 + 1, 0, none⟩) (some ⟨w.heap.size + 1 + 1 + 1 + 1 + 1, 0, none⟩) 2 2 W hFs hFs E G G' hF12 hF12
  have c4 := fun W E G => Pairs12_in 0 0 D #[] 1 0 (some ⟨w.heap.size + 1, 0, none⟩) none 1 0 W hDs rfl E G ⟨by simp, fun t ht => by simp at ht, .inl rfl⟩ hD12 (fun t ht => by simp at ht)
  rw [e1] at c1
  rw [e2] at c2
  rw [e3] at c3
  rw [e4] at c4
  have C1 := Lib.hid c1
  have C2 := Lib.hid c2
  have C3 := Lib.hid c3
  have C4 := Lib.hid c4
  have HE0 := Lib.hid (E.below hb)
  have HA0 := Lib.hid hA
  have HF0 := Lib.hid hB
  have HB0 := Lib.hid hb
  have HW3 := Lib.hid hW3
  have HW6 := Lib.hid hW6
  have HW7 := Lib.hid hW7
  have Rg0 := Lib.hid k2
  have Rh0 := Lib.hid h6
  clear c1 c2 c3 c4 e1 e2 e3 e4 hD hF hDs hFs hD12 hF12 hA hB hb hb37 hb3 hb6 hb7 hW3 hW6 hW7 h0 h1 h2 h3 h4 h5 h6 k0 k1 k2 k3 k4 k5 E hz3 hz6 hz7
  go_enter Tryz.func10, Tryz.ntmps10
  go_wp2_with fail
  rw [HW3.out, HW6.out, HW7.out]
  refine (C1.out v7 HE0.out HA0.out HF0.out).mono ?_
  rintro e v8 ⟨v, rfl, hown, hb⟩
  obtain ⟨q, c, rfl, hpl⟩ := pl_own 2 hown rfl
  have HE1 := Lib.hid (HE0.out.below hb)
  have HB1 := Lib.hid (HB0.out.trans (hb.mono HB0.out.size))
  have HA1 := Lib.hid (HA0.out.below hb)
  have HF1 := Lib.hid (HF0.out.below hb)
  have Rg1 := Lib.hid ((hb.block _ (Array.getElem?_eq_some_iff.1 Rg0.out).1).trans Rg0.out)
  have Rh1 := Lib.hid ((hb.block _ (Array.getElem?_eq_some_iff.1 Rh0.out).1).trans Rh0.out)
  have HP1 := Lib.hid hpl
  clear hb hpl hown
  have p0 := cell_of_row _ _ 0 _ _ _ Rg1.out
  have p1 := cell_of_row _ _ 1 _ _ _ Rg1.out
  have q0 := cell_of_row _ _ 0 _ _ _ Rh1.out
  have q1 := cell_of_row _ _ 1 _ _ _ Rh1.out
  go_wp2_with fail
  refine (C2.out v8 HE1.out HA1.out HF1.out).mono ?_
  rintro e v9 ⟨rfl, hb⟩
  have HE2 := Lib.hid (HE1.out.below hb)
  have HB2 := Lib.hid (HB1.out.trans (hb.mono HB1.out.size))
  have HA2 := Lib.hid (HA1.out.below hb)
  have HF2 := Lib.hid (HF1.out.below hb)
  have Rg2 := Lib.hid ((hb.block _ (Array.getElem?_eq_some_iff.1 Rg1.out).1).trans Rg1.out)
  have Rh2 := Lib.hid ((hb.block _ (Array.getElem?_eq_some_iff.1 Rh1.out).1).trans Rh1.out)
  have HP2 := Lib.hid (HP1.out.below hb)
  clear hb p0 p1 q0 q1
  have p0 := cell_of_row _ _ 0 _ _ _ Rg2.out
  have p1 := cell_of_row _ _ 1 _ _ _ Rg2.out
  have q0 := cell_of_row _ _ 0 _ _ _ Rh2.out
  have q1 := cell_of_row _ _ 1 _ _ _ Rh2.out
  go_wp2_with fail
  refine (C3.out v9 HE2.out HF2.out HF2.out).mono ?_
  rintro e v10 ⟨rfl, hb⟩
  have HE3 := Lib.hid (HE2.out.below hb)
  have HB3 := Lib.hid (HB2.out.trans (hb.mono HB2.out.size))
  have HA3 := Lib.hid (HA2.out.below hb)
  have HF3 := Lib.hid (HF2.out.below hb)
  have Rg3 := Lib.hid ((hb.block _ (Array.getElem?_eq_some_iff.1 Rg2.out).1).trans Rg2.out)
  have Rh3 := Lib.hid ((hb.block _ (Array.getElem?_eq_some_iff.1 Rh2.out).1).trans Rh2.out)
  have HP3 := Lib.hid (HP2.out.below hb)
  clear hb p0 p1 q0 q1
  have p0 := cell_of_row _ _ 0 _ _ _ Rg3.out
  have p1 := cell_of_row _ _ 1 _ _ _ Rg3.out
  have q0 := cell_of_row _ _ 0 _ _ _ Rh3.out
  have q1 := cell_of_row _ _ 1 _ _ _ Rh3.out
  go_wp2_with fail
  refine (C4.out v10 HE3.out HA3.out).mono ?_
  rintro e v11 ⟨v, rfl, _, hb⟩
  have HE4 := Lib.hid (HE3.out.below hb)
  have HB4 := Lib.hid (HB3.out.trans (hb.mono HB3.out.size))
  have HA4 := Lib.hid (HA3.out.below hb)
  have HF4 := Lib.hid (HF3.out.below hb)
  have Rg4 := Lib.hid ((hb.block _ (Array.getElem?_eq_some_iff.1 Rg3.out).1).trans Rg3.out)
  have Rh4 := Lib.hid ((hb.block _ (Array.getElem?_eq_some_iff.1 Rh3.out).1).trans Rh3.out)
  have HP4 := Lib.hid (HP3.out.below hb)
  clear hb p0 p1 q0 q1
  have p0 := cell_of_row _ _ 0 _ _ _ Rg4.out
  have p1 := cell_of_row _ _ 1 _ _ _ Rg4.out
  have q0 := cell_of_row _ _ 0 _ _ _ Rh4.out
  have q1 := cell_of_row _ _ 1 _ _ _ Rh4.out
  go_wp2_with fail
  obtain ⟨v12, hv, hz, hb, hr⟩ := at1 v11 (.cells #[.int .i64 0, .int .i64 0, .int .i64 0, .int .i64 1] 39)
  rw [hv]
  have hlit : Pl v12 (some ⟨v11.heap.size, 0, none⟩) #[(0, 0), (0, 1)] := fun k hk => by
    refine ⟨_, 0, rfl, by omega, ?_⟩
    rw [cell_of_row _ _ _ _ _ _ hr, cell_of_row _ _ _ _ _ _ hr]
    have hk2 : k < 2 := hk
    obtain rfl | rfl : k = 0 ∨ k = 1 := by omega
    · exact ⟨rfl, rfl⟩
    · exact ⟨rfl, rfl⟩
  have hsm := Same16_any #[(0, 0), (0, 1)] #[(0, 0), (0, 1)] 2 2 q (some ⟨v11.heap.size, 0, none⟩) c 2 v12 rfl rfl (by omega) (HP4.out.below hb) hlit
  rw [decide_eq_true rfl] at hsm
  have HB5 := Lib.hid (HB4.out.trans (hb.mono HB4.out.size))
  clear hv hz hb hr hlit p0 p1 q0 q1
  refine hsm.mono ?_
  rintro e v13 ⟨rfl, hb⟩
  have HB6 := Lib.hid (HB5.out.trans (hb.mono HB5.out.size))
  clear hb hsm
  go_wp2_with fail
  go_ret
  exact ⟨rfl, HB6.out⟩
end Go.Proofs.YtepelpmkmhhokaaGreatDoor
