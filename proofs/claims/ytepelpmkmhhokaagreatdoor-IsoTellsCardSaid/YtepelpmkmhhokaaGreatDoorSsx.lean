/- Whether two rows of scalars are the same, both ways. Conditions: both rows lie whole. The reference's fit of two nodes. Conditions: both graphs are right. Pairs as rows of two numbers, and which of them are one to one. Conditions: none. Whether a pair is among some, as the reference tells it. Conditions: the row of pairs lies. -/
import Derived.Test.YtepelpmkmhhokaaGreatDoorSax
import Derived.Test.YtepelpmkmhhokaaGreatDoorAsx
import Derived.Test.YtepelpmkmhhokaaGreatDoorRok
import Derived.Test.YtepelpmkmhhokaaGreatDoorWix
import Derived.Test.YtepelpmkmhhokaaGreatDoorSmx
import Derived.Test.YtepelpmkmhhokaaGreatDoorMtx
set_option maxRecDepth 100000
namespace Go.Proofs.YtepelpmkmhhokaaGreatDoor
open Go.RowKit Go.Shelf
open Scs
theorem ne_sc2 (x y : Sc) (w : World) : (binOp .neq 48 (.agg #[.int .i64 x.1, .int .i64 x.2.1, .string x.2.2]) (.agg #[.int .i64 y.1, .int .i64 y.2.1, .string y.2.2])).run Tryz.prog w = .ok (.bool (decide (x ≠ y))) w := by
  obtain ⟨a, b, c⟩ := x
  obtain ⟨a', b', c'⟩ := y
  rw [neq_sc]
  by_cases e : ((a, b, c) : Sc) = (a', b', c') <;> simp [e]
set_option maxHeartbeats 4000000 in
theorem Same36_any (a b : Array Sc) (n m : Nat) (p q : Option Addr) (c1 c2 : Nat) (w : World) (hn : a.size = n) (hm : b.size = m) (hsm : n < 4611686018427387904) (hp : Sl w p a) (hq : Sl w q b) :
    Calls Tryz.prog 36 #[.slice p n c1, .slice q m c2] w fun e w' => e = .returned (.bool (decide (a = b))) ∧ Below w.heap.size w w' := by
  have HP := Lib.hid hp
  have HQ := Lib.hid hq
  have HN := Lib.hid hn
  have HM := Lib.hid hm
  clear hp hq hn hm
  by_cases hnm : n = m
  · subst hnm
    obtain ⟨r, hr⟩ : ∃ r, decide (a = b) = r := ⟨_, rfl⟩
    have HR := Lib.hid hr
    rw [hr]
    clear hr
    have hnn : ¬ ((n : Int) ≠ (n : Int)) := by simp
    go_enter Tryz.func36, Tryz.ntmps36
    go_wp2_with fail
    go_loopw [5] (fun i wr => ∃ k : Nat, k ≤ n ∧ i = .int .i64 k ∧ Hid (∀ j, j < k → a[j]! = b[j]!) ∧ Below w.heap.size w wr) (fun i _ => n - (intOf i).toNat)
    case atStart => exact ⟨0, by omega, rfl, fun j hj => by omega, Below.refl _ _⟩
    case round =>
      obtain ⟨k, hk, rfl, hall, hb⟩ := hrel
      have HB := Lib.hid hb
      clear hb
      by_cases hlt : k < n
      · have i1 : (k : Int) < (n : Int) := by omega
        obtain ⟨g, o, rfl, hg, hc0, hc1, hc2⟩ := (HP.out.at k (by rw [HN.out]; exact hlt))
        obtain ⟨g2, o2, rfl, hg2, hd0, hd1, hd2⟩ := (HQ.out.at k (by rw [HM.out]; exact hlt))
        have x0 := (HB.out.cell (p := ⟨g, o + k * 3, none⟩) hg).trans hc0
        have x1 := (HB.out.cell (p := ⟨g, o + k * 3 + 1, none⟩) hg).trans hc1
        have y0 := (HB.out.cell (p := ⟨g2, o2 + k * 3, none⟩) hg2).trans hd0
        have y1 := (HB.out.cell (p := ⟨g2, o2 + k * 3 + 1, none⟩) hg2).trans hd1
        have x2 := (HB.out.cell (p := ⟨g, o + k * 3 + 2, none⟩) hg).trans hc2
        have y2 := (HB.out.cell (p := ⟨g2, o2 + k * 3 + 2, none⟩) hg2).trans hd2
        obtain ⟨x, hx⟩ : ∃ x, a[k]! = x := ⟨_, rfl⟩
        obtain ⟨y, hy⟩ : ∃ x, b[k]! = x := ⟨_, rfl⟩
        rw [hx] at x0 x1 x2
        rw [hy] at y0 y1 y2
        have HX := Lib.hid hx
        have HY := Lib.hid hy
        clear hc0 hc1 hc2 hd0 hd1 hd2 hx hy
        have q := ne_sc2 x y
        have qg := guard_sc
        by_cases e : x = y
        · have he : decide (x ≠ y) = false := by simp [e]
          rw [he] at q
          have HEQ := Lib.hid e
          clear e he
          go_wp2_with fail
          go_region
          go_wp2_with fail
          go_roundw
          case rel => exact ⟨k + 1, by omega, by go_num, (fun j hj => by
            by_cases h : j = k
            · rw [h, HX.out, HY.out, HEQ.out]
            · exact hall.out j (by omega)), HB.out.drew⟩
          case measure => simp [intOf]; omega
        · have he : decide (x ≠ y) = true := by simp [e]
          rw [he] at q
          have HEQ := Lib.hid e
          clear e he
          go_wp2_with fail
          go_region
          go_wp2_with fail
          go_ret
          refine ⟨?_, HB.out.drew⟩
          rw [← HR.out, decide_eq_false fun e => HEQ.out (by rw [← HX.out, ← HY.out, e])]
          rfl
      · have i1 : ¬ (k : Int) < (n : Int) := by omega
        go_wp2
        go_ret
        refine ⟨?_, HB.out⟩
        have hab : a = b := arr_ext (HN.out.trans HM.out.symm) fun j hj => hall.out j (by have := HN.out; omega)
        rw [← HR.out, decide_eq_true hab]
        rfl
  · have hnn : ((n : Int) ≠ (m : Int)) := by omega
    have hd : decide (a = b) = false := decide_eq_false fun e => hnm (by have h1 := HN.out; have h2 := HM.out; rw [e] at h1; omega)
    rw [hd]
    go_enter Tryz.func36, Tryz.ntmps36
    go_wp2_with fail
    go_ret
    exact ⟨rfl, Below.refl _ _⟩
end Go.Proofs.YtepelpmkmhhokaaGreatDoor

set_option maxRecDepth 100000
namespace Go.Proofs.YtepelpmkmhhokaaGreatDoor
open Go.RowKit Go.Shelf
open Scs Dfs
set_option maxHeartbeats 16000000 in
theorem Fit19_in (ra rb : Int) (D F : Array Fn) (n m : Nat) (p q : Option Addr) (c c' : Nat) (i j : Nat) (w : World) (hn : D.size = n) (hm : F.size = m) (hg : Gl w p D) (hh : Gl w q F) (hi : i < n) (hj : j < m) :
    Calls Tryz.prog 19 #[.agg #[.int .i64 ra, .slice p n c], .int .i64 i, .agg #[.int .i64 rb, .slice q m c'], .int .i64 j] w fun e w' => e = .returned (.bool (fitF D[i]! F[j]!)) ∧ Below w.heap.size w w' := by
  have i1 : (i : Int) < (n : Int) := by omega
  have i2 : (j : Int) < (m : Int) := by omega
  have kx := fun W G => Keys17_any ra D p c (i : Int) W G
  have ky := fun W G => Keys17_any rb F q c' (j : Int) W G
  have ka : (keysG D (i : Int)).1 = keysOf D[i]! := by unfold keysG; rw [if_pos (plB_iff.2 (by omega))]; rfl
  have kb : (keysG F (j : Int)).1 = keysOf F[j]! := by unfold keysG; rw [if_pos (plB_iff.2 (by omega))]; rfl
  obtain ⟨za, hza⟩ : ∃ z, (keysG D (i : Int)).2 = z := ⟨_, rfl⟩
  obtain ⟨zb, hzb⟩ : ∃ z, (keysG F (j : Int)).2 = z := ⟨_, rfl⟩
  rw [ka, hza, hn] at kx
  rw [kb, hzb, hm] at ky
  clear ka kb hza hzb
  obtain ⟨W, hW, hz, hb, r0, r1⟩ := at2 w (.cells #[.int .i64 ra, .slice p n c] 24) (.cells #[.int .i64 rb, .slice q m c'] 24)
  have HW := Lib.hid hW
  have hgW := hg.below hb
  have hhW := hh.below hb
  obtain ⟨blk, off, rfl, hbl, k0, k1, k2, k3, k4, k5⟩ := hgW.at i (by omega)
  obtain ⟨blk', off', rfl, hbl', l0, l1, l2, l3, l4, l5⟩ := hhW.at j (by omega)
  have hbl3 : blk' < w.heap.size + 2 := by omega
  have hbl4 : blk < w.heap.size + 2 := by omega
  obtain ⟨f, hf⟩ : ∃ f, D[i]! = f := ⟨_, rfl⟩
  obtain ⟨g, hgg⟩ : ∃ f, F[j]! = f := ⟨_, rfl⟩
  rw [hf] at k0 k1 k2 k3 k4 k5 kx ⊢
  rw [hgg] at l0 l1 l2 l3 l4 l5 ky ⊢
  have q0 := cell_of_row _ _ 0 _ _ _ r0
  have q1 := cell_of_row _ _ 1 _ _ _ r0
  have q2 := cell_of_row _ _ 0 _ _ _ r1
  have q3 := cell_of_row _ _ 1 _ _ _ r1
  have HB := Lib.hid hb
  obtain ⟨V, hV, hzV, hbV, x0, x1⟩ := at2 W (.cells #[.int .i64 f.k, .int .i64 f.x.1, .int .i64 f.x.2.1, .string f.x.2.2, .slice f.pk f.keys.size f.ck, .slice f.pd f.kids.size f.cd] 51) (.cells #[.int .i64 g.k, .int .i64 g.x.1, .int .i64 g.x.2.1, .string g.x.2.2, .slice g.pk g.keys.size g.ck, .slice g.pd g.kids.size g.cd] 51)
  have HV := Lib.hid hV
  have HBV := Lib.hid (hb.trans (hbV.mono hb.size))
  have HGV := Lib.hid (hgW.below hbV)
  have HHV := Lib.hid (hhW.below hbV)
  have KX := Lib.hid kx
  have KY := Lib.hid ky
  have hx0 := (hbV.block _ (Array.getElem?_eq_some_iff.1 r0).1).trans r0
  have hx1 := (hbV.block _ (Array.getElem?_eq_some_iff.1 r1).1).trans r1
  have R0 := Lib.hid hx0
  have R1 := Lib.hid hx1
  have X0 := Lib.hid x0
  have X1 := Lib.hid x1
  obtain ⟨r, hr⟩ : ∃ r, fitF f g = r := ⟨_, rfl⟩
  have HR := Lib.hid hr
  rw [hr]
  clear hW hV hbV hgW hhW kx ky hx0 hx1 x0 x1 hr hf hgg hg hh r0 r1 hb hzV
  go_enter Tryz.func19, Tryz.ntmps19
  go_upto_region 1 with fail
  rw [HW.out]
  go_wp2_with fail
  rw [HV.out]
  refine (KX.out V HGV.out).mono ?_
  rintro e w1 ⟨qa, ca, rfl, hsa, hb⟩
  have R01 := Lib.hid ((hb.block _ (Array.getElem?_eq_some_iff.1 R0.out).1).trans R0.out)
  have R11 := Lib.hid ((hb.block _ (Array.getElem?_eq_some_iff.1 R1.out).1).trans R1.out)
  have X01 := Lib.hid ((hb.block _ (Array.getElem?_eq_some_iff.1 X0.out).1).trans X0.out)
  have X11 := Lib.hid ((hb.block _ (Array.getElem?_eq_some_iff.1 X1.out).1).trans X1.out)
  have HB1 := Lib.hid (HBV.out.trans (hb.mono HBV.out.size))
  have HH1 := Lib.hid (HHV.out.below hb)
  have HSA := Lib.hid hsa
  clear q0 q1 q2 q3 k0 k1 k2 k3 k4 k5 l0 l1 l2 l3 l4 l5 hb hsa
  have q2 := cell_of_row _ _ 0 _ _ _ R11.out
  have q3 := cell_of_row _ _ 1 _ _ _ R11.out
  go_wp2_with fail
  refine (KY.out w1 HH1.out).mono ?_
  rintro e w2 ⟨qb, cb, rfl, hsb, hb⟩
  have x0 := (hb.block _ (Array.getElem?_eq_some_iff.1 X01.out).1).trans X01.out
  have x1 := (hb.block _ (Array.getElem?_eq_some_iff.1 X11.out).1).trans X11.out
  rw [hz] at x0 x1
  have HB2 := Lib.hid (HB1.out.trans (hb.mono HB1.out.size))
  have HSA2 := Lib.hid (HSA.out.below hb)
  have HSB2 := Lib.hid hsb
  clear q2 q3 hb hsb
  obtain ⟨a0, a1, a2, a3, a4, a5⟩ := cell6 x0
  obtain ⟨b0, b1, b2, b3, b4, b5⟩ := cell6 x1
  clear x0 x1 HSA
  have hsm := Lib.hid (Same36_any (keysOf f).toArray (keysOf g).toArray (keysOf f).length (keysOf g).length qa qb ca cb w2 (List.size_toArray) (List.size_toArray))
  obtain ⟨A, hA⟩ : ∃ A, keysOf f = A := ⟨_, rfl⟩
  obtain ⟨B, hB⟩ : ∃ A, keysOf g = A := ⟨_, rfl⟩
  have HAB := Lib.hid (show _ ∧ _ from ⟨hA, hB⟩)
  rw [hA, hB] at hsm
  rw [hA] at HSA2 ⊢
  rw [hB] at HSB2 ⊢
  clear hA hB
  have heq := eq_sc f.x.1 f.x.2.1 f.x.2.2 g.x.1 g.x.2.1 g.x.2.2
  have heg := guard_sc
  have hfit : r = if f.k = g.k then (if f.x = g.x then (if A = B then decide (f.kids.size = g.kids.size) else false) else false) else false := by
    rw [← HR.out, ← HAB.out.1, ← HAB.out.2]
    rfl
  rw [sameB_iff] at heq
  have hsml : A.length < 4611686018427387904 := by
    have := HSA2.out.small
    rw [List.size_toArray] at this
    omega
  by_cases h1 : f.k = g.k
  · rw [if_pos h1] at hfit
    by_cases h2 : f.x = g.x
    · rw [if_pos h2] at hfit
      rw [decide_eq_true (show ((f.x.1, f.x.2.1, f.x.2.2) : Sc) = (g.x.1, g.x.2.1, g.x.2.2) from h2)] at heq
      by_cases h3 : A = B
      · rw [if_pos h3] at hfit
        have hsm3 := hsm.out hsml HSA2.out HSB2.out
        rw [decide_eq_true (congrArg List.toArray h3)] at hsm3
        have HS := Lib.hid hsm3
        clear hsm3 h3 h2
        go_wp2_with fail
        refine HS.out.mono ?_
        rintro e w3 ⟨rfl, hb⟩
        have a5' := (hb.cell (block_lt_of_cell a5)).trans a5
        have b5' := (hb.cell (block_lt_of_cell b5)).trans b5
        have HB3 := Lib.hid (HB2.out.trans (hb.mono HB2.out.size))
        clear hb a0 a1 a2 a3 a4 a5 b0 b1 b2 b3 b4 b5
        by_cases h4 : f.kids.size = g.kids.size
        · rw [decide_eq_true h4] at hfit
          subst hfit
          rw [← h4] at b5'
          go_wp2_with fail
          go_ret
          refine ⟨?_, HB3.out⟩
          first | rfl | (simp; done)
        · rw [decide_eq_false h4] at hfit
          subst hfit
          have h5 : ¬ (f.kids.size : Int) = (g.kids.size : Int) := by omega
          go_wp2_with fail
          go_ret
          refine ⟨?_, HB3.out⟩
          show Ending.returned (.bool ((f.kids.size : Int) == (g.kids.size : Int))) = _
          rw [beq_eq_false_iff_ne.2 h5]
      · rw [if_neg h3] at hfit
        subst hfit
        have hsm3 := hsm.out hsml HSA2.out HSB2.out
        rw [decide_eq_false fun e => h3 (by simpa using congrArg Array.toList e)] at hsm3
        have HS := Lib.hid hsm3
        clear hsm3 h3 h2
        go_wp2_with fail
        refine HS.out.mono ?_
        rintro e w3 ⟨rfl, hb⟩
        have HB3 := Lib.hid (HB2.out.trans (hb.mono HB2.out.size))
        clear hb
        go_wp2_with fail
        go_ret
        exact ⟨rfl, HB3.out⟩
    · rw [if_neg h2] at hfit
      subst hfit
      rw [decide_eq_false (show ¬ ((f.x.1, f.x.2.1, f.x.2.2) : Sc) = (g.x.1, g.x.2.1, g.x.2.2) from h2)] at heq
      go_wp2_with fail
      go_ret
      exact ⟨rfl, HB2.out⟩
  · rw [if_neg h1] at hfit
    subst hfit
    go_wp2_with fail
    go_ret
    exact ⟨rfl, HB2.out⟩
end Go.Proofs.YtepelpmkmhhokaaGreatDoor

set_option maxRecDepth 100000
namespace Go.Proofs.YtepelpmkmhhokaaGreatDoor
open Dfs
def pairI (M p : Nat) : Int × Int := (((p / M : Nat) : Int), ((p % M : Nat) : Int))
def pairA (M : Nat) (l : List Nat) : Array (Int × Int) := (l.map fun p => (((p / M : Nat) : Int), ((p % M : Nat) : Int))).toArray
theorem pairA_size (M : Nat) (l : List Nat) : (pairA M l).size = l.length := by
  unfold pairA
  rw [List.size_toArray, List.length_map]
theorem pairA_get (M : Nat) (l : List Nat) (j : Nat) (h : j < l.length) : (pairA M l)[j]! = pairI M l[j]! := by
  rw [getElem!_pos _ j (by rw [pairA_size]; exact h), getElem!_pos l j h]
  simp [pairA, pairI]
theorem pairI_inj {M x y : Nat} (h : pairI M x = pairI M y) : x = y := by
  unfold pairI at h
  rw [Prod.mk.injEq] at h
  have h3 : x / M = y / M := by exact_mod_cast h.1
  have h4 : x % M = y % M := by exact_mod_cast h.2
  rw [← pair_self M x, ← pair_self M y, h3, h4]
theorem mem_pairA {M i : Nat} {o : List Nat} : pairI M i ∈ (pairA M o).toList ↔ i ∈ o := by
  unfold pairA
  rw [List.toList_toArray, List.mem_map]
  constructor
  · rintro ⟨y, hy, e⟩
    rw [← pairI_inj (show pairI M y = pairI M i from e)]
    exact hy
  · intro h
    exact ⟨i, h, rfl⟩
/-- two pairs are the same in both, or in none -/
def two (x y : Int × Int) : Bool := decide (x.1 = y.1) == decide (x.2 = y.2)
theorem two_iff {x y : Int × Int} : two x y = true ↔ (x.1 = y.1 ↔ x.2 = y.2) := by
  unfold two
  rw [beq_iff_eq, decide_eq_decide]
theorem two_pair {M p q : Nat} : two (pairI M p) (pairI M q) = true ↔ (p / M = q / M ↔ p % M = q % M) := by
  rw [two_iff]
  have h1 : (pairI M p).1 = (pairI M q).1 ↔ p / M = q / M := ⟨fun e => Int.ofNat.inj e, fun e => congrArg Int.ofNat e⟩
  have h2 : (pairI M p).2 = (pairI M q).2 ↔ p % M = q % M := ⟨fun e => Int.ofNat.inj e, fun e => congrArg Int.ofNat e⟩
  rw [h1, h2]
theorem onetoA {M : Nat} {l : List Nat} : onetoB M l = true ↔ ∀ j, j < l.length → ∀ k, k < j → two (pairA M l)[j]! (pairA M l)[k]! = true := by
  rw [onetoB_iff]
  constructor
  · intro h j hj k hk
    rw [pairA_get M l j hj, pairA_get M l k (by omega), two_pair]
    refine h _ ?_ _ ?_
    · rw [getElem!_pos l j hj]; exact List.getElem_mem hj
    · rw [getElem!_pos l k (by omega)]; exact List.getElem_mem _
  · intro h p hp q hq
    obtain ⟨j, hj, rfl⟩ := List.getElem_of_mem hp
    obtain ⟨k, hk, rfl⟩ := List.getElem_of_mem hq
    rcases Nat.lt_trichotomy j k with c | c | c
    · have := h k hk j c
      rw [pairA_get M l j hj, pairA_get M l k hk, two_pair, getElem!_pos l j hj, getElem!_pos l k hk] at this
      exact ⟨fun e => (this.1 e.symm).symm, fun e => (this.2 e.symm).symm⟩
    · subst c
      exact ⟨fun _ => rfl, fun _ => rfl⟩
    · have := h j hj k c
      rw [pairA_get M l j hj, pairA_get M l k hk, two_pair, getElem!_pos l j hj, getElem!_pos l k hk] at this
      exact this
end Go.Proofs.YtepelpmkmhhokaaGreatDoor

set_option maxRecDepth 100000
namespace Go.Proofs.YtepelpmkmhhokaaGreatDoor
open Go.RowKit Go.Shelf
open Scs Dfs
theorem eql_pair (x y : Int × Int) (w : World) : (binOp .eql 39 (.agg #[.int .i64 x.1, .int .i64 x.2]) (.agg #[.int .i64 y.1, .int .i64 y.2])).run Tryz.prog w = .ok (.bool (decide (x = y))) w := eq_pair x y w
theorem in_arr {a : Array (Int × Int)} {x : Int × Int} : x ∈ a.toList ↔ ∃ k, k < a.size ∧ a[k]! = x := by
  constructor
  · intro h
    obtain ⟨k, hk, e⟩ := List.getElem_of_mem h
    rw [Array.length_toList] at hk
    exact ⟨k, hk, by rw [getElem!_pos a k hk]; simpa using e⟩
  · rintro ⟨k, hk, e⟩
    rw [getElem!_pos a k hk] at e
    rw [← e]
    simp
set_option maxHeartbeats 4000000 in
theorem In48_any (a : Array (Int × Int)) (x : Int × Int) (n : Nat) (p : Option Addr) (c : Nat) (w : World) (hn : a.size = n) (hsm : n < 4611686018427387904) (hp : Pl w p a) :
    Calls Tryz.prog 48 #[.slice p n c, .agg #[.int .i64 x.1, .int .i64 x.2]] w fun e w' => e = .returned (.bool (decide (x ∈ a.toList))) ∧ Below w.heap.size w w' := by
  obtain ⟨W, hW, hz, hb, r0⟩ := at1 w (.cells #[.int .i64 x.1, .int .i64 x.2] 39)
  have q0 := cell_of_row _ _ 0 _ _ _ r0
  have q1 := cell_of_row _ _ 1 _ _ _ r0
  have HP := Lib.hid (hp.below hb)
  have HN := Lib.hid hn
  have HW := Lib.hid hW
  have HB0 := Lib.hid hb
  have R0 := Lib.hid r0
  have hlw : w.heap.size < W.heap.size := (Array.getElem?_eq_some_iff.1 r0).1
  have HLW := Lib.hid hlw
  obtain ⟨r, hr⟩ : ∃ r, decide (x ∈ a.toList) = r := ⟨_, rfl⟩
  have HR := Lib.hid hr
  rw [hr]
  clear hr hp hn hW hb r0 hz hlw
  have qg := guard_pair
  go_enter Tryz.func48, Tryz.ntmps48
  go_upto_region 1 with fail
  rw [HW.out]
  go_wp2_with fail
  clear q0 q1
  go_loopw [5] (fun i wr => ∃ k : Nat, k ≤ n ∧ i = .int .i64 k ∧ Hid (∀ j, j < k → a[j]! ≠ x) ∧ Below W.heap.size W wr) (fun i _ => n - (intOf i).toNat)
  case atStart => exact ⟨0, by omega, rfl, fun j hj => by omega, Below.refl _ _⟩
  case round =>
    obtain ⟨k, hk, rfl, hall, hb⟩ := hrel
    have HB := Lib.hid hb
    have x0 := (hb.cell (p := ⟨w.heap.size, 0, none⟩) HLW.out).trans (cell_of_row _ _ 0 _ _ _ R0.out)
    have x1 := (hb.cell (p := ⟨w.heap.size, 1, none⟩) HLW.out).trans (cell_of_row _ _ 1 _ _ _ R0.out)
    clear hb
    by_cases hlt : k < n
    · have i1 : (k : Int) < (n : Int) := by omega
      obtain ⟨g, o, rfl, hg, hc0, hc1⟩ := (HP.out k (by rw [HN.out]; exact hlt))
      have y0 := (HB.out.cell (p := ⟨g, o + k * 2, none⟩) hg).trans hc0
      have y1 := (HB.out.cell (p := ⟨g, o + k * 2 + 1, none⟩) hg).trans hc1
      obtain ⟨y, hy⟩ : ∃ y, a[k]! = y := ⟨_, rfl⟩
      rw [hy] at y0 y1
      have HY := Lib.hid hy
      clear hc0 hc1 hy
      have q := eql_pair y x
      by_cases e : y = x
      · rw [decide_eq_true e] at q
        have HEQ := Lib.hid e
        clear e
        go_wp2_with fail
        go_region
        go_wp2_with fail
        go_ret
        refine ⟨?_, HB0.out.trans ((HB.out.mono HB0.out.size).drew)⟩
        rw [← HR.out, decide_eq_true (in_arr.2 ⟨k, by rw [HN.out]; exact hlt, HY.out.trans HEQ.out⟩)]
        rfl
      · rw [decide_eq_false e] at q
        have HEQ := Lib.hid e
        clear e
        go_wp2_with fail
        go_region
        go_wp2_with fail
        go_roundw
        case rel => exact ⟨k + 1, by omega, by go_num, (fun j hj => by
          by_cases h : j = k
          · rw [h, HY.out]; exact HEQ.out
          · exact hall.out j (by omega)), HB.out.drew⟩
        case measure => simp [intOf]; omega
    · have i1 : ¬ (k : Int) < (n : Int) := by omega
      go_wp2
      go_ret
      refine ⟨?_, HB0.out.trans (HB.out.mono HB0.out.size)⟩
      rw [← HR.out, decide_eq_false fun h => by
        obtain ⟨j, hj, e⟩ := in_arr.1 h
        exact hall.out j (by have := HN.out; omega) e]
      rfl
end Go.Proofs.YtepelpmkmhhokaaGreatDoor
