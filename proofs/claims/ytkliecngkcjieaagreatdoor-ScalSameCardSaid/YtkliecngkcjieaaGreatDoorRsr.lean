/- The reference puts some scalars in order: the same order. Conditions: the row lies whole. -/
import Derived.Test.YtkliecngkcjieaaGreatDoorRso
import Derived.Deep.RegionHeld
import Derived.Deep.RegionHeld3
set_option maxRecDepth 100000
namespace Go.Proofs.YtkliecngkcjieaaGreatDoor
open Go.RowKit Go.Shelf
open Scs
open Go.Sort (HoldsK)
theorem below_app2 {w W W6 : World} {B n : Nat} {v : Value} {xs : List Value} {o : Obj} (h : Below B w W) (hz : B ≤ W.heap.size) (hown : W.ownsRow B 23 3 v n xs) (hg : (W.alloc o).drew.grownBy W6 v.ownBlock) : Below B w W6 :=
  (h.alloc hz o).drew.grown hg (by simp; omega) fun q hq => by
    rcases hown with ⟨_, ⟨h1, _⟩ | ⟨g', c', cur, hv, hbg, _⟩⟩
    · rw [h1] at hq; cases hq
    · rw [hv] at hq
      obtain rfl : g' = q := Option.some.inj hq
      exact hbg
theorem insStep_n {x y : Sc} {A : List Sc} (h : ¬ cmpSc x y < 0) : insStep x (A, false) y = (A ++ [y], false) := by simp [insStep, h]
theorem insStep_y {x y : Sc} {A : List Sc} (h : cmpSc x y < 0) : insStep x (A, false) y = (A ++ [x] ++ [y], true) := by simp [insStep, h]
abbrev S7 (g o g3 o3 : Nat) (x y : Sc) (wo W : World) : Prop :=
  W.cell? ⟨g, o, none⟩ = some (.int .i64 x.1) ∧ W.cell? ⟨g, o + 1, none⟩ = some (.int .i64 x.2.1) ∧ W.cell? ⟨g, o + 2, none⟩ = some (.string x.2.2) ∧
  W.cell? ⟨g3, o3, none⟩ = some (.int .i64 y.1) ∧ W.cell? ⟨g3, o3 + 1, none⟩ = some (.int .i64 y.2.1) ∧ W.cell? ⟨g3, o3 + 2, none⟩ = some (.string y.2.2) ∧ Below wo.heap.size wo W
theorem cell_lt {W : World} {g o : Nat} {v : Value} (h : W.cell? ⟨g, o, none⟩ = some v) : g < W.heap.size := block_lt_of_cell h
theorem s7_step {g o g3 o3 : Nat} {x y : Sc} {wo W W' : World} (h : S7 g o g3 o3 x y wo W) (hb : Below W.heap.size W W') : S7 g o g3 o3 x y wo W' := by
  obtain ⟨h0, h1, h2, h3, h4, h5, h6⟩ := h
  have l0 := cell_lt h0
  have l3 := cell_lt h3
  exact ⟨(hb.cell (p := ⟨g, o, none⟩) l0).trans h0, (hb.cell (p := ⟨g, o + 1, none⟩) l0).trans h1, (hb.cell (p := ⟨g, o + 2, none⟩) l0).trans h2, (hb.cell (p := ⟨g3, o3, none⟩) l3).trans h3, (hb.cell (p := ⟨g3, o3 + 1, none⟩) l3).trans h4, (hb.cell (p := ⟨g3, o3 + 2, none⟩) l3).trans h5, h6.trans (hb.mono h6.size)⟩
theorem s7_drew {g o g3 o3 : Nat} {x y : Sc} {wo W : World} (h : S7 g o g3 o3 x y wo W) : S7 g o g3 o3 x y wo W.drew := s7_step h (Below.refl _ W).drew
set_option maxHeartbeats 8000000 in
theorem Sort_ref (d : Array Sc) (p : Option Addr) (c1 : Nat) (w : World) (hp : Sl w p d) :
    Calls Tryz.prog 23 #[.slice p d.size c1] w fun e w' => ∃ v, e = .returned v ∧ w'.ownsRow w.heap.size 23 3 v d.size (flatS (sortSc d.toList)) ∧ Below w.heap.size w w' := by
  obtain ⟨i0, hi, hz0, hz1, hz2⟩ := info_parts info23
  have HP := Lib.hid hp
  have hsm := hp.small
  have HSH := Lib.hid hp.short
  have hfin : ∀ k, k = d.size → insAll (d.toList.take k) = sortSc d.toList := fun k hk => by rw [hk, List.take_of_length_le (by rw [Array.length_toList]; exact Nat.le_refl _), insAll_eq]
  have hlen : ∀ k, k ≤ d.size → (insAll (d.toList.take k)).length = k := fun k hk => by rw [(insAll_perm _).length_eq, List.length_take, Array.length_toList]; omega
  have hmem : ∀ k, ∀ x ∈ insAll (d.toList.take k), x ∈ d.toList := fun k x hx => List.mem_of_mem_take ((insAll_perm _).mem_iff.1 hx)
  have hsucc : ∀ k, k < d.size → insAll (d.toList.take (k + 1)) = insSc d[k]! (insAll (d.toList.take k)) := fun k hk => by rw [take_get d k hk, insAll_snoc]
  have hshort : ∀ k, ∀ t, t < (insAll (d.toList.take k)).length → (insAll (d.toList.take k)).toArray[t]!.2.2.size ≤ 1000000 := fun k => short_mem hp.short (hmem k)
  obtain ⟨n, hn⟩ : ∃ n, d.size = n := ⟨_, rfl⟩
  rw [hn] at hsm hfin hlen hsucc ⊢
  have HN := Lib.hid hn
  have HFIN := Lib.hid hfin
  have HLEN := Lib.hid hlen
  have HSUC := Lib.hid hsucc
  have HSHO := Lib.hid hshort
  clear hp hn hfin hlen hmem hsucc hshort
  go_enter Tryz.func23, Tryz.ntmps23
  go_wp2_with fail
  go_loopw [3, 4] (fun v i wr => ∃ k : Nat, k ≤ n ∧ i = .int .i64 k ∧ wr.ownsRow w.heap.size 23 3 v k (flatS (insAll (d.toList.take k))) ∧ Below w.heap.size w wr) (fun _ i _ => n - (intOf i).toNat)
  case atStart => exact ⟨0, by omega, rfl, World.ownsRow_nil _ _ _ _, Below.refl _ _⟩
  case round =>
    obtain ⟨k, hk, rfl, hown, hb⟩ := hrel
    have HB := Lib.hid hb
    have HOW := Lib.hid hown
    clear hb hown
    by_cases hlt : k < n
    · have i1 : (k : Int) < (n : Int) := by omega
      obtain ⟨g, o, rfl, hg, hc0, hc1, hc2⟩ := (HP.out.at k (by rw [HN.out]; exact hlt))
      have hll := HLEN.out k hk
      have hss := HSUC.out k hlt
      obtain ⟨p3, c3, rfl, hsl⟩ := sl_own HOW.out hll.symm (by omega) (HSHO.out k)
      obtain ⟨L, hL⟩ : ∃ L, insAll (d.toList.take k) = L := ⟨_, rfl⟩
      rw [hL] at hll hss hsl
      obtain ⟨x, hx⟩ : ∃ x, d[k]! = x := ⟨_, rfl⟩
      rw [hx] at hc0 hc1 hc2 hss
      have HLL := Lib.hid hll
      have HSS := Lib.hid hss
      have HSL := Lib.hid hsl
      have HC0 := Lib.hid hc0
      have HC1 := Lib.hid hc1
      have HC2 := Lib.hid hc2
      clear hll hss hsl hx hc0 hc1 hc2
      obtain ⟨wo, rfl⟩ : ∃ W, W = wr := ⟨wr, rfl⟩
      go_wp2_with fail
      go_loopw [5, 6, 7] (fun v dn i wq => ∃ j : Nat, j ≤ k ∧ i = .int .i64 j ∧ dn = .bool (insN x L j).2 ∧ wq.ownsRow wo.heap.size 23 3 v (insN x L j).1.length (flatS (insN x L j).1) ∧ Below wo.heap.size wo wq) (fun _ _ i _ => k - (intOf i).toNat)
      case atStart => exact ⟨0, by omega, rfl, rfl, World.ownsRow_nil _ _ _ _, Below.refl _ _⟩
      case round =>
        obtain ⟨j, hj, rfl, rfl, hown, hb⟩ := hrel
        have HB2 := Lib.hid hb
        have HOW2 := Lib.hid hown
        clear hb hown
        by_cases hjt : j < k
        · have i2 : (j : Int) < (k : Int) := by omega
          obtain ⟨g3, o3, rfl, hg3, hd0, hd1, hd2⟩ := HSL.out.at j (by rw [List.size_toArray, HLL.out]; exact hjt)
          have hstep := insN_succ x L j (by rw [HLL.out]; exact hjt)
          have hjs := insN_size x L j (by rw [HLL.out]; omega)
          have hgw : g < wo.heap.size := Nat.lt_of_lt_of_le hg HB.out.size
          have x0 := (HB2.out.cell (p := ⟨g, o + k * 3, none⟩) hgw).trans ((HB.out.cell (p := ⟨g, o + k * 3, none⟩) hg).trans HC0.out)
          have x1 := (HB2.out.cell (p := ⟨g, o + k * 3 + 1, none⟩) hgw).trans ((HB.out.cell (p := ⟨g, o + k * 3 + 1, none⟩) hg).trans HC1.out)
          have x2 := (HB2.out.cell (p := ⟨g, o + k * 3 + 2, none⟩) hgw).trans ((HB.out.cell (p := ⟨g, o + k * 3 + 2, none⟩) hg).trans HC2.out)
          have y0 := (HB2.out.cell (p := ⟨g3, o3 + j * 3, none⟩) hg3).trans hd0
          have y1 := (HB2.out.cell (p := ⟨g3, o3 + j * 3 + 1, none⟩) hg3).trans hd1
          have y2 := (HB2.out.cell (p := ⟨g3, o3 + j * 3 + 2, none⟩) hg3).trans hd2
          have X0 := Lib.hid x0
          have X1 := Lib.hid x1
          have X2 := Lib.hid x2
          have Y0 := Lib.hid y0
          have Y1 := Lib.hid y1
          have Y2 := Lib.hid y2
          obtain ⟨y, hy⟩ : ∃ y, L.toArray[j]! = y := ⟨_, rfl⟩
          rw [hy] at hstep y0 y1 y2 Y0 Y1 Y2 hd0 hd1 hd2
          have hC := fun w => Compare_ref x y w
          unfold aggS at hC
          obtain ⟨c, hc⟩ : ∃ c, cmpSc x y = c := ⟨_, rfl⟩
          rw [hc] at hC
          have HCM := Lib.hid hC
          have HST := Lib.hid hstep
          have HJS := Lib.hid hjs
          have HCC := Lib.hid hc
          obtain ⟨R, hR⟩ : ∃ R, insN x L j = R := ⟨_, rfl⟩
          have HRR := Lib.hid hR
          have HOW3 := HOW2.out
          rw [hR] at HOW3
          rw [hR]
          have HOW4 := Lib.hid HOW3
          obtain ⟨A, dn⟩ := R
          have HD0 := Lib.hid hd0
          have HD1 := Lib.hid hd1
          have HD2 := Lib.hid hd2
          clear hd0 hd1 hd2 hstep hjs hy hC hc hR HOW3
          simp only at HOW4
          cases dn with
          | true =>
            have hA : A.length ≤ j + 1 := by have := HJS.out.1; rw [HRR.out] at this; exact this
            go_wp2_with fail
            go_region
            all_goals
              go_wp2_with (first
                | (at_builtin
                   refine wpList_append_lies _ rfl _ _ 34 rfl wo.heap.size 23 i0 (.agg #[.int .i64 0, .int .i64 0, .string ⟨#[]⟩]) 3 32 Tryz.underlying34 hi hz0 hz1 hz2 rfl (by decide) _ _ _ rfl (HOW4.out.alloc _).drew ⟨wr.heap.size, 0, none⟩ 1 1 [.int .i64 y.1, .int .i64 y.2.1, .string y.2.2] rfl rfl (World.news_of_block (heap_alloc_new wr _)) (by intro u hu; simp at hu; rcases hu with rfl | rfl | rfl <;> rfl) (by decide) (by unfold maxLen; omega) (by omega) (by have := HB2.out.size; simp; omega) _ rfl ?_
                   intro g6 cap6 w6 hown6 hgr6 _ _
                   have HOW6 := Lib.hid hown6
                   have HGR6 := Lib.hid hgr6
                   clear hown6 hgr6))
              go_roundw
              case rel =>
                refine ⟨j + 1, by omega, by go_num, ?_, ?_, ?_⟩
                · rw [HST.out, HRR.out]; simp [insStep]
                · rw [HST.out, HRR.out]
                  simp only [insStep, Bool.true_eq_false, false_and, if_false, List.length_append, List.length_cons, List.length_nil]
                  rw [flatS_snoc]
                  exact HOW6.out
                · exact below_app2 HB2.out HB2.out.size HOW4.out HGR6.out
              case measure => simp [intOf]; omega
          | false =>
            have hA : A.length ≤ j := by have := HJS.out.2 (by rw [HRR.out]); rw [HRR.out] at this; exact Nat.le_of_eq this
            by_cases hcl : c < 0
            · have hcd : decide (c < 0) = true := decide_eq_true hcl
              have HCL := Lib.hid hcl
              go_wp2_with fail
              have hS : Hid (S7 g (o + k * 3) g3 (o3 + j * 3) x y wr wr) := Lib.hid ⟨X0.out, X1.out, X2.out, Y0.out, Y1.out, Y2.out, Below.refl _ _⟩
              have HCN : Hid (∀ W, Hid (S7 g (o + k * 3) g3 (o3 + j * 3) x y wr W) → Calls Tryz.prog 19 #[.agg #[.int .i64 x.1, .int .i64 x.2.1, .string x.2.2], .agg #[.int .i64 y.1, .int .i64 y.2.1, .string y.2.2]] W fun e W' => e = .returned (.int .i64 c) ∧ Hid (S7 g (o + k * 3) g3 (o3 + j * 3) x y wr W')) :=
                Lib.hid fun W h => (HCM.out W).mono fun e W' hh => ⟨hh.1, Lib.hid (s7_step h.out hh.2)⟩
              clear x0 x1 x2 y0 y1 y2
              go_region_held3 (S7 g (o + k * 3) g3 (o3 + j * 3) x y wr) (first | exact Hid.out (by assumption) | exact s7_drew (Hid.out (by assumption))) (first
                | ((with_reducible refine (HCN.out _ (by first | assumption | exact Lib.hid (s7_drew (Hid.out (by assumption))))).mono ?_); rintro e wq ⟨rfl, hbq⟩))
              have HQ := hbq
              have HOWq := Lib.hid (owns_below HOW4.out HQ.out.2.2.2.2.2.2)
              have HBq := Lib.hid (HB2.out.trans (HQ.out.2.2.2.2.2.2.mono HB2.out.size))
              obtain ⟨a0, a1, a2, b0, b1, b2, _⟩ := hbq.out
              clear hbq hS HCN
              go_wp2_with (first
                | (at_builtin
                   refine wpList_append_lies _ rfl _ _ 34 rfl wo.heap.size 23 i0 (.agg #[.int .i64 0, .int .i64 0, .string ⟨#[]⟩]) 3 32 Tryz.underlying34 hi hz0 hz1 hz2 rfl (by decide) _ _ _ rfl (HOWq.out.alloc _) ⟨wq.heap.size, 0, none⟩ 1 1 [.int .i64 x.1, .int .i64 x.2.1, .string x.2.2] rfl rfl (World.news_of_block (heap_alloc_new wq _)) (by intro u hu; simp at hu; rcases hu with rfl | rfl | rfl <;> rfl) (by decide) (by unfold maxLen; omega) (by omega) (by have := HBq.out.size; simp; omega) _ rfl ?_
                   intro g6 cap6 w6 hown6 hgr6 _ _
                   have HOW6 := Lib.hid hown6
                   have HBB6 := Lib.hid (below_app HBq.out HBq.out.size HOWq.out hgr6)
                   clear hown6 hgr6
                   have z0 := (HBB6.out.cell (p := ⟨g3, o3 + j * 3, none⟩) hg3).trans HD0.out
                   have z1 := (HBB6.out.cell (p := ⟨g3, o3 + j * 3 + 1, none⟩) hg3).trans HD1.out
                   have z2 := (HBB6.out.cell (p := ⟨g3, o3 + j * 3 + 2, none⟩) hg3).trans HD2.out)
                | (at_builtin
                   refine wpList_append_lies _ rfl _ _ 34 rfl wo.heap.size 23 i0 (.agg #[.int .i64 0, .int .i64 0, .string ⟨#[]⟩]) 3 32 Tryz.underlying34 hi hz0 hz1 hz2 rfl (by decide) _ _ _ rfl (HOW6.out.alloc _) ⟨w6.heap.size, 0, none⟩ 1 1 [.int .i64 y.1, .int .i64 y.2.1, .string y.2.2] rfl rfl (World.news_of_block (heap_alloc_new w6 _)) (by intro u hu; simp at hu; rcases hu with rfl | rfl | rfl <;> rfl) (by decide) (by unfold maxLen; omega) (by omega) (by have := HBB6.out.size; simp; omega) _ rfl ?_
                   intro g7 cap7 w7 hown7 hgr7 _ _
                   have HOW7 := Lib.hid hown7
                   have HBB7 := Lib.hid (below_app HBB6.out HBB6.out.size HOW6.out hgr7)
                   clear hown7 hgr7))
              go_roundw
              case rel =>
                refine ⟨j + 1, by omega, by go_num, ?_, ?_, HBB7.out⟩
                · rw [HST.out, HRR.out, insStep_y (by rw [HCC.out]; exact HCL.out)]
                · rw [HST.out, HRR.out, insStep_y (by rw [HCC.out]; exact HCL.out)]
                  simp only [List.length_append, List.length_cons, List.length_nil]
                  rw [flatS_snoc, flatS_snoc]
                  exact HOW7.out
              case measure => simp [intOf]; omega
            · have hcd : decide (c < 0) = false := decide_eq_false hcl
              have HCL := Lib.hid hcl
              go_wp2_with fail
              have hS : Hid (S7 g (o + k * 3) g3 (o3 + j * 3) x y wr wr) := Lib.hid ⟨X0.out, X1.out, X2.out, Y0.out, Y1.out, Y2.out, Below.refl _ _⟩
              have HCN : Hid (∀ W, Hid (S7 g (o + k * 3) g3 (o3 + j * 3) x y wr W) → Calls Tryz.prog 19 #[.agg #[.int .i64 x.1, .int .i64 x.2.1, .string x.2.2], .agg #[.int .i64 y.1, .int .i64 y.2.1, .string y.2.2]] W fun e W' => e = .returned (.int .i64 c) ∧ Hid (S7 g (o + k * 3) g3 (o3 + j * 3) x y wr W')) :=
                Lib.hid fun W h => (HCM.out W).mono fun e W' hh => ⟨hh.1, Lib.hid (s7_step h.out hh.2)⟩
              clear x0 x1 x2 y0 y1 y2
              go_region_held3 (S7 g (o + k * 3) g3 (o3 + j * 3) x y wr) (first | exact Hid.out (by assumption) | exact s7_drew (Hid.out (by assumption))) (first
                | ((with_reducible refine (HCN.out _ (by first | assumption | exact Lib.hid (s7_drew (Hid.out (by assumption))))).mono ?_); rintro e wq ⟨rfl, hbq⟩))
              have HQ := hbq
              have HOWq := Lib.hid (owns_below HOW4.out HQ.out.2.2.2.2.2.2)
              have HBq := Lib.hid (HB2.out.trans (HQ.out.2.2.2.2.2.2.mono HB2.out.size))
              obtain ⟨a0, a1, a2, b0, b1, b2, _⟩ := hbq.out
              clear hbq hS HCN
              go_wp2_with (first
                | (at_builtin
                   refine wpList_append_lies _ rfl _ _ 34 rfl wo.heap.size 23 i0 (.agg #[.int .i64 0, .int .i64 0, .string ⟨#[]⟩]) 3 32 Tryz.underlying34 hi hz0 hz1 hz2 rfl (by decide) _ _ _ rfl (HOWq.out.alloc _) ⟨wq.heap.size, 0, none⟩ 1 1 [.int .i64 y.1, .int .i64 y.2.1, .string y.2.2] rfl rfl (World.news_of_block (heap_alloc_new wq _)) (by intro u hu; simp at hu; rcases hu with rfl | rfl | rfl <;> rfl) (by decide) (by unfold maxLen; omega) (by omega) (by have := HBq.out.size; simp; omega) _ rfl ?_
                   intro g6 cap6 w6 hown6 hgr6 _ _
                   have HOW6 := Lib.hid hown6
                   have HBB6 := Lib.hid (below_app HBq.out HBq.out.size HOWq.out hgr6)
                   clear hown6 hgr6))
              go_roundw
              case rel =>
                refine ⟨j + 1, by omega, by go_num, ?_, ?_, HBB6.out⟩
                · rw [HST.out, HRR.out, insStep_n (by rw [HCC.out]; exact Int.not_lt.2 HCL.out)]
                · rw [HST.out, HRR.out, insStep_n (by rw [HCC.out]; exact Int.not_lt.2 HCL.out)]
                  simp only [List.length_append, List.length_cons, List.length_nil]
                  rw [flatS_snoc]
                  exact HOW6.out
              case measure => simp [intOf]; omega
        · have i2 : ¬ (j : Int) < (k : Int) := by omega
          obtain rfl : j = k := by omega
          have hfin : insFin x (insN x L j) = insSc x L := by have h := insN_len x L; rw [HLL.out] at h; exact h
          have hjs := insN_size x L j (by rw [HLL.out]; omega)
          obtain ⟨R, hR⟩ : ∃ R, insN x L j = R := ⟨_, rfl⟩
          have HOW3 := HOW2.out
          rw [hR] at HOW3 hfin hjs ⊢
          obtain ⟨A, dn⟩ := R
          have HOW4 := Lib.hid HOW3
          have hgw : g < wo.heap.size := Nat.lt_of_lt_of_le hg HB.out.size
          have x0 := (HB2.out.cell (p := ⟨g, o + j * 3, none⟩) hgw).trans ((HB.out.cell (p := ⟨g, o + j * 3, none⟩) hg).trans HC0.out)
          have x1 := (HB2.out.cell (p := ⟨g, o + j * 3 + 1, none⟩) hgw).trans ((HB.out.cell (p := ⟨g, o + j * 3 + 1, none⟩) hg).trans HC1.out)
          have x2 := (HB2.out.cell (p := ⟨g, o + j * 3 + 2, none⟩) hgw).trans ((HB.out.cell (p := ⟨g, o + j * 3 + 2, none⟩) hg).trans HC2.out)
          have HBo : Hid (Below w.heap.size w wr) := Lib.hid (HB.out.trans (HB2.out.mono HB.out.size))
          clear hR HOW3 HOW2
          simp only at hjs HOW4
          have hlen1 := ins_len x L
          rw [HLL.out, ← hfin] at hlen1
          cases dn with
          | true =>
            have hF : insFin x (A, true) = A := rfl
            rw [hF] at hfin hlen1
            have HF := Lib.hid hfin
            clear hfin
            go_wp2_with fail
            go_roundw
            case rel =>
              refine ⟨j + 1, by omega, by go_num, ?_, HBo.out⟩
              rw [HSS.out, ← HF.out, ← hlen1]
              exact owns_le HOW4.out HB.out.size
            case measure => simp [intOf]; omega
          | false =>
            have hF : insFin x (A, false) = A ++ [x] := rfl
            rw [hF] at hfin hlen1
            have hA : A.length = j := hjs.2 rfl
            have HF := Lib.hid hfin
            clear hfin
            go_wp2_with (first
                | (at_builtin
                   refine wpList_append_lies _ rfl _ _ 34 rfl wo.heap.size 23 i0 (.agg #[.int .i64 0, .int .i64 0, .string ⟨#[]⟩]) 3 32 Tryz.underlying34 hi hz0 hz1 hz2 rfl (by decide) _ _ _ rfl (HOW4.out.alloc _) ⟨wr.heap.size, 0, none⟩ 1 1 [.int .i64 x.1, .int .i64 x.2.1, .string x.2.2] rfl rfl (World.news_of_block (heap_alloc_new wr _)) (by intro u hu; simp at hu; rcases hu with rfl | rfl | rfl <;> rfl) (by decide) (by unfold maxLen; omega) (by omega) (by have := HB2.out.size; simp; omega) _ rfl ?_
                   intro g6 cap6 w6 hown6 hgr6 _ _
                   have HOW6 := Lib.hid hown6
                   have HBB6 := Lib.hid (below_app HB2.out HB2.out.size HOW4.out hgr6)
                   clear hown6 hgr6))
            go_roundw
            case rel =>
              refine ⟨j + 1, by omega, by go_num, ?_, HB.out.trans (HBB6.out.mono HB.out.size)⟩
              rw [HSS.out, ← HF.out, flatS_snoc]
              have h := owns_le HOW6.out HB.out.size
              rw [hA] at h
              exact h
            case measure => simp [intOf]; omega
    · have i1 : ¬ (k : Int) < (n : Int) := by omega
      obtain rfl : k = n := by omega
      go_wp2
      go_ret
      exact ⟨_, rfl, by rw [← HFIN.out k rfl]; exact HOW.out, HB.out⟩
end Go.Proofs.YtkliecngkcjieaaGreatDoor
