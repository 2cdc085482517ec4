/- The reference tells the places of a map's keys in their order. Conditions: the node lies. The reference tells a node's kids. Conditions: the graph lies. The reference tells a map's keys. Conditions: the graph lies. -/
import Derived.Test.YtepelpmkmhhokaaGreatDoorLmx
import Derived.Test.YtepelpmkmhhokaaGreatDoorOrdx
import Derived.Deep.RegionHeld
import Derived.Deep.RegionHeld3
import Derived.Deep.RegionLaw
import Derived.Deep.AppendLies
import Derived.Laws.AppendOwn
set_option maxRecDepth 100000
namespace Go.Proofs.YtepelpmkmhhokaaGreatDoor
open Go.RowKit Go.Shelf
open Scs
def natI (l : List Nat) : List Int := l.map fun (i : Nat) => (i : Int)
theorem natI_len (l : List Nat) : (natI l).length = l.length := by simp [natI]
theorem natI_get (l : List Nat) (j : Nat) (h : j < l.length) : (natI l).toArray[j]! = ((l[j]! : Nat) : Int) := by
  rw [getElem!_pos (natI l).toArray j (by simpa [natI] using h), getElem!_pos l j h]
  simp [natI]
theorem natI_snoc (l : List Nat) (x : Nat) : natI (l ++ [x]) = natI l ++ [(x : Int)] := by simp [natI]
theorem ints_natI_snoc (l : List Nat) (x : Nat) : ints (natI (l ++ [x])) = ints (natI l) ++ [.int .i64 (x : Int)] := by rw [natI_snoc, ints_snoc]
theorem ownI_below {W W' : World} {b n : Nat} {v : Value} {xs : List Value} (h : W.ownsRow b 3 1 v n xs) (hb : Below W.heap.size W W') : W'.ownsRow b 3 1 v n xs := by
  rcases h with ⟨ha, h1 | ⟨g', c', cur, hv, hbg, hg2, hr2⟩⟩
  · exact ⟨ha, .inl h1⟩
  · exact ⟨ha, .inr ⟨g', c', cur, hv, hbg, (hb.block g' (Array.getElem?_eq_some_iff.1 hg2).1).trans hg2, hr2⟩⟩
theorem own_len {W : World} {b T k n m : Nat} {v : Value} {xs : List Value} (h : W.ownsRow b T k v n xs) (e : n = m) : W.ownsRow b T k v m xs := e ▸ h
theorem belowI_app {w W W6 : World} {B n : Nat} {v : Value} {xs : List Value} {o : Obj} (h : Below B w W) (hz : B ≤ W.heap.size) (hown : W.ownsRow B 3 1 v n xs) (hg : (W.alloc o).grownBy W6 v.ownBlock) : Below B w W6 :=
  (h.alloc hz o).grown hg (by simp; omega) fun q hq => (own_lt hown q hq).1
abbrev S9 (B : Nat) (v : Value) (g o : Nat) (x : Sc) (b3 o3 : Nat) (z : Int) (o2 : Nat) (y : Sc) (wo W : World) : Prop :=
  W.cell? ⟨B, 4, none⟩ = some v ∧ W.cell? ⟨g, o, none⟩ = some (.int .i64 x.1) ∧ W.cell? ⟨g, o + 1, none⟩ = some (.int .i64 x.2.1) ∧ W.cell? ⟨g, o + 2, none⟩ = some (.string x.2.2) ∧
  W.cell? ⟨b3, o3, none⟩ = some (.int .i64 z) ∧ W.cell? ⟨g, o2, none⟩ = some (.int .i64 y.1) ∧ W.cell? ⟨g, o2 + 1, none⟩ = some (.int .i64 y.2.1) ∧ W.cell? ⟨g, o2 + 2, none⟩ = some (.string y.2.2) ∧ Below wo.heap.size wo W
theorem s9_step {B : Nat} {v : Value} {g o : Nat} {x : Sc} {b3 o3 : Nat} {z : Int} {o2 : Nat} {y : Sc} {wo W W' : World} (h : S9 B v g o x b3 o3 z o2 y wo W) (hb : Below W.heap.size W W') : S9 B v g o x b3 o3 z o2 y wo W' := by
  obtain ⟨h0, h1, h2, h3, h4, h5, h6, h7, hbb⟩ := h
  exact ⟨(hb.cell (block_lt_of_cell h0)).trans h0, (hb.cell (block_lt_of_cell h1)).trans h1, (hb.cell (block_lt_of_cell h2)).trans h2, (hb.cell (block_lt_of_cell h3)).trans h3, (hb.cell (block_lt_of_cell h4)).trans h4, (hb.cell (block_lt_of_cell h5)).trans h5,
    (hb.cell (block_lt_of_cell h6)).trans h6, (hb.cell (block_lt_of_cell h7)).trans h7, hbb.trans (hb.mono hbb.size)⟩
theorem s9_drew {B : Nat} {v : Value} {g o : Nat} {x : Sc} {b3 o3 : Nat} {z : Int} {o2 : Nat} {y : Sc} {wo W : World} (h : S9 B v g o x b3 o3 z o2 y wo W) : S9 B v g o x b3 o3 z o2 y wo W.drew := s9_step h (Below.refl _ W).drew
set_option maxHeartbeats 8000000 in
theorem order32_in (f : Fn) (n : Nat) (pk : Option Addr) (ck : Nat) (pd : Option Addr) (nd cd : Nat) (w : World) (hn : f.keys.size = n) (hf : Sl w pk f.keys) :
    Calls Tryz.prog 54 #[.agg #[.int .i64 f.k, .int .i64 f.x.1, .int .i64 f.x.2.1, .string f.x.2.2, .slice pk n ck, .slice pd nd cd]] w fun e w' => ∃ v, e = .returned v ∧ w'.ownsRow w.heap.size 3 1 v n (ints (natI (orderN f n))) ∧ Below w.heap.size w w' := by
  obtain ⟨i0, hi, hz0, hz1, hz2⟩ := info_parts info3
  obtain ⟨W, hW⟩ : ∃ W, (w.alloc (.cells #[.int .i64 f.k, .int .i64 f.x.1, .int .i64 f.x.2.1, .string f.x.2.2, .slice pk n ck, .slice pd nd cd] 51)) = W := ⟨_, rfl⟩
  have hr0 : W.heap[w.heap.size]? = some (.cells #[.int .i64 f.k, .int .i64 f.x.1, .int .i64 f.x.2.1, .string f.x.2.2, .slice pk n ck, .slice pd nd cd] 51 (0, 0)) := by rw [← hW]; exact heap_alloc_new w _
  have hb0 : Below w.heap.size w W := by rw [← hW]; exact (Below.refl _ w).alloc (Nat.le_refl _) _
  have hsm := hf.small
  rw [hn] at hsm
  have HP := Lib.hid (hf.below hb0)
  have HN := Lib.hid hn
  have HW := Lib.hid hW
  have HR0 := Lib.hid hr0
  have HB0 := Lib.hid hb0
  have HLEN := Lib.hid (orderN_len f)
  have HLT := Lib.hid (orderN_lt f)
  have HSUC := Lib.hid (orderN_succ f)
  clear hf hn hW hr0 hb0
  go_enter Tryz.func54, Tryz.ntmps54
  go_wp2_with fail
  rw [HW.out]
  go_loopw [3, 4] (fun v i wr => ∃ k : Nat, k ≤ n ∧ i = .int .i64 k ∧ wr.ownsRow W.heap.size 3 1 v k (ints (natI (orderN f k))) ∧ Below W.heap.size W wr) (fun _ i _ => n - (intOf i).toNat)
  case atStart => exact ⟨0, by omega, rfl, World.ownsRow_nil _ _ _ _, Below.refl _ _⟩
  case round =>
    obtain ⟨k, hk, rfl, hown, hb⟩ := hrel
    have hrr := (hb.block _ (Array.getElem?_eq_some_iff.1 HR0.out).1).trans HR0.out
    have q4 := cell_of_row _ _ 4 _ _ _ hrr
    have HB := Lib.hid hb
    have HOW := Lib.hid hown
    have HRR := Lib.hid hrr
    clear hb hown hrr
    by_cases hlt : k < n
    · have i1 : (k : Int) < (n : Int) := by omega
      obtain ⟨g, o, rfl, hg, hc0, hc1, hc2⟩ := (HP.out.at k (by rw [HN.out]; exact hlt))
      have hll := HLEN.out k
      have hlk := HLT.out k
      have hss := HSUC.out k
      obtain ⟨p3, c3, rfl, hsl⟩ := il_own HOW.out (by rw [natI_len, hll]) (by omega)
      obtain ⟨L, hL⟩ : ∃ L, orderN f k = L := ⟨_, rfl⟩
      rw [hL] at hll hlk hss hsl
      obtain ⟨x, hx⟩ : ∃ x, f.keys[k]! = x := ⟨_, rfl⟩
      have hpk : ∀ y, pKey f k y = decide (cmpSc x f.keys[y]! < 0) := fun y => by unfold pKey ltOf; rw [hx]
      rw [hx] at hc0 hc1 hc2
      have HLL := Lib.hid hll
      have HLK := Lib.hid hlk
      have HSS := Lib.hid hss
      have HSL := Lib.hid hsl
      have HPK := Lib.hid hpk
      have HC0 := Lib.hid hc0
      have HC1 := Lib.hid hc1
      have HC2 := Lib.hid hc2
      clear hll hlk hss hsl hx hpk hc0 hc1 hc2
      obtain ⟨wo, rfl⟩ : ∃ W, W = wr := ⟨wr, rfl⟩
      go_wp2_with fail
      clear q4
      go_loopw [5, 6, 7] (fun v dn i wq => ∃ j : Nat, j ≤ k ∧ i = .int .i64 j ∧ dn = .bool (insJ (pKey f) k L j).2 ∧ wq.ownsRow wo.heap.size 3 1 v (insJ (pKey f) k L j).1.length (ints (natI (insJ (pKey f) k L j).1)) ∧ Below wo.heap.size wo wq) (fun _ _ i _ => k - (intOf i).toNat)
      case atStart => exact ⟨0, by omega, rfl, rfl, World.ownsRow_nil _ _ _ _, Below.refl _ _⟩
      case round =>
        obtain ⟨j, hj, rfl, rfl, hown, hb⟩ := hrel
        have HB2 := Lib.hid hb
        have HOW2 := Lib.hid hown
        clear hb hown
        by_cases hjt : j < k
        · have i2 : (j : Int) < (k : Int) := by omega
          obtain ⟨g3, o3, rfl, hg3, hd0⟩ := HSL.out.at j (by rw [List.size_toArray, natI_len, HLL.out]; exact hjt)
          have hjl : j < L.length := by rw [HLL.out]; exact hjt
          rw [natI_get L j hjl] at hd0
          have hstep := insJ_succ (pKey f) k L j hjl
          have hjs := insJ_size (pKey f) k L j (Nat.le_of_lt hjl)
          have hyk : L[j]! < k := HLK.out _ (by rw [getElem!_pos L j hjl]; exact List.getElem_mem hjl)
          obtain ⟨y, hy⟩ : ∃ y, L[j]! = y := ⟨_, rfl⟩
          rw [hy] at hd0 hstep hyk
          have hyn : (y : Int) < (n : Int) := by omega
          obtain ⟨g2, o2, he2, hg2, he0, he1, he22⟩ := (HP.out.at y (by rw [HN.out]; omega))
          obtain ⟨rfl, rfl⟩ : g = g2 ∧ o = o2 := by
            injection he2 with h
            injection h with h1 h2
            exact ⟨h1, h2⟩
          have hgw : g < wo.heap.size := Nat.lt_of_lt_of_le hg HB.out.size
          have hvb := HB.out.trans (HB2.out.mono HB.out.size)
          have x0 := (hvb.cell (p := ⟨g, o + k * 3, none⟩) hg).trans HC0.out
          have x1 := (hvb.cell (p := ⟨g, o + k * 3 + 1, none⟩) hg).trans HC1.out
          have x2 := (hvb.cell (p := ⟨g, o + k * 3 + 2, none⟩) hg).trans HC2.out
          have z0 := (hvb.cell (p := ⟨g, o + y * 3, none⟩) hg).trans he0
          have z1 := (hvb.cell (p := ⟨g, o + y * 3 + 1, none⟩) hg).trans he1
          have z2 := (hvb.cell (p := ⟨g, o + y * 3 + 2, none⟩) hg).trans he22
          have y0 := (HB2.out.cell (p := ⟨g3, o3 + j, none⟩) hg3).trans hd0
          have hrr := (HB2.out.block _ (Array.getElem?_eq_some_iff.1 HRR.out).1).trans HRR.out
          have q4 := cell_of_row _ _ 4 _ _ _ hrr
          have hp := HPK.out y
          obtain ⟨u, hu⟩ : ∃ u, f.keys[y]! = u := ⟨_, rfl⟩
          rw [hu] at z0 z1 z2 hp
          have hC := fun w => Compare_ref x u w
          unfold aggS at hC
          obtain ⟨c, hc⟩ : ∃ c, cmpSc x u = c := ⟨_, rfl⟩
          rw [hc] at hC hp
          have HCM := Lib.hid hC
          have HST := Lib.hid hstep
          have HJS := Lib.hid hjs
          have HPP := Lib.hid hp
          obtain ⟨R, hR⟩ : ∃ R, insJ (pKey f) k L j = R := ⟨_, rfl⟩
          have HRE := Lib.hid hR
          have HOW3 := HOW2.out
          rw [hR] at HOW3
          rw [hR]
          have HOW4 := Lib.hid HOW3
          obtain ⟨A, dn⟩ := R
          have HD0 := Lib.hid hd0
          clear hstep hjs hy hC hc hR HOW3 hd0 he0 he1 he22 hp hu hrr he2 hvb
          simp only at HOW4
          cases dn with
          | true =>
            have hA : A.length ≤ j + 1 := by have := HJS.out.1; rw [HRE.out] at this; exact this
            clear x0 x1 x2 z0 z1 z2 q4
            go_wp2_with fail
            go_region
            all_goals
              go_wp2_with (first
                | (at_builtin
                   refine wpList_append_lies _ rfl _ _ 41 rfl wo.heap.size 3 i0 (.int .i64 0) 1 8 Tryz.underlying41 hi hz0 hz1 hz2 rfl (by decide) _ _ _ rfl (HOW4.out.alloc _).drew ⟨wr.heap.size, 0, none⟩ 1 1 [.int .i64 (y : Int)] rfl rfl (World.news_of_block (heap_alloc_new wr _)) (by intro u hu; simp at hu; rcases hu with rfl; rfl) (by decide) (by unfold maxLen; omega) (by omega) (by have := HB2.out.size; simp; omega) _ rfl ?_
                   intro g6 cap6 w6 hown6 hgr6 _ _
                   have HOW6 := Lib.hid hown6
                   have HGR6 := Lib.hid hgr6
                   clear hown6 hgr6))
              go_roundw
              case rel =>
                refine ⟨j + 1, by omega, by go_num, ?_, ?_, ?_⟩
                · rw [HST.out, HRE.out]; simp [insT]
                · rw [HST.out, HRE.out]
                  simp only [insT, Bool.true_eq_false, false_and, if_false, List.length_append, List.length_cons, List.length_nil]
                  rw [ints_natI_snoc]
                  exact HOW6.out
                · exact (HB2.out.alloc HB2.out.size _).drew.grown HGR6.out (by have := HB2.out.size; simp; omega) fun q hq => (own_lt HOW4.out q hq).1
              case measure => simp [intOf]; omega
          | false =>
            have hA : A.length ≤ j := by have := HJS.out.2 (by rw [HRE.out]); rw [HRE.out] at this; exact Nat.le_of_eq this
            by_cases hcl : c < 0
            · have hcd : decide (c < 0) = true := decide_eq_true hcl
              have hpt := HPP.out
              rw [hcd] at hpt
              have HPT := Lib.hid hpt
              clear hpt
              go_wp2_with fail
              have hS : Hid (S9 w.heap.size (.slice (some ⟨g, o, none⟩) n ck) g (o + k * 3) x g3 (o3 + j) (y : Int) (o + y * 3) u wr wr) := Lib.hid ⟨q4, x0, x1, x2, y0, z0, z1, z2, Below.refl _ _⟩
              have HCN : Hid (∀ W', Hid (S9 w.heap.size (.slice (some ⟨g, o, none⟩) n ck) g (o + k * 3) x g3 (o3 + j) (y : Int) (o + y * 3) u wr W') → Calls Tryz.prog 73 #[.agg #[.int .i64 x.1, .int .i64 x.2.1, .string x.2.2], .agg #[.int .i64 u.1, .int .i64 u.2.1, .string u.2.2]] W' fun e W'' => e = .returned (.int .i64 c) ∧ Hid (S9 w.heap.size (.slice (some ⟨g, o, none⟩) n ck) g (o + k * 3) x g3 (o3 + j) (y : Int) (o + y * 3) u wr W'')) :=
                Lib.hid fun W' h => (HCM.out W').mono fun e W'' hh => ⟨hh.1, Lib.hid (s9_step h.out hh.2)⟩
              clear x0 x1 x2 z0 z1 z2 q4 y0
              go_region_held3 (S9 w.heap.size (.slice (some ⟨g, o, none⟩) n ck) g (o + k * 3) x g3 (o3 + j) (y : Int) (o + y * 3) u wr) (first | exact Hid.out (by assumption) | exact s9_drew (Hid.out (by assumption))) (first
                | ((with_reducible refine (HCN.out _ (by first | assumption | exact Lib.hid (s9_drew (Hid.out (by assumption))))).mono ?_); rintro e wq ⟨rfl, hbq⟩))
              have HQ := hbq
              have HOWq := Lib.hid (ownI_below HOW4.out HQ.out.2.2.2.2.2.2.2.2)
              have HBq := Lib.hid (HB2.out.trans (HQ.out.2.2.2.2.2.2.2.2.mono HB2.out.size))
              obtain ⟨a0, a1, a2, a3, b0, a4, a5, a6, _⟩ := hbq.out
              clear hbq hS HCN a0 a1 a2 a3 a4 a5 a6
              go_wp2_with (first
                | (at_builtin
                   refine wpList_append_lies _ rfl _ _ 41 rfl wo.heap.size 3 i0 (.int .i64 0) 1 8 Tryz.underlying41 hi hz0 hz1 hz2 rfl (by decide) _ _ _ rfl (HOWq.out.alloc _) ⟨wq.heap.size, 0, none⟩ 1 1 [.int .i64 (k : Int)] rfl rfl (World.news_of_block (heap_alloc_new wq _)) (by intro u hu; simp at hu; rcases hu with rfl; rfl) (by decide) (by unfold maxLen; omega) (by omega) (by have := HBq.out.size; simp; omega) _ rfl ?_
                   intro g6 cap6 w6 hown6 hgr6 _ _
                   have HOW6 := Lib.hid hown6
                   have HBB6 := Lib.hid (belowI_app HBq.out HBq.out.size HOWq.out hgr6)
                   clear hown6 hgr6 b0
                   have b1 := (HBB6.out.cell (p := ⟨g3, o3 + j, none⟩) hg3).trans HD0.out)
                | (at_builtin
                   refine wpList_append_lies _ rfl _ _ 41 rfl wo.heap.size 3 i0 (.int .i64 0) 1 8 Tryz.underlying41 hi hz0 hz1 hz2 rfl (by decide) _ _ _ rfl (HOW6.out.alloc _) ⟨w6.heap.size, 0, none⟩ 1 1 [.int .i64 (y : Int)] rfl rfl (World.news_of_block (heap_alloc_new w6 _)) (by intro u hu; simp at hu; rcases hu with rfl; rfl) (by decide) (by unfold maxLen; omega) (by omega) (by have := HBB6.out.size; simp; omega) _ rfl ?_
                   intro g7 cap7 w7 hown7 hgr7 _ _
                   have HOW7 := Lib.hid hown7
                   have HBB7 := Lib.hid (belowI_app HBB6.out HBB6.out.size HOW6.out hgr7)
                   clear hown7 hgr7))
              go_roundw
              case rel =>
                refine ⟨j + 1, by omega, by go_num, ?_, ?_, HBB7.out⟩
                · rw [HST.out, HRE.out, insT_y HPT.out]
                · rw [HST.out, HRE.out, insT_y HPT.out]
                  simp only [List.length_append, List.length_cons, List.length_nil]
                  rw [ints_natI_snoc, ints_natI_snoc]
                  exact HOW7.out
              case measure => simp [intOf]; omega
            · have hcd : decide (c < 0) = false := decide_eq_false hcl
              have hpt := HPP.out
              rw [hcd] at hpt
              have HPT := Lib.hid hpt
              clear hpt
              go_wp2_with fail
              have hS : Hid (S9 w.heap.size (.slice (some ⟨g, o, none⟩) n ck) g (o + k * 3) x g3 (o3 + j) (y : Int) (o + y * 3) u wr wr) := Lib.hid ⟨q4, x0, x1, x2, y0, z0, z1, z2, Below.refl _ _⟩
              have HCN : Hid (∀ W', Hid (S9 w.heap.size (.slice (some ⟨g, o, none⟩) n ck) g (o + k * 3) x g3 (o3 + j) (y : Int) (o + y * 3) u wr W') → Calls Tryz.prog 73 #[.agg #[.int .i64 x.1, .int .i64 x.2.1, .string x.2.2], .agg #[.int .i64 u.1, .int .i64 u.2.1, .string u.2.2]] W' fun e W'' => e = .returned (.int .i64 c) ∧ Hid (S9 w.heap.size (.slice (some ⟨g, o, none⟩) n ck) g (o + k * 3) x g3 (o3 + j) (y : Int) (o + y * 3) u wr W'')) :=
                Lib.hid fun W' h => (HCM.out W').mono fun e W'' hh => ⟨hh.1, Lib.hid (s9_step h.out hh.2)⟩
              clear x0 x1 x2 z0 z1 z2 q4 y0
              go_region_held3 (S9 w.heap.size (.slice (some ⟨g, o, none⟩) n ck) g (o + k * 3) x g3 (o3 + j) (y : Int) (o + y * 3) u wr) (first | exact Hid.out (by assumption) | exact s9_drew (Hid.out (by assumption))) (first
                | ((with_reducible refine (HCN.out _ (by first | assumption | exact Lib.hid (s9_drew (Hid.out (by assumption))))).mono ?_); rintro e wq ⟨rfl, hbq⟩))
              have HQ := hbq
              have HOWq := Lib.hid (ownI_below HOW4.out HQ.out.2.2.2.2.2.2.2.2)
              have HBq := Lib.hid (HB2.out.trans (HQ.out.2.2.2.2.2.2.2.2.mono HB2.out.size))
              obtain ⟨a0, a1, a2, a3, b0, a4, a5, a6, _⟩ := hbq.out
              clear hbq hS HCN a0 a1 a2 a3 a4 a5 a6
              go_wp2_with (first
                | (at_builtin
                   refine wpList_append_lies _ rfl _ _ 41 rfl wo.heap.size 3 i0 (.int .i64 0) 1 8 Tryz.underlying41 hi hz0 hz1 hz2 rfl (by decide) _ _ _ rfl (HOWq.out.alloc _) ⟨wq.heap.size, 0, none⟩ 1 1 [.int .i64 (y : Int)] rfl rfl (World.news_of_block (heap_alloc_new wq _)) (by intro u hu; simp at hu; rcases hu with rfl; rfl) (by decide) (by unfold maxLen; omega) (by omega) (by have := HBq.out.size; simp; omega) _ rfl ?_
                   intro g6 cap6 w6 hown6 hgr6 _ _
                   have HOW6 := Lib.hid hown6
                   have HBB6 := Lib.hid (belowI_app HBq.out HBq.out.size HOWq.out hgr6)
                   clear hown6 hgr6))
              go_roundw
              case rel =>
                refine ⟨j + 1, by omega, by go_num, ?_, ?_, HBB6.out⟩
                · rw [HST.out, HRE.out, insT_n HPT.out]
                · rw [HST.out, HRE.out, insT_n HPT.out]
                  simp only [List.length_append, List.length_cons, List.length_nil]
                  rw [ints_natI_snoc]
                  exact HOW6.out
              case measure => simp [intOf]; omega
        · have i2 : ¬ (j : Int) < (k : Int) := by omega
          obtain rfl : j = k := by omega
          have hfin : insE j (insJ (pKey f) j L j) = insB (pKey f) j L := by have h := insJ_len (pKey f) j L; rw [HLL.out] at h; exact h
          have hjs := insJ_size (pKey f) j L j (by rw [HLL.out]; exact Nat.le_refl _)
          obtain ⟨R, hR⟩ : ∃ R, insJ (pKey f) j L j = R := ⟨_, rfl⟩
          have HOW3 := HOW2.out
          rw [hR] at HOW3 hfin hjs ⊢
          obtain ⟨A, dn⟩ := R
          have HOW4 := Lib.hid HOW3
          have HBo : Hid (Below W.heap.size W wr) := Lib.hid (HB.out.trans (HB2.out.mono HB.out.size))
          have hlen1 := insB_len (pKey f) j L
          rw [HLL.out, ← hfin] at hlen1
          clear hR HOW3 HOW2
          simp only at hjs HOW4
          cases dn with
          | true =>
            have hF : insE j (A, true) = A := rfl
            rw [hF] at hfin hlen1
            have HF := Lib.hid hfin
            have HL1 := Lib.hid hlen1
            clear hfin hlen1 hF hjs
            go_wp2_with fail
            go_roundw
            case rel =>
              refine ⟨j + 1, by omega, by go_num, ?_, HBo.out⟩
              rw [HSS.out, ← HF.out, ← HL1.out]
              exact own_low HOW4.out HB.out.size
            case measure => simp [intOf]; omega
          | false =>
            have hF : insE j (A, false) = A ++ [j] := rfl
            rw [hF] at hfin hlen1
            have hA : A.length = j := hjs.2 rfl
            have HAL := Lib.hid hA
            have hAle : A.length ≤ j := Nat.le_of_eq hA
            have HF := Lib.hid hfin
            clear hfin hlen1 hF hA hjs
            go_upto_region 15 with fail
            clear i2 hL
            go_upto_region 16 with (first
              | (at_builtin
                 refine wpList_append_lies _ rfl _ _ 41 rfl wo.heap.size 3 i0 (.int .i64 0) 1 8 Tryz.underlying41 hi hz0 hz1 hz2 rfl (by decide) _ _ _ rfl (HOW4.out.alloc _) ⟨wr.heap.size, 0, none⟩ 1 1 [.int .i64 (j : Int)] rfl rfl (World.news_of_block (heap_alloc_new wr _)) (by intro u hu; simp at hu; rcases hu with rfl; rfl) (by decide) (by unfold maxLen; omega) (by omega) (by have := HB2.out.size; simp; omega) _ rfl ?_
                 intro g6 cap6 w6 hown6 hgr6 _ _
                 have HOW6 := Lib.hid hown6
                 have HBB6 := Lib.hid (belowI_app HB2.out HB2.out.size HOW4.out hgr6)
                 clear hown6 hgr6))
            go_wp2_with fail
            go_roundw
            case rel =>
              refine ⟨j + 1, by omega, by go_num, ?_, ?_⟩
              · rw [HSS.out, ← HF.out, ints_natI_snoc]
                exact own_len (own_low HOW6.out HB.out.size) (by rw [HAL.out])
              · exact HB.out.trans (HBB6.out.mono HB.out.size)
            case measure => simp [intOf]; omega
    · have i1 : ¬ (k : Int) < (n : Int) := by omega
      obtain rfl : k = n := by omega
      go_wp2_with fail
      go_ret
      exact ⟨_, rfl, own_low HOW.out HB0.out.size, HB0.out.trans (HB.out.mono HB0.out.size)⟩
end Go.Proofs.YtepelpmkmhhokaaGreatDoor

set_option maxRecDepth 100000
namespace Go.Proofs.YtepelpmkmhhokaaGreatDoor
open Go.RowKit Go.Shelf
open Scs
theorem order32_any (f : Fn) (w : World) (hf : Nl w f) :
    Calls Tryz.prog 54 #[nV f] w fun e w' => ∃ v, e = .returned v ∧ w'.ownsRow w.heap.size 3 1 v f.keys.size (ints (natI (orderN f f.keys.size))) ∧ Below w.heap.size w w' :=
  order32_in f f.keys.size f.pk f.ck f.pd f.kids.size f.cd w rfl hf.ks
theorem isMap31_any (f : Fn) (w : World) : Calls Tryz.prog 53 #[nV f] w fun e w' => e = .returned (.bool (pairedB f)) ∧ Below w.heap.size w w' := by
  unfold pairedB nV
  by_cases h : f.k = 2
  all_goals
    first | rw [if_pos h] | rw [if_neg h]
    first
      | (have h1 : (f.k == 2) = true := by simp [h]; done)
      | skip
    go_enter Tryz.func53, Tryz.ntmps53
    go_wp2_with fail
    all_goals
      go_ret
      refine ⟨ret_bool ?_, (Below.refl _ _).alloc (Nat.le_refl _) _⟩
      first | rfl | (rw [Bool.eq_iff_iff]; simp; done) | (rw [Bool.eq_iff_iff]; simp; omega)
theorem run_appI (w : World) (p : Option Addr) (c m : Nat) (d : Array Int) (hd : d.size = m) (hs : Il w p d) (hm : m ≤ 1000000) (ty : TypeId) :
    ∃ v' w', (Builtin.append_ #[41, 41] ty #[.slice none 0 0, .slice p m c]).run Tryz.prog w = .ok v' w' ∧ w'.ownsRow w.heap.size 3 1 v' m (ints d.toList) ∧ w.grownBy w' none := by
  obtain ⟨i0, hi, hz0, hz1, hz2⟩ := info_parts info3
  have hil : (ints d.toList).length = m * 1 := by unfold ints; rw [List.length_map, Array.length_toList, hd, Nat.mul_one]
  have hone : ∀ u ∈ ints d.toList, u.oneCell' = true := fun u hu => by
    unfold ints at hu
    obtain ⟨z, _, rfl⟩ := List.mem_map.1 hu
    rfl
  cases p with
  | none =>
    have h0 : m = 0 := by
      rcases hs.lies with h0 | ⟨g, o, h, _⟩
      · omega
      · cases h
    subst h0
    have hl : d.toList = [] := by rw [← List.length_eq_zero_iff, Array.length_toList]; exact hd
    rw [hl]
    refine ⟨.slice none 0 0, w, by kernel_rfl, World.ownsRow_nil _ _ _ _, .refl _ _⟩
  | some a =>
    have hcell : ∀ j u, (ints d.toList)[j]? = some u → w.cell? (a.add j) = some u := fun j u hu => by
      have hj : j < d.size := by
        have h1 := (List.getElem?_eq_some_iff.1 hu).1
        rw [hil] at h1; omega
      obtain ⟨blk, off, h1, _, h2⟩ := hs.at j hj
      injection h1 with h1
      subst h1
      rw [Go.WideShapes.add_plain, h2]
      unfold ints at hu
      rw [List.getElem?_map, List.getElem?_eq_getElem (by rw [Array.length_toList]; exact hj)] at hu
      rw [getElem!_pos d j hj]
      simpa using hu
    obtain ⟨v', w', hr, h2, h3, _, _⟩ := run_append_own_at (P := Tryz.prog) w w.heap.size 41 ty 3 i0 (.int .i64 0) 1 8 Tryz.underlying41 hi hz0 hz1 hz2 rfl (by decide) (.slice none 0 0) 0 [] (World.ownsRow_nil _ _ _ _) a m c (ints d.toList) hil hcell hone (by unfold maxLen; omega) (by omega) (Nat.le_refl _)
    exact ⟨v', w', hr, by simpa using h2, h3⟩
theorem wpList_appI {w : World} {ops : Array Oper} {rest : List Oper} {o : Oper} {a : Act} {Q : Exit → Act → World → Prop} (hgd : o.guard = none) (s x : Operand)
    (ho : o.op = .call { callee := .builtin .append, args := #[s, x], argTypes := #[41, 41] })
    (hs : a.eval s = .slice none 0 0) (p : Option Addr) (c m : Nat) (d : Array Int) (hx : a.eval x = .slice p m c) (hd : d.size = m) (hsl : Il w p d) (hm : m ≤ 1000000)
    (h : ∀ v' w', w'.ownsRow w.heap.size 3 1 v' m (ints d.toList) → w.grownBy w' none → wpList Tryz.prog ops Q rest (a.put o.dst v') w') : wpList Tryz.prog ops Q (o :: rest) a w :=
  wpList_plain hgd fun _ hK => by
    obtain ⟨v', w', hr, h2, h3⟩ := run_appI w p c m d hd hsl hm o.type
    have hK' := hK _ _ (h v' w' h2 h3)
    unfold Oper.wp execOp
    simp only [ho, resolve, invoke, builtin, Sem.run_bind, Sem.run_pure, Result.andThen_ok, List.map_toArray, List.map_cons, List.map_nil, hs, hx, hr]
    exact hK'
theorem kids_no {L : Array Fn} {i : Int} (h : plB i L.size = false) : kidsG L i = ([], 2) := by unfold kidsG; rw [h]; rfl
theorem kids_yes {L : Array Fn} {t : Nat} (h : t < L.size) : kidsG L t = (kidsOf L[t]!, 0) := by unfold kidsG; rw [plB_iff.2 ⟨by omega, by omega⟩]; rfl
set_option maxHeartbeats 8000000 in
theorem Kids15_in (root : Int) (L : Array Fn) (m : Nat) (p : Option Addr) (cap : Nat) (i : Int) (r : List Int × Int) (w : World) (hm : L.size = m) (hg : Gl w p L) (hr : kidsG L i = r) :
    Calls Tryz.prog 49 #[.agg #[.int .i64 root, .slice p m cap], .int .i64 i] w fun e w' => ∃ v, e = .returned (.tuple #[v, .int .i64 r.2]) ∧ w'.ownsRow w.heap.size 3 1 v r.1.length (ints r.1) ∧ Below w.heap.size w w' := by
  obtain ⟨W, hW⟩ : ∃ W, (w.alloc (.cells #[.int .i64 root, .slice p m cap] 24)) = W := ⟨_, rfl⟩
  have hr0 : W.heap[w.heap.size]? = some (.cells #[.int .i64 root, .slice p m cap] 24 (0, 0)) := by rw [← hW]; exact heap_alloc_new w _
  have hb0 : Below w.heap.size w W := by rw [← hW]; exact (Below.refl _ w).alloc (Nat.le_refl _) _
  have hsm := hg.small
  rw [hm] at hsm
  have q0 := cell_of_row _ _ 0 _ _ _ hr0
  have q1 := cell_of_row _ _ 1 _ _ _ hr0
  have HG := Lib.hid (hg.below hb0)
  have HM := Lib.hid hm
  have HW := Lib.hid hW
  have HR0 := Lib.hid hr0
  have HB0 := Lib.hid hb0
  clear hW hr0 hb0
  by_cases h0 : i < 0
  · have hp : plB i L.size = false := by
      cases hq : plB i L.size
      · rfl
      · have := plB_iff.1 hq; omega
    rw [kids_no hp] at hr
    subst hr
    clear hp hg hm
    go_enter Tryz.func49, Tryz.ntmps49
    go_upto_region 1 with fail
    rw [HW.out]
    go_wp2_with fail
    go_ret2
    exact ⟨_, rfl, World.ownsRow_nil _ _ _ _, HB0.out⟩
  · by_cases h1 : i < (m : Int)
    · obtain ⟨t, rfl⟩ : ∃ t : Nat, i = t := ⟨i.toNat, by omega⟩
      have hlt : t < L.size := by omega
      obtain ⟨g, o, rfl, hgl, hc0, hc1, hc2, hc3, hc4, hc5⟩ := HG.out.at t hlt
      have hNl := HG.out.nodes t hlt
      have hyes := kids_yes hlt
      rw [hr] at hyes
      obtain ⟨f, hf⟩ : ∃ f, L[t]! = f := ⟨_, rfl⟩
      rw [hf] at hNl hc0 hc1 hc2 hc3 hc4 hc5 hyes
      have g1 : ¬ ((t : Int) ≥ (m : Int)) := by omega
      have g0 : decide ((t : Int) < 0) = false := decide_eq_false (by omega)
      obtain ⟨V, hV⟩ : ∃ V, (W.alloc (nR f)) = V := ⟨_, rfl⟩
      have hv0 : V.heap[W.heap.size]? = some (nR f) := by rw [← hV]; exact heap_alloc_new W _
      have hbv : Below W.heap.size W V := by rw [← hV]; exact (Below.refl _ W).alloc (Nat.le_refl _) _
      have HV := Lib.hid hV
      have HV0 := Lib.hid hv0
      have HBV := Lib.hid (HB0.out.trans (hbv.mono HB0.out.size))
      have HNL := Lib.hid (hNl.below hbv)
      obtain ⟨v0, v1, v2, v3, v4, v5⟩ := cell6 hv0
      have HY := Lib.hid hyes
      clear hg hm hr hf h0 hlt hyes hV hv0 hbv hNl
      by_cases hk1 : f.k = 1
      · have hkk : (f.k == 1) = true := by simp [hk1]
        have hko : kidsOf f = f.kids.toList := by
          unfold kidsOf
          rw [paired_no (by omega), if_neg (by decide), if_pos hk1]
        have HRX := Lib.hid (show r = (f.kids.toList, 0) by rw [HY.out, hko])
        have HDS := Lib.hid HNL.out.ds
        have hsd := HNL.out.ds.small
        clear hk1 hko
        go_enter Tryz.func49, Tryz.ntmps49
        go_upto_region 1 with fail
        rw [HW.out]
        go_upto_region 4 with fail
        rw [HV.out]
        clear hc0 hc1 hc2 hc3 hc4 hc5 q0 q1
        go_wp2_with (first
          | (at_builtin
             refine wpList_appI rfl _ _ rfl rfl f.pd f.cd f.kids.size f.kids rfl rfl HDS.out hsd ?_
             intro v6 w6 hown6 hgr6
             have HOW6 := Lib.hid hown6
             have HGR6 := Lib.hid (HBV.out.grown hgr6 HBV.out.size fun q hq => by cases hq)
             clear hown6 hgr6))
        go_ret2
        refine ⟨v6, ?_, ?_, HGR6.out⟩
        · rw [HRX.out]; rfl
        · rw [HRX.out, Array.length_toList]; exact own_low HOW6.out HBV.out.size
      · have hkk : (f.k == 1) = false := beq_eq_false_iff_ne.2 hk1
        have HIM := Lib.hid fun w => isMap31_any f w
        unfold nV at HIM
        cases hpb : pairedB f
        · rw [hpb] at HIM
          have hko : kidsOf f = [] := by
            unfold kidsOf
            rw [hpb, if_neg (by decide), if_neg hk1]
          have HRX := Lib.hid (show r = ([], 0) by rw [HY.out, hko])
          clear hk1 hko hpb
          go_enter Tryz.func49, Tryz.ntmps49
          go_upto_region 1 with fail
          rw [HW.out]
          go_upto_region 4 with fail
          rw [HV.out]
          clear hc0 hc1 hc2 hc3 hc4 hc5 q0 q1
          go_wp2_with fail
          refine (HIM.out _).mono ?_
          rintro e w5 ⟨rfl, hb5⟩
          have HB5 := Lib.hid (HBV.out.trans (hb5.mono HBV.out.size))
          clear hb5 v0 v1 v2 v3 v4 v5
          go_wp2_with fail
          go_ret2
          refine ⟨.slice none 0 0, ?_, ?_, HB5.out⟩
          · rw [HRX.out]; rfl
          · rw [HRX.out]; exact World.ownsRow_nil _ _ _ _
        · rw [hpb] at HIM
          obtain ⟨hk2, hsz, hpn⟩ := paired_n hpb
          have hko := orderN_kids' hpb
          obtain ⟨n, hn⟩ : ∃ n, f.keys.size = n := ⟨_, rfl⟩
          have hol := orderN_len f n
          have holt := orderN_lt f n
          rw [hn] at hko hsz
          obtain ⟨O, hO⟩ : ∃ O, orderN f n = O := ⟨_, rfl⟩
          have hOR : ∀ w, Nl w f → Calls Tryz.prog 54 #[nV f] w fun e w' => ∃ v, e = .returned v ∧ w'.ownsRow w.heap.size 3 1 v n (ints (natI O)) ∧ Below w.heap.size w w' :=
            fun w h => (order32_any f w h).mono fun e w' ⟨v, h1, h2, h3⟩ => ⟨v, h1, by rw [hn, hO] at h2; exact h2, h3⟩
          unfold nV at hOR
          rw [hO] at hko hol holt
          obtain ⟨KL, hKL⟩ : ∃ KL, O.map (fun i => f.kids[i]!) = KL := ⟨_, rfl⟩
          rw [hKL] at hko
          have hkl : KL.length = n := by rw [← hKL, List.length_map]; exact hol
          have hst : ∀ s, s < n → O[s]! < n ∧ KL.take (s + 1) = KL.take s ++ [f.kids[O[s]!]!] := fun s hs => by
            have hsO : s < O.length := by rw [hol]; exact hs
            refine ⟨holt _ (by rw [getElem!_pos O s hsO]; exact List.getElem_mem hsO), ?_⟩
            rw [List.take_add_one, List.getElem?_eq_getElem (by rw [hkl]; exact hs)]
            have e : KL[s]'(by rw [hkl]; exact hs) = f.kids[O[s]!]! := by
              simp only [← hKL, List.getElem_map, getElem!_pos O s hsO]
            rw [e]
            rfl
          have HRX := Lib.hid (show r = (KL, 0) by rw [HY.out, ← hko])
          have HKL := Lib.hid hkl
          have HST := Lib.hid hst
          have HOL := Lib.hid hol
          have HSZ := Lib.hid hsz
          have HOR := Lib.hid hOR
          have HN := Lib.hid hn
          obtain ⟨i0, hi, hz0, hz1, hz2⟩ := info_parts info3
          have hnn : n ≤ 1000000 := by have := HNL.out.ks.small; rw [hn] at this; exact this
          clear hk1 hn hko hpb hO hKL hkl hst hol holt hsz hOR hk2 hpn
          go_enter Tryz.func49, Tryz.ntmps49
          go_upto_region 1 with fail
          rw [HW.out]
          go_upto_region 4 with fail
          rw [HV.out]
          clear hc0 hc1 hc2 hc3 hc4 hc5 q0 q1
          go_wp2_with fail
          refine (HIM.out _).mono ?_
          rintro e w5 ⟨rfl, hb5⟩
          have HB5 := Lib.hid (HBV.out.trans (hb5.mono HBV.out.size))
          have HN5 := Lib.hid (HNL.out.below hb5)
          have HV5 := Lib.hid ((hb5.block _ (Array.getElem?_eq_some_iff.1 HV0.out).1).trans HV0.out)
          replace v0 := (hb5.cell (p := ⟨W.heap.size, 0, none⟩) (block_lt_of_cell v0)).trans v0
          replace v1 := (hb5.cell (p := ⟨W.heap.size, 1, none⟩) (block_lt_of_cell v1)).trans v1
          replace v2 := (hb5.cell (p := ⟨W.heap.size, 2, none⟩) (block_lt_of_cell v2)).trans v2
          replace v3 := (hb5.cell (p := ⟨W.heap.size, 3, none⟩) (block_lt_of_cell v3)).trans v3
          replace v4 := (hb5.cell (p := ⟨W.heap.size, 4, none⟩) (block_lt_of_cell v4)).trans v4
          replace v5 := (hb5.cell (p := ⟨W.heap.size, 5, none⟩) (block_lt_of_cell v5)).trans v5
          clear hb5
          go_wp2_with fail
          refine (HOR.out _ HN5.out).mono ?_
          rintro e w6 ⟨v, rfl, ho, hb6⟩
          have HB6 := Lib.hid (HB5.out.trans (hb6.mono HB5.out.size))
          have HN6 := Lib.hid (HN5.out.below hb6)
          have HV6 := Lib.hid ((hb6.block _ (Array.getElem?_eq_some_iff.1 HV5.out).1).trans HV5.out)
          obtain ⟨p8, c8, rfl, hil⟩ := il_own ho (by rw [natI_len, HOL.out]) hnn
          have HIL := Lib.hid hil
          clear hb6 ho hil v0 v1 v2 v3 v4 v5
          go_wp2_with fail
          go_loopw [7, 9] (fun v i wr => ∃ s : Nat, s ≤ n ∧ i = .int .i64 s ∧ wr.ownsRow w6.heap.size 3 1 v s (ints (KL.take s)) ∧ Below w6.heap.size w6 wr) (fun _ i _ => n - (intOf i).toNat)
          case atStart => exact ⟨0, by omega, rfl, World.ownsRow_nil _ _ _ _, Below.refl _ _⟩
          case round =>
            obtain ⟨s, hs, rfl, hown, hb⟩ := hrel
            have HB := Lib.hid hb
            have HOW := Lib.hid hown
            have hrr := (hb.block _ (Array.getElem?_eq_some_iff.1 HV6.out).1).trans HV6.out
            have v5 := cell_of_row _ _ 5 _ _ _ hrr
            clear hb hown hrr
            by_cases hsn : s < n
            · have i1 : (s : Int) < (n : Int) := by omega
              obtain ⟨hyn, hst⟩ := HST.out s hsn
              obtain ⟨g3, o3, rfl, hg3, hd0⟩ := HIL.out.at s (by rw [List.size_toArray, natI_len, HOL.out]; exact hsn)
              rw [natI_get O s (by rw [HOL.out]; exact hsn)] at hd0
              obtain ⟨y, hy⟩ : ∃ y, O[s]! = y := ⟨_, rfl⟩
              rw [hy] at hd0 hyn hst
              have hyk : y < f.kids.size := by rw [← HSZ.out]; exact hyn
              obtain ⟨bd, od, hpd, hbd, e0⟩ := HN6.out.ds.at y hyk
              obtain ⟨z, hz⟩ : ∃ z, f.kids[y]! = z := ⟨_, rfl⟩
              rw [hz] at e0 hst
              rw [hpd] at v5
              have d0 := (HB.out.cell (p := ⟨g3, o3 + s, none⟩) hg3).trans hd0
              have z0 := (HB.out.cell (p := ⟨bd, od + y, none⟩) hbd).trans e0
              have hyi : (y : Int) < (f.kids.size : Int) := by omega
              have l1 : g3 < wr.heap.size := block_lt_of_cell d0
              have l2 : bd < wr.heap.size := block_lt_of_cell z0
              have l3 : W.heap.size < wr.heap.size := block_lt_of_cell v5
              have HSTT := Lib.hid hst
              clear hst hd0 e0 hpd hz hy hyk
              go_upto_region 12 with fail
              go_region_law (first
                | (refine step_append_lies _ rfl (.tmp 41) (.tmp 50) 41 rfl w6.heap.size 3 i0 (.int .i64 0) 1 8 Tryz.underlying41 hi hz0 hz1 hz2 rfl (by decide) _ s (ints (KL.take s)) (by simp [Act.eval]) (own_keepG (HOW.out.alloc (.cells #[.int .i64 z] 3)) (fun _ _ => rfl)) ⟨wr.heap.size, 0, none⟩ 1 1 [.int .i64 z] (by simp [Act.eval]) rfl (World.news_of_block (heap_alloc_new wr _)) (by intro u hu; simp at hu; rcases hu with rfl; rfl) (by decide) (by unfold maxLen; omega) (by omega) (by have := HB.out.size; simp; omega) _ rfl ?_
                   intro g8 cap8 w8 hown8 hgr8 _ hlt8
                   have HOW8 := Lib.hid hown8
                   have HGR8 := Lib.hid hgr8
                   clear hown8 hgr8))
              all_goals
                go_wp2
                go_roundw
                case rel =>
                  refine ⟨s + 1, by omega, by go_num, ?_, ?_⟩
                  · rw [HSTT.out, ints_snoc]
                    exact HOW8.out
                  · exact ((HB.out.alloc HB.out.size (.cells #[.int .i64 z] 3)).drew).grown HGR8.out (by have := HB.out.size; simp; omega) fun q hq => (own_lt HOW.out q hq).1
                case measure => simp [intOf]; omega
            · have i1 : ¬ (s : Int) < (n : Int) := by omega
              obtain rfl : s = n := by omega
              have hall : KL.take s = KL := List.take_of_length_le (by rw [HKL.out]; exact Nat.le_refl _)
              have how := HOW.out
              rw [hall] at how
              have HOW9 := Lib.hid how
              clear how hall
              go_wp2_with fail
              go_ret2
              have how2 := own_low HOW9.out HB6.out.size
              rw [HRX.out]
              exact ⟨_, rfl, own_len how2 HKL.out.symm, HB6.out.trans (HB.out.mono HB6.out.size)⟩
    · have hp : plB i L.size = false := by
        cases hq : plB i L.size
        · rfl
        · have := plB_iff.1 hq; omega
      rw [kids_no hp] at hr
      subst hr
      have g1 : (i ≥ (m : Int)) := by omega
      clear hp hg hm h1
      go_enter Tryz.func49, Tryz.ntmps49
      go_upto_region 1 with fail
      rw [HW.out]
      go_wp2_with fail
      go_ret2
      exact ⟨_, rfl, World.ownsRow_nil _ _ _ _, HB0.out⟩
theorem kidsG_len (L : Array Fn) (i : Int) (w : World) (p : Option Addr) (hg : Gl w p L) : (kidsG L i).1.length ≤ 1000000 := by
  cases hi : plB i L.size
  · rw [kids_no hi]; simp
  · obtain ⟨t, rfl, ht⟩ := noPlace hi
    rw [kids_yes ht]
    have hn := hg.nodes t ht
    have h1 := hn.ks.small
    have h2 := hn.ds.small
    simp only
    unfold kidsOf
    split
    · rw [sortedKids_len]; unfold pairsN; split <;> omega
    · split
      · rw [Array.length_toList]; exact h2
      · simp
theorem Kids15_own (root : Int) (L : Array Fn) (p : Option Addr) (cap : Nat) (i : Int) (w : World) (hg : Gl w p L) :
    Calls Tryz.prog 49 #[.agg #[.int .i64 root, .slice p L.size cap], .int .i64 i] w fun e w' => ∃ v, e = .returned (.tuple #[v, .int .i64 (kidsG L i).2]) ∧ w'.ownsRow w.heap.size 3 1 v (kidsG L i).1.length (ints (kidsG L i).1) ∧ Below w.heap.size w w' :=
  Kids15_in root L L.size p cap i _ w rfl hg rfl
theorem Kids15_any (root : Int) (L : Array Fn) (p : Option Addr) (cap : Nat) (i : Int) (w : World) (hg : Gl w p L) :
    Calls Tryz.prog 49 #[.agg #[.int .i64 root, .slice p L.size cap], .int .i64 i] w fun e w' => ∃ q c, e = .returned (.tuple #[.slice q (kidsG L i).1.length c, .int .i64 (kidsG L i).2]) ∧ Il w' q (kidsG L i).1.toArray ∧ Below w.heap.size w w' :=
  (Kids15_own root L p cap i w hg).mono fun e w' ⟨v, h1, h2, h3⟩ => by
    obtain ⟨q, c, rfl, hil⟩ := il_own h2 rfl (kidsG_len L i w p hg)
    exact ⟨q, c, h1, hil, h3⟩
end Go.Proofs.YtepelpmkmhhokaaGreatDoor

set_option maxRecDepth 100000
namespace Go.Proofs.YtepelpmkmhhokaaGreatDoor
open Go.RowKit Go.Shelf
open Scs
theorem keys_no {L : Array Fn} {i : Int} (h : plB i L.size = false) : keysG L i = ([], 2) := by unfold keysG; rw [h]; rfl
theorem keys_yes {L : Array Fn} {t : Nat} (h : t < L.size) : keysG L t = (keysOf L[t]!, 0) := by unfold keysG; rw [plB_iff.2 ⟨by omega, by omega⟩]; rfl
theorem sl_ownK {W : World} {b n : Nat} {v : Value} {l : List Sc} (h : W.ownsRow b 48 3 v n (flatS l)) (hn : n = l.length) (hs : n ≤ 1000000) (hz : ∀ t, t < l.length → l.toArray[t]!.2.2.size ≤ 1000000) : ∃ p c, v = .slice p n c ∧ Sl W p l.toArray := by
  subst hn
  have h' := h
  rcases h with ⟨ha, ⟨h1, h2⟩ | ⟨g, c', cur, hv, hbg, hg, hnc, hcm, hcs, htake⟩⟩
  · exact ⟨none, 0, by rw [h1, h2], by rw [List.size_toArray]; exact hs, fun t ht => hz t (by simpa using ht), .inl (by rw [List.size_toArray]; exact h2)⟩
  · refine ⟨some ⟨g, 0, none⟩, c', hv, by rw [List.size_toArray]; exact hs, fun t ht => hz t (by simpa using ht), .inr ⟨g, 0, rfl, (Array.getElem?_eq_some_iff.1 hg).1, ?_⟩⟩
    rw [hv] at h'
    exact holds_row (d := l.toArray) h' (by simp)
set_option maxHeartbeats 8000000 in
theorem Keys17_in (root : Int) (L : Array Fn) (m : Nat) (p : Option Addr) (cap : Nat) (i : Int) (r : List Sc × Int) (w : World) (hm : L.size = m) (hg : Gl w p L) (hr : keysG L i = r) :
    Calls Tryz.prog 35 #[.agg #[.int .i64 root, .slice p m cap], .int .i64 i] w fun e w' => ∃ v, e = .returned (.tuple #[v, .int .i64 r.2]) ∧ w'.ownsRow w.heap.size 48 3 v r.1.length (flatS r.1) ∧ Below w.heap.size w w' := by
  obtain ⟨W, hW⟩ : ∃ W, (w.alloc (.cells #[.int .i64 root, .slice p m cap] 24)) = W := ⟨_, rfl⟩
  have hr0 : W.heap[w.heap.size]? = some (.cells #[.int .i64 root, .slice p m cap] 24 (0, 0)) := by rw [← hW]; exact heap_alloc_new w _
  have hb0 : Below w.heap.size w W := by rw [← hW]; exact (Below.refl _ w).alloc (Nat.le_refl _) _
  have hsm := hg.small
  rw [hm] at hsm
  have q0 := cell_of_row _ _ 0 _ _ _ hr0
  have q1 := cell_of_row _ _ 1 _ _ _ hr0
  have HG := Lib.hid (hg.below hb0)
  have HM := Lib.hid hm
  have HW := Lib.hid hW
  have HR0 := Lib.hid hr0
  have HB0 := Lib.hid hb0
  clear hW hr0 hb0
  by_cases h0 : i < 0
  · have hp : plB i L.size = false := by
      cases hq : plB i L.size
      · rfl
      · have := plB_iff.1 hq; omega
    rw [keys_no hp] at hr
    subst hr
    clear hp hg hm
    go_enter Tryz.func35, Tryz.ntmps35
    go_upto_region 1 with fail
    rw [HW.out]
    go_wp2_with fail
    go_ret2
    exact ⟨_, rfl, World.ownsRow_nil _ _ _ _, HB0.out⟩
  · by_cases h1 : i < (m : Int)
    · obtain ⟨t, rfl⟩ : ∃ t : Nat, i = t := ⟨i.toNat, by omega⟩
      have hlt : t < L.size := by omega
      obtain ⟨g, o, rfl, hgl, hc0, hc1, hc2, hc3, hc4, hc5⟩ := HG.out.at t hlt
      have hNl := HG.out.nodes t hlt
      have hyes := keys_yes hlt
      rw [hr] at hyes
      obtain ⟨f, hf⟩ : ∃ f, L[t]! = f := ⟨_, rfl⟩
      rw [hf] at hNl hc0 hc1 hc2 hc3 hc4 hc5 hyes
      have g1 : ¬ ((t : Int) ≥ (m : Int)) := by omega
      have g0 : decide ((t : Int) < 0) = false := decide_eq_false (by omega)
      have HNL := Lib.hid hNl
      have HY := Lib.hid hyes
      have HIM := Lib.hid fun w => isMap31_any f w
      unfold nV at HIM
      clear hg hm hr hf h0 hlt hyes hNl
      cases hpb : pairedB f
      · rw [hpb] at HIM
        have hko : keysOf f = [] := by
          unfold keysOf
          rw [hpb, if_neg (by decide)]
        have HRX := Lib.hid (show r = ([], 0) by rw [HY.out, hko])
        clear hko hpb
        go_enter Tryz.func35, Tryz.ntmps35
        go_upto_region 1 with fail
        rw [HW.out]
        go_wp2_with fail
        refine (HIM.out _).mono ?_
        rintro e w5 ⟨rfl, hb5⟩
        have HB5 := Lib.hid (HB0.out.trans (hb5.mono HB0.out.size))
        clear hb5 hc0 hc1 hc2 hc3 hc4 hc5 q0 q1
        go_wp2_with fail
        go_ret2
        rw [HRX.out]
        exact ⟨_, rfl, World.ownsRow_nil _ _ _ _, HB5.out⟩
      · rw [hpb] at HIM
        have hko := orderN_keys hpb
        obtain ⟨n, hn⟩ : ∃ n, f.keys.size = n := ⟨_, rfl⟩
        have hol := orderN_len f n
        have holt := orderN_lt f n
        rw [hn] at hko
        obtain ⟨O, hO⟩ : ∃ O, orderN f n = O := ⟨_, rfl⟩
        have hOR : ∀ w, Nl w f → Calls Tryz.prog 54 #[nV f] w fun e w' => ∃ v, e = .returned v ∧ w'.ownsRow w.heap.size 3 1 v n (ints (natI O)) ∧ Below w.heap.size w w' :=
          fun w h => (order32_any f w h).mono fun e w' ⟨v, h1, h2, h3⟩ => ⟨v, h1, by rw [hn, hO] at h2; exact h2, h3⟩
        unfold nV at hOR
        rw [hO] at hko hol holt
        obtain ⟨KL, hKL⟩ : ∃ KL, O.map (fun i => f.keys[i]!) = KL := ⟨_, rfl⟩
        rw [hKL] at hko
        have hkl : KL.length = n := by rw [← hKL, List.length_map]; exact hol
        have hst : ∀ s, s < n → O[s]! < n ∧ KL.take (s + 1) = KL.take s ++ [f.keys[O[s]!]!] := fun s hs => by
          have hsO : s < O.length := by rw [hol]; exact hs
          refine ⟨holt _ (by rw [getElem!_pos O s hsO]; exact List.getElem_mem hsO), ?_⟩
          rw [List.take_add_one, List.getElem?_eq_getElem (by rw [hkl]; exact hs)]
          have e : KL[s]'(by rw [hkl]; exact hs) = f.keys[O[s]!]! := by
            simp only [← hKL, List.getElem_map, getElem!_pos O s hsO]
          rw [e]
          rfl
        have HRX := Lib.hid (show r = (KL, 0) by rw [HY.out, ← hko])
        have HKL := Lib.hid hkl
        have HST := Lib.hid hst
        have HOL := Lib.hid hol
        have HOR := Lib.hid hOR
        have HN := Lib.hid hn
        obtain ⟨i0, hi, hz0, hz1, hz2⟩ := info_parts info23
        have hnn : n ≤ 1000000 := by have := HNL.out.ks.small; rw [hn] at this; exact this
        clear hn hko hpb hO hKL hkl hst hol holt hOR
        go_enter Tryz.func35, Tryz.ntmps35
        go_upto_region 1 with fail
        rw [HW.out]
        go_wp2_with fail
        refine (HIM.out _).mono ?_
        rintro e w5 ⟨rfl, hb5⟩
        have HB5 := Lib.hid (HB0.out.trans (hb5.mono HB0.out.size))
        have HWB := Lib.hid hb5
        have HN5 := Lib.hid (HNL.out.below hb5)
        have HR5 := Lib.hid ((hb5.block _ (Array.getElem?_eq_some_iff.1 HR0.out).1).trans HR0.out)
        have HC4 := Lib.hid hc4
        replace hc0 := (hb5.cell (p := ⟨g, o + t * 6, none⟩) hgl).trans hc0
        replace hc1 := (hb5.cell (p := ⟨g, o + t * 6 + 1, none⟩) hgl).trans hc1
        replace hc2 := (hb5.cell (p := ⟨g, o + t * 6 + 2, none⟩) hgl).trans hc2
        replace hc3 := (hb5.cell (p := ⟨g, o + t * 6 + 3, none⟩) hgl).trans hc3
        replace hc4 := (hb5.cell (p := ⟨g, o + t * 6 + 4, none⟩) hgl).trans hc4
        replace hc5 := (hb5.cell (p := ⟨g, o + t * 6 + 5, none⟩) hgl).trans hc5
        clear q0 q1
        have q1 := cell_of_row _ _ 1 _ _ _ HR5.out
        clear hb5
        go_wp2_with fail
        refine (HOR.out _ HN5.out).mono ?_
        rintro e w6 ⟨v, rfl, ho, hb6⟩
        have HB6 := Lib.hid (HB5.out.trans (hb6.mono HB5.out.size))
        have HWB6 := Lib.hid (HWB.out.trans (hb6.mono HWB.out.size))
        have HN6 := Lib.hid (HN5.out.below hb6)
        have HR6 := Lib.hid ((hb6.block _ (Array.getElem?_eq_some_iff.1 HR5.out).1).trans HR5.out)
        obtain ⟨p8, c8, rfl, hil⟩ := il_own ho (by rw [natI_len, HOL.out]) hnn
        have HIL := Lib.hid hil
        clear hb6 ho hil hc0 hc1 hc2 hc3 hc4 hc5 q1
        go_wp2_with fail
        go_loopw [6, 8] (fun v i wr => ∃ s : Nat, s ≤ n ∧ i = .int .i64 s ∧ wr.ownsRow w6.heap.size 48 3 v s (flatS (KL.take s)) ∧ Below w6.heap.size w6 wr) (fun _ i _ => n - (intOf i).toNat)
        case atStart => exact ⟨0, by omega, rfl, World.ownsRow_nil _ _ _ _, Below.refl _ _⟩
        case round =>
          obtain ⟨s, hs, rfl, hown, hb⟩ := hrel
          have HB := Lib.hid hb
          have HOW := Lib.hid hown
          have hrr := (hb.block _ (Array.getElem?_eq_some_iff.1 HR6.out).1).trans HR6.out
          have q1 := cell_of_row _ _ 1 _ _ _ hrr
          have HWR := Lib.hid (HWB6.out.trans (hb.mono HWB6.out.size))
          clear hb hown hrr
          by_cases hsn : s < n
          · have i1 : (s : Int) < (n : Int) := by omega
            obtain ⟨hyn, hst⟩ := HST.out s hsn
            obtain ⟨g3, o3, rfl, hg3, hd0⟩ := HIL.out.at s (by rw [List.size_toArray, natI_len, HOL.out]; exact hsn)
            rw [natI_get O s (by rw [HOL.out]; exact hsn)] at hd0
            obtain ⟨y, hy⟩ : ∃ y, O[s]! = y := ⟨_, rfl⟩
            rw [hy] at hd0 hyn hst
            have hyk : y < f.keys.size := by rw [HN.out]; exact hyn
            obtain ⟨bk, ok, hpk, hbk, e0, e1, e2⟩ := HN6.out.ks.at y hyk
            obtain ⟨⟨x0, x1, x2⟩, hz⟩ : ∃ z, f.keys[y]! = z := ⟨_, rfl⟩
            rw [hz] at e0 e1 e2 hst
            have c4 := (HWR.out.cell (p := ⟨g, o + t * 6 + 4, none⟩) hgl).trans HC4.out
            rw [hpk] at c4
            have d0 := (HB.out.cell (p := ⟨g3, o3 + s, none⟩) hg3).trans hd0
            have z0 := (HB.out.cell (p := ⟨bk, ok + y * 3, none⟩) hbk).trans e0
            have z1 := (HB.out.cell (p := ⟨bk, ok + y * 3 + 1, none⟩) hbk).trans e1
            have z2 := (HB.out.cell (p := ⟨bk, ok + y * 3 + 2, none⟩) hbk).trans e2
            have hyi : (y : Int) < (f.keys.size : Int) := by omega
            have l1 : g3 < wr.heap.size := block_lt_of_cell d0
            have l2 : bk < wr.heap.size := block_lt_of_cell z0
            have l3 : w.heap.size < wr.heap.size := block_lt_of_cell q1
            have l4 : g < wr.heap.size := block_lt_of_cell c4
            have HSTT := Lib.hid hst
            clear hst hd0 e0 e1 e2 hpk hz hy hyk
            simp only at z0 z1 z2
            go_upto_region 9 with fail
            go_region_law (first
              | (refine step_append_lies _ rfl (.tmp 36) (.tmp 49) 49 rfl w6.heap.size 48 i0 (.agg #[.int .i64 0, .int .i64 0, .string ⟨#[]⟩]) 3 32 Tryz.underlying49 hi hz0 hz1 hz2 rfl (by decide) _ s (flatS (KL.take s)) (by simp [Act.eval]) (own_keepG (HOW.out.alloc (.cells #[.int .i64 x0, .int .i64 x1, .string x2] 48)) (fun _ _ => rfl)) ⟨wr.heap.size, 0, none⟩ 1 1 [.int .i64 x0, .int .i64 x1, .string x2] (by simp [Act.eval]) rfl (World.news_of_block (heap_alloc_new wr _)) (by intro u hu; simp at hu; rcases hu with rfl | rfl | rfl <;> rfl) (by decide) (by unfold maxLen; omega) (by omega) (by have := HB.out.size; simp; omega) _ rfl ?_
                 intro g8 cap8 w8 hown8 hgr8 _ hlt8
                 have HOW8 := Lib.hid hown8
                 have HGR8 := Lib.hid hgr8
                 clear hown8 hgr8))
            all_goals
              go_wp2
              go_roundw
              case rel =>
                refine ⟨s + 1, by omega, by go_num, ?_, ?_⟩
                · rw [HSTT.out, flatS_snoc]
                  exact HOW8.out
                · exact ((HB.out.alloc HB.out.size (.cells #[.int .i64 x0, .int .i64 x1, .string x2] 48)).drew).grown HGR8.out (by have := HB.out.size; simp; omega) fun q hq => (own_lt HOW.out q hq).1
              case measure => simp [intOf]; omega
          · have i1 : ¬ (s : Int) < (n : Int) := by omega
            obtain rfl : s = n := by omega
            have hall : KL.take s = KL := List.take_of_length_le (by rw [HKL.out]; exact Nat.le_refl _)
            have how := HOW.out
            rw [hall] at how
            have HOW9 := Lib.hid how
            clear hall how
            go_wp2_with fail
            go_ret2
            have how2 := own_low HOW9.out HB6.out.size
            rw [HRX.out]
            exact ⟨_, rfl, own_len how2 HKL.out.symm, HB6.out.trans (HB.out.mono HB6.out.size)⟩
    · have hp : plB i L.size = false := by
        cases hq : plB i L.size
        · rfl
        · have := plB_iff.1 hq; omega
      rw [keys_no hp] at hr
      subst hr
      have g1 : (i ≥ (m : Int)) := by omega
      clear hp hg hm h1
      go_enter Tryz.func35, Tryz.ntmps35
      go_upto_region 1 with fail
      rw [HW.out]
      go_wp2_with fail
      go_ret2
      exact ⟨_, rfl, World.ownsRow_nil _ _ _ _, HB0.out⟩
theorem keysG_small (L : Array Fn) (i : Int) (w : World) (p : Option Addr) (hg : Gl w p L) : (keysG L i).1.length ≤ 1000000 ∧ ∀ t, t < (keysG L i).1.length → (keysG L i).1.toArray[t]!.2.2.size ≤ 1000000 := by
  cases hi : plB i L.size
  · rw [keys_no hi]; simp
  · obtain ⟨t, rfl, ht⟩ := noPlace hi
    rw [keys_yes ht]
    have hn := hg.nodes t ht
    have h1 := hn.ks.small
    simp only
    unfold keysOf
    split
    · refine ⟨by rw [sort_length, Array.length_toList]; exact h1, fun s hs => ?_⟩
      have hm : (sortSc L[t]!.keys.toList).toArray[s]! ∈ L[t]!.keys.toList := by
        refine (sort_perm _).mem_iff.1 ?_
        rw [getElem!_pos _ s (by simpa using hs)]
        simp
      obtain ⟨j, hj, e⟩ := List.getElem_of_mem hm
      rw [Array.length_toList] at hj
      have := hn.ks.short j hj
      rw [getElem!_pos _ j hj] at this
      rw [← e]
      simpa using this
    · simp
theorem Keys17_own (root : Int) (L : Array Fn) (p : Option Addr) (cap : Nat) (i : Int) (w : World) (hg : Gl w p L) :
    Calls Tryz.prog 35 #[.agg #[.int .i64 root, .slice p L.size cap], .int .i64 i] w fun e w' => ∃ v, e = .returned (.tuple #[v, .int .i64 (keysG L i).2]) ∧ w'.ownsRow w.heap.size 48 3 v (keysG L i).1.length (flatS (keysG L i).1) ∧ Below w.heap.size w w' :=
  Keys17_in root L L.size p cap i _ w rfl hg rfl
theorem Keys17_any (root : Int) (L : Array Fn) (p : Option Addr) (cap : Nat) (i : Int) (w : World) (hg : Gl w p L) :
    Calls Tryz.prog 35 #[.agg #[.int .i64 root, .slice p L.size cap], .int .i64 i] w fun e w' => ∃ q c, e = .returned (.tuple #[.slice q (keysG L i).1.length c, .int .i64 (keysG L i).2]) ∧ Sl w' q (keysG L i).1.toArray ∧ Below w.heap.size w w' :=
  (Keys17_own root L p cap i w hg).mono fun e w' ⟨v, h1, h2, h3⟩ => by
    obtain ⟨k1, k2⟩ := keysG_small L i w p hg
    obtain ⟨q, c, rfl, hil⟩ := sl_ownK h2 rfl k1 k2
    exact ⟨q, c, h1, hil, h3⟩
end Go.Proofs.YtepelpmkmhhokaaGreatDoor
