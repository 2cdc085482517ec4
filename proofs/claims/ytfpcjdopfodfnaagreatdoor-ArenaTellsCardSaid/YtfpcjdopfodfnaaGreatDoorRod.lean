/- The reference tells the places of a map's keys in their order. Conditions: the node lies. -/
import Derived.Test.YtfpcjdopfodfnaaGreatDoorLmx
import Derived.Test.YtfpcjdopfodfnaaGreatDoorRcm
import Derived.Deep.RegionHeld
import Derived.Deep.RegionHeld3
set_option maxRecDepth 100000
namespace Go.Proofs.YtfpcjdopfodfnaaGreatDoor
open Go.RowKit Go.Shelf
open Scs
def natI (l : List Nat) : List Int := l.map fun (i : Nat) => (i : Int)
theorem natI_len (l : List Nat) : (natI l).length = l.length := by simp [natI]
theorem natI_get (l : List Nat) (j : Nat) (h : j < l.length) : (natI l).toArray[j]! = ((l[j]! : Nat) : Int) := by
  rw [getElem!_pos (natI l).toArray j (by simpa [natI] using h), getElem!_pos l j h]
  simp [natI]
theorem natI_snoc (l : List Nat) (x : Nat) : natI (l ++ [x]) = natI l ++ [(x : Int)] := by simp [natI]
theorem ints_natI_snoc (l : List Nat) (x : Nat) : ints (natI (l ++ [x])) = ints (natI l) ++ [.int .i64 (x : Int)] := by rw [natI_snoc, ints_snoc]
theorem ownI_below {W W' : World} {b n : Nat} {v : Value} {xs : List Value} (h : W.ownsRow b 3 1 v n xs) (hb : Below W.heap.size W W') : W'.ownsRow b 3 1 v n xs := by
  rcases h with ⟨ha, h1 | ⟨g', c', cur, hv, hbg, hg2, hr2⟩⟩
  · exact ⟨ha, .inl h1⟩
  · exact ⟨ha, .inr ⟨g', c', cur, hv, hbg, (hb.block g' (Array.getElem?_eq_some_iff.1 hg2).1).trans hg2, hr2⟩⟩
theorem own_len {W : World} {b T k n m : Nat} {v : Value} {xs : List Value} (h : W.ownsRow b T k v n xs) (e : n = m) : W.ownsRow b T k v m xs := e ▸ h
theorem belowI_app {w W W6 : World} {B n : Nat} {v : Value} {xs : List Value} {o : Obj} (h : Below B w W) (hz : B ≤ W.heap.size) (hown : W.ownsRow B 3 1 v n xs) (hg : (W.alloc o).grownBy W6 v.ownBlock) : Below B w W6 :=
  (h.alloc hz o).grown hg (by simp; omega) fun q hq => (own_lt hown q hq).1
abbrev S9 (B : Nat) (v : Value) (g o : Nat) (x : Sc) (b3 o3 : Nat) (z : Int) (o2 : Nat) (y : Sc) (wo W : World) : Prop :=
  W.cell? ⟨B, 4, none⟩ = some v ∧ W.cell? ⟨g, o, none⟩ = some (.int .i64 x.1) ∧ W.cell? ⟨g, o + 1, none⟩ = some (.int .i64 x.2.1) ∧ W.cell? ⟨g, o + 2, none⟩ = some (.string x.2.2) ∧
  W.cell? ⟨b3, o3, none⟩ = some (.int .i64 z) ∧ W.cell? ⟨g, o2, none⟩ = some (.int .i64 y.1) ∧ W.cell? ⟨g, o2 + 1, none⟩ = some (.int .i64 y.2.1) ∧ W.cell? ⟨g, o2 + 2, none⟩ = some (.string y.2.2) ∧ Below wo.heap.size wo W
theorem s9_step {B : Nat} {v : Value} {g o : Nat} {x : Sc} {b3 o3 : Nat} {z : Int} {o2 : Nat} {y : Sc} {wo W W' : World} (h : S9 B v g o x b3 o3 z o2 y wo W) (hb : Below W.heap.size W W') : S9 B v g o x b3 o3 z o2 y wo W' := by
  obtain ⟨h0, h1, h2, h3, h4, h5, h6, h7, hbb⟩ := h
  exact ⟨(hb.cell (block_lt_of_cell h0)).trans h0, (hb.cell (block_lt_of_cell h1)).trans h1, (hb.cell (block_lt_of_cell h2)).trans h2, (hb.cell (block_lt_of_cell h3)).trans h3, (hb.cell (block_lt_of_cell h4)).trans h4, (hb.cell (block_lt_of_cell h5)).trans h5,
    (hb.cell (block_lt_of_cell h6)).trans h6, (hb.cell (block_lt_of_cell h7)).trans h7, hbb.trans (hb.mono hbb.size)⟩
theorem s9_drew {B : Nat} {v : Value} {g o : Nat} {x : Sc} {b3 o3 : Nat} {z : Int} {o2 : Nat} {y : Sc} {wo W : World} (h : S9 B v g o x b3 o3 z o2 y wo W) : S9 B v g o x b3 o3 z o2 y wo W.drew := s9_step h (Below.refl _ W).drew
set_option maxHeartbeats 8000000 in
theorem order32_in (f : Fn) (n : Nat) (pk : Option Addr) (ck : Nat) (pd : Option Addr) (nd cd : Nat) (w : World) (hn : f.keys.size = n) (hf : Sl w pk f.keys) :
    Calls Tryz.prog 32 #[.agg #[.int .i64 f.k, .int .i64 f.x.1, .int .i64 f.x.2.1, .string f.x.2.2, .slice pk n ck, .slice pd nd cd]] w fun e w' => ∃ v, e = .returned v ∧ w'.ownsRow w.heap.size 3 1 v n (ints (natI (orderN f n))) ∧ Below w.heap.size w w' := by
  obtain ⟨i0, hi, hz0, hz1, hz2⟩ := info_parts info3
  obtain ⟨W, hW⟩ : ∃ W, (w.alloc (.cells #[.int .i64 f.k, .int .i64 f.x.1, .int .i64 f.x.2.1, .string f.x.2.2, .slice pk n ck, .slice pd nd cd] 47)) = W := ⟨_, rfl⟩
  have hr0 : W.heap[w.heap.size]? = some (.cells #[.int .i64 f.k, .int .i64 f.x.1, .int .i64 f.x.2.1, .string f.x.2.2, .slice pk n ck, .slice pd nd cd] 47 (0, 0)) := by rw [← hW]; exact heap_alloc_new w _
  have hb0 : Below w.heap.size w W := by rw [← hW]; exact (Below.refl _ w).alloc (Nat.le_refl _) _
  have hsm := hf.small
  rw [hn] at hsm
  have HP := Lib.hid (hf.below hb0)
  have HN := Lib.hid hn
  have HW := Lib.hid hW
  have HR0 := Lib.hid hr0
  have HB0 := Lib.hid hb0
  have HLEN := Lib.hid (orderN_len f)
  have HLT := Lib.hid (orderN_lt f)
  have HSUC := Lib.hid (orderN_succ f)
  clear hf hn hW hr0 hb0
  go_enter Tryz.func32, Tryz.ntmps32
  go_wp2_with fail
  rw [HW.out]
  go_loopw [3, 4] (fun v i wr => ∃ k : Nat, k ≤ n ∧ i = .int .i64 k ∧ wr.ownsRow W.heap.size 3 1 v k (ints (natI (orderN f k))) ∧ Below W.heap.size W wr) (fun _ i _ => n - (intOf i).toNat)
  case atStart => exact ⟨0, by omega, rfl, World.ownsRow_nil _ _ _ _, Below.refl _ _⟩
  case round =>
    obtain ⟨k, hk, rfl, hown, hb⟩ := hrel
    have hrr := (hb.block _ (Array.getElem?_eq_some_iff.1 HR0.out).1).trans HR0.out
    have q4 := cell_of_row _ _ 4 _ _ _ hrr
    have HB := Lib.hid hb
    have HOW := Lib.hid hown
    have HRR := Lib.hid hrr
    clear hb hown hrr
    by_cases hlt : k < n
    · have i1 : (k : Int) < (n : Int) := by omega
      obtain ⟨g, o, rfl, hg, hc0, hc1, hc2⟩ := (HP.out.at k (by rw [HN.out]; exact hlt))
      have hll := HLEN.out k
      have hlk := HLT.out k
      have hss := HSUC.out k
      obtain ⟨p3, c3, rfl, hsl⟩ := il_own HOW.out (by rw [natI_len, hll]) (by omega)
      obtain ⟨L, hL⟩ : ∃ L, orderN f k = L := ⟨_, rfl⟩
      rw [hL] at hll hlk hss hsl
      obtain ⟨x, hx⟩ : ∃ x, f.keys[k]! = x := ⟨_, rfl⟩
      have hpk : ∀ y, pKey f k y = decide (cmpSc x f.keys[y]! < 0) := fun y => by unfold pKey ltOf; rw [hx]
      rw [hx] at hc0 hc1 hc2
      have HLL := Lib.hid hll
      have HLK := Lib.hid hlk
      have HSS := Lib.hid hss
      have HSL := Lib.hid hsl
      have HPK := Lib.hid hpk
      have HC0 := Lib.hid hc0
      have HC1 := Lib.hid hc1
      have HC2 := Lib.hid hc2
      clear hll hlk hss hsl hx hpk hc0 hc1 hc2
      obtain ⟨wo, rfl⟩ : ∃ W, W = wr := ⟨wr, rfl⟩
      go_wp2_with fail
      clear q4
      go_loopw [5, 6, 7] (fun v dn i wq => ∃ j : Nat, j ≤ k ∧ i = .int .i64 j ∧ dn = .bool (insJ (pKey f) k L j).2 ∧ wq.ownsRow wo.heap.size 3 1 v (insJ (pKey f) k L j).1.length (ints (natI (insJ (pKey f) k L j).1)) ∧ Below wo.heap.size wo wq) (fun _ _ i _ => k - (intOf i).toNat)
      case atStart => exact ⟨0, by omega, rfl, rfl, World.ownsRow_nil _ _ _ _, Below.refl _ _⟩
      case round =>
        obtain ⟨j, hj, rfl, rfl, hown, hb⟩ := hrel
        have HB2 := Lib.hid hb
        have HOW2 := Lib.hid hown
        clear hb hown
        by_cases hjt : j < k
        · have i2 : (j : Int) < (k : Int) := by omega
          obtain ⟨g3, o3, rfl, hg3, hd0⟩ := HSL.out.at j (by rw [List.size_toArray, natI_len, HLL.out]; exact hjt)
          have hjl : j < L.length := by rw [HLL.out]; exact hjt
          rw [natI_get L j hjl] at hd0
          have hstep := insJ_succ (pKey f) k L j hjl
          have hjs := insJ_size (pKey f) k L j (Nat.le_of_lt hjl)
          have hyk : L[j]! < k := HLK.out _ (by rw [getElem!_pos L j hjl]; exact List.getElem_mem hjl)
          obtain ⟨y, hy⟩ : ∃ y, L[j]! = y := ⟨_, rfl⟩
          rw [hy] at hd0 hstep hyk
          have hyn : (y : Int) < (n : Int) := by omega
          obtain ⟨g2, o2, he2, hg2, he0, he1, he22⟩ := (HP.out.at y (by rw [HN.out]; omega))
          obtain ⟨rfl, rfl⟩ : g = g2 ∧ o = o2 := by
            injection he2 with h
            injection h with h1 h2
            exact ⟨h1, h2⟩
          have hgw : g < wo.heap.size := Nat.lt_of_lt_of_le hg HB.out.size
          have hvb := HB.out.trans (HB2.out.mono HB.out.size)
          have x0 := (hvb.cell (p := ⟨g, o + k * 3, none⟩) hg).trans HC0.out
          have x1 := (hvb.cell (p := ⟨g, o + k * 3 + 1, none⟩) hg).trans HC1.out
          have x2 := (hvb.cell (p := ⟨g, o + k * 3 + 2, none⟩) hg).trans HC2.out
          have z0 := (hvb.cell (p := ⟨g, o + y * 3, none⟩) hg).trans he0
          have z1 := (hvb.cell (p := ⟨g, o + y * 3 + 1, none⟩) hg).trans he1
          have z2 := (hvb.cell (p := ⟨g, o + y * 3 + 2, none⟩) hg).trans he22
          have y0 := (HB2.out.cell (p := ⟨g3, o3 + j, none⟩) hg3).trans hd0
          have hrr := (HB2.out.block _ (Array.getElem?_eq_some_iff.1 HRR.out).1).trans HRR.out
          have q4 := cell_of_row _ _ 4 _ _ _ hrr
          have hp := HPK.out y
          obtain ⟨u, hu⟩ : ∃ u, f.keys[y]! = u := ⟨_, rfl⟩
          rw [hu] at z0 z1 z2 hp
          have hC := fun w => Compare_ref x u w
          unfold aggS at hC
          obtain ⟨c, hc⟩ : ∃ c, cmpSc x u = c := ⟨_, rfl⟩
          rw [hc] at hC hp
          have HCM := Lib.hid hC
          have HST := Lib.hid hstep
          have HJS := Lib.hid hjs
          have HPP := Lib.hid hp
          obtain ⟨R, hR⟩ : ∃ R, insJ (pKey f) k L j = R := ⟨_, rfl⟩
          have HRE := Lib.hid hR
          have HOW3 := HOW2.out
          rw [hR] at HOW3
          rw [hR]
          have HOW4 := Lib.hid HOW3
          obtain ⟨A, dn⟩ := R
          have HD0 := Lib.hid hd0
          clear hstep hjs hy hC hc hR HOW3 hd0 he0 he1 he22 hp hu hrr he2 hvb
          simp only at HOW4
          cases dn with
          | true =>
            have hA : A.length ≤ j + 1 := by have := HJS.out.1; rw [HRE.out] at this; exact this
            clear x0 x1 x2 z0 z1 z2 q4
            go_wp2_with fail
            go_region
            all_goals
              go_wp2_with (first
                | (at_builtin
                   refine wpList_append_lies _ rfl _ _ 33 rfl wo.heap.size 3 i0 (.int .i64 0) 1 8 Tryz.underlying33 hi hz0 hz1 hz2 rfl (by decide) _ _ _ rfl (HOW4.out.alloc _).drew ⟨wr.heap.size, 0, none⟩ 1 1 [.int .i64 (y : Int)] rfl rfl (World.news_of_block (heap_alloc_new wr _)) (by intro u hu; simp at hu; rcases hu with rfl; rfl) (by decide) (by unfold maxLen; omega) (by omega) (by have := HB2.out.size; simp; omega) _ rfl ?_
                   intro g6 cap6 w6 hown6 hgr6 _ _
                   have HOW6 := Lib.hid hown6
                   have HGR6 := Lib.hid hgr6
                   clear hown6 hgr6))
              go_roundw
              case rel =>
                refine ⟨j + 1, by omega, by go_num, ?_, ?_, ?_⟩
                · rw [HST.out, HRE.out]; simp [insT]
                · rw [HST.out, HRE.out]
                  simp only [insT, Bool.true_eq_false, false_and, if_false, List.length_append, List.length_cons, List.length_nil]
                  rw [ints_natI_snoc]
                  exact HOW6.out
                · exact (HB2.out.alloc HB2.out.size _).drew.grown HGR6.out (by have := HB2.out.size; simp; omega) fun q hq => (own_lt HOW4.out q hq).1
              case measure => simp [intOf]; omega
          | false =>
            have hA : A.length ≤ j := by have := HJS.out.2 (by rw [HRE.out]); rw [HRE.out] at this; exact Nat.le_of_eq this
            by_cases hcl : c < 0
            · have hcd : decide (c < 0) = true := decide_eq_true hcl
              have hpt := HPP.out
              rw [hcd] at hpt
              have HPT := Lib.hid hpt
              clear hpt
              go_wp2_with fail
              have hS : Hid (S9 w.heap.size (.slice (some ⟨g, o, none⟩) n ck) g (o + k * 3) x g3 (o3 + j) (y : Int) (o + y * 3) u wr wr) := Lib.hid ⟨q4, x0, x1, x2, y0, z0, z1, z2, Below.refl _ _⟩
              have HCN : Hid (∀ W', Hid (S9 w.heap.size (.slice (some ⟨g, o, none⟩) n ck) g (o + k * 3) x g3 (o3 + j) (y : Int) (o + y * 3) u wr W') → Calls Tryz.prog 47 #[.agg #[.int .i64 x.1, .int .i64 x.2.1, .string x.2.2], .agg #[.int .i64 u.1, .int .i64 u.2.1, .string u.2.2]] W' fun e W'' => e = .returned (.int .i64 c) ∧ Hid (S9 w.heap.size (.slice (some ⟨g, o, none⟩) n ck) g (o + k * 3) x g3 (o3 + j) (y : Int) (o + y * 3) u wr W'')) :=
                Lib.hid fun W' h => (HCM.out W').mono fun e W'' hh => ⟨hh.1, Lib.hid (s9_step h.out hh.2)⟩
              clear x0 x1 x2 z0 z1 z2 q4 y0
              go_region_held3 (S9 w.heap.size (.slice (some ⟨g, o, none⟩) n ck) g (o + k * 3) x g3 (o3 + j) (y : Int) (o + y * 3) u wr) (first | exact Hid.out (by assumption) | exact s9_drew (Hid.out (by assumption))) (first
                | ((with_reducible refine (HCN.out _ (by first | assumption | exact Lib.hid (s9_drew (Hid.out (by assumption))))).mono ?_); rintro e wq ⟨rfl, hbq⟩))
              have HQ := hbq
              have HOWq := Lib.hid (ownI_below HOW4.out HQ.out.2.2.2.2.2.2.2.2)
              have HBq := Lib.hid (HB2.out.trans (HQ.out.2.2.2.2.2.2.2.2.mono HB2.out.size))
              obtain ⟨a0, a1, a2, a3, b0, a4, a5, a6, _⟩ := hbq.out
              clear hbq hS HCN a0 a1 a2 a3 a4 a5 a6
              go_wp2_with (first
                | (at_builtin
                   refine wpList_append_lies _ rfl _ _ 33 rfl wo.heap.size 3 i0 (.int .i64 0) 1 8 Tryz.underlying33 hi hz0 hz1 hz2 rfl (by decide) _ _ _ rfl (HOWq.out.alloc _) ⟨wq.heap.size, 0, none⟩ 1 1 [.int .i64 (k : Int)] rfl rfl (World.news_of_block (heap_alloc_new wq _)) (by intro u hu; simp at hu; rcases hu with rfl; rfl) (by decide) (by unfold maxLen; omega) (by omega) (by have := HBq.out.size; simp; omega) _ rfl ?_
                   intro g6 cap6 w6 hown6 hgr6 _ _
                   have HOW6 := Lib.hid hown6
                   have HBB6 := Lib.hid (belowI_app HBq.out HBq.out.size HOWq.out hgr6)
                   clear hown6 hgr6 b0
                   have b1 := (HBB6.out.cell (p := ⟨g3, o3 + j, none⟩) hg3).trans HD0.out)
                | (at_builtin
                   refine wpList_append_lies _ rfl _ _ 33 rfl wo.heap.size 3 i0 (.int .i64 0) 1 8 Tryz.underlying33 hi hz0 hz1 hz2 rfl (by decide) _ _ _ rfl (HOW6.out.alloc _) ⟨w6.heap.size, 0, none⟩ 1 1 [.int .i64 (y : Int)] rfl rfl (World.news_of_block (heap_alloc_new w6 _)) (by intro u hu; simp at hu; rcases hu with rfl; rfl) (by decide) (by unfold maxLen; omega) (by omega) (by have := HBB6.out.size; simp; omega) _ rfl ?_
                   intro g7 cap7 w7 hown7 hgr7 _ _
                   have HOW7 := Lib.hid hown7
                   have HBB7 := Lib.hid (belowI_app HBB6.out HBB6.out.size HOW6.out hgr7)
                   clear hown7 hgr7))
              go_roundw
              case rel =>
                refine ⟨j + 1, by omega, by go_num, ?_, ?_, HBB7.out⟩
                · rw [HST.out, HRE.out, insT_y HPT.out]
                · rw [HST.out, HRE.out, insT_y HPT.out]
                  simp only [List.length_append, List.length_cons, List.length_nil]
                  rw [ints_natI_snoc, ints_natI_snoc]
                  exact HOW7.out
              case measure => simp [intOf]; omega
            · have hcd : decide (c < 0) = false := decide_eq_false hcl
              have hpt := HPP.out
              rw [hcd] at hpt
              have HPT := Lib.hid hpt
              clear hpt
              go_wp2_with fail
              have hS : Hid (S9 w.heap.size (.slice (some ⟨g, o, none⟩) n ck) g (o + k * 3) x g3 (o3 + j) (y : Int) (o + y * 3) u wr wr) := Lib.hid ⟨q4, x0, x1, x2, y0, z0, z1, z2, Below.refl _ _⟩
              have HCN : Hid (∀ W', Hid (S9 w.heap.size (.slice (some ⟨g, o, none⟩) n ck) g (o + k * 3) x g3 (o3 + j) (y : Int) (o + y * 3) u wr W') → Calls Tryz.prog 47 #[.agg #[.int .i64 x.1, .int .i64 x.2.1, .string x.2.2], .agg #[.int .i64 u.1, .int .i64 u.2.1, .string u.2.2]] W' fun e W'' => e = .returned (.int .i64 c) ∧ Hid (S9 w.heap.size (.slice (some ⟨g, o, none⟩) n ck) g (o + k * 3) x g3 (o3 + j) (y : Int) (o + y * 3) u wr W'')) :=
                Lib.hid fun W' h => (HCM.out W').mono fun e W'' hh => ⟨hh.1, Lib.hid (s9_step h.out hh.2)⟩
              clear x0 x1 x2 z0 z1 z2 q4 y0
              go_region_held3 (S9 w.heap.size (.slice (some ⟨g, o, none⟩) n ck) g (o + k * 3) x g3 (o3 + j) (y : Int) (o + y * 3) u wr) (first | exact Hid.out (by assumption) | exact s9_drew (Hid.out (by assumption))) (first
                | ((with_reducible refine (HCN.out _ (by first | assumption | exact Lib.hid (s9_drew (Hid.out (by assumption))))).mono ?_); rintro e wq ⟨rfl, hbq⟩))
              have HQ := hbq
              have HOWq := Lib.hid (ownI_below HOW4.out HQ.out.2.2.2.2.2.2.2.2)
              have HBq := Lib.hid (HB2.out.trans (HQ.out.2.2.2.2.2.2.2.2.mono HB2.out.size))
              obtain ⟨a0, a1, a2, a3, b0, a4, a5, a6, _⟩ := hbq.out
              clear hbq hS HCN a0 a1 a2 a3 a4 a5 a6
              go_wp2_with (first
                | (at_builtin
                   refine wpList_append_lies _ rfl _ _ 33 rfl wo.heap.size 3 i0 (.int .i64 0) 1 8 Tryz.underlying33 hi hz0 hz1 hz2 rfl (by decide) _ _ _ rfl (HOWq.out.alloc _) ⟨wq.heap.size, 0, none⟩ 1 1 [.int .i64 (y : Int)] rfl rfl (World.news_of_block (heap_alloc_new wq _)) (by intro u hu; simp at hu; rcases hu with rfl; rfl) (by decide) (by unfold maxLen; omega) (by omega) (by have := HBq.out.size; simp; omega) _ rfl ?_
                   intro g6 cap6 w6 hown6 hgr6 _ _
                   have HOW6 := Lib.hid hown6
                   have HBB6 := Lib.hid (belowI_app HBq.out HBq.out.size HOWq.out hgr6)
                   clear hown6 hgr6))
              go_roundw
              case rel =>
                refine ⟨j + 1, by omega, by go_num, ?_, ?_, HBB6.out⟩
                · rw [HST.out, HRE.out, insT_n HPT.out]
                · rw [HST.out, HRE.out, insT_n HPT.out]
                  simp only [List.length_append, List.length_cons, List.length_nil]
                  rw [ints_natI_snoc]
                  exact HOW6.out
              case measure => simp [intOf]; omega
        · have i2 : ¬ (j : Int) < (k : Int) := by omega
          obtain rfl : j = k := by omega
          have hfin : insE j (insJ (pKey f) j L j) = insB (pKey f) j L := by have h := insJ_len (pKey f) j L; rw [HLL.out] at h; exact h
          have hjs := insJ_size (pKey f) j L j (by rw [HLL.out]; exact Nat.le_refl _)
          obtain ⟨R, hR⟩ : ∃ R, insJ (pKey f) j L j = R := ⟨_, rfl⟩
          have HOW3 := HOW2.out
          rw [hR] at HOW3 hfin hjs ⊢
          obtain ⟨A, dn⟩ := R
          have HOW4 := Lib.hid HOW3
          have HBo : Hid (Below W.heap.size W wr) := Lib.hid (HB.out.trans (HB2.out.mono HB.out.size))
          have hlen1 := insB_len (pKey f) j L
          rw [HLL.out, ← hfin] at hlen1
          clear hR HOW3 HOW2
          simp only at hjs HOW4
          cases dn with
          | true =>
            have hF : insE j (A, true) = A := rfl
            rw [hF] at hfin hlen1
            have HF := Lib.hid hfin
            have HL1 := Lib.hid hlen1
            clear hfin hlen1 hF hjs
            go_wp2_with fail
            go_roundw
            case rel =>
              refine ⟨j + 1, by omega, by go_num, ?_, HBo.out⟩
              rw [HSS.out, ← HF.out, ← HL1.out]
              exact own_low HOW4.out HB.out.size
            case measure => simp [intOf]; omega
          | false =>
            have hF : insE j (A, false) = A ++ [j] := rfl
            rw [hF] at hfin hlen1
            have hA : A.length = j := hjs.2 rfl
            have HAL := Lib.hid hA
            have hAle : A.length ≤ j := Nat.le_of_eq hA
            have HF := Lib.hid hfin
            clear hfin hlen1 hF hA hjs
            go_upto_region 15 with fail
            clear i2 hL
            go_upto_region 16 with (first
              | (at_builtin
                 refine wpList_append_lies _ rfl _ _ 33 rfl wo.heap.size 3 i0 (.int .i64 0) 1 8 Tryz.underlying33 hi hz0 hz1 hz2 rfl (by decide) _ _ _ rfl (HOW4.out.alloc _) ⟨wr.heap.size, 0, none⟩ 1 1 [.int .i64 (j : Int)] rfl rfl (World.news_of_block (heap_alloc_new wr _)) (by intro u hu; simp at hu; rcases hu with rfl; rfl) (by decide) (by unfold maxLen; omega) (by omega) (by have := HB2.out.size; simp; omega) _ rfl ?_
                 intro g6 cap6 w6 hown6 hgr6 _ _
                 have HOW6 := Lib.hid hown6
                 have HBB6 := Lib.hid (belowI_app HB2.out HB2.out.size HOW4.out hgr6)
                 clear hown6 hgr6))
            go_wp2_with fail
            go_roundw
            case rel =>
              refine ⟨j + 1, by omega, by go_num, ?_, ?_⟩
              · rw [HSS.out, ← HF.out, ints_natI_snoc]
                exact own_len (own_low HOW6.out HB.out.size) (by rw [HAL.out])
              · exact HB.out.trans (HBB6.out.mono HB.out.size)
            case measure => simp [intOf]; omega
    · have i1 : ¬ (k : Int) < (n : Int) := by omega
      obtain rfl : k = n := by omega
      go_wp2_with fail
      go_ret
      exact ⟨_, rfl, own_low HOW.out HB0.out.size, HB0.out.trans (HB.out.mono HB0.out.size)⟩
end Go.Proofs.YtfpcjdopfodfnaaGreatDoor
