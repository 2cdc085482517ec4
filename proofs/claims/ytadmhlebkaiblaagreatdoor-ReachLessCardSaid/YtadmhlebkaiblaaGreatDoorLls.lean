/- What is walked to from a node that is walked to is walked to: the walk of the law. Conditions: the surroundings. -/
import Derived.Test.YtadmhlebkaiblaaGreatDoorPts
import Derived.Test.YtadmhlebkaiblaaGreatDoorSbx
import Derived.Deep.RegionHeld3
import Derived.BigQuiet
set_option maxRecDepth 100000
namespace Go.Proofs.YtadmhlebkaiblaaGreatDoor
open Go.RowKit Go.Shelf
open Scs Dfs
theorem less_walk {D : Array Fn} {root : Int} (he : (checkG root D.toList).2 = 0) {t : Nat} (ht : t < (wk D root.toNat).length) : walkG ((wk D root.toNat)[t]! : Nat) D = (wk D (wk D root.toNat)[t]!, 0) ∧
    0 < (wk D (wk D root.toNat)[t]!).length ∧ (wk D (wk D root.toNat)[t]!)[0]! = (wk D root.toNat)[t]! ∧ ∀ y ∈ wk D (wk D root.toNat)[t]!, y ∈ wk D root.toNat := by
  obtain ⟨hb, _, hr, h200⟩ := check_right he
  have hm : (wk D root.toNat)[t]! ∈ wk D root.toNat := by rw [getElem!_pos _ t ht]; exact List.getElem_mem ht
  obtain ⟨y, hy⟩ : ∃ y, (wk D root.toNat)[t]! = y := ⟨_, rfl⟩
  rw [hy] at hm ⊢
  have hyl := wk_lt hb hr y hm
  have h0 := wk_mem0 hb hyl
  have hl := (List.getElem?_eq_some_iff.1 h0).1
  refine ⟨?_, hl, by rw [getElem!_pos _ 0 hl]; exact (List.getElem?_eq_some_iff.1 h0).2, wk_less hb hr hm⟩
  unfold walkG
  have hck : checkG (y : Int) D.toList = (0, 0) := by
    rw [check_root (by rw [Array.length_toList]; exact h200) (by rw [Array.length_toList]; exact hb), Array.length_toList, if_pos (plB_iff.2 ⟨by omega, by omega⟩)]
  rw [hck, if_pos rfl]
  rfl
/-- a box of two cells, and one cell more -/
abbrev S2c (a : Nat) (a0 a1 : Value) (ad : Addr) (v : Value) (wo W : World) : Prop :=
  W.cell? ⟨a, 0, none⟩ = some a0 ∧ W.cell? ⟨a, 1, none⟩ = some a1 ∧ W.cell? ad = some v ∧ Below wo.heap.size wo W
theorem s2c_step {a : Nat} {a0 a1 : Value} {ad : Addr} {v : Value} {wo W W' : World} (h : S2c a a0 a1 ad v wo W) (hb : Below W.heap.size W W') : S2c a a0 a1 ad v wo W' := by
  obtain ⟨h0, h1, h2, hbb⟩ := h
  exact ⟨(hb.cell (block_lt_of_cell h0)).trans h0, (hb.cell (block_lt_of_cell h1)).trans h1, (hb.cell (block_lt_of_cell h2)).trans h2, hbb.trans (hb.mono hbb.size)⟩
theorem s2c_drew {a : Nat} {a0 a1 : Value} {ad : Addr} {v : Value} {wo W : World} (h : S2c a a0 a1 ad v wo W) : S2c a a0 a1 ad v wo W.drew := s2c_step h (Below.refl _ W).drew
set_option maxHeartbeats 16000000 in
theorem walkReachLess (root : Int) (L : Array Fn) (p : Option Addr) (cap : Nat) (i : Int) (w : World) (E : Env w) (hL : GlR w p L) :
    Calls Tryz.prog 9 #[.agg #[.int .i64 root, .slice p L.size cap], .int .i64 i] w fun e w' => e = .returned (.bool true) ∧ Below w.heap.size w w' := by
  have HEE := Lib.hid E
  obtain ⟨v0, hv0⟩ : ∃ v, (w.alloc (.cells #[.int .i64 root, .slice p L.size cap] 24)) = v := ⟨_, rfl⟩
  have hb0 : Below w.heap.size w v0 := by rw [← hv0]; exact ((Below.refl _ w).alloc (Nat.le_refl _) _)
  have r0 : v0.heap[w.heap.size]? = some (.cells #[.int .i64 root, .slice p L.size cap] 24) := by
    rw [← hv0]
    have h := heap_alloc_new w (.cells #[.int .i64 root, .slice p L.size cap] 24)
    exact h
  have HE0 := Lib.hid (E.below hb0)
  have HL0 := Lib.hid (hL.below hb0)
  have HB0 := Lib.hid hb0
  have Rg0 := Lib.hid r0
  have HV0 := Lib.hid hv0
  clear hv0 hb0 E hL r0
  go_enter Tryz.func9, Tryz.ntmps9
  go_wp2_with fail
  rw [HV0.out]
  refine (rch.shown _ HE0.out).mono ?_
  rintro e v1 ⟨rfl, hb⟩
  have HE1 := Lib.hid (HE0.out.below hb)
  have HL1 := Lib.hid (HL0.out.below hb)
  have HB1 := Lib.hid (HB0.out.trans (hb.mono HB0.out.size))
  have Rg1 := Lib.hid ((hb.block _ (Array.getElem?_eq_some_iff.1 Rg0.out).1).trans Rg0.out)
  clear hb
  have cg0 := cell_of_row _ _ 0 _ _ _ Rg1.out
  have cg1 := cell_of_row _ _ 1 _ _ _ Rg1.out
  go_wp2_with fail
  refine (Cut07_any root L p cap v1 HL1.out).mono ?_
  rintro e v2 ⟨q, n, c, rfl, ⟨L', hn, h201, hgo⟩, hb⟩
  clear cg0 cg1
  have HE2 := Lib.hid (HE1.out.below hb)
  have HB2 := Lib.hid (HB1.out.trans (hb.mono HB1.out.size))
  have Rg2 := Lib.hid ((hb.block _ (Array.getElem?_eq_some_iff.1 Rg1.out).1).trans Rg1.out)
  have HNa := Lib.hid hn
  have HTa := Lib.hid h201
  have HGa2 := Lib.hid hgo
  clear hn h201 hgo hb
  have cg0 := cell_of_row _ _ 0 _ _ _ Rg2.out
  have cg1 := cell_of_row _ _ 1 _ _ _ Rg2.out
  have f0 := frozen_of_row _ _ 0 _ _ Rg2.out
  have f1 := frozen_of_row _ _ 1 _ _ Rg2.out
  go_upto_region 3 with fail
  obtain ⟨v3, hv⟩ : ∃ v, ((v2.setCell ⟨w.heap.size, 0, none⟩ (.int .i64 root)).setCell ⟨w.heap.size, 1, none⟩ (.slice q n c)) = v := ⟨_, rfl⟩
  rw [hv]
  have r := (heap_setCell_same _ (w.heap.size) 1 _ _ (.slice q n c) (heap_setCell_same v2 (w.heap.size) 0 _ _ (.int .i64 root) Rg2.out))
  rw [hv] at r
  have g : v2.grownBy v3 (some (w.heap.size)) := by rw [← hv]; exact (gB_setCell (gB_setCell (gB_refl _ _) _ _) _ _)
  have hbs : Below w.heap.size v2 v3 := below_of_grown g (by omega) HB2.out.size
  have hB1 : w.heap.size < v1.heap.size := (Array.getElem?_eq_some_iff.1 Rg1.out).1
  have Rg3 := Lib.hid r
  have HB3 := Lib.hid (HB2.out.trans hbs)
  have HE3 := Lib.hid (HEE.out.below HB3.out)
  have HGO3 : Hid (GO v1.heap.size v3 (.slice q n c) L') := Lib.hid (GO.keepB HGa2.out g hB1)
  have HG3 := Lib.hid (HGO3.out.gl HNa.out HTa.out)
  have HK := Lib.hid HGO3.out.k12
  have hDn : L'.toArray.size = n := by rw [List.size_toArray]; exact HNa.out
  obtain ⟨D, hD⟩ : ∃ D, L'.toArray = D := ⟨_, rfl⟩
  rw [hD] at HG3 HK hDn
  clear cg0 cg1 f0 f1 hv r g hbs hB1 hD
  have hWP := fun root W E G => rch.walk root D q c W E G HK.out
  obtain ⟨te, hte⟩ : ∃ r, (checkG root D.toList).2 = r := ⟨_, rfl⟩
  have hck := check_right (root := root) (L := D)
  have hlw := fun t h ht => less_walk (D := D) (root := root) h (t := t) ht
  have hwg : walkG root D = if (checkG root D.toList).2 = 0 then (wk D root.toNat, 0) else ([], (checkG root D.toList).2) := rfl
  rw [hDn] at hWP
  rw [hte] at hlw hwg hck
  by_cases h0 : te = 0
  · subst h0
    rw [if_pos rfl] at hwg
    have hW1 := hWP root
    rw [hwg] at hW1
    have hlw2 := fun t ht => hlw t rfl ht
    obtain ⟨wl, hwl⟩ : ∃ l, wk D root.toNat = l := ⟨_, rfl⟩
    rw [hwl] at hW1 hlw2
    simp only at hW1
    obtain ⟨wn, hwn⟩ : ∃ n, wl.length = n := ⟨_, rfl⟩
    rw [hwn] at hW1
    have HW1 := Lib.hid hW1
    have HWP := Lib.hid hWP
    have HLW := Lib.hid hlw2
    have HWN := Lib.hid hwn
    clear hWP hW1 hck hwg hlw hlw2 hDn hte hwl hwn
    have cg0 := cell_of_row _ _ 0 _ _ _ Rg3.out
    have cg1 := cell_of_row _ _ 1 _ _ _ Rg3.out
    go_wp2_with fail
    refine (HW1.out v3 HE3.out HG3.out).mono ?_
    rintro e v4 ⟨wq, wc2, rfl, hi, hb⟩
    clear cg0 cg1
    have HE4 := Lib.hid (HE3.out.below hb)
    have HG4 := Lib.hid (HG3.out.below hb)
    have HB4 := Lib.hid (HB3.out.trans (hb.mono HB3.out.size))
    have Rg4 := Lib.hid ((hb.block _ (Array.getElem?_eq_some_iff.1 Rg3.out).1).trans Rg3.out)
    have HI4 := Lib.hid hi
    clear hi
    clear hb
    by_cases hi0 : i < 0
    · go_wp2_with fail
      go_ret
      exact ⟨rfl, HB4.out⟩
    · by_cases hi1 : i < (wn : Int)
      · have g0 : decide (i < 0) = false := decide_eq_false hi0
        have g1 : ¬ (i ≥ (wn : Int)) := by omega
        obtain ⟨t, rfl⟩ : ∃ t : Nat, i = t := ⟨i.toNat, by omega⟩
        have htl : t < wl.length := by rw [HWN.out]; omega
        obtain ⟨hw2, hpos, hhd, hsub⟩ := HLW.out t htl
        obtain ⟨b1, o1, rfl, hb1, x1⟩ := HI4.out.at t (by rw [List.size_toArray, natI_len]; exact htl)
        rw [natI_get wl t htl] at x1
        obtain ⟨y, hy⟩ : ∃ y : Nat, wl[t]! = y := ⟨_, rfl⟩
        rw [hy] at x1 hw2 hpos hhd hsub
        have hW2 := HWP.out (y : Int)
        rw [hw2] at hW2
        obtain ⟨wm, hwm⟩ : ∃ l, wk D y = l := ⟨_, rfl⟩
        rw [hwm] at hW2 hpos hhd hsub
        simp only at hW2
        obtain ⟨m2, hm2⟩ : ∃ n, wm.length = n := ⟨_, rfl⟩
        rw [hm2] at hW2 hpos
        have cg0 := cell_of_row _ _ 0 _ _ _ Rg4.out
        have cg1 := cell_of_row _ _ 1 _ _ _ Rg4.out
        have hS : Hid (S2c w.heap.size (.int .i64 root) (.slice q n c) ⟨b1, o1 + t, none⟩ (.int .i64 y) v4 v4) := Lib.hid ⟨cg0, cg1, x1, Below.refl _ _⟩
        have H13 : Hid (∀ W', Hid (S2c w.heap.size (.int .i64 root) (.slice q n c) ⟨b1, o1 + t, none⟩ (.int .i64 y) v4 W') → Calls Tryz.prog 13 #[.agg #[.int .i64 y, .slice q n c]] W' fun e W'' => (∃ q2 c2, e = .returned (.tuple #[.slice q2 m2 c2, .int .i64 0]) ∧ Hid (Il W'' q2 (natI wm).toArray)) ∧ Hid (S2c w.heap.size (.int .i64 root) (.slice q n c) ⟨b1, o1 + t, none⟩ (.int .i64 y) v4 W'')) :=
          Lib.hid fun W' h => (hW2 W' (HE4.out.below h.out.2.2.2) (HG4.out.below h.out.2.2.2)).mono fun e W'' hh => by
            obtain ⟨q2, c2, h1, h2, h3⟩ := hh
            exact ⟨⟨q2, c2, h1, Lib.hid h2⟩, Lib.hid (s2c_step h.out h3)⟩
        have HSUB := Lib.hid hsub
        have HHD := Lib.hid hhd
        have HM2 := Lib.hid hm2
        have hti : (t : Int) < (wn : Int) := hi1
        clear hW2 hw2 hwm hhd hsub hm2 hy cg0 cg1 x1 hi0 htl
        go_upto_region 6 with fail
        go_region_held3 (S2c w.heap.size (.int .i64 root) (.slice q n c) ⟨b1, o1 + t, none⟩ (.int .i64 y) v4) (first | exact Hid.out (by assumption) | exact s2c_drew (Hid.out (by assumption))) (first
          | ((with_reducible refine (H13.out _ (by first | assumption | exact Lib.hid (s2c_drew (Hid.out (by assumption))))).mono ?_); rintro e wq ⟨⟨q2, c2, rfl, hi2⟩, hbq⟩))
        have hs := hbq.out
        obtain ⟨_, _, x1q, hbw⟩ := hs
        have hil := HI4.out.below hbw
        have HBQ := Lib.hid (HB4.out.trans (hbw.mono HB4.out.size))
        have hin := fun z => In27_any (natI wl).toArray z (some ⟨b1, o1, none⟩) wc2 wq hil
        rw [List.size_toArray, natI_len, HWN.out, List.toList_toArray] at hin
        have HIN := Lib.hid hin
        have X1 := Lib.hid x1q
        have hmm : m2 ≤ 1000000 := by have h := hi2.out.small; rw [List.size_toArray, natI_len, HM2.out] at h; exact h
        clear hbw hil hin x1q hbq
        go_wp2_with fail
        go_loopw [10] (fun k wr => ∃ s : Nat, s ≤ m2 ∧ k = .int .i64 s ∧ wr = wq) (fun k _ => m2 - (intOf k).toNat)
        case atStart => exact ⟨0, by omega, rfl, rfl⟩
        case round =>
          obtain ⟨s, hs, rfl, rfl⟩ := hrel
          by_cases hlt : s < m2
          · have i1 : (s : Int) < (m2 : Int) := by omega
            have hsl : s < wm.length := by rw [HM2.out]; exact hlt
            obtain ⟨b2, o2, rfl, hb2, x2⟩ := hi2.out.at s (by rw [List.size_toArray, natI_len]; exact hsl)
            rw [natI_get wm s hsl] at x2
            have hin2 := HIN.out ((wm[s]! : Nat) : Int)
            have hmem := HSUB.out wm[s]! (by rw [getElem!_pos wm s hsl]; exact List.getElem_mem hsl)
            obtain ⟨z, hz⟩ : ∃ z : Nat, wm[s]! = z := ⟨_, rfl⟩
            rw [hz] at x2 hin2 hmem
            rw [inI_places, if_pos hmem] at hin2
            have hnn : ¬ (((idx wl z : Nat) : Int) < 0) := by omega
            have HIN2 := Lib.hid hin2
            clear hin2 hmem hz hsl
            go_wp2_with fail
            refine HIN2.out.mono ?_
            rintro e w' ⟨rfl, rfl⟩
            go_wp2_with fail
            go_roundw
            case rel => exact ⟨s + 1, by omega, by go_num, by trivial⟩
            case measure => simp [intOf]; omega
          · have i1 : ¬ (s : Int) < (m2 : Int) := by omega
            have hp2 : (0 : Int) < (m2 : Int) := by omega
            obtain ⟨b2, o2, rfl, hb2, x2⟩ := hi2.out.at 0 (by rw [List.size_toArray, natI_len, HM2.out]; exact hpos)
            rw [natI_get wm 0 (by rw [HM2.out]; exact hpos), HHD.out, Nat.add_zero] at x2
            have x1 := X1.out
            go_wp2_with fail
            go_quiet (fail)
            go_wp2_with fail
            go_ret
            exact ⟨by simp, below_drewN HBQ.out _⟩
      · have g0 : decide (i < 0) = false := decide_eq_false hi0
        have g1 : i ≥ (wn : Int) := by omega
        go_wp2_with fail
        go_ret
        exact ⟨rfl, HB4.out⟩
  · have hne : (te != 0) = true := by simp [h0]
    rw [if_neg h0] at hwg
    have hW1 := hWP root
    rw [hwg] at hW1
    simp only [List.length_nil] at hW1
    have HW1 := Lib.hid hW1
    clear hWP hW1 hck hwg hlw hDn hte h0
    have cg0 := cell_of_row _ _ 0 _ _ _ Rg3.out
    have cg1 := cell_of_row _ _ 1 _ _ _ Rg3.out
    go_wp2_with fail
    refine (HW1.out v3 HE3.out HG3.out).mono ?_
    rintro e v4 ⟨wq, wc2, rfl, _, hb⟩
    clear cg0 cg1
    have HE4 := Lib.hid (HE3.out.below hb)
    have HG4 := Lib.hid (HG3.out.below hb)
    have HB4 := Lib.hid (HB3.out.trans (hb.mono HB3.out.size))
    have Rg4 := Lib.hid ((hb.block _ (Array.getElem?_eq_some_iff.1 Rg3.out).1).trans Rg3.out)
    clear hb
    go_wp2_with fail
    go_ret
    exact ⟨rfl, HB4.out⟩
end Go.Proofs.YtadmhlebkaiblaaGreatDoor
