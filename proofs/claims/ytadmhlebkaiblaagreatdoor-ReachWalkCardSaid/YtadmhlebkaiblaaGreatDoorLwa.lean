/- What the document says of a walk: the walk of the law. Conditions: the surroundings. -/
import Derived.Test.YtadmhlebkaiblaaGreatDoorPts
import Derived.Deep.RegionHeld3
import Derived.BigQuiet
set_option maxRecDepth 100000
namespace Go.Proofs.YtadmhlebkaiblaaGreatDoor
open Go.RowKit Go.Shelf
open Scs Dfs
theorem walk_facts {D : Array Fn} {root : Int} (he : (checkG root D.toList).2 = 0) : walkG root D = (wk D root.toNat, 0) ∧ 0 < (wk D root.toNat).length ∧ (((wk D root.toNat)[0]! : Nat) : Int) = root ∧
    ∀ t, t < (wk D root.toNat).length → (wk D root.toNat)[t]! < D.size ∧ inI (natI (wk D root.toNat)) ((wk D root.toNat)[t]! : Nat) = t ∧
      (0 < t → ∃ s, s < t ∧ 0 ≤ inI D[(wk D root.toNat)[s]!]!.kids.toList ((wk D root.toNat)[t]! : Nat)) ∧
      ∀ j, j < D[(wk D root.toNat)[t]!]!.kids.size → 0 ≤ inI (natI (wk D root.toNat)) D[(wk D root.toNat)[t]!]!.kids[j]! := by
  obtain ⟨hb, hrt, hr, h200⟩ := check_right he
  have h0 := wk_mem0 hb hr
  have hl := (List.getElem?_eq_some_iff.1 h0).1
  refine ⟨by unfold walkG; rw [if_pos he], hl, by rw [getElem!_pos _ 0 hl, (List.getElem?_eq_some_iff.1 h0).2]; exact hrt.symm, fun t ht => ?_⟩
  have hg : (wk D root.toNat)[t]? = some (wk D root.toNat)[t]! := by rw [List.getElem?_eq_getElem ht, getElem!_pos _ t ht]
  have hm : (wk D root.toNat)[t]! ∈ wk D root.toNat := by rw [getElem!_pos _ t ht]; exact List.getElem_mem ht
  have hxl := wk_lt hb hr _ hm
  refine ⟨hxl, ?_, fun h => ?_, fun j hj => ?_⟩
  · have h : idx (wk D root.toNat) (wk D root.toNat)[t]! = t := idx_get (walk_went (KN_lt hb) hr).few.1 hg
    rw [inI_places, if_pos hm, h]
  · obtain ⟨s, k, hs, hk, hx⟩ := wk_from hb hr h hg
    refine ⟨s, hs, ?_⟩
    obtain ⟨hsl, hk2⟩ := List.getElem?_eq_some_iff.1 hk
    rw [getElem!_pos _ s hsl, hk2]
    have hkm : k ∈ wk D root.toNat := by rw [← hk2]; exact List.getElem_mem hsl
    obtain ⟨z, hz, hzx⟩ := List.mem_map.1 hx
    have hR := right_at hb (wk_lt hb hr k hkm)
    have hz0 := kidsOf_mem hR z hz
    have hzm := (kidsOf_perm hR).mem_iff.1 hz
    have hze : z = (((wk D root.toNat)[t]! : Nat) : Int) := by omega
    rw [hze] at hzm
    exact Int.not_lt.1 fun h => inI_neg.1 h hzm
  · have hR := right_at hb hxl
    have hzm : D[(wk D root.toNat)[t]!]!.kids[j]! ∈ kidsOf D[(wk D root.toNat)[t]!]! := (kidsOf_perm hR).mem_iff.2 (by rw [getElem!_pos _ j hj]; exact Array.getElem_mem_toList hj)
    have hz0 := kidsOf_mem hR _ hzm
    have hw := wk_closed hb hr _ hm _ hzm
    refine Int.not_lt.1 fun h => inI_neg.1 h (List.mem_map.2 ⟨_, hw, ?_⟩)
    omega
set_option maxHeartbeats 16000000 in
theorem walkReachWalk (root : Int) (L : Array Fn) (p : Option Addr) (cap : Nat) (w : World) (E : Env w) (hL : GlR w p L) :
    Calls Tryz.prog 6 #[.agg #[.int .i64 root, .slice p L.size cap]] w fun e w' => e = .returned (.bool true) ∧ Below w.heap.size w w' := by
  have HEE := Lib.hid E
  obtain ⟨v0, hv0⟩ : ∃ v, (w.alloc (.cells #[.int .i64 root, .slice p L.size cap] 24)) = v := ⟨_, rfl⟩
  have hb0 : Below w.heap.size w v0 := by rw [← hv0]; exact ((Below.refl _ w).alloc (Nat.le_refl _) _)
  have r0 : v0.heap[w.heap.size]? = some (.cells #[.int .i64 root, .slice p L.size cap] 24) := by
    rw [← hv0]
    have h := heap_alloc_new w (.cells #[.int .i64 root, .slice p L.size cap] 24)
    exact h
  have HE0 := Lib.hid (E.below hb0)
  have HL0 := Lib.hid (hL.below hb0)
  have HB0 := Lib.hid hb0
  have Rg0 := Lib.hid r0
  have HV0 := Lib.hid hv0
  clear hv0 hb0 E hL r0
  go_enter Tryz.func6, Tryz.ntmps6
  go_wp2_with fail
  rw [HV0.out]
  refine (rch.shown _ HE0.out).mono ?_
  rintro e v1 ⟨rfl, hb⟩
  have HE1 := Lib.hid (HE0.out.below hb)
  have HL1 := Lib.hid (HL0.out.below hb)
  have HB1 := Lib.hid (HB0.out.trans (hb.mono HB0.out.size))
  have Rg1 := Lib.hid ((hb.block _ (Array.getElem?_eq_some_iff.1 Rg0.out).1).trans Rg0.out)
  clear hb
  have cg0 := cell_of_row _ _ 0 _ _ _ Rg1.out
  have cg1 := cell_of_row _ _ 1 _ _ _ Rg1.out
  go_wp2_with fail
  refine (Cut07_any root L p cap v1 HL1.out).mono ?_
  rintro e v2 ⟨q, n, c, rfl, ⟨L', hn, h201, hgo⟩, hb⟩
  clear cg0 cg1
  have HE2 := Lib.hid (HE1.out.below hb)
  have HB2 := Lib.hid (HB1.out.trans (hb.mono HB1.out.size))
  have Rg2 := Lib.hid ((hb.block _ (Array.getElem?_eq_some_iff.1 Rg1.out).1).trans Rg1.out)
  have HNa := Lib.hid hn
  have HTa := Lib.hid h201
  have HGa2 := Lib.hid hgo
  clear hn h201 hgo hb
  have cg0 := cell_of_row _ _ 0 _ _ _ Rg2.out
  have cg1 := cell_of_row _ _ 1 _ _ _ Rg2.out
  have f0 := frozen_of_row _ _ 0 _ _ Rg2.out
  have f1 := frozen_of_row _ _ 1 _ _ Rg2.out
  go_upto_region 3 with fail
  obtain ⟨v3, hv⟩ : ∃ v, ((v2.setCell ⟨w.heap.size, 0, none⟩ (.int .i64 root)).setCell ⟨w.heap.size, 1, none⟩ (.slice q n c)) = v := ⟨_, rfl⟩
  rw [hv]
  have r := (heap_setCell_same _ (w.heap.size) 1 _ _ (.slice q n c) (heap_setCell_same v2 (w.heap.size) 0 _ _ (.int .i64 root) Rg2.out))
  rw [hv] at r
  have g : v2.grownBy v3 (some (w.heap.size)) := by rw [← hv]; exact (gB_setCell (gB_setCell (gB_refl _ _) _ _) _ _)
  have hbs : Below w.heap.size v2 v3 := below_of_grown g (by omega) HB2.out.size
  have hB1 : w.heap.size < v1.heap.size := (Array.getElem?_eq_some_iff.1 Rg1.out).1
  have Rg3 := Lib.hid r
  have HB3 := Lib.hid (HB2.out.trans hbs)
  have HE3 := Lib.hid (HEE.out.below HB3.out)
  have HGO3 : Hid (GO v1.heap.size v3 (.slice q n c) L') := Lib.hid (GO.keepB HGa2.out g hB1)
  have HG3 := Lib.hid (HGO3.out.gl HNa.out HTa.out)
  have HK := Lib.hid HGO3.out.k12
  have hDn : L'.toArray.size = n := by rw [List.size_toArray]; exact HNa.out
  obtain ⟨D, hD⟩ : ∃ D, L'.toArray = D := ⟨_, rfl⟩
  rw [hD] at HG3 HK hDn
  clear cg0 cg1 f0 f1 hv r g hbs hB1 hD
  have hWP := fun W E G => rch.walk root D q c W E G HK.out
  have hwf := walk_facts (D := D) (root := root)
  have hwg : walkG root D = if (checkG root D.toList).2 = 0 then (wk D root.toNat, 0) else ([], (checkG root D.toList).2) := rfl
  obtain ⟨te, hte⟩ : ∃ r, (checkG root D.toList).2 = r := ⟨_, rfl⟩
  rw [hDn] at hWP hwf
  rw [hte] at hwf hwg
  by_cases h0 : te = 0
  · subst h0
    obtain ⟨hw1, hpos, hhd, hall⟩ := hwf rfl
    rw [hw1] at hWP
    obtain ⟨wl, hwl⟩ : ∃ l, wk D root.toNat = l := ⟨_, rfl⟩
    rw [hwl] at hWP hpos hhd hall
    simp only at hWP
    obtain ⟨wn, hwn⟩ : ∃ n, wl.length = n := ⟨_, rfl⟩
    rw [hwn] at hWP hpos hall
    have HWP := Lib.hid hWP
    have HWN := Lib.hid hwn
    have HHD := Lib.hid hhd
    have HALL := Lib.hid hall
    have HDN := Lib.hid hDn
    clear hWP hwf hwg hw1 hDn hte hwl hwn hhd hall
    have cg0 := cell_of_row _ _ 0 _ _ _ Rg3.out
    have cg1 := cell_of_row _ _ 1 _ _ _ Rg3.out
    go_wp2_with fail
    refine (HWP.out v3 HE3.out HG3.out).mono ?_
    rintro e v4 ⟨wq, wc2, rfl, hi, hb⟩
    clear cg0 cg1
    have HE4 := Lib.hid (HE3.out.below hb)
    have HG4 := Lib.hid (HG3.out.below hb)
    have HB4 := Lib.hid (HB3.out.trans (hb.mono HB3.out.size))
    have Rg4 := Lib.hid ((hb.block _ (Array.getElem?_eq_some_iff.1 Rg3.out).1).trans Rg3.out)
    have HI4 := Lib.hid hi
    clear hi
    clear hb
    obtain ⟨b1, o1, rfl, hb1, x0⟩ := HI4.out.at 0 (by rw [List.size_toArray, natI_len, HWN.out]; exact hpos)
    rw [natI_get wl 0 (by rw [HWN.out]; exact hpos), HHD.out, Nat.add_zero] at x0
    have hwm : wn ≤ 1000000 := by have h := HI4.out.small; rw [List.size_toArray, natI_len, HWN.out] at h; exact h
    have hnm : n ≤ 1000000 := by have h := HG4.out.small; rw [HDN.out] at h; exact h
    obtain ⟨bL, oL, rfl, hbL, _⟩ := HG4.out.at wl[0]! (by rw [HDN.out]; exact (HALL.out 0 hpos).1)
    have hp2 : (0 : Int) < (wn : Int) := by omega
    have hp3 : ((wn : Int) == 0) = false := by simp; omega
    have cg0 := cell_of_row _ _ 0 _ _ _ Rg4.out
    have cg1 := cell_of_row _ _ 1 _ _ _ Rg4.out
    go_wp2_with fail
    go_quiet (fail)
    have hq : Below v4.heap.size v4 (v4.drewN nq) := below_drewN (Below.refl _ _) _
    obtain ⟨v5, hv5⟩ : ∃ v, v4.drewN nq = v := ⟨_, rfl⟩
    rw [hv5] at hq ⊢
    clear hv5 cg0 cg1 x0
    go_wp2_with fail
    go_loopw [6] (fun i wr => ∃ t : Nat, t ≤ wn ∧ i = .int .i64 t ∧ Below v4.heap.size v4 wr) (fun i _ => wn - (intOf i).toNat)
    case atStart => exact ⟨0, by omega, rfl, hq⟩
    case round =>
      obtain ⟨t, ht, rfl, hbr⟩ := hrel
      obtain ⟨wa, rfl⟩ : ∃ W, W = wr := ⟨wr, rfl⟩
      have HBA := Lib.hid hbr
      clear hbr
      by_cases hlt : t < wn
      · have i1 : (t : Int) < (wn : Int) := by omega
        obtain ⟨hxD, hin, hfr, hkd⟩ := HALL.out t hlt
        obtain ⟨x, hx⟩ : ∃ x, wl[t]! = x := ⟨_, rfl⟩
        have hx1 : (natI wl).toArray[t]! = (x : Int) := by rw [natI_get wl t (by rw [HWN.out]; exact hlt), hx]
        rw [hx] at hxD hin hfr hkd
        have HX1 := Lib.hid hx1
        have HIN := Lib.hid hin
        have HFR := Lib.hid hfr
        have HKD := Lib.hid hkd
        have hsz : (natI wl).toArray.size = wn := by rw [List.size_toArray, natI_len, HWN.out]
        have HSZ := Lib.hid hsz
        clear hx hx1 hin hfr hkd hsz
        have h27 : ∀ W, Below v4.heap.size v4 W → Calls Tryz.prog 27 #[.slice (some ⟨b1, o1, none⟩) wn wc2, .int .i64 x] W fun e w' => e = .returned (.int .i64 t) ∧ w' = W := fun W hW => by
          have h := In27_any (natI wl).toArray x (some ⟨b1, o1, none⟩) wc2 W (HI4.out.below hW)
          rw [HSZ.out, List.toList_toArray, HIN.out] at h
          exact h
        have hcx : ∀ W, Below v4.heap.size v4 W → W.cell? ⟨b1, o1 + t, none⟩ = some (.int .i64 x) := fun W hW => by
          obtain ⟨b', o', h, _, h2⟩ := (HI4.out.below hW).at t (by rw [HSZ.out]; exact hlt)
          cases h
          rw [HX1.out] at h2
          exact h2
        have hcg : ∀ W, Below v4.heap.size v4 W → W.cell? ⟨w.heap.size, 1, none⟩ = some (.slice (some ⟨bL, oL, none⟩) n c) := fun W hW =>
          cell_of_row _ _ 1 _ _ _ ((hW.block _ (Array.getElem?_eq_some_iff.1 Rg4.out).1).trans Rg4.out)
        have H27 := Lib.hid h27
        have HCX := Lib.hid hcx
        have HCG := Lib.hid hcg
        clear h27 hcx hcg
        have xn : (x : Int) < (n : Int) := by have := HDN.out; omega
        have g0 : decide ((x : Int) < 0) = false := decide_eq_false (by omega)
        have g1 : decide ((x : Int) ≥ (n : Int)) = false := decide_eq_false (by omega)
        have g2 : decide (n ≤ x) = false := decide_eq_false (by omega)
        have hQ27 := fun m => H27.out (wa.drewN m) (below_drewN HBA.out m)
        have HQ27 := Lib.hid hQ27
        clear hQ27
        have x1 := HCX.out wa HBA.out
        have cg1 := HCG.out wa HBA.out
        go_wp2_with fail
        go_quiet ((go_at_call 27; exact Calls.quiet_of_same (HQ27.out _)))
        have hq2 : Below v4.heap.size v4 (wa.drewN nq) := below_drewN HBA.out _
        obtain ⟨wb, hwb⟩ : ∃ v, wa.drewN nq = v := ⟨_, rfl⟩
        rw [hwb] at hq2 ⊢
        have HBB := Lib.hid hq2
        clear hwb x1 cg1 hq2 HQ27 g0 g1 g2
        go_upto_region 14 with fail
        go_step
        go_step
        go_step
        go_step
        go_step
        go_step
        go_step
        obtain ⟨tb, htb⟩ : ∃ b : Bool, ((t : Int) == 0) = b := ⟨_, rfl⟩
        rw [htb]
        have HTB := Lib.hid htb
        clear htb
        go_cut [7] from 71 to 93 (fun b wx => b = .bool true ∧ Below v4.heap.size v4 wx)
        case first =>
          go_wp2_with fail
          go_loopw [7, 8] (fun b k wr => ∃ j : Nat, ∃ bb : Bool, b = .bool bb ∧ k = .int .i64 j ∧ j ≤ t ∧ (t = 0 → bb = true) ∧ (∀ s, s < j → 0 ≤ inI D[wl[s]!]!.kids.toList x → bb = true) ∧ Below v4.heap.size v4 wr) (fun _ k _ => t - (intOf k).toNat)
          case atStart => exact ⟨0, tb, rfl, rfl, by omega, fun h => by rw [← HTB.out, h]; rfl, fun s hs => absurd hs (by omega), HBB.out⟩
          case round =>
            obtain ⟨j, bb, rfl, rfl, hj, hz, hs, hbr⟩ := hrel
            obtain ⟨wk', rfl⟩ : ∃ W, W = wr := ⟨wr, rfl⟩
            have HBK := Lib.hid hbr
            have HZ := Lib.hid hz
            have HS := Lib.hid hs
            clear hbr hz hs
            by_cases hjt : j < t
            · have i2 : (j : Int) < (t : Int) := by omega
              cases bb with
              | true =>
                go_wp2_with fail
                go_quiet (fail)
                go_wp2_with fail
                go_roundw
                case rel => exact ⟨j + 1, true, rfl, by go_num, by omega, fun _ => rfl, fun _ _ _ => rfl, below_drewN HBK.out _⟩
                case measure => simp [intOf]; omega
              | false =>
                have hjl : j < wn := by omega
                have i3 : (j : Int) < (wn : Int) := by omega
                have hyD := (HALL.out j hjl).1
                have x1 := HCX.out wk' HBK.out
                have cg1 := HCG.out wk' HBK.out
                obtain ⟨b', o', h, _, x2⟩ := (HI4.out.below HBK.out).at j (by rw [HSZ.out]; exact hjl)
                cases h
                rw [natI_get wl j (by rw [HWN.out]; exact hjl)] at x2
                have hs1 := HS.out
                obtain ⟨y, hy⟩ : ∃ y, wl[j]! = y := ⟨_, rfl⟩
                rw [hy] at x2 hyD
                have yn : (y : Int) < (n : Int) := by have := HDN.out; omega
                obtain ⟨b', o', h, _, _, _, _, _, _, x3⟩ := (HG4.out.below HBK.out).at y (by rw [HDN.out]; exact hyD)
                cases h
                have hnl := ((HG4.out.below HBK.out).nodes y (by rw [HDN.out]; exact hyD)).ds
                have hstep : ∀ b2 : Bool, (0 ≤ inI D[y]!.kids.toList x → b2 = true) → ∀ s, s < j + 1 → 0 ≤ inI D[wl[s]!]!.kids.toList x → b2 = true := fun b2 h2 s hs h => by
                  by_cases hsj : s < j
                  · exact absurd (hs1 s hsj h) Bool.false_ne_true
                  · obtain rfl : s = j := by omega
                    rw [hy] at h
                    exact h2 h
                have hC := fun m => In27_any D[y]!.kids x D[y]!.pd D[y]!.cd (wk'.drewN m) (hnl.below (below_drewN (Below.refl _ _) m))
                obtain ⟨R, hR⟩ : ∃ R, inI D[y]!.kids.toList x = R := ⟨_, rfl⟩
                rw [hR] at hC hstep
                obtain ⟨nd, hnd⟩ : ∃ z, D[y]!.kids.size = z := ⟨_, rfl⟩
                obtain ⟨pd, hpd⟩ : ∃ z, D[y]!.pd = z := ⟨_, rfl⟩
                obtain ⟨cd, hcd⟩ : ∃ z, D[y]!.cd = z := ⟨_, rfl⟩
                rw [hnd, hpd, hcd] at hC x3
                have HC := Lib.hid hC
                have HST := Lib.hid hstep
                clear hC hstep hs1 hnl hR hnd hpd hcd hy
                go_wp2_with fail
                go_quiet ((go_at_call 27; exact Calls.quiet_of_same (HC.out _)))
                go_wp2_with fail
                go_roundw
                case rel => exact ⟨j + 1, decide (R ≥ 0), rfl, by go_num, by omega, fun h => absurd h (by omega), HST.out _ fun h => decide_eq_true h, below_drewN HBK.out _⟩
                case measure => simp [intOf]; omega
            · have i2 : ¬ (j : Int) < (t : Int) := by omega
              go_wp2_with fail
              go_meet
              case rel =>
                refine ⟨?_, HBK.out⟩
                by_cases h0 : t = 0
                · rw [HZ.out h0]
                · obtain ⟨s, hs, h⟩ := HFR.out (by omega)
                  rw [HS.out s (by omega) h]
        case rest =>
          obtain ⟨rfl, hbc⟩ := hcut
          have HBC := Lib.hid hbc
          clear hbc
          have x1 := HCX.out wc HBC.out
          have cg1 := HCG.out wc HBC.out
          obtain ⟨b', o', h, _, _, _, _, _, _, x3⟩ := (HG4.out.below HBC.out).at x (by rw [HDN.out]; exact hxD)
          cases h
          have hkd := HKD.out
          have hnl := (HG4.out.nodes x (by rw [HDN.out]; exact hxD)).ds
          obtain ⟨K, hK⟩ : ∃ z, D[x]!.kids = z := ⟨_, rfl⟩
          obtain ⟨pd, hpd⟩ : ∃ z, D[x]!.pd = z := ⟨_, rfl⟩
          obtain ⟨cd, hcd⟩ : ∃ z, D[x]!.cd = z := ⟨_, rfl⟩
          rw [hK] at hkd
          rw [hK, hpd, hcd] at x3
          rw [hK, hpd] at hnl
          obtain ⟨nd, hnd⟩ : ∃ z, K.size = z := ⟨_, rfl⟩
          rw [hnd] at x3 hkd
          have hndm : nd ≤ 1000000 := by have h := hnl.small; rw [hnd] at h; exact h
          have HNL := Lib.hid hnl
          have HKX := Lib.hid hkd
          have HND := Lib.hid hnd
          clear hkd hnl hK hpd hcd hnd
          go_wp2_with fail
          go_quiet (fail)
          have hq3 : Below v4.heap.size v4 (wc.drewN nq) := below_drewN HBC.out _
          obtain ⟨wd, hwd⟩ : ∃ v, wc.drewN nq = v := ⟨_, rfl⟩
          rw [hwd] at hq3 ⊢
          have HBD := Lib.hid hq3
          clear hwd x1 cg1 x3 hq3
          go_wp2_with fail
          go_loopw [10] (fun k wr => ∃ j : Nat, k = .int .i64 j ∧ j ≤ nd ∧ Below v4.heap.size v4 wr) (fun k _ => nd - (intOf k).toNat)
          case atStart => exact ⟨0, rfl, by omega, HBD.out⟩
          case round =>
            obtain ⟨j, rfl, hj, hbr⟩ := hrel
            obtain ⟨we, rfl⟩ : ∃ W, W = wr := ⟨wr, rfl⟩
            have HBE := Lib.hid hbr
            clear hbr
            by_cases hjt : j < nd
            · have i2 : (j : Int) < (nd : Int) := by omega
              obtain ⟨b2, o2, rfl, hb2, x2⟩ := (HNL.out.below HBE.out).at j (by rw [HND.out]; exact hjt)
              have hr := HKX.out j hjt
              have hin := fun z => In27_any (natI wl).toArray z (some ⟨b1, o1, none⟩) wc2 we (HI4.out.below HBE.out)
              rw [HSZ.out, List.toList_toArray] at hin
              have hin2 := hin K[j]!
              obtain ⟨z, hz⟩ : ∃ z, K[j]! = z := ⟨_, rfl⟩
              rw [hz] at x2 hin2 hr
              obtain ⟨R, hR⟩ : ∃ R, inI (natI wl) z = R := ⟨_, rfl⟩
              rw [hR] at hr hin2
              have hnn : ¬ (R < 0) := by omega
              have HIN2 := Lib.hid hin2
              clear hin hin2 hz hR hr
              go_wp2_with fail
              refine HIN2.out.mono ?_
              rintro e w' ⟨rfl, rfl⟩
              go_wp2_with fail
              go_roundw
              case rel => exact ⟨j + 1, by go_num, by omega, HBE.out⟩
              case measure => simp [intOf]; omega
            · have i2 : ¬ (j : Int) < (nd : Int) := by omega
              go_wp2_with fail
              go_roundw
              case rel => exact ⟨t + 1, by omega, by go_num, HBE.out⟩
              case measure => simp [intOf]; omega
      · have i1 : ¬ (t : Int) < (wn : Int) := by omega
        go_wp2_with fail
        go_ret
        exact ⟨by simp, HB4.out.trans (HBA.out.mono HB4.out.size)⟩
  · have hne : (te != 0) = true := by simp [h0]
    rw [if_neg h0] at hwg
    rw [hwg] at hWP
    simp only [List.length_nil] at hWP
    have HWP := Lib.hid hWP
    clear hWP hwf hwg hDn hte h0
    have cg0 := cell_of_row _ _ 0 _ _ _ Rg3.out
    have cg1 := cell_of_row _ _ 1 _ _ _ Rg3.out
    go_wp2_with fail
    refine (HWP.out v3 HE3.out HG3.out).mono ?_
    rintro e v4 ⟨wq, wc2, rfl, _, hb⟩
    clear cg0 cg1
    have HE4 := Lib.hid (HE3.out.below hb)
    have HG4 := Lib.hid (HG3.out.below hb)
    have HB4 := Lib.hid (HB3.out.trans (hb.mono HB3.out.size))
    have Rg4 := Lib.hid ((hb.block _ (Array.getElem?_eq_some_iff.1 Rg3.out).1).trans Rg3.out)
    clear hb
    go_wp2_with fail
    go_ret
    exact ⟨rfl, HB4.out⟩
end Go.Proofs.YtadmhlebkaiblaaGreatDoor
