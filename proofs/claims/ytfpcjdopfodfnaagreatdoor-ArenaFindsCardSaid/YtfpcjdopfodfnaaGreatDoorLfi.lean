/- A key is found just if it is one of the map's: the walk of the law. Conditions: the contracts of what is called. -/
import Derived.Test.YtfpcjdopfodfnaaGreatDoorLma
set_option maxRecDepth 100000
namespace Go.Proofs.YtfpcjdopfodfnaaGreatDoor
open Go.RowKit Go.Shelf
open Scs
theorem GO.keep {b : Nat} {W W' : World} {v : Value} {L : List Fn} (h : GO b W v L) (hk : ∀ g, b ≤ g → g < W.heap.size → W'.heap[g]? = W.heap[g]?) : GO b W' v L :=
  ⟨own_keepG h.row fun g hv => hk g (own_lt h.row g hv).1 (own_lt h.row g hv).2, fun f hf => (h.nodes f hf).keep (fun g hv => hk g (own_lt (h.nodes f hf).ks g hv).1 (own_lt (h.nodes f hf).ks g hv).2) (fun g hv => hk g (own_lt (h.nodes f hf).ds g hv).1 (own_lt (h.nodes f hf).ds g hv).2)⟩
set_option maxHeartbeats 8000000 in
theorem walkArenaFinds (root : Int) (L : Array Fn) (p : Option Addr) (cap : Nat) (i : Int) (x : Sc) (w : World) (E : Env w) (hL : GlR w p L) :
    Calls Tryz.prog 7 #[.agg #[.int .i64 root, .slice p L.size cap], .int .i64 i, .agg #[.int .i64 x.1, .int .i64 x.2.1, .string x.2.2]] w fun e w' => e = .returned (.bool true) ∧ Below w.heap.size w w' := by
  have HEE := Lib.hid E
  obtain ⟨v0, hv0⟩ : ∃ v, ((w.alloc (.cells #[.int .i64 root, .slice p L.size cap] 24)).alloc (.cells #[.int .i64 x.1, .int .i64 x.2.1, .string x.2.2] 26)) = v := ⟨_, rfl⟩
  have hb0 : Below w.heap.size w v0 := by rw [← hv0]; exact (((Below.refl _ w).alloc (Nat.le_refl _) _).alloc (by simp) _)
  have r0 : v0.heap[w.heap.size]? = some (.cells #[.int .i64 root, .slice p L.size cap] 24) := by
    rw [← hv0]
    rw [Below.heap_alloc _ _ _ (by first | (simp; done) | (simp; omega))]
    have h := heap_alloc_new w (.cells #[.int .i64 root, .slice p L.size cap] 24)
    exact h
  have r1 : v0.heap[w.heap.size + 1]? = some (.cells #[.int .i64 x.1, .int .i64 x.2.1, .string x.2.2] 26) := by
    rw [← hv0]
    have h := heap_alloc_new (w.alloc (.cells #[.int .i64 root, .slice p L.size cap] 24)) (.cells #[.int .i64 x.1, .int .i64 x.2.1, .string x.2.2] 26)
    rw [World.size_alloc] at h
    exact h
  have HE0 := Lib.hid (E.below hb0)
  have HL0 := Lib.hid (hL.below hb0)
  have HB0 := Lib.hid hb0
  have R0_0 := Lib.hid r0
  have R0_1 := Lib.hid r1
  have HV0 := Lib.hid hv0
  clear hv0 hb0 E hL r0 r1
  go_enter Tryz.func7, Tryz.ntmps7
  go_wp2_with fail
  rw [HV0.out]
  refine (shown_any _ HE0.out).mono ?_
  rintro e v1 ⟨rfl, hb⟩
  have R1_0 := Lib.hid ((hb.block _ (Array.getElem?_eq_some_iff.1 R0_0.out).1).trans R0_0.out)
  have R1_1 := Lib.hid ((hb.block _ (Array.getElem?_eq_some_iff.1 R0_1.out).1).trans R0_1.out)
  have HE1 := Lib.hid (HE0.out.below hb)
  have HL1 := Lib.hid (HL0.out.below hb)
  have HB1 := Lib.hid (HB0.out.trans (hb.mono HB0.out.size))
  clear hb
  have c0 := cell_of_row _ _ 0 _ _ _ R1_0.out
  have c1 := cell_of_row _ _ 1 _ _ _ R1_0.out
  go_wp2_with fail
  refine (Cut07_any root L p cap v1 HL1.out).mono ?_
  rintro e v2 ⟨q, n, c, rfl, ⟨L', hn, h201, hgo⟩, hb⟩
  clear c0 c1
  have R2_0 := Lib.hid ((hb.block _ (Array.getElem?_eq_some_iff.1 R1_0.out).1).trans R1_0.out)
  have R2_1 := Lib.hid ((hb.block _ (Array.getElem?_eq_some_iff.1 R1_1.out).1).trans R1_1.out)
  have HE2 := Lib.hid (HE1.out.below hb)
  have HB2 := Lib.hid (HB1.out.trans (hb.mono HB1.out.size))
  have HN := Lib.hid hn
  have HGO2 := Lib.hid hgo
  have hs1 := HB1.out.size
  have HB12 := Lib.hid hb
  clear hb hn hgo
  have c0 := cell_of_row _ _ 0 _ _ _ R2_0.out
  have c1 := cell_of_row _ _ 1 _ _ _ R2_0.out
  have f0 := frozen_of_row _ _ 0 _ _ R2_0.out
  have f1 := frozen_of_row _ _ 1 _ _ R2_0.out
  go_upto_region 3 with fail
  obtain ⟨v3, hv3⟩ : ∃ v, ((v2.setCell ⟨w.heap.size, 0, none⟩ (.int .i64 root)).setCell ⟨w.heap.size, 1, none⟩ (.slice q n c)) = v := ⟨_, rfl⟩
  rw [hv3]
  have r3 := heap_setCell_same _ (w.heap.size) 1 _ _ (.slice q n c) (heap_setCell_same v2 (w.heap.size) 0 _ _ (.int .i64 root) R2_0.out)
  rw [hv3] at r3
  have g3 : v2.grownBy v3 (some (w.heap.size)) := by rw [← hv3]; exact gB_setCell (gB_setCell (gB_refl _ _) _ _) _ _
  have hB1 : w.heap.size < v1.heap.size := (Array.getElem?_eq_some_iff.1 R1_0.out).1
  have HGO3 : Hid (GO v1.heap.size v3 (.slice q n c) L') := Lib.hid (GO.keepB HGO2.out g3 hB1)
  have HGL := Lib.hid (HGO3.out.gl HN.out h201)
  have HK := Lib.hid HGO3.out.k12
  have hDn : L'.toArray.size = n := by rw [List.size_toArray]; exact HN.out
  have HLT := Lib.hid (show L'.toArray.toList = L' by simp)
  obtain ⟨D, hD⟩ : ∃ D, L'.toArray = D := ⟨_, rfl⟩
  rw [hD] at HGL HK hDn HLT
  have hbs : Below w.heap.size v2 v3 := below_of_grown g3 (by omega) HB2.out.size
  have R3_0 := Lib.hid r3
  have R3_1 := Lib.hid ((g3.block _ (Array.getElem?_eq_some_iff.1 R2_1.out).1 (by simp; try omega)).trans R2_1.out)
  have HB3 := Lib.hid (HB2.out.trans hbs)
  have HE3 := Lib.hid (HEE.out.below HB3.out)
  have HDN := Lib.hid hDn
  have HD := Lib.hid hD
  have H201 := Lib.hid h201
  clear c0 c1 f0 f1 hv3 r3 g3 hB1 hbs hs1 hDn hD h201
  have c0 := cell_of_row _ _ 0 _ _ _ R3_0.out
  have c1 := cell_of_row _ _ 1 _ _ _ R3_0.out
  have HCK := Lib.hid fun r W E G => Check_any r D q c W E G
  rw [HDN.out] at HCK
  have k0 := cell_of_row _ _ 0 _ _ _ R3_1.out
  have k1 := cell_of_row _ _ 1 _ _ _ R3_1.out
  have k2 := cell_of_row _ _ 2 _ _ _ R3_1.out
  have HCX := Lib.hid fun w => Cut_any x w
  unfold aggS at HCX
  have hXs : (cutS x).2.2.size ≤ 100 := cutT_size _
  obtain ⟨X, hX⟩ : ∃ X, cutS x = X := ⟨_, rfl⟩
  rw [hX] at HCX hXs
  have HXS := Lib.hid hXs
  clear hX hXs
  go_wp2_with fail
  refine (HCX.out v3).mono ?_
  rintro e v4 ⟨rfl, hb⟩
  clear c0 c1 k0 k1 k2
  have R4_0 := Lib.hid ((hb.block _ (Array.getElem?_eq_some_iff.1 R3_0.out).1).trans R3_0.out)
  have R4_1 := Lib.hid ((hb.block _ (Array.getElem?_eq_some_iff.1 R3_1.out).1).trans R3_1.out)
  have HB4 := Lib.hid (HB3.out.trans (hb.mono HB3.out.size))
  have HGO4 := Lib.hid (GO.keep HGO3.out fun g _ hg => hb.block g hg)
  clear hb
  have c0 := cell_of_row _ _ 0 _ _ _ R4_1.out
  have c1 := cell_of_row _ _ 1 _ _ _ R4_1.out
  have c2 := cell_of_row _ _ 2 _ _ _ R4_1.out
  have f0 := frozen_of_row _ _ 0 _ _ R4_1.out
  have f1 := frozen_of_row _ _ 1 _ _ R4_1.out
  have f2 := frozen_of_row _ _ 2 _ _ R4_1.out
  go_upto_region 4 with fail
  obtain ⟨v5, hv5⟩ : ∃ v, (((v4.setCell ⟨w.heap.size + 1, 0, none⟩ (.int .i64 X.1)).setCell ⟨w.heap.size + 1, 1, none⟩ (.int .i64 X.2.1)).setCell ⟨w.heap.size + 1, 2, none⟩ (.string X.2.2)) = v := ⟨_, rfl⟩
  rw [hv5]
  have r5 := heap_setCell_same _ (w.heap.size + 1) 2 _ _ (.string X.2.2) (heap_setCell_same _ (w.heap.size + 1) 1 _ _ (.int .i64 X.2.1) (heap_setCell_same v4 (w.heap.size + 1) 0 _ _ (.int .i64 X.1) R4_1.out))
  rw [hv5] at r5
  have g5 : v4.grownBy v5 (some (w.heap.size + 1)) := by rw [← hv5]; exact gB_setCell (gB_setCell (gB_setCell (gB_refl _ _) _ _) _ _) _ _
  have hb5 : Below w.heap.size v4 v5 := below_of_grown g5 (by omega) HB4.out.size
  have R5_0 := Lib.hid ((g5.block _ (Array.getElem?_eq_some_iff.1 R4_0.out).1 (by simp)).trans R4_0.out)
  have R5_1 := Lib.hid r5
  have HB5 := Lib.hid (HB4.out.trans hb5)
  have HE5 := Lib.hid (HEE.out.below HB5.out)
  have hB1 : w.heap.size + 1 < v1.heap.size := (Array.getElem?_eq_some_iff.1 R1_1.out).1
  have hgl5 := (GO.keep HGO4.out fun g h0 hg => g5.block g hg (by simp; omega)).gl HN.out H201.out
  rw [HD.out] at hgl5
  have HGL5 := Lib.hid hgl5
  clear c0 c1 c2 f0 f1 f2 hv5 r5 g5 hb5 hB1 hgl5
  have c0 := cell_of_row _ _ 0 _ _ _ R5_0.out
  have c1 := cell_of_row _ _ 1 _ _ _ R5_0.out
  obtain ⟨r1, hr1⟩ : ∃ r, checkG root D.toList = r := ⟨_, rfl⟩
  have hk1 := HCK.out root v5 HE5.out HGL5.out
  rw [hr1] at hk1
  have HK1 := Lib.hid hk1
  clear hk1
  go_wp2_with fail
  refine (HK1.out).mono ?_
  rintro e v6 ⟨rfl, hb⟩
  clear c0 c1
  have R6_0 := Lib.hid ((hb.block _ (Array.getElem?_eq_some_iff.1 R5_0.out).1).trans R5_0.out)
  have R6_1 := Lib.hid ((hb.block _ (Array.getElem?_eq_some_iff.1 R5_1.out).1).trans R5_1.out)
  have HE6 := Lib.hid (HE5.out.below hb)
  have HB6 := Lib.hid (HB5.out.trans (hb.mono HB5.out.size))
  have HGL6 := Lib.hid (HGL5.out.below hb)
  clear hb
  have c0 := cell_of_row _ _ 0 _ _ _ R6_0.out
  have c1 := cell_of_row _ _ 1 _ _ _ R6_0.out
  have HR1 := Lib.hid hr1
  obtain ⟨a1, e1⟩ := r1
  clear hr1
  by_cases he : e1 = 0
  · subst he
    obtain ⟨h2, h3, h4⟩ := check_ok (r := root) (L := D.toList) (by rw [HR1.out])
    rw [Array.length_toList, HDN.out] at h3 h4
    have hn0 : 0 < n := by have := plB_iff.1 h4; omega
    have hfi := finds_graph HDN.out h3 hn0 i X
    have k0 := cell_of_row _ _ 0 _ _ _ R6_1.out
    have k1 := cell_of_row _ _ 1 _ _ _ R6_1.out
    have k2 := cell_of_row _ _ 2 _ _ _ R6_1.out
    have hF := Find_any root D q c i X v6 HGL6.out
    have HKY := Lib.hid fun W E G => Keys_any root D q c i W E G
    unfold aggS at hF
    obtain ⟨fr, hfr⟩ : ∃ r, findG D i X = r := ⟨_, rfl⟩
    obtain ⟨z, ok⟩ := fr
    obtain ⟨kr, hkr⟩ : ∃ r, keysG D i = r := ⟨_, rfl⟩
    obtain ⟨ks, ke⟩ := kr
    rw [hfr, hkr] at hfi
    rw [hfr, HDN.out] at hF
    rw [hkr, HDN.out] at HKY
    have HF := Lib.hid hF
    have HFI := Lib.hid hfi
    have HN0 := Lib.hid hn0
    clear hF hfi hfr hkr h2 h3 h4 hn0
    go_wp2_with fail
    refine (HF.out).mono ?_
    rintro e v7 ⟨rfl, hb⟩
    clear c0 c1 k0 k1 k2
    have R7_0 := Lib.hid ((hb.block _ (Array.getElem?_eq_some_iff.1 R6_0.out).1).trans R6_0.out)
    have R7_1 := Lib.hid ((hb.block _ (Array.getElem?_eq_some_iff.1 R6_1.out).1).trans R6_1.out)
    have HE7 := Lib.hid (HE6.out.below hb)
    have HB7 := Lib.hid (HB6.out.trans (hb.mono HB6.out.size))
    have HGL7 := Lib.hid (HGL6.out.below hb)
    clear hb
    have c0 := cell_of_row _ _ 0 _ _ _ R7_0.out
    have c1 := cell_of_row _ _ 1 _ _ _ R7_0.out
    go_wp2_with fail
    refine (HKY.out v7 HE7.out HGL7.out).mono ?_
    rintro e v8 ⟨kq, kc, rfl, hs, hb⟩
    clear c0 c1
    have R8_0 := Lib.hid ((hb.block _ (Array.getElem?_eq_some_iff.1 R7_0.out).1).trans R7_0.out)
    have R8_1 := Lib.hid ((hb.block _ (Array.getElem?_eq_some_iff.1 R7_1.out).1).trans R7_1.out)
    have HB8 := Lib.hid (HB7.out.trans (hb.mono HB7.out.size))
    have HS := Lib.hid hs
    clear hs hb
    obtain ⟨m, hm⟩ : ∃ m, ks.length = m := ⟨_, rfl⟩
    rw [hm]
    have hm6 : m ≤ 1000000 := by have := HS.out.small; rw [List.size_toArray, hm] at this; exact this
    have HM := Lib.hid hm
    clear hm
    go_wp2_with fail
    go_loopw [14, 15] (fun b i wr => ∃ t : Nat, t ≤ m ∧ i = .int .i64 t ∧ b = .bool (inB (ks.take t) X) ∧ Below v8.heap.size v8 wr) (fun _ i _ => m - (intOf i).toNat)
    case atStart => exact ⟨0, by omega, rfl, rfl, Below.refl _ _⟩
    case round =>
      obtain ⟨t, ht, rfl, rfl, hbw⟩ := hrel
      have HBW := Lib.hid hbw
      clear hbw
      by_cases hlt : t < m
      · have i1 : (t : Int) < (m : Int) := by omega
        have hst : ks.take (t + 1) = ks.take t ++ [ks.toArray[t]!] := by
          rw [List.take_add_one, List.getElem?_eq_getElem (by rw [HM.out]; exact hlt)]
          simp [getElem!_pos, HM.out, hlt]
        have hin : inB (ks.take (t + 1)) X = (inB (ks.take t) X || decide (ks.toArray[t]! = X)) := by
          rw [hst]
          unfold inB
          rw [List.any_append]
          simp
        obtain ⟨b1, o1, rfl, hb1, hc0, hc1, hc2⟩ := HS.out.at t (by rw [List.size_toArray, HM.out]; exact hlt)
        have x0 := (HBW.out.cell (p := ⟨b1, o1 + t * 3, none⟩) hb1).trans hc0
        have x1 := (HBW.out.cell (p := ⟨b1, o1 + t * 3 + 1, none⟩) hb1).trans hc1
        have x2 := (HBW.out.cell (p := ⟨b1, o1 + t * 3 + 2, none⟩) hb1).trans hc2
        have hr := ((HBW.out.block _ (Array.getElem?_eq_some_iff.1 R8_1.out).1).trans R8_1.out)
        have y0 := cell_of_row _ _ 0 _ _ _ hr
        have y1 := cell_of_row _ _ 1 _ _ _ hr
        have y2 := cell_of_row _ _ 2 _ _ _ hr
        have q := eq_get ks.toArray[t]! X
        have qg := guard_sc
        have HIN := Lib.hid hin
        clear hst hin hc0 hc1 hc2 hr
        generalize ks.toArray[t]! = u at x0 x1 x2 q HIN
        generalize decide (u = X) = d at q HIN
        generalize inB (ks.take t) X = s at HIN ⊢
        cases s <;> cases d
        all_goals
          go_wp2_with fail
          go_region
          all_goals
            go_wp2_with fail
            go_roundw
            case rel => exact ⟨t + 1, by omega, by go_num, by rw [HIN.out]; rfl, HBW.out.drew⟩
            case measure => simp [intOf]; omega
      · have i1 : ¬ (t : Int) < (m : Int) := by omega
        obtain rfl : t = m := by omega
        have hall : inB (ks.take t) X = ok := by rw [HFI.out.1, ← HM.out, List.take_length]
        rw [hall]
        have hz := HFI.out.2
        have hr := ((HBW.out.block _ (Array.getElem?_eq_some_iff.1 R8_0.out).1).trans R8_0.out)
        have c1 := cell_of_row _ _ 1 _ _ _ hr
        have HB9 := Lib.hid (HB8.out.trans (HBW.out.mono HB8.out.size))
        clear hall hr
        obtain ⟨hz0, hz1, hz2⟩ := hz
        have hg : (z ≥ 0) := hz1
        cases ok
        · obtain rfl : z = 0 := by simpa using hz0
          have hn0 := HN0.out
          go_wp2_with fail
          go_ret
          exact ⟨rfl, HB9.out⟩
        · clear hz0
          go_wp2_with fail
          go_ret
          exact ⟨rfl, HB9.out⟩
  · have hne : (e1 != 0) = true := by simp [he]
    go_wp2_with fail
    go_ret
    exact ⟨rfl, HB6.out⟩
end Go.Proofs.YtfpcjdopfodfnaaGreatDoor
