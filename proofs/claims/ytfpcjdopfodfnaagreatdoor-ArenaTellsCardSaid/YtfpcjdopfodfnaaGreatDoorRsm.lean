/- The reference tells whether two graphs are the same. Conditions: the graphs lie. -/
import Derived.Test.YtfpcjdopfodfnaaGreatDoorLmx
set_option maxRecDepth 100000
namespace Go.Proofs.YtfpcjdopfodfnaaGreatDoor
open Go.RowKit Go.Shelf
open Scs
set_option maxHeartbeats 8000000 in
theorem Same21_in (r s : Int) (a b : Array Fn) (m k : Nat) (p q : Option Addr) (c d : Nat) (R : Bool) (w : World) (hma : a.size = m) (hmb : b.size = k) (ha : Gl w p a) (hb : Gl w q b) (hR : sameG r s a b = R) :
    Calls Tryz.prog 21 #[.agg #[.int .i64 r, .slice p m c], .agg #[.int .i64 s, .slice q k d]] w fun e w' => e = .returned (.bool R) ∧ Below w.heap.size w w' := by
  obtain ⟨W, hW, hz, hbl, hr0, hr1⟩ := at2 w (.cells #[.int .i64 r, .slice p m c] 24) (.cells #[.int .i64 s, .slice q k d] 24)
  have hsma := ha.small
  have hsmb := hb.small
  rw [hma] at hsma
  rw [hmb] at hsmb
  have HA := Lib.hid (ha.below hbl)
  have HBB := Lib.hid (hb.below hbl)
  have HMA := Lib.hid hma
  have HMB := Lib.hid hmb
  have HW := Lib.hid hW
  have HB := Lib.hid hbl
  have HR0 := Lib.hid hr0
  have HR1 := Lib.hid hr1
  have p0 := cell_of_row _ _ 0 _ _ _ hr0
  have p1 := cell_of_row _ _ 1 _ _ _ hr0
  have q0 := cell_of_row _ _ 0 _ _ _ hr1
  have q1 := cell_of_row _ _ 1 _ _ _ hr1
  unfold sameG at hR
  clear ha hb hW hbl hr0 hr1
  by_cases h : r = s
  · rw [if_pos h] at hR
    have hk : (r != s) = false := by simp [h]
    by_cases hmk : m = k
    · subst hmk
      have hmm : ((m : Int) != (m : Int)) = false := by simp
      have hiff : R = true ↔ ∀ j, j < m → sameF a[j]! b[j]! = true := by
        rw [← hR]
        unfold sameNs
        rw [decide_eq_true_iff, hma, hmb]
        exact ⟨fun e => e.2, fun e => ⟨rfl, e⟩⟩
      have HIF := Lib.hid hiff
      clear hR h hiff hma hmb
      go_enter Tryz.func21, Tryz.ntmps21
      go_upto_region 1 with fail
      rw [HW.out]
      go_wp2_with fail
      clear p0 p1 q0 q1 hk hmm
      go_loopw [5] (fun i wr => ∃ t : Nat, t ≤ m ∧ i = .int .i64 t ∧ (∀ j, j < t → sameF a[j]! b[j]! = true) ∧ Below W.heap.size W wr) (fun i _ => m - (intOf i).toNat)
      case atStart => exact ⟨0, by omega, rfl, fun j hj => absurd hj (Nat.not_lt_zero _), Below.refl _ _⟩
      case round =>
        obtain ⟨t, ht, rfl, hag, hbw⟩ := hrel
        have hra := (hbw.block _ (Array.getElem?_eq_some_iff.1 HR0.out).1).trans HR0.out
        have hrb := (hbw.block _ (Array.getElem?_eq_some_iff.1 HR1.out).1).trans HR1.out
        have p1 := cell_of_row _ _ 1 _ _ _ hra
        have q1 := cell_of_row _ _ 1 _ _ _ hrb
        have hBX := HB.out.trans (hbw.mono HB.out.size)
        have HAG := Lib.hid hag
        have HBW := Lib.hid hbw
        have HBX := Lib.hid hBX
        clear hra hrb hag hBX hbw
        by_cases hlt : t < m
        · have i1 : (t : Int) < (m : Int) := by omega
          have hla : t < a.size := by rw [HMA.out]; exact hlt
          have hlb : t < b.size := by rw [HMB.out]; exact hlt
          obtain ⟨b1, o1, rfl, hb1, hc0, hc1, hc2, hc3, hc4, hc5⟩ := HA.out.at t hla
          obtain ⟨b2, o2, rfl, hb2, hd0, hd1, hd2, hd3, hd4, hd5⟩ := HBB.out.at t hlb
          have x0 := (HBW.out.cell (p := ⟨b1, o1 + t * 6, none⟩) hb1).trans hc0
          have x1 := (HBW.out.cell (p := ⟨b1, o1 + t * 6 + 1, none⟩) hb1).trans hc1
          have x2 := (HBW.out.cell (p := ⟨b1, o1 + t * 6 + 2, none⟩) hb1).trans hc2
          have x3 := (HBW.out.cell (p := ⟨b1, o1 + t * 6 + 3, none⟩) hb1).trans hc3
          have x4 := (HBW.out.cell (p := ⟨b1, o1 + t * 6 + 4, none⟩) hb1).trans hc4
          have x5 := (HBW.out.cell (p := ⟨b1, o1 + t * 6 + 5, none⟩) hb1).trans hc5
          have y0 := (HBW.out.cell (p := ⟨b2, o2 + t * 6, none⟩) hb2).trans hd0
          have y1 := (HBW.out.cell (p := ⟨b2, o2 + t * 6 + 1, none⟩) hb2).trans hd1
          have y2 := (HBW.out.cell (p := ⟨b2, o2 + t * 6 + 2, none⟩) hb2).trans hd2
          have y3 := (HBW.out.cell (p := ⟨b2, o2 + t * 6 + 3, none⟩) hb2).trans hd3
          have y4 := (HBW.out.cell (p := ⟨b2, o2 + t * 6 + 4, none⟩) hb2).trans hd4
          have y5 := (HBW.out.cell (p := ⟨b2, o2 + t * 6 + 5, none⟩) hb2).trans hd5
          have l1 : b1 < wr.heap.size := Nat.lt_of_lt_of_le hb1 HBW.out.size
          have l2 : b2 < wr.heap.size := Nat.lt_of_lt_of_le hb2 HBW.out.size
          have l3 : w.heap.size + 1 < wr.heap.size := block_lt_of_cell q1
          have hNa := (HA.out.nodes t hla).below HBW.out
          have hNb := (HBB.out.nodes t hlb).below HBW.out
          obtain ⟨f, hf⟩ : ∃ u, a[t]! = u := ⟨_, rfl⟩
          obtain ⟨g, hg⟩ : ∃ u, b[t]! = u := ⟨_, rfl⟩
          rw [hf] at x0 x1 x2 x3 x4 x5 hNa
          rw [hg] at y0 y1 y2 y3 y4 y5 hNb
          have hno : sameF f g = false → R = false := fun e => by
            cases hRR : R
            · rfl
            · have := HIF.out.1 hRR t hlt
              rw [hf, hg, e] at this
              cases this
          have hyes : sameF f g = true → ∀ j, j < t + 1 → sameF a[j]! b[j]! = true := fun e j hj => by
            rcases Nat.lt_or_ge j t with h | h
            · exact HAG.out j h
            · obtain rfl : j = t := by omega
              rw [hf, hg]; exact e
          have HNO := Lib.hid hno
          have HYES := Lib.hid hyes
          obtain ⟨V, hV, hvz, hvb, hv0, hv1⟩ := at2 wr (nR f) (nR g)
          have HF := Lib.hid (hNa.below hvb)
          have HG := Lib.hid (hNb.below hvb)
          have HV := Lib.hid hV
          have HVB := Lib.hid (HBW.out.trans (hvb.mono HBW.out.size))
          have HVX := Lib.hid (HBX.out.trans (hvb.mono HBX.out.size))
          obtain ⟨f0, f1, f2, f3, f4, f5⟩ := cell6 hv0
          obtain ⟨g0, g1, g2, g3, g4, g5⟩ := cell6 hv1
          have HES := Lib.hid fun w ha hb => sameS_any f.keys g.keys f.pk g.pk f.ck g.ck w ha hb
          have HEI := Lib.hid fun w ha hb => ints_any f.kids g.kids f.pd g.pd f.cd g.cd w ha hb
          have hq := fun w => neq_sc f.x.1 f.x.2.1 f.x.2.2 g.x.1 g.x.2.1 g.x.2.2 w
          clear hc0 hc1 hc2 hc3 hc4 hc5 hd0 hd1 hd2 hd3 hd4 hd5 hf hg hNa hNb hla hlb hno hyes hV hvb hv0 hv1
          by_cases h1 : f.k = g.k
          · have hke : (f.k != g.k) = false := by simp [h1]
            by_cases h2 : f.x = g.x
            · rw [decide_eq_true (show ((f.x.1, f.x.2.1, f.x.2.2) : Sc) = (g.x.1, g.x.2.1, g.x.2.2) by rw [h2])] at hq
              by_cases h3 : f.keys = g.keys
              · rw [decide_eq_true h3] at HES
                by_cases h4 : f.kids = g.kids
                · rw [decide_eq_true h4] at HEI
                  have HS := Lib.hid (HYES.out (by unfold sameF; rw [if_pos h1, if_pos h2, if_pos h3]; exact decide_eq_true h4))
                  clear h1 h2 h3 h4
                  go_upto_region 8 with fail
                  rw [HV.out]
                  clear x0 x1 x2 x3 x4 x5 y0 y1 y2 y3 y4 y5 p1 q1
                  go_wp2_with (first
                    | (go_at_call 23
                       refine (HES.out _ HF.out.ks HG.out.ks).mono ?_
                       rintro e w5 ⟨rfl, hb5⟩
                       have HB5 := Lib.hid (HVB.out.trans (hb5.mono HVB.out.size))
                       have HF5 := Lib.hid (HF.out.below hb5)
                       have HG5 := Lib.hid (HG.out.below hb5)
                       have e5 := (hb5.cell (p := ⟨wr.heap.size, 5, none⟩) (by simp only; omega)).trans f5
                       have d5 := (hb5.cell (p := ⟨wr.heap.size + 1, 5, none⟩) (by simp only; omega)).trans g5
                       clear hb5)
                    | (go_at_call 22
                       refine (HEI.out _ HF5.out.ds HG5.out.ds).mono ?_
                       rintro e w6 ⟨rfl, hb6⟩
                       have HB6 := Lib.hid (HB5.out.trans (hb6.mono HB5.out.size))
                       clear hb6))
                  go_roundw
                  case rel => exact ⟨t + 1, by omega, by go_num, HS.out, HB6.out⟩
                  case measure => simp [intOf]; omega
                · rw [decide_eq_false h4] at HEI
                  have HS := Lib.hid (HNO.out (by unfold sameF; rw [if_pos h1, if_pos h2, if_pos h3]; exact decide_eq_false h4))
                  clear h1 h2 h3 h4
                  go_upto_region 8 with fail
                  rw [HV.out]
                  clear x0 x1 x2 x3 x4 x5 y0 y1 y2 y3 y4 y5 p1 q1
                  go_wp2_with (first
                    | (go_at_call 23
                       refine (HES.out _ HF.out.ks HG.out.ks).mono ?_
                       rintro e w5 ⟨rfl, hb5⟩
                       have HB5 := Lib.hid (HVX.out.trans (hb5.mono HVX.out.size))
                       have HF5 := Lib.hid (HF.out.below hb5)
                       have HG5 := Lib.hid (HG.out.below hb5)
                       have e5 := (hb5.cell (p := ⟨wr.heap.size, 5, none⟩) (by simp only; omega)).trans f5
                       have d5 := (hb5.cell (p := ⟨wr.heap.size + 1, 5, none⟩) (by simp only; omega)).trans g5
                       clear hb5)
                    | (go_at_call 22
                       refine (HEI.out _ HF5.out.ds HG5.out.ds).mono ?_
                       rintro e w6 ⟨rfl, hb6⟩
                       have HB6 := Lib.hid (HB5.out.trans (hb6.mono HB5.out.size))
                       clear hb6))
                  go_ret
                  exact ⟨by rw [HS.out]; rfl, HB6.out⟩
              · rw [decide_eq_false h3] at HES
                have HS := Lib.hid (HNO.out (by unfold sameF; rw [if_pos h1, if_pos h2, if_neg h3]))
                clear h1 h2 h3
                go_upto_region 8 with fail
                rw [HV.out]
                clear x0 x1 x2 x3 x4 x5 y0 y1 y2 y3 y4 y5 p1 q1
                go_wp2_with (first
                    | (go_at_call 23
                       refine (HES.out _ HF.out.ks HG.out.ks).mono ?_
                       rintro e w5 ⟨rfl, hb5⟩
                       have HB5 := Lib.hid (HVX.out.trans (hb5.mono HVX.out.size))
                       clear hb5))
                go_ret
                exact ⟨by rw [HS.out]; rfl, HB5.out⟩
            · rw [decide_eq_false (show ¬ ((f.x.1, f.x.2.1, f.x.2.2) : Sc) = (g.x.1, g.x.2.1, g.x.2.2) from h2)] at hq
              have HS := Lib.hid (HNO.out (by unfold sameF; rw [if_pos h1, if_neg h2]))
              clear h1 h2
              go_upto_region 8 with fail
              rw [HV.out]
              clear x0 x1 x2 x3 x4 x5 y0 y1 y2 y3 y4 y5 p1 q1
              go_wp2_with fail
              go_ret
              exact ⟨by rw [HS.out]; rfl, HVX.out⟩
          · have hke : (f.k != g.k) = true := by simp [h1]
            have HS := Lib.hid (HNO.out (by unfold sameF; rw [if_neg h1]))
            clear h1 hq
            go_upto_region 8 with fail
            rw [HV.out]
            clear x0 x1 x2 x3 x4 x5 y0 y1 y2 y3 y4 y5 p1 q1
            go_wp2_with fail
            go_ret
            exact ⟨by rw [HS.out]; rfl, HVX.out⟩
        · have i1 : ¬ (t : Int) < (m : Int) := by omega
          have HS := Lib.hid (HIF.out.2 fun j hj => HAG.out j (by omega))
          go_wp2_with fail
          go_ret
          exact ⟨by rw [HS.out]; rfl, HBX.out⟩
    · have hmm : ((m : Int) != (k : Int)) = true := by simp; omega
      have HRX := Lib.hid (show R = false by rw [← hR]; exact decide_eq_false fun e => hmk (by rw [← hma, ← hmb]; exact e.1))
      clear hR hmk h hma hmb
      go_enter Tryz.func21, Tryz.ntmps21
      go_upto_region 1 with fail
      rw [HW.out]
      go_wp2_with fail
      go_ret
      exact ⟨by rw [HRX.out]; rfl, HB.out⟩
  · rw [if_neg h] at hR
    have hk : (r != s) = true := by simp [h]
    subst hR
    clear h hma hmb
    go_enter Tryz.func21, Tryz.ntmps21
    go_upto_region 1 with fail
    rw [HW.out]
    go_wp2_with fail
    go_ret
    exact ⟨rfl, HB.out⟩
theorem Same21_any (r s : Int) (a b : Array Fn) (p q : Option Addr) (c d : Nat) (w : World) (ha : Gl w p a) (hb : Gl w q b) :
    Calls Tryz.prog 21 #[.agg #[.int .i64 r, .slice p a.size c], .agg #[.int .i64 s, .slice q b.size d]] w fun e w' => e = .returned (.bool (sameG r s a b)) ∧ Below w.heap.size w w' :=
  Same21_in r s a b a.size b.size p q c d _ w rfl rfl ha hb rfl
end Go.Proofs.YtfpcjdopfodfnaaGreatDoor
