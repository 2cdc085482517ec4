/- The walk of a tidy graph comes to places one by one: the walk of the law. Conditions: the surroundings. -/
import Derived.Test.YtadmhlebkaiblaaGreatDoorPts
import Derived.Deep.RegionHeld3
import Derived.BigQuiet
set_option maxRecDepth 100000
namespace Go.Proofs.YtadmhlebkaiblaaGreatDoor
open Go.RowKit Go.Shelf
open Scs Dfs
set_option maxHeartbeats 16000000 in
theorem walkReachPlaces (root : Int) (L : Array Fn) (p : Option Addr) (cap : Nat) (w : World) (E : Env w) (hL : GlR w p L) :
    Calls Tryz.prog 7 #[.agg #[.int .i64 root, .slice p L.size cap]] w fun e w' => e = .returned (.bool true) ∧ Below w.heap.size w w' := by
  have HEE := Lib.hid E
  obtain ⟨v0, hv0⟩ : ∃ v, (w.alloc (.cells #[.int .i64 root, .slice p L.size cap] 24)) = v := ⟨_, rfl⟩
  have hb0 : Below w.heap.size w v0 := by rw [← hv0]; exact ((Below.refl _ w).alloc (Nat.le_refl _) _)
  have r0 : v0.heap[w.heap.size]? = some (.cells #[.int .i64 root, .slice p L.size cap] 24) := by
    rw [← hv0]
    have h := heap_alloc_new w (.cells #[.int .i64 root, .slice p L.size cap] 24)
    exact h
  have HE0 := Lib.hid (E.below hb0)
  have HL0 := Lib.hid (hL.below hb0)
  have HB0 := Lib.hid hb0
  have Rg0 := Lib.hid r0
  have HV0 := Lib.hid hv0
  clear hv0 hb0 E hL r0
  go_enter Tryz.func7, Tryz.ntmps7
  go_wp2_with fail
  rw [HV0.out]
  refine (rch.shown _ HE0.out).mono ?_
  rintro e v1 ⟨rfl, hb⟩
  have HE1 := Lib.hid (HE0.out.below hb)
  have HL1 := Lib.hid (HL0.out.below hb)
  have HB1 := Lib.hid (HB0.out.trans (hb.mono HB0.out.size))
  have Rg1 := Lib.hid ((hb.block _ (Array.getElem?_eq_some_iff.1 Rg0.out).1).trans Rg0.out)
  clear hb
  have cg0 := cell_of_row _ _ 0 _ _ _ Rg1.out
  have cg1 := cell_of_row _ _ 1 _ _ _ Rg1.out
  go_wp2_with fail
  refine (Cut07_any root L p cap v1 HL1.out).mono ?_
  rintro e v2 ⟨q, n, c, rfl, ⟨L', hn, h201, hgo⟩, hb⟩
  clear cg0 cg1
  have HE2 := Lib.hid (HE1.out.below hb)
  have HB2 := Lib.hid (HB1.out.trans (hb.mono HB1.out.size))
  have Rg2 := Lib.hid ((hb.block _ (Array.getElem?_eq_some_iff.1 Rg1.out).1).trans Rg1.out)
  have HNa := Lib.hid hn
  have HTa := Lib.hid h201
  have HGa2 := Lib.hid hgo
  clear hn h201 hgo hb
  have HG2 := Lib.hid (HGa2.out.gl HNa.out HTa.out)
  have HK := Lib.hid HGa2.out.k12
  have hDn : L'.toArray.size = n := by rw [List.size_toArray]; exact HNa.out
  obtain ⟨D, hD⟩ : ∃ D, L'.toArray = D := ⟨_, rfl⟩
  rw [hD] at HG2 HK hDn
  clear hD
  have hTP := fun W E G => rch.tidy root D q c W E G HK.out
  have hck := check_right (root := root) (L := D)
  obtain ⟨te, hte⟩ : ∃ r, (checkG root D.toList).2 = r := ⟨_, rfl⟩
  rw [hDn] at hTP
  rw [hte] at hTP hck
  by_cases h0 : te = 0
  · subst h0
    obtain ⟨hbd, hrt, hrl, h200⟩ := hck rfl
    have hth : ∀ T, TidyG D T (wk D root.toNat) → walkG 0 T = (List.range T.size, 0) ∧ (∀ t, t < T.size → T[t]!.keys.size ≤ 12) ∧ T.size ≤ 200 := fun T hT => by
      refine ⟨?_, hT.few hbd hrl HK.out, Nat.le_trans (hT.len hbd hrl).1 h200⟩
      unfold walkG
      rw [hT.check hbd hrl h200, if_pos rfl, show ((0 : Int)).toNat = 0 from rfl, hT.walk hbd hrl]
    have HTP := Lib.hid hTP
    have HTH := Lib.hid hth
    clear hTP hth hck hbd hrt hrl h200 hDn hte
    go_wp2_with fail
    refine (HTP.out v2 HE2.out HG2.out).mono ?_
    rintro e v3 ⟨T, qt, ct, rfl, hg, ht1, _, hb⟩
    have HE3 := Lib.hid (HE2.out.below hb)
    have HG3 := Lib.hid (HG2.out.below hb)
    have HB3 := Lib.hid (HB2.out.trans (hb.mono HB2.out.size))
    have Rg3 := Lib.hid ((hb.block _ (Array.getElem?_eq_some_iff.1 Rg2.out).1).trans Rg2.out)
    obtain ⟨hwg, h12, hts⟩ := HTH.out T (ht1 (by trivial))
    have HT3 := Lib.hid hg
    clear hg ht1 hb
    have hWP2 := fun W E G => rch.walk 0 T qt ct W E G h12
    rw [hwg] at hWP2
    simp only [List.length_range] at hWP2
    obtain ⟨m, hm⟩ : ∃ m, T.size = m := ⟨_, rfl⟩
    rw [hm] at hWP2 hts
    have HWP2 := Lib.hid hWP2
    have HM := Lib.hid hm
    clear hWP2 hwg h12 hm
    go_upto_region 3 with fail
    rw [HM.out]
    obtain ⟨v4, hv, _, hb, hx⟩ := at1 v3 (.cells #[.int .i64 0, .slice qt m ct] 24)
    rw [hv]
    have HE4 := Lib.hid (HE3.out.below hb)
    have HG4 := Lib.hid (HG3.out.below hb)
    have HT4 := Lib.hid (HT3.out.below hb)
    have HB4 := Lib.hid (HB3.out.trans (hb.mono HB3.out.size))
    have Rg4 := Lib.hid ((hb.block _ (Array.getElem?_eq_some_iff.1 Rg3.out).1).trans Rg3.out)
    have Rt4 := Lib.hid hx
    clear hv hb hx
    have ct0 := cell_of_row _ _ 0 _ _ _ Rt4.out
    have ct1 := cell_of_row _ _ 1 _ _ _ Rt4.out
    go_wp2_with fail
    refine (HWP2.out v4 HE4.out HT4.out).mono ?_
    rintro e v5 ⟨wq, wc2, rfl, hi, hb⟩
    clear ct0 ct1
    have HE5 := Lib.hid (HE4.out.below hb)
    have HG5 := Lib.hid (HG4.out.below hb)
    have HT5 := Lib.hid (HT4.out.below hb)
    have HB5 := Lib.hid (HB4.out.trans (hb.mono HB4.out.size))
    have Rg5 := Lib.hid ((hb.block _ (Array.getElem?_eq_some_iff.1 Rg4.out).1).trans Rg4.out)
    have Rt5 := Lib.hid ((hb.block _ (Array.getElem?_eq_some_iff.1 Rt4.out).1).trans Rt4.out)
    have HI5 := Lib.hid hi
    clear hi
    clear hb
    have ct0 := cell_of_row _ _ 0 _ _ _ Rt5.out
    have ct1 := cell_of_row _ _ 1 _ _ _ Rt5.out
    go_wp2_with fail
    go_loopw [8] (fun i wr => ∃ t : Nat, t ≤ m ∧ i = .int .i64 t ∧ wr = v5) (fun i _ => m - (intOf i).toNat)
    case atStart => exact ⟨0, by omega, rfl, rfl⟩
    case round =>
      obtain ⟨t, ht, rfl, rfl⟩ := hrel
      by_cases hlt : t < m
      · have i1 : (t : Int) < (m : Int) := by omega
        obtain ⟨b1, o1, rfl, hb1, x1⟩ := HI5.out.at t (by rw [List.size_toArray, natI_len, List.length_range]; exact hlt)
        rw [natI_get _ t (by rw [List.length_range]; exact hlt), getElem!_pos (List.range m) t (by rw [List.length_range]; exact hlt), List.getElem_range] at x1
        go_wp2_with fail
        go_roundw
        case rel => exact ⟨t + 1, by omega, by go_num, by trivial⟩
        case measure => simp [intOf]; omega
      · have i1 : ¬ (t : Int) < (m : Int) := by omega
        go_wp2_with fail
        go_ret
        exact ⟨by simp, HB5.out⟩
  · have hne : (te != 0) = true := by simp [h0]
    have HTP := Lib.hid hTP
    have H0 := Lib.hid h0
    clear hTP hck hDn hte h0
    go_wp2_with fail
    refine (HTP.out v2 HE2.out HG2.out).mono ?_
    rintro e v3 ⟨T, qt, ct, rfl, hg, _, ht2, hb⟩
    have HE3 := Lib.hid (HE2.out.below hb)
    have HG3 := Lib.hid (HG2.out.below hb)
    have HB3 := Lib.hid (HB2.out.trans (hb.mono HB2.out.size))
    have Rg3 := Lib.hid ((hb.block _ (Array.getElem?_eq_some_iff.1 Rg2.out).1).trans Rg2.out)
    have hT := ht2 H0.out
    subst hT
    have HT3 := Lib.hid hg
    clear hg ht2 hb
    have hWP2 := fun W E G => rch.walk 0 #[] qt ct W E G (fun t ht => absurd ht (Nat.not_lt_zero _))
    rw [show walkG 0 #[] = ([], 70) by kernel_rfl, show (#[] : Array Fn).size = 0 from rfl] at hWP2
    simp only [List.length_nil] at hWP2
    have HWP2 := Lib.hid hWP2
    clear hWP2
    go_upto_region 3 with fail
    obtain ⟨v4, hv, _, hb, hx⟩ := at1 v3 (.cells #[.int .i64 0, .slice qt 0 ct] 24)
    rw [hv]
    have HE4 := Lib.hid (HE3.out.below hb)
    have HG4 := Lib.hid (HG3.out.below hb)
    have HT4 := Lib.hid (HT3.out.below hb)
    have HB4 := Lib.hid (HB3.out.trans (hb.mono HB3.out.size))
    have Rg4 := Lib.hid ((hb.block _ (Array.getElem?_eq_some_iff.1 Rg3.out).1).trans Rg3.out)
    have Rt4 := Lib.hid hx
    clear hv hb hx
    have ct0 := cell_of_row _ _ 0 _ _ _ Rt4.out
    have ct1 := cell_of_row _ _ 1 _ _ _ Rt4.out
    go_wp2_with fail
    refine (HWP2.out v4 HE4.out HT4.out).mono ?_
    rintro e v5 ⟨wq, wc2, rfl, _, hb⟩
    clear ct0 ct1
    have HE5 := Lib.hid (HE4.out.below hb)
    have HG5 := Lib.hid (HG4.out.below hb)
    have HT5 := Lib.hid (HT4.out.below hb)
    have HB5 := Lib.hid (HB4.out.trans (hb.mono HB4.out.size))
    have Rg5 := Lib.hid ((hb.block _ (Array.getElem?_eq_some_iff.1 Rg4.out).1).trans Rg4.out)
    have Rt5 := Lib.hid ((hb.block _ (Array.getElem?_eq_some_iff.1 Rt4.out).1).trans Rt4.out)
    clear hb
    go_wp2_with fail
    go_ret
    exact ⟨by simp, HB5.out⟩
end Go.Proofs.YtadmhlebkaiblaaGreatDoor
