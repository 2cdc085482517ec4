/- A tidy graph is its own tidy one, each other one's is tidy: the walk of the law. Conditions: the surroundings. -/
import Derived.Test.YtadmhlebkaiblaaGreatDoorPts
import Derived.Test.YtadmhlebkaiblaaGreatDoorSbx
import Derived.Deep.RegionHeld3
import Derived.BigQuiet
set_option maxRecDepth 100000
namespace Go.Proofs.YtadmhlebkaiblaaGreatDoor
open Go.RowKit Go.Shelf
open Scs Dfs
set_option maxHeartbeats 16000000 in
theorem walkReachTidy (root : Int) (L : Array Fn) (p : Option Addr) (cap : Nat) (w : World) (E : Env w) (hL : GlR w p L) :
    Calls Tryz.prog 4 #[.agg #[.int .i64 root, .slice p L.size cap]] w fun e w' => e = .returned (.bool true) ∧ Below w.heap.size w w' := by
  have HEE := Lib.hid E
  obtain ⟨v0, hv0⟩ : ∃ v, (w.alloc (.cells #[.int .i64 root, .slice p L.size cap] 24)) = v := ⟨_, rfl⟩
  have hb0 : Below w.heap.size w v0 := by rw [← hv0]; exact ((Below.refl _ w).alloc (Nat.le_refl _) _)
  have r0 : v0.heap[w.heap.size]? = some (.cells #[.int .i64 root, .slice p L.size cap] 24) := by
    rw [← hv0]
    have h := heap_alloc_new w (.cells #[.int .i64 root, .slice p L.size cap] 24)
    exact h
  have HE0 := Lib.hid (E.below hb0)
  have HL0 := Lib.hid (hL.below hb0)
  have HB0 := Lib.hid hb0
  have Rg0 := Lib.hid r0
  have HV0 := Lib.hid hv0
  clear hv0 hb0 E hL r0
  go_enter Tryz.func4, Tryz.ntmps4
  go_wp2_with fail
  rw [HV0.out]
  refine (rch.shown _ HE0.out).mono ?_
  rintro e v1 ⟨rfl, hb⟩
  have HE1 := Lib.hid (HE0.out.below hb)
  have HL1 := Lib.hid (HL0.out.below hb)
  have HB1 := Lib.hid (HB0.out.trans (hb.mono HB0.out.size))
  have Rg1 := Lib.hid ((hb.block _ (Array.getElem?_eq_some_iff.1 Rg0.out).1).trans Rg0.out)
  clear hb
  have cg0 := cell_of_row _ _ 0 _ _ _ Rg1.out
  have cg1 := cell_of_row _ _ 1 _ _ _ Rg1.out
  go_wp2_with fail
  refine (Cut07_any root L p cap v1 HL1.out).mono ?_
  rintro e v2 ⟨q, n, c, rfl, ⟨L', hn, h201, hgo⟩, hb⟩
  clear cg0 cg1
  have HE2 := Lib.hid (HE1.out.below hb)
  have HB2 := Lib.hid (HB1.out.trans (hb.mono HB1.out.size))
  have Rg2 := Lib.hid ((hb.block _ (Array.getElem?_eq_some_iff.1 Rg1.out).1).trans Rg1.out)
  have HNa := Lib.hid hn
  have HTa := Lib.hid h201
  have HGa2 := Lib.hid hgo
  clear hn h201 hgo hb
  have cg0 := cell_of_row _ _ 0 _ _ _ Rg2.out
  have cg1 := cell_of_row _ _ 1 _ _ _ Rg2.out
  have f0 := frozen_of_row _ _ 0 _ _ Rg2.out
  have f1 := frozen_of_row _ _ 1 _ _ Rg2.out
  go_upto_region 3 with fail
  obtain ⟨v3, hv⟩ : ∃ v, ((v2.setCell ⟨w.heap.size, 0, none⟩ (.int .i64 root)).setCell ⟨w.heap.size, 1, none⟩ (.slice q n c)) = v := ⟨_, rfl⟩
  rw [hv]
  have r := (heap_setCell_same _ (w.heap.size) 1 _ _ (.slice q n c) (heap_setCell_same v2 (w.heap.size) 0 _ _ (.int .i64 root) Rg2.out))
  rw [hv] at r
  have g : v2.grownBy v3 (some (w.heap.size)) := by rw [← hv]; exact (gB_setCell (gB_setCell (gB_refl _ _) _ _) _ _)
  have hbs : Below w.heap.size v2 v3 := below_of_grown g (by omega) HB2.out.size
  have hB1 : w.heap.size < v1.heap.size := (Array.getElem?_eq_some_iff.1 Rg1.out).1
  have Rg3 := Lib.hid r
  have HB3 := Lib.hid (HB2.out.trans hbs)
  have HE3 := Lib.hid (HEE.out.below HB3.out)
  have HGO3 : Hid (GO v1.heap.size v3 (.slice q n c) L') := Lib.hid (GO.keepB HGa2.out g hB1)
  have HG3 := Lib.hid (HGO3.out.gl HNa.out HTa.out)
  have HK := Lib.hid HGO3.out.k12
  have hDn : L'.toArray.size = n := by rw [List.size_toArray]; exact HNa.out
  obtain ⟨D, hD⟩ : ∃ D, L'.toArray = D := ⟨_, rfl⟩
  rw [hD] at HG3 HK hDn
  clear cg0 cg1 f0 f1 hv r g hbs hB1 hD
  have hWP := fun W E G => rch.walk root D q c W E G HK.out
  have hTP := fun W E G => rch.tidy root D q c W E G HK.out
  have hCP := fun W E G => Check_any root D q c W E G
  have hIP := fun W E G => rch.isTidy root D q c W E G HK.out
  obtain ⟨e1, he1⟩ : ∃ r, (checkG root D.toList).1 = r := ⟨_, rfl⟩
  have hck := check_right (root := root) (L := D)
  have hwg : walkG root D = if (checkG root D.toList).2 = 0 then (wk D root.toNat, 0) else ([], (checkG root D.toList).2) := rfl
  have hib : isTidyB root D = if (checkG root D.toList).2 = 0 then sameG root 0 D (tidyT D (wk D root.toNat)) else false := rfl
  obtain ⟨te, hte⟩ : ∃ r, (checkG root D.toList).2 = r := ⟨_, rfl⟩
  rw [hDn] at hWP hTP hCP hIP
  rw [hte] at hTP hCP hck hwg hib
  rw [he1] at hCP
  by_cases h0 : te = 0
  · subst h0
    rw [if_pos rfl] at hwg hib
    rw [hwg] at hWP
    simp only at hWP
    obtain ⟨hbd, hrt, hrl, h200⟩ := hck rfl
    obtain ⟨wn, hwn⟩ : ∃ n, (wk D root.toNat).length = n := ⟨_, rfl⟩
    rw [hwn] at hWP
    obtain ⟨ib, hibb⟩ : ∃ b, isTidyB root D = b := ⟨_, rfl⟩
    rw [hibb] at hIP hib
    have hth : ∀ T, TidyG D T (wk D root.toNat) → T.size = wn ∧ checkG 0 T.toList = (0, 0) ∧ isTidyB 0 T = true ∧ (∀ t, t < T.size → T[t]!.keys.size ≤ 12) ∧ (∀ J, TidyG T J (wk T 0) → sameG 0 0 T J = true) ∧ sameG root 0 D T = ib := fun T hT => by
      refine ⟨by rw [hT.size, hwn], hT.check hbd hrl h200, hT.isTidy hbd hrl h200, hT.few hbd hrl HK.out, fun J hJ => ?_, ?_⟩
      · unfold sameG
        rw [if_pos rfl]
        exact hT.again hbd hrl hJ
      · rw [hib]
        unfold sameG
        split
        · exact TidyG.sameNs hT (tidyT_is D _)
        · rfl
    have HWP := Lib.hid hWP
    have HTP := Lib.hid hTP
    have HCP := Lib.hid hCP
    have HIP := Lib.hid hIP
    have HTH := Lib.hid hth
    have HDN := Lib.hid hDn
    clear hWP hTP hCP hIP hth hck hwg hib hbd hrt hrl h200 hwn hibb hDn he1 hte
    have cg0 := cell_of_row _ _ 0 _ _ _ Rg3.out
    have cg1 := cell_of_row _ _ 1 _ _ _ Rg3.out
    go_wp2_with fail
    refine (HTP.out v3 HE3.out HG3.out).mono ?_
    rintro e v4 ⟨T, qt, ct, rfl, hg, ht1, _, hb⟩
    clear cg0 cg1
    have HE4 := Lib.hid (HE3.out.below hb)
    have HG4 := Lib.hid (HG3.out.below hb)
    have HB4 := Lib.hid (HB3.out.trans (hb.mono HB3.out.size))
    have Rg4 := Lib.hid ((hb.block _ (Array.getElem?_eq_some_iff.1 Rg3.out).1).trans Rg3.out)
    obtain ⟨hts, hck, hit, h12, hag, hsm⟩ := HTH.out T (ht1 (by trivial))
    have HT4 := Lib.hid hg
    clear hg ht1
    clear hb
    obtain rfl := hts
    have hTP2 := fun W E G => rch.tidy 0 T qt ct W E G h12
    rw [hck, show ((0 : Int)).toNat = 0 from rfl] at hTP2
    have hIP2 := fun W E G => rch.isTidy 0 T qt ct W E G h12
    rw [hit] at hIP2
    have hSP2 := fun W G => Same_any root 0 D T q qt c ct W G
    rw [hsm, HDN.out] at hSP2
    have HTP2 := Lib.hid hTP2
    have HIP2 := Lib.hid hIP2
    have HSP2 := Lib.hid hSP2
    have HAG := Lib.hid hag
    clear hTP2 hIP2 hSP2 hck hit h12 hag hsm
    go_upto_region 4 with fail
    obtain ⟨v5, hv, _, hb, hx⟩ := at1 v4 (.cells #[.int .i64 0, .slice qt T.size ct] 24)
    rw [hv]
    have HE5 := Lib.hid (HE4.out.below hb)
    have HG5 := Lib.hid (HG4.out.below hb)
    have HT5 := Lib.hid (HT4.out.below hb)
    have HB5 := Lib.hid (HB4.out.trans (hb.mono HB4.out.size))
    have Rg5 := Lib.hid ((hb.block _ (Array.getElem?_eq_some_iff.1 Rg4.out).1).trans Rg4.out)
    have Rt5 := Lib.hid hx
    clear hv hb hx
    have cg0 := cell_of_row _ _ 0 _ _ _ Rg5.out
    have cg1 := cell_of_row _ _ 1 _ _ _ Rg5.out
    go_wp2_with fail
    refine (HWP.out v5 HE5.out HG5.out).mono ?_
    rintro e v6 ⟨wq, wc2, rfl, _, hb⟩
    clear cg0 cg1
    have HE6 := Lib.hid (HE5.out.below hb)
    have HG6 := Lib.hid (HG5.out.below hb)
    have HT6 := Lib.hid (HT5.out.below hb)
    have HB6 := Lib.hid (HB5.out.trans (hb.mono HB5.out.size))
    have Rg6 := Lib.hid ((hb.block _ (Array.getElem?_eq_some_iff.1 Rg5.out).1).trans Rg5.out)
    have Rt6 := Lib.hid ((hb.block _ (Array.getElem?_eq_some_iff.1 Rt5.out).1).trans Rt5.out)
    clear hb
    have cg0 := cell_of_row _ _ 0 _ _ _ Rg6.out
    have cg1 := cell_of_row _ _ 1 _ _ _ Rg6.out
    go_wp2_with fail
    refine (HCP.out v6 HE6.out HG6.out).mono ?_
    rintro e v7 ⟨rfl, hb⟩
    clear cg0 cg1
    have HE7 := Lib.hid (HE6.out.below hb)
    have HG7 := Lib.hid (HG6.out.below hb)
    have HT7 := Lib.hid (HT6.out.below hb)
    have HB7 := Lib.hid (HB6.out.trans (hb.mono HB6.out.size))
    have Rg7 := Lib.hid ((hb.block _ (Array.getElem?_eq_some_iff.1 Rg6.out).1).trans Rg6.out)
    have Rt7 := Lib.hid ((hb.block _ (Array.getElem?_eq_some_iff.1 Rt6.out).1).trans Rt6.out)
    clear hb
    have ct0 := cell_of_row _ _ 0 _ _ _ Rt7.out
    have ct1 := cell_of_row _ _ 1 _ _ _ Rt7.out
    go_wp2_with fail
    refine (HTP2.out v7 HE7.out HT7.out).mono ?_
    rintro e v8 ⟨J, qj, cj, rfl, hg, hj1, _, hb⟩
    clear ct0 ct1
    have HE8 := Lib.hid (HE7.out.below hb)
    have HG8 := Lib.hid (HG7.out.below hb)
    have HT8 := Lib.hid (HT7.out.below hb)
    have HB8 := Lib.hid (HB7.out.trans (hb.mono HB7.out.size))
    have Rg8 := Lib.hid ((hb.block _ (Array.getElem?_eq_some_iff.1 Rg7.out).1).trans Rg7.out)
    have Rt8 := Lib.hid ((hb.block _ (Array.getElem?_eq_some_iff.1 Rt7.out).1).trans Rt7.out)
    have HJ8 := Lib.hid hg
    have hsm := HAG.out J (hj1 (by trivial))
    clear hg hj1
    clear hb
    have hSJ := fun W G H => Same_any 0 0 T J qt qj ct cj W G H
    rw [hsm] at hSJ
    have HSJ := Lib.hid hSJ
    clear hSJ hsm
    go_upto_region 9 with fail
    obtain ⟨v9, hv, _, hb, hx⟩ := at1 v8 (.cells #[.int .i64 0, .slice qj J.size cj] 24)
    rw [hv]
    have HE9 := Lib.hid (HE8.out.below hb)
    have HG9 := Lib.hid (HG8.out.below hb)
    have HT9 := Lib.hid (HT8.out.below hb)
    have HJ9 := Lib.hid (HJ8.out.below hb)
    have HB9 := Lib.hid (HB8.out.trans (hb.mono HB8.out.size))
    have Rg9 := Lib.hid ((hb.block _ (Array.getElem?_eq_some_iff.1 Rg8.out).1).trans Rg8.out)
    have Rt9 := Lib.hid ((hb.block _ (Array.getElem?_eq_some_iff.1 Rt8.out).1).trans Rt8.out)
    have Rj9 := Lib.hid hx
    clear hv hb hx
    have cg0 := cell_of_row _ _ 0 _ _ _ Rg9.out
    have cg1 := cell_of_row _ _ 1 _ _ _ Rg9.out
    have ct0 := cell_of_row _ _ 0 _ _ _ Rt9.out
    have ct1 := cell_of_row _ _ 1 _ _ _ Rt9.out
    have cj0 := cell_of_row _ _ 0 _ _ _ Rj9.out
    have cj1 := cell_of_row _ _ 1 _ _ _ Rj9.out
    have hS : Hid (S6b w.heap.size v4.heap.size v8.heap.size (.int .i64 root) (.slice q n c) (.int .i64 0) (.slice qt T.size ct) (.int .i64 0) (.slice qj J.size cj) v9 v9) := Lib.hid ⟨cg0, cg1, ct0, ct1, cj0, cj1, Below.refl _ _⟩
    have H21t : Hid (∀ W', Hid (S6b w.heap.size v4.heap.size v8.heap.size (.int .i64 root) (.slice q n c) (.int .i64 0) (.slice qt T.size ct) (.int .i64 0) (.slice qj J.size cj) v9 W') → Calls Tryz.prog 21 #[.agg #[.int .i64 0, .slice qt T.size ct]] W' fun e W'' => e = .returned (.bool true) ∧ Hid (S6b w.heap.size v4.heap.size v8.heap.size (.int .i64 root) (.slice q n c) (.int .i64 0) (.slice qt T.size ct) (.int .i64 0) (.slice qj J.size cj) v9 W'')) :=
      Lib.hid fun W' h => (HIP2.out W' (HE9.out.below h.out.2.2.2.2.2.2) (HT9.out.below h.out.2.2.2.2.2.2)).mono fun e W'' hh => ⟨hh.1, Lib.hid (s6b_step h.out hh.2)⟩
    have H24j : Hid (∀ W', Hid (S6b w.heap.size v4.heap.size v8.heap.size (.int .i64 root) (.slice q n c) (.int .i64 0) (.slice qt T.size ct) (.int .i64 0) (.slice qj J.size cj) v9 W') → Calls Tryz.prog 24 #[.agg #[.int .i64 0, .slice qt T.size ct], .agg #[.int .i64 0, .slice qj J.size cj]] W' fun e W'' => e = .returned (.bool true) ∧ Hid (S6b w.heap.size v4.heap.size v8.heap.size (.int .i64 root) (.slice q n c) (.int .i64 0) (.slice qt T.size ct) (.int .i64 0) (.slice qj J.size cj) v9 W'')) :=
      Lib.hid fun W' h => (HSJ.out W' (HT9.out.below h.out.2.2.2.2.2.2) (HJ9.out.below h.out.2.2.2.2.2.2)).mono fun e W'' hh => ⟨hh.1, Lib.hid (s6b_step h.out hh.2)⟩
    have H21g : Hid (∀ W', Hid (S6b w.heap.size v4.heap.size v8.heap.size (.int .i64 root) (.slice q n c) (.int .i64 0) (.slice qt T.size ct) (.int .i64 0) (.slice qj J.size cj) v9 W') → Calls Tryz.prog 21 #[.agg #[.int .i64 root, .slice q n c]] W' fun e W'' => e = .returned (.bool ib) ∧ Hid (S6b w.heap.size v4.heap.size v8.heap.size (.int .i64 root) (.slice q n c) (.int .i64 0) (.slice qt T.size ct) (.int .i64 0) (.slice qj J.size cj) v9 W'')) :=
      Lib.hid fun W' h => (HIP.out W' (HE9.out.below h.out.2.2.2.2.2.2) (HG9.out.below h.out.2.2.2.2.2.2)).mono fun e W'' hh => ⟨hh.1, Lib.hid (s6b_step h.out hh.2)⟩
    have H24g : Hid (∀ W', Hid (S6b w.heap.size v4.heap.size v8.heap.size (.int .i64 root) (.slice q n c) (.int .i64 0) (.slice qt T.size ct) (.int .i64 0) (.slice qj J.size cj) v9 W') → Calls Tryz.prog 24 #[.agg #[.int .i64 root, .slice q n c], .agg #[.int .i64 0, .slice qt T.size ct]] W' fun e W'' => e = .returned (.bool ib) ∧ Hid (S6b w.heap.size v4.heap.size v8.heap.size (.int .i64 root) (.slice q n c) (.int .i64 0) (.slice qt T.size ct) (.int .i64 0) (.slice qj J.size cj) v9 W'')) :=
      Lib.hid fun W' h => (HSP2.out W' (HG9.out.below h.out.2.2.2.2.2.2) (HT9.out.below h.out.2.2.2.2.2.2)).mono fun e W'' hh => ⟨hh.1, Lib.hid (s6b_step h.out hh.2)⟩
    clear cg0 cg1 ct0 ct1 cj0 cj1
    go_region_held3 (S6b w.heap.size v4.heap.size v8.heap.size (.int .i64 root) (.slice q n c) (.int .i64 0) (.slice qt T.size ct) (.int .i64 0) (.slice qj J.size cj) v9) (first | exact Hid.out (by assumption) | exact s6b_drew (Hid.out (by assumption))) (first
      | ((with_reducible refine (H21t.out _ (by first | assumption | exact Lib.hid (s6b_drew (Hid.out (by assumption))))).mono ?_); rintro e wq ⟨rfl, hbq⟩)
      | ((with_reducible refine (H24j.out _ (by first | assumption | exact Lib.hid (s6b_drew (Hid.out (by assumption))))).mono ?_); rintro e wq ⟨rfl, hbq⟩)
      | ((with_reducible refine (H21g.out _ (by first | assumption | exact Lib.hid (s6b_drew (Hid.out (by assumption))))).mono ?_); rintro e wq ⟨rfl, hbq⟩)
      | ((with_reducible refine (H24g.out _ (by first | assumption | exact Lib.hid (s6b_drew (Hid.out (by assumption))))).mono ?_); rintro e wq ⟨rfl, hbq⟩))
    all_goals
      go_wp2_with fail
      go_ret
      exact ⟨by simp, HB9.out.trans ((Hid.out (by assumption) : S6b w.heap.size v4.heap.size v8.heap.size (.int .i64 root) (.slice q n c) (.int .i64 0) (.slice qt T.size ct) (.int .i64 0) (.slice qj J.size cj) v9 _).2.2.2.2.2.2.mono HB9.out.size)⟩
  · have hne : (te != 0) = true := by simp [h0]
    rw [if_neg h0] at hwg
    rw [hwg] at hWP
    simp only [List.length_nil] at hWP
    have HWP := Lib.hid hWP
    have HTP := Lib.hid hTP
    have HCP := Lib.hid hCP
    have H0 := Lib.hid h0
    clear hWP hTP hCP hIP hck hwg hib hDn he1 hte h0
    have cg0 := cell_of_row _ _ 0 _ _ _ Rg3.out
    have cg1 := cell_of_row _ _ 1 _ _ _ Rg3.out
    go_wp2_with fail
    refine (HTP.out v3 HE3.out HG3.out).mono ?_
    rintro e v4 ⟨T, qt, ct, rfl, hg, _, ht2, hb⟩
    clear cg0 cg1
    have HE4 := Lib.hid (HE3.out.below hb)
    have HG4 := Lib.hid (HG3.out.below hb)
    have HB4 := Lib.hid (HB3.out.trans (hb.mono HB3.out.size))
    have Rg4 := Lib.hid ((hb.block _ (Array.getElem?_eq_some_iff.1 Rg3.out).1).trans Rg3.out)
    have hts : T.size = 0 := by rw [ht2 H0.out]; rfl
    clear hg ht2
    clear hb
    have HTS := Lib.hid hts
    clear hts
    go_upto_region 4 with fail
    obtain ⟨v5, hv, _, hb, hx⟩ := at1 v4 (.cells #[.int .i64 0, .slice qt T.size ct] 24)
    rw [hv]
    have HE5 := Lib.hid (HE4.out.below hb)
    have HG5 := Lib.hid (HG4.out.below hb)
    have HB5 := Lib.hid (HB4.out.trans (hb.mono HB4.out.size))
    have Rg5 := Lib.hid ((hb.block _ (Array.getElem?_eq_some_iff.1 Rg4.out).1).trans Rg4.out)
    have Rt5 := Lib.hid hx
    clear hv hb hx
    have cg0 := cell_of_row _ _ 0 _ _ _ Rg5.out
    have cg1 := cell_of_row _ _ 1 _ _ _ Rg5.out
    go_wp2_with fail
    refine (HWP.out v5 HE5.out HG5.out).mono ?_
    rintro e v6 ⟨wq, wc2, rfl, _, hb⟩
    clear cg0 cg1
    have HE6 := Lib.hid (HE5.out.below hb)
    have HG6 := Lib.hid (HG5.out.below hb)
    have HB6 := Lib.hid (HB5.out.trans (hb.mono HB5.out.size))
    have Rg6 := Lib.hid ((hb.block _ (Array.getElem?_eq_some_iff.1 Rg5.out).1).trans Rg5.out)
    have Rt6 := Lib.hid ((hb.block _ (Array.getElem?_eq_some_iff.1 Rt5.out).1).trans Rt5.out)
    clear hb
    have cg0 := cell_of_row _ _ 0 _ _ _ Rg6.out
    have cg1 := cell_of_row _ _ 1 _ _ _ Rg6.out
    go_wp2_with fail
    refine (HCP.out v6 HE6.out HG6.out).mono ?_
    rintro e v7 ⟨rfl, hb⟩
    clear cg0 cg1
    have HE7 := Lib.hid (HE6.out.below hb)
    have HG7 := Lib.hid (HG6.out.below hb)
    have HB7 := Lib.hid (HB6.out.trans (hb.mono HB6.out.size))
    have Rg7 := Lib.hid ((hb.block _ (Array.getElem?_eq_some_iff.1 Rg6.out).1).trans Rg6.out)
    have Rt7 := Lib.hid ((hb.block _ (Array.getElem?_eq_some_iff.1 Rt6.out).1).trans Rt6.out)
    clear hb
    have ct0 := cell_of_row _ _ 0 _ _ _ Rt7.out
    have ct1 := cell_of_row _ _ 1 _ _ _ Rt7.out
    have hts := HTS.out
    go_wp2_with fail
    go_ret
    exact ⟨by simp, HB7.out⟩
end Go.Proofs.YtadmhlebkaiblaaGreatDoor
