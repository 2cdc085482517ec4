/- Graphs that are alike have as many pairs as nodes are walked to. Conditions: the graphs came in. -/
import Derived.Test.YtepelpmkmhhokaaGreatDoorSmx
import Derived.Test.YtepelpmkmhhokaaGreatDoorWpx
set_option maxRecDepth 100000
namespace Go.Proofs.YtepelpmkmhhokaaGreatDoor
open Go.RowKit Go.Shelf
open Scs Dfs
set_option maxHeartbeats 16000000 in
theorem walkIsoCounts (ra rb : Int) (L M : Array Fn) (p p' : Option Addr) (cap cap' : Nat) (w : World) (E : Env w) (hL : GlR w p L) (hM : GlR w p' M) :
    Calls Tryz.prog 9 #[.agg #[.int .i64 ra, .slice p L.size cap], .agg #[.int .i64 rb, .slice p' M.size cap']] w fun e w' => e = .returned (.bool true) ∧ Below w.heap.size w w' := by
  have HEE := Lib.hid E
  obtain ⟨v0, hv0, hz0, hb0, r0, r1⟩ := at2 w (.cells #[.int .i64 ra, .slice p L.size cap] 24) (.cells #[.int .i64 rb, .slice p' M.size cap'] 24)
  have HE0 := Lib.hid (E.below hb0)
  have HL0 := Lib.hid (hL.below hb0)
  have HM0 := Lib.hid (hM.below hb0)
  have HB0 := Lib.hid hb0
  have HMM := Lib.hid hM
  have Rg0 := Lib.hid r0
  have Rh0 := Lib.hid r1
  have HV0 := Lib.hid hv0
  have HZ0 := Lib.hid hz0
  clear hv0 hb0 E hL hM r0 r1 hz0
  go_enter Tryz.func9, Tryz.ntmps9
  go_wp2_with fail
  rw [HV0.out]
  refine (shown10_any v0 HE0.out).mono ?_
  rintro e v1 ⟨rfl, hb⟩
  have HE1 := Lib.hid (HE0.out.below hb)
  have HL1 := Lib.hid (HL0.out.below hb)
  have HM1 := Lib.hid (HM0.out.below hb)
  have HB1 := Lib.hid (HB0.out.trans (hb.mono HB0.out.size))
  have Rg1 := Lib.hid ((hb.block _ (Array.getElem?_eq_some_iff.1 Rg0.out).1).trans Rg0.out)
  have Rh1 := Lib.hid ((hb.block _ (Array.getElem?_eq_some_iff.1 Rh0.out).1).trans Rh0.out)
  have hs1 := Lib.hid (show w.heap.size + 2 ≤ v1.heap.size by have := hb.size; have := HZ0.out; omega)
  clear hb
  have cg0 := cell_of_row _ _ 0 _ _ _ Rg1.out
  have cg1 := cell_of_row _ _ 1 _ _ _ Rg1.out
  have ch0 := cell_of_row _ _ 0 _ _ _ Rh1.out
  have ch1 := cell_of_row _ _ 1 _ _ _ Rh1.out
  go_wp2_with fail
  refine (Small11_any ra L p cap v1 HL1.out).mono ?_
  rintro e v2 ⟨r, q, n, c, rfl, ⟨L', hn, h201, hgo⟩, hb⟩
  clear cg0 cg1 ch0 ch1
  have HE2 := Lib.hid (HE1.out.below hb)
  have HM2 := Lib.hid (HM1.out.below hb)
  have HB2 := Lib.hid (HB1.out.trans (hb.mono HB1.out.size))
  have Rg2 := Lib.hid ((hb.block _ (Array.getElem?_eq_some_iff.1 Rg1.out).1).trans Rg1.out)
  have Rh2 := Lib.hid ((hb.block _ (Array.getElem?_eq_some_iff.1 Rh1.out).1).trans Rh1.out)
  have HNa := Lib.hid hn
  have HTa := Lib.hid h201
  have HGa2 := Lib.hid hgo
  have hs2 := Lib.hid (Nat.le_trans hs1.out hb.size)
  clear hn h201 hgo hb
  have cg0 := cell_of_row _ _ 0 _ _ _ Rg2.out
  have cg1 := cell_of_row _ _ 1 _ _ _ Rg2.out
  have ch0 := cell_of_row _ _ 0 _ _ _ Rh2.out
  have ch1 := cell_of_row _ _ 1 _ _ _ Rh2.out
  have fg0 := frozen_of_row _ _ 0 _ _ Rg2.out
  have fg1 := frozen_of_row _ _ 1 _ _ Rg2.out
  go_wp2_with fail
  obtain ⟨v3, hv⟩ : ∃ v, ((v2.setCell ⟨w.heap.size, 0, none⟩ (.int .i64 r)).setCell ⟨w.heap.size, 1, none⟩ (.slice q n c)) = v := ⟨_, rfl⟩
  rw [hv]
  have rr := (heap_setCell_same _ (w.heap.size) 1 _ _ (.slice q n c) (heap_setCell_same v2 (w.heap.size) 0 _ _ (.int .i64 r) Rg2.out))
  rw [hv] at rr
  have g : v2.grownBy v3 (some (w.heap.size)) := by rw [← hv]; exact (gB_setCell (gB_setCell (gB_refl _ _) _ _) _ _)
  have hbs : Below w.heap.size v2 v3 := below_of_grown g (by omega) HB2.out.size
  have Rg3 := Lib.hid rr
  have Rh3 := Lib.hid ((g.block (w.heap.size + 1) (Array.getElem?_eq_some_iff.1 Rh2.out).1 (by simp)).trans Rh2.out)
  have HB3 := Lib.hid (HB2.out.trans hbs)
  have HE3 := Lib.hid (HEE.out.below HB3.out)
  have HM3 := Lib.hid (show GlR v3 p' M from HMM.out.below HB3.out)
  have HGO3 : Hid (GO v1.heap.size v3 (.slice q n c) L') := Lib.hid (GO.keepB HGa2.out g (by have := hs1.out; omega))
  have hs3 := Lib.hid (Nat.le_trans hs2.out g.size)
  clear cg0 cg1 ch0 ch1
  clear fg0 fg1 hv rr g hbs
  refine (Small11_any rb M p' cap' v3 HM3.out).mono ?_
  rintro e v4 ⟨s, q', m, c', rfl, ⟨M', hn, h201, hgo⟩, hb⟩
  have HE4 := Lib.hid (HE3.out.below hb)
  have HGO4 := Lib.hid (HGO3.out.below hb)
  have HB4 := Lib.hid (HB3.out.trans (hb.mono HB3.out.size))
  have Rg4 := Lib.hid ((hb.block _ (Array.getElem?_eq_some_iff.1 Rg3.out).1).trans Rg3.out)
  have Rh4 := Lib.hid ((hb.block _ (Array.getElem?_eq_some_iff.1 Rh3.out).1).trans Rh3.out)
  have HNb := Lib.hid hn
  have HTb := Lib.hid h201
  have HGb4 := Lib.hid hgo
  have hs4 := Lib.hid (Nat.le_trans hs3.out hb.size)
  clear hn h201 hgo hb
  have cg0 := cell_of_row _ _ 0 _ _ _ Rg4.out
  have cg1 := cell_of_row _ _ 1 _ _ _ Rg4.out
  have ch0 := cell_of_row _ _ 0 _ _ _ Rh4.out
  have ch1 := cell_of_row _ _ 1 _ _ _ Rh4.out
  have fh0 := frozen_of_row _ _ 0 _ _ Rh4.out
  have fh1 := frozen_of_row _ _ 1 _ _ Rh4.out
  go_wp2_with fail
  obtain ⟨v5, hv⟩ : ∃ v, ((v4.setCell ⟨w.heap.size + 1, 0, none⟩ (.int .i64 s)).setCell ⟨w.heap.size + 1, 1, none⟩ (.slice q' m c')) = v := ⟨_, rfl⟩
  rw [hv]
  have rr := (heap_setCell_same _ (w.heap.size + 1) 1 _ _ (.slice q' m c') (heap_setCell_same v4 (w.heap.size + 1) 0 _ _ (.int .i64 s) Rh4.out))
  rw [hv] at rr
  have g : v4.grownBy v5 (some (w.heap.size + 1)) := by rw [← hv]; exact (gB_setCell (gB_setCell (gB_refl _ _) _ _) _ _)
  have hbs : Below w.heap.size v4 v5 := below_of_grown g (by omega) HB4.out.size
  have Rh5 := Lib.hid rr
  have Rg5 := Lib.hid ((g.block w.heap.size (Array.getElem?_eq_some_iff.1 Rg4.out).1 (by simp)).trans Rg4.out)
  have HB5 := Lib.hid (HB4.out.trans hbs)
  have HE5 := Lib.hid (HEE.out.below HB5.out)
  have HGO5 := Lib.hid (GO.keepB HGO4.out g (by have := hs1.out; omega))
  have HHO5 := Lib.hid (GO.keepB HGb4.out g (by have := hs3.out; omega))
  have HG5 := Lib.hid (HGO5.out.gl HNa.out HTa.out)
  have HH5 := Lib.hid (HHO5.out.gl HNb.out HTb.out)
  have HKa := Lib.hid HGO5.out.k12
  have HKb := Lib.hid HHO5.out.k12
  have hDn := Lib.hid (show L'.toArray.size = n from by rw [List.size_toArray]; exact HNa.out)
  have hEn := Lib.hid (show M'.toArray.size = m from by rw [List.size_toArray]; exact HNb.out)
  obtain ⟨D, hD⟩ : ∃ D, L'.toArray = D := ⟨_, rfl⟩
  obtain ⟨F, hF⟩ : ∃ D, M'.toArray = D := ⟨_, rfl⟩
  rw [hD] at HG5 HKa hDn
  rw [hF] at HH5 HKb hEn
  clear cg0 cg1 ch0 ch1
  clear fh0 fh1 hv rr g hbs hD hF HGO5 HHO5 HGO4 HGO3 HGb4 HGa2
  by_cases hea : (checkG r D.toList).2 = 0
  · by_cases heb : (checkG s F.toList).2 = 0
    · by_cases hab : alikeB D F r.toNat s.toNat = true
      · have c1 := Alike14_in r s D F n m q q' c c' v5 hDn.out hEn.out HE5.out HG5.out HH5.out HKa.out HKb.out
        have c2 := fun W E G G' => Pairs12_in r s D F n m q q' c c' W hDn.out hEn.out E G G' HKa.out HKb.out
        have t1 := fun W E G => Walk13_in r D n q c W hDn.out E G HKa.out
        have t2 := fun W E G => Walk13_in s F m q' c' W hEn.out E G HKb.out
        obtain ⟨PL, hPL⟩ : ∃ x, (pairsG r s D F).1 = x := ⟨_, rfl⟩
        obtain ⟨PB, hPB⟩ : ∃ x, (pairsG r s D F).2.1 = x := ⟨_, rfl⟩
        obtain ⟨wa, hwa⟩ : ∃ x, (walkG r D).1 = x := ⟨_, rfl⟩
        obtain ⟨wb, hwb⟩ : ∃ x, (walkG s F).1 = x := ⟨_, rfl⟩
        obtain ⟨xa, hxa⟩ : ∃ x, (walkG r D).2 = x := ⟨_, rfl⟩
        obtain ⟨xb, hxb⟩ : ∃ x, (walkG s F).2 = x := ⟨_, rfl⟩
        obtain ⟨hba, hra1, hra2, hra3⟩ := check_right hea
        obtain ⟨hbb, hrb1, hrb2, hrb3⟩ := check_right heb
        have hpg : alikeG r s D F = (alikeB D F r.toNat s.toNat, 0) := by unfold alikeG; rw [if_pos hea, if_pos heb]
        have hpp : pairsG r s D F = ((pairsW D F r.toNat s.toNat).1, (pairsW D F r.toNat s.toNat).2, 0) := by unfold pairsG; rw [if_pos hea, if_pos heb]
        have hpe : (pairsG r s D F).2.2 = 0 := by rw [hpp]
        have hwd : (walkG r D).1 = wk D r.toNat := by unfold walkG; rw [if_pos hea]
        have hwf : (walkG s F).1 = wk F s.toNat := by unfold walkG; rw [if_pos heb]
        have hcnt := alike_countG hba hbb hra2 hrb2 (alikeB_iff.1 hab)
        have hpt : (pairsW D F r.toNat s.toNat).2 = true := by
          have h := hab
          unfold alikeB at h
          rw [Bool.and_eq_true] at h
          exact h.1
        have hpb : PB = true := by rw [← hPB, hpp]; exact hpt
        have hpl : (pairsW D F r.toNat s.toNat).1 = pw D.size F.size (KN D) (KN F) r.toNat s.toNat := by
          have h := hpt
          unfold pairsW at h ⊢
          exact congrArg Prod.fst (upto_yes1 h)
        have hk1 : wa.length = PL.length := by rw [← hwa, ← hPL, hpp, hwd, hcnt.1, hpl]
        have hk2 : wb.length = PL.length := by rw [← hwb, ← hPL, hpp, hwf, hcnt.2, hpl]
        rw [hpg, hab] at c1
        rw [hPL, hPB, hpe] at c2
        rw [hpb] at c2
        rw [hwa, hxa] at t1
        rw [hwb, hxb] at t2
        rw [hk1] at t1
        rw [hk2] at t2
        clear hpt hpb hpl hk1 hk2 hcnt hwd hwf
        clear hba hra1 hra2 hra3 hbb hrb1 hrb2 hrb3 hpg hpp hpe hea heb hab hPL hPB hwa hwb hxa hxb
        have C1 := Lib.hid c1
        have C2 := Lib.hid c2
        have T1 := Lib.hid t1
        have T2 := Lib.hid t2
        clear c1 c2 t1 t2
        refine C1.out.mono ?_
        rintro e v6 ⟨rfl, hb⟩
        have HE6 := Lib.hid (HE5.out.below hb)
        have HG6 := Lib.hid (HG5.out.below hb)
        have HH6 := Lib.hid (HH5.out.below hb)
        have HB6 := Lib.hid (HB5.out.trans (hb.mono HB5.out.size))
        have Rg6 := Lib.hid ((hb.block _ (Array.getElem?_eq_some_iff.1 Rg5.out).1).trans Rg5.out)
        have Rh6 := Lib.hid ((hb.block _ (Array.getElem?_eq_some_iff.1 Rh5.out).1).trans Rh5.out)
        clear hb
        have cg0 := cell_of_row _ _ 0 _ _ _ Rg6.out
        have cg1 := cell_of_row _ _ 1 _ _ _ Rg6.out
        have ch0 := cell_of_row _ _ 0 _ _ _ Rh6.out
        have ch1 := cell_of_row _ _ 1 _ _ _ Rh6.out
        go_wp2_with fail
        refine (C2.out v6 HE6.out HG6.out HH6.out).mono ?_
        rintro e v7 ⟨vl, rfl, hown, hb⟩
        obtain ⟨ql, cl, rfl, -⟩ := pl_own m hown rfl
        clear cg0 cg1 ch0 ch1
        have HE7 := Lib.hid (HE6.out.below hb)
        have HG7 := Lib.hid (HG6.out.below hb)
        have HH7 := Lib.hid (HH6.out.below hb)
        have HB7 := Lib.hid (HB6.out.trans (hb.mono HB6.out.size))
        have Rg7 := Lib.hid ((hb.block _ (Array.getElem?_eq_some_iff.1 Rg6.out).1).trans Rg6.out)
        have Rh7 := Lib.hid ((hb.block _ (Array.getElem?_eq_some_iff.1 Rh6.out).1).trans Rh6.out)
        clear hb hown
        have cg0 := cell_of_row _ _ 0 _ _ _ Rg7.out
        have cg1 := cell_of_row _ _ 1 _ _ _ Rg7.out
        have ch0 := cell_of_row _ _ 0 _ _ _ Rh7.out
        have ch1 := cell_of_row _ _ 1 _ _ _ Rh7.out
        go_wp2_with fail
        refine (T1.out v7 HE7.out HG7.out).mono ?_
        rintro e v8 ⟨q2, c2, rfl, -, hb⟩
        clear cg0 cg1 ch0 ch1
        have HE8 := Lib.hid (HE7.out.below hb)
        have HG8 := Lib.hid (HG7.out.below hb)
        have HH8 := Lib.hid (HH7.out.below hb)
        have HB8 := Lib.hid (HB7.out.trans (hb.mono HB7.out.size))
        have Rg8 := Lib.hid ((hb.block _ (Array.getElem?_eq_some_iff.1 Rg7.out).1).trans Rg7.out)
        have Rh8 := Lib.hid ((hb.block _ (Array.getElem?_eq_some_iff.1 Rh7.out).1).trans Rh7.out)
        clear hb
        have cg0 := cell_of_row _ _ 0 _ _ _ Rg8.out
        have cg1 := cell_of_row _ _ 1 _ _ _ Rg8.out
        have ch0 := cell_of_row _ _ 0 _ _ _ Rh8.out
        have ch1 := cell_of_row _ _ 1 _ _ _ Rh8.out
        go_wp2_with fail
        refine (T2.out v8 HE8.out HH8.out).mono ?_
        rintro e v9 ⟨q3, c3, rfl, -, hb⟩
        clear cg0 cg1 ch0 ch1
        have HE9 := Lib.hid (HE8.out.below hb)
        have HB9 := Lib.hid (HB8.out.trans (hb.mono HB8.out.size))
        have Rg9 := Lib.hid ((hb.block _ (Array.getElem?_eq_some_iff.1 Rg8.out).1).trans Rg8.out)
        have Rh9 := Lib.hid ((hb.block _ (Array.getElem?_eq_some_iff.1 Rh8.out).1).trans Rh8.out)
        clear hb
        go_wp2_with fail
        go_ret
        exact ⟨rfl, HB9.out⟩
      · rw [Bool.not_eq_true] at hab
        have c1 := Alike14_in r s D F n m q q' c c' v5 hDn.out hEn.out HE5.out HG5.out HH5.out HKa.out HKb.out
        have c2 := fun W E G G' => Pairs12_in r s D F n m q q' c c' W hDn.out hEn.out E G G' HKa.out HKb.out
        have t1 := fun W E G => Walk13_in r D n q c W hDn.out E G HKa.out
        have t2 := fun W E G => Walk13_in s F m q' c' W hEn.out E G HKb.out
        obtain ⟨PL, hPL⟩ : ∃ x, (pairsG r s D F).1 = x := ⟨_, rfl⟩
        obtain ⟨PB, hPB⟩ : ∃ x, (pairsG r s D F).2.1 = x := ⟨_, rfl⟩
        obtain ⟨wa, hwa⟩ : ∃ x, (walkG r D).1 = x := ⟨_, rfl⟩
        obtain ⟨wb, hwb⟩ : ∃ x, (walkG s F).1 = x := ⟨_, rfl⟩
        obtain ⟨xa, hxa⟩ : ∃ x, (walkG r D).2 = x := ⟨_, rfl⟩
        obtain ⟨xb, hxb⟩ : ∃ x, (walkG s F).2 = x := ⟨_, rfl⟩
        obtain ⟨hba, hra1, hra2, hra3⟩ := check_right hea
        obtain ⟨hbb, hrb1, hrb2, hrb3⟩ := check_right heb
        have hpg : alikeG r s D F = (alikeB D F r.toNat s.toNat, 0) := by unfold alikeG; rw [if_pos hea, if_pos heb]
        have hpp : pairsG r s D F = ((pairsW D F r.toNat s.toNat).1, (pairsW D F r.toNat s.toNat).2, 0) := by unfold pairsG; rw [if_pos hea, if_pos heb]
        have hpe : (pairsG r s D F).2.2 = 0 := by rw [hpp]
        rw [hpg, hab] at c1
        rw [hPL, hPB, hpe] at c2
        rw [hwa, hxa] at t1
        rw [hwb, hxb] at t2
        clear hba hra1 hra2 hra3 hbb hrb1 hrb2 hrb3 hpg hpp hpe hea heb hab hPL hPB hwa hwb hxa hxb
        have C1 := Lib.hid c1
        have C2 := Lib.hid c2
        have T1 := Lib.hid t1
        have T2 := Lib.hid t2
        clear c1 c2 t1 t2
        refine C1.out.mono ?_
        rintro e v6 ⟨rfl, hb⟩
        have HE6 := Lib.hid (HE5.out.below hb)
        have HG6 := Lib.hid (HG5.out.below hb)
        have HH6 := Lib.hid (HH5.out.below hb)
        have HB6 := Lib.hid (HB5.out.trans (hb.mono HB5.out.size))
        have Rg6 := Lib.hid ((hb.block _ (Array.getElem?_eq_some_iff.1 Rg5.out).1).trans Rg5.out)
        have Rh6 := Lib.hid ((hb.block _ (Array.getElem?_eq_some_iff.1 Rh5.out).1).trans Rh5.out)
        clear hb
        have cg0 := cell_of_row _ _ 0 _ _ _ Rg6.out
        have cg1 := cell_of_row _ _ 1 _ _ _ Rg6.out
        have ch0 := cell_of_row _ _ 0 _ _ _ Rh6.out
        have ch1 := cell_of_row _ _ 1 _ _ _ Rh6.out
        go_wp2_with fail
        refine (C2.out v6 HE6.out HG6.out HH6.out).mono ?_
        rintro e v7 ⟨vl, rfl, hown, hb⟩
        obtain ⟨ql, cl, rfl, -⟩ := pl_own m hown rfl
        clear cg0 cg1 ch0 ch1
        have HE7 := Lib.hid (HE6.out.below hb)
        have HG7 := Lib.hid (HG6.out.below hb)
        have HH7 := Lib.hid (HH6.out.below hb)
        have HB7 := Lib.hid (HB6.out.trans (hb.mono HB6.out.size))
        have Rg7 := Lib.hid ((hb.block _ (Array.getElem?_eq_some_iff.1 Rg6.out).1).trans Rg6.out)
        have Rh7 := Lib.hid ((hb.block _ (Array.getElem?_eq_some_iff.1 Rh6.out).1).trans Rh6.out)
        clear hb hown
        have cg0 := cell_of_row _ _ 0 _ _ _ Rg7.out
        have cg1 := cell_of_row _ _ 1 _ _ _ Rg7.out
        have ch0 := cell_of_row _ _ 0 _ _ _ Rh7.out
        have ch1 := cell_of_row _ _ 1 _ _ _ Rh7.out
        go_wp2_with fail
        refine (T1.out v7 HE7.out HG7.out).mono ?_
        rintro e v8 ⟨q2, c2, rfl, -, hb⟩
        clear cg0 cg1 ch0 ch1
        have HE8 := Lib.hid (HE7.out.below hb)
        have HG8 := Lib.hid (HG7.out.below hb)
        have HH8 := Lib.hid (HH7.out.below hb)
        have HB8 := Lib.hid (HB7.out.trans (hb.mono HB7.out.size))
        have Rg8 := Lib.hid ((hb.block _ (Array.getElem?_eq_some_iff.1 Rg7.out).1).trans Rg7.out)
        have Rh8 := Lib.hid ((hb.block _ (Array.getElem?_eq_some_iff.1 Rh7.out).1).trans Rh7.out)
        clear hb
        have cg0 := cell_of_row _ _ 0 _ _ _ Rg8.out
        have cg1 := cell_of_row _ _ 1 _ _ _ Rg8.out
        have ch0 := cell_of_row _ _ 0 _ _ _ Rh8.out
        have ch1 := cell_of_row _ _ 1 _ _ _ Rh8.out
        go_wp2_with fail
        refine (T2.out v8 HE8.out HH8.out).mono ?_
        rintro e v9 ⟨q3, c3, rfl, -, hb⟩
        clear cg0 cg1 ch0 ch1
        have HE9 := Lib.hid (HE8.out.below hb)
        have HB9 := Lib.hid (HB8.out.trans (hb.mono HB8.out.size))
        have Rg9 := Lib.hid ((hb.block _ (Array.getElem?_eq_some_iff.1 Rg8.out).1).trans Rg8.out)
        have Rh9 := Lib.hid ((hb.block _ (Array.getElem?_eq_some_iff.1 Rh8.out).1).trans Rh8.out)
        clear hb
        go_wp2_with fail
        go_ret
        exact ⟨rfl, HB9.out⟩
    · have c1 := Alike14_in r s D F n m q q' c c' v5 hDn.out hEn.out HE5.out HG5.out HH5.out HKa.out HKb.out
      have c2 := fun W E G G' => Pairs12_in r s D F n m q q' c c' W hDn.out hEn.out E G G' HKa.out HKb.out
      have t1 := fun W E G => Walk13_in r D n q c W hDn.out E G HKa.out
      have t2 := fun W E G => Walk13_in s F m q' c' W hEn.out E G HKb.out
      obtain ⟨PL, hPL⟩ : ∃ x, (pairsG r s D F).1 = x := ⟨_, rfl⟩
      obtain ⟨PB, hPB⟩ : ∃ x, (pairsG r s D F).2.1 = x := ⟨_, rfl⟩
      obtain ⟨wa, hwa⟩ : ∃ x, (walkG r D).1 = x := ⟨_, rfl⟩
      obtain ⟨wb, hwb⟩ : ∃ x, (walkG s F).1 = x := ⟨_, rfl⟩
      obtain ⟨xa, hxa⟩ : ∃ x, (walkG r D).2 = x := ⟨_, rfl⟩
      obtain ⟨xb, hxb⟩ : ∃ x, (walkG s F).2 = x := ⟨_, rfl⟩
      have hpg : alikeG r s D F = (false, (checkG s F.toList).2) := by unfold alikeG; rw [if_pos hea, if_neg heb]
      have hpe : (pairsG r s D F).2.2 = (checkG s F.toList).2 := by unfold pairsG; rw [if_pos hea, if_neg heb]
      rw [hpg] at c1
      rw [hPL, hPB, hpe] at c2
      rw [hwa, hxa] at t1
      rw [hwb, hxb] at t2
      obtain ⟨ex, hbd⟩ : ∃ b, (checkG s F.toList).2 = b := ⟨_, rfl⟩
      rw [hbd] at c1 c2 heb
      have hne : (ex != 0) = true := by simp [heb]
      clear hpg hpe hbd hPL hPB hwa hwb hxa hxb
      have C1 := Lib.hid c1
      have C2 := Lib.hid c2
      have T1 := Lib.hid t1
      have T2 := Lib.hid t2
      clear c1 c2 t1 t2
      refine C1.out.mono ?_
      rintro e v6 ⟨rfl, hb⟩
      have HE6 := Lib.hid (HE5.out.below hb)
      have HG6 := Lib.hid (HG5.out.below hb)
      have HH6 := Lib.hid (HH5.out.below hb)
      have HB6 := Lib.hid (HB5.out.trans (hb.mono HB5.out.size))
      have Rg6 := Lib.hid ((hb.block _ (Array.getElem?_eq_some_iff.1 Rg5.out).1).trans Rg5.out)
      have Rh6 := Lib.hid ((hb.block _ (Array.getElem?_eq_some_iff.1 Rh5.out).1).trans Rh5.out)
      clear hb
      have cg0 := cell_of_row _ _ 0 _ _ _ Rg6.out
      have cg1 := cell_of_row _ _ 1 _ _ _ Rg6.out
      have ch0 := cell_of_row _ _ 0 _ _ _ Rh6.out
      have ch1 := cell_of_row _ _ 1 _ _ _ Rh6.out
      go_wp2_with fail
      refine (C2.out v6 HE6.out HG6.out HH6.out).mono ?_
      rintro e v7 ⟨vl, rfl, hown, hb⟩
      obtain ⟨ql, cl, rfl, -⟩ := pl_own m hown rfl
      clear cg0 cg1 ch0 ch1
      have HE7 := Lib.hid (HE6.out.below hb)
      have HG7 := Lib.hid (HG6.out.below hb)
      have HH7 := Lib.hid (HH6.out.below hb)
      have HB7 := Lib.hid (HB6.out.trans (hb.mono HB6.out.size))
      have Rg7 := Lib.hid ((hb.block _ (Array.getElem?_eq_some_iff.1 Rg6.out).1).trans Rg6.out)
      have Rh7 := Lib.hid ((hb.block _ (Array.getElem?_eq_some_iff.1 Rh6.out).1).trans Rh6.out)
      clear hb hown
      have cg0 := cell_of_row _ _ 0 _ _ _ Rg7.out
      have cg1 := cell_of_row _ _ 1 _ _ _ Rg7.out
      have ch0 := cell_of_row _ _ 0 _ _ _ Rh7.out
      have ch1 := cell_of_row _ _ 1 _ _ _ Rh7.out
      go_wp2_with fail
      refine (T1.out v7 HE7.out HG7.out).mono ?_
      rintro e v8 ⟨q2, c2, rfl, -, hb⟩
      clear cg0 cg1 ch0 ch1
      have HE8 := Lib.hid (HE7.out.below hb)
      have HG8 := Lib.hid (HG7.out.below hb)
      have HH8 := Lib.hid (HH7.out.below hb)
      have HB8 := Lib.hid (HB7.out.trans (hb.mono HB7.out.size))
      have Rg8 := Lib.hid ((hb.block _ (Array.getElem?_eq_some_iff.1 Rg7.out).1).trans Rg7.out)
      have Rh8 := Lib.hid ((hb.block _ (Array.getElem?_eq_some_iff.1 Rh7.out).1).trans Rh7.out)
      clear hb
      have cg0 := cell_of_row _ _ 0 _ _ _ Rg8.out
      have cg1 := cell_of_row _ _ 1 _ _ _ Rg8.out
      have ch0 := cell_of_row _ _ 0 _ _ _ Rh8.out
      have ch1 := cell_of_row _ _ 1 _ _ _ Rh8.out
      go_wp2_with fail
      refine (T2.out v8 HE8.out HH8.out).mono ?_
      rintro e v9 ⟨q3, c3, rfl, -, hb⟩
      clear cg0 cg1 ch0 ch1
      have HE9 := Lib.hid (HE8.out.below hb)
      have HB9 := Lib.hid (HB8.out.trans (hb.mono HB8.out.size))
      have Rg9 := Lib.hid ((hb.block _ (Array.getElem?_eq_some_iff.1 Rg8.out).1).trans Rg8.out)
      have Rh9 := Lib.hid ((hb.block _ (Array.getElem?_eq_some_iff.1 Rh8.out).1).trans Rh8.out)
      clear hb
      go_wp2_with fail
      go_ret
      exact ⟨rfl, HB9.out⟩
  · have c1 := Alike14_in r s D F n m q q' c c' v5 hDn.out hEn.out HE5.out HG5.out HH5.out HKa.out HKb.out
    have c2 := fun W E G G' => Pairs12_in r s D F n m q q' c c' W hDn.out hEn.out E G G' HKa.out HKb.out
    have t1 := fun W E G => Walk13_in r D n q c W hDn.out E G HKa.out
    have t2 := fun W E G => Walk13_in s F m q' c' W hEn.out E G HKb.out
    obtain ⟨PL, hPL⟩ : ∃ x, (pairsG r s D F).1 = x := ⟨_, rfl⟩
    obtain ⟨PB, hPB⟩ : ∃ x, (pairsG r s D F).2.1 = x := ⟨_, rfl⟩
    obtain ⟨wa, hwa⟩ : ∃ x, (walkG r D).1 = x := ⟨_, rfl⟩
    obtain ⟨wb, hwb⟩ : ∃ x, (walkG s F).1 = x := ⟨_, rfl⟩
    obtain ⟨xa, hxa⟩ : ∃ x, (walkG r D).2 = x := ⟨_, rfl⟩
    obtain ⟨xb, hxb⟩ : ∃ x, (walkG s F).2 = x := ⟨_, rfl⟩
    have hpg : alikeG r s D F = (false, (checkG r D.toList).2) := by unfold alikeG; rw [if_neg hea]
    have hpe : (pairsG r s D F).2.2 = (checkG r D.toList).2 := by unfold pairsG; rw [if_neg hea]
    rw [hpg] at c1
    rw [hPL, hPB, hpe] at c2
    rw [hwa, hxa] at t1
    rw [hwb, hxb] at t2
    obtain ⟨ex, hbd⟩ : ∃ b, (checkG r D.toList).2 = b := ⟨_, rfl⟩
    rw [hbd] at c1 c2 hea
    have hne : (ex != 0) = true := by simp [hea]
    clear hpg hpe hbd hPL hPB hwa hwb hxa hxb
    have C1 := Lib.hid c1
    have C2 := Lib.hid c2
    have T1 := Lib.hid t1
    have T2 := Lib.hid t2
    clear c1 c2 t1 t2
    refine C1.out.mono ?_
    rintro e v6 ⟨rfl, hb⟩
    have HE6 := Lib.hid (HE5.out.below hb)
    have HG6 := Lib.hid (HG5.out.below hb)
    have HH6 := Lib.hid (HH5.out.below hb)
    have HB6 := Lib.hid (HB5.out.trans (hb.mono HB5.out.size))
    have Rg6 := Lib.hid ((hb.block _ (Array.getElem?_eq_some_iff.1 Rg5.out).1).trans Rg5.out)
    have Rh6 := Lib.hid ((hb.block _ (Array.getElem?_eq_some_iff.1 Rh5.out).1).trans Rh5.out)
    clear hb
    have cg0 := cell_of_row _ _ 0 _ _ _ Rg6.out
    have cg1 := cell_of_row _ _ 1 _ _ _ Rg6.out
    have ch0 := cell_of_row _ _ 0 _ _ _ Rh6.out
    have ch1 := cell_of_row _ _ 1 _ _ _ Rh6.out
    go_wp2_with fail
    refine (C2.out v6 HE6.out HG6.out HH6.out).mono ?_
    rintro e v7 ⟨vl, rfl, hown, hb⟩
    obtain ⟨ql, cl, rfl, -⟩ := pl_own m hown rfl
    clear cg0 cg1 ch0 ch1
    have HE7 := Lib.hid (HE6.out.below hb)
    have HG7 := Lib.hid (HG6.out.below hb)
    have HH7 := Lib.hid (HH6.out.below hb)
    have HB7 := Lib.hid (HB6.out.trans (hb.mono HB6.out.size))
    have Rg7 := Lib.hid ((hb.block _ (Array.getElem?_eq_some_iff.1 Rg6.out).1).trans Rg6.out)
    have Rh7 := Lib.hid ((hb.block _ (Array.getElem?_eq_some_iff.1 Rh6.out).1).trans Rh6.out)
    clear hb hown
    have cg0 := cell_of_row _ _ 0 _ _ _ Rg7.out
    have cg1 := cell_of_row _ _ 1 _ _ _ Rg7.out
    have ch0 := cell_of_row _ _ 0 _ _ _ Rh7.out
    have ch1 := cell_of_row _ _ 1 _ _ _ Rh7.out
    go_wp2_with fail
    refine (T1.out v7 HE7.out HG7.out).mono ?_
    rintro e v8 ⟨q2, c2, rfl, -, hb⟩
    clear cg0 cg1 ch0 ch1
    have HE8 := Lib.hid (HE7.out.below hb)
    have HG8 := Lib.hid (HG7.out.below hb)
    have HH8 := Lib.hid (HH7.out.below hb)
    have HB8 := Lib.hid (HB7.out.trans (hb.mono HB7.out.size))
    have Rg8 := Lib.hid ((hb.block _ (Array.getElem?_eq_some_iff.1 Rg7.out).1).trans Rg7.out)
    have Rh8 := Lib.hid ((hb.block _ (Array.getElem?_eq_some_iff.1 Rh7.out).1).trans Rh7.out)
    clear hb
    have cg0 := cell_of_row _ _ 0 _ _ _ Rg8.out
    have cg1 := cell_of_row _ _ 1 _ _ _ Rg8.out
    have ch0 := cell_of_row _ _ 0 _ _ _ Rh8.out
    have ch1 := cell_of_row _ _ 1 _ _ _ Rh8.out
    go_wp2_with fail
    refine (T2.out v8 HE8.out HH8.out).mono ?_
    rintro e v9 ⟨q3, c3, rfl, -, hb⟩
    clear cg0 cg1 ch0 ch1
    have HE9 := Lib.hid (HE8.out.below hb)
    have HB9 := Lib.hid (HB8.out.trans (hb.mono HB8.out.size))
    have Rg9 := Lib.hid ((hb.block _ (Array.getElem?_eq_some_iff.1 Rg8.out).1).trans Rg8.out)
    have Rh9 := Lib.hid ((hb.block _ (Array.getElem?_eq_some_iff.1 Rh8.out).1).trans Rh8.out)
    clear hb
    go_wp2_with fail
    go_ret
    exact ⟨rfl, HB9.out⟩
end Go.Proofs.YtepelpmkmhhokaaGreatDoor
