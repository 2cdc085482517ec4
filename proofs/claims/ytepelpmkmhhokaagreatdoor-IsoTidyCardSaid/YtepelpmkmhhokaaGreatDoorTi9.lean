/- Graphs are alike just if their tidy ones are the same. Conditions: the graphs came in. -/
import Derived.Test.YtepelpmkmhhokaaGreatDoorSmx
import Derived.Test.YtepelpmkmhhokaaGreatDoorTdx
set_option maxRecDepth 100000
namespace Go.Proofs.YtepelpmkmhhokaaGreatDoor
open Go.RowKit Go.Shelf
open Scs Dfs
set_option maxHeartbeats 16000000 in
theorem walkIsoTidy (ra rb : Int) (L M : Array Fn) (p p' : Option Addr) (cap cap' : Nat) (w : World) (E : Env w) (hL : GlR w p L) (hM : GlR w p' M) :
    Calls Tryz.prog 4 #[.agg #[.int .i64 ra, .slice p L.size cap], .agg #[.int .i64 rb, .slice p' M.size cap']] w fun e w' => e = .returned (.bool true) ∧ Below w.heap.size w w' := by
  have HEE := Lib.hid E
  obtain ⟨v0, hv0, hz0, hb0, r0, r1⟩ := at2 w (.cells #[.int .i64 ra, .slice p L.size cap] 24) (.cells #[.int .i64 rb, .slice p' M.size cap'] 24)
  have HE0 := Lib.hid (E.below hb0)
  have HL0 := Lib.hid (hL.below hb0)
  have HM0 := Lib.hid (hM.below hb0)
  have HB0 := Lib.hid hb0
  have HMM := Lib.hid hM
  have Rg0 := Lib.hid r0
  have Rh0 := Lib.hid r1
  have HV0 := Lib.hid hv0
  have HZ0 := Lib.hid hz0
  clear hv0 hb0 E hL hM r0 r1 hz0
  go_enter Tryz.func4, Tryz.ntmps4
  go_wp2_with fail
  rw [HV0.out]
  refine (shown10_any v0 HE0.out).mono ?_
  rintro e v1 ⟨rfl, hb⟩
  have HE1 := Lib.hid (HE0.out.below hb)
  have HL1 := Lib.hid (HL0.out.below hb)
  have HM1 := Lib.hid (HM0.out.below hb)
  have HB1 := Lib.hid (HB0.out.trans (hb.mono HB0.out.size))
  have Rg1 := Lib.hid ((hb.block _ (Array.getElem?_eq_some_iff.1 Rg0.out).1).trans Rg0.out)
  have Rh1 := Lib.hid ((hb.block _ (Array.getElem?_eq_some_iff.1 Rh0.out).1).trans Rh0.out)
  have hs1 := Lib.hid (show w.heap.size + 2 ≤ v1.heap.size by have := hb.size; have := HZ0.out; omega)
  clear hb
  have cg0 := cell_of_row _ _ 0 _ _ _ Rg1.out
  have cg1 := cell_of_row _ _ 1 _ _ _ Rg1.out
  have ch0 := cell_of_row _ _ 0 _ _ _ Rh1.out
  have ch1 := cell_of_row _ _ 1 _ _ _ Rh1.out
  go_wp2_with fail
  refine (Small11_any ra L p cap v1 HL1.out).mono ?_
  rintro e v2 ⟨r, q, n, c, rfl, ⟨L', hn, h201, hgo⟩, hb⟩
  clear cg0 cg1 ch0 ch1
  have HE2 := Lib.hid (HE1.out.below hb)
  have HM2 := Lib.hid (HM1.out.below hb)
  have HB2 := Lib.hid (HB1.out.trans (hb.mono HB1.out.size))
  have Rg2 := Lib.hid ((hb.block _ (Array.getElem?_eq_some_iff.1 Rg1.out).1).trans Rg1.out)
  have Rh2 := Lib.hid ((hb.block _ (Array.getElem?_eq_some_iff.1 Rh1.out).1).trans Rh1.out)
  have HNa := Lib.hid hn
  have HTa := Lib.hid h201
  have HGa2 := Lib.hid hgo
  have hs2 := Lib.hid (Nat.le_trans hs1.out hb.size)
  clear hn h201 hgo hb
  have cg0 := cell_of_row _ _ 0 _ _ _ Rg2.out
  have cg1 := cell_of_row _ _ 1 _ _ _ Rg2.out
  have ch0 := cell_of_row _ _ 0 _ _ _ Rh2.out
  have ch1 := cell_of_row _ _ 1 _ _ _ Rh2.out
  have fg0 := frozen_of_row _ _ 0 _ _ Rg2.out
  have fg1 := frozen_of_row _ _ 1 _ _ Rg2.out
  go_wp2_with fail
  obtain ⟨v3, hv⟩ : ∃ v, ((v2.setCell ⟨w.heap.size, 0, none⟩ (.int .i64 r)).setCell ⟨w.heap.size, 1, none⟩ (.slice q n c)) = v := ⟨_, rfl⟩
  rw [hv]
  have rr := (heap_setCell_same _ (w.heap.size) 1 _ _ (.slice q n c) (heap_setCell_same v2 (w.heap.size) 0 _ _ (.int .i64 r) Rg2.out))
  rw [hv] at rr
  have g : v2.grownBy v3 (some (w.heap.size)) := by rw [← hv]; exact (gB_setCell (gB_setCell (gB_refl _ _) _ _) _ _)
  have hbs : Below w.heap.size v2 v3 := below_of_grown g (by omega) HB2.out.size
  have Rg3 := Lib.hid rr
  have Rh3 := Lib.hid ((g.block (w.heap.size + 1) (Array.getElem?_eq_some_iff.1 Rh2.out).1 (by simp)).trans Rh2.out)
  have HB3 := Lib.hid (HB2.out.trans hbs)
  have HE3 := Lib.hid (HEE.out.below HB3.out)
  have HM3 := Lib.hid (show GlR v3 p' M from HMM.out.below HB3.out)
  have HGO3 : Hid (GO v1.heap.size v3 (.slice q n c) L') := Lib.hid (GO.keepB HGa2.out g (by have := hs1.out; omega))
  have hs3 := Lib.hid (Nat.le_trans hs2.out g.size)
  clear cg0 cg1 ch0 ch1
  clear fg0 fg1 hv rr g hbs
  refine (Small11_any rb M p' cap' v3 HM3.out).mono ?_
  rintro e v4 ⟨s, q', m, c', rfl, ⟨M', hn, h201, hgo⟩, hb⟩
  have HE4 := Lib.hid (HE3.out.below hb)
  have HGO4 := Lib.hid (HGO3.out.below hb)
  have HB4 := Lib.hid (HB3.out.trans (hb.mono HB3.out.size))
  have Rg4 := Lib.hid ((hb.block _ (Array.getElem?_eq_some_iff.1 Rg3.out).1).trans Rg3.out)
  have Rh4 := Lib.hid ((hb.block _ (Array.getElem?_eq_some_iff.1 Rh3.out).1).trans Rh3.out)
  have HNb := Lib.hid hn
  have HTb := Lib.hid h201
  have HGb4 := Lib.hid hgo
  have hs4 := Lib.hid (Nat.le_trans hs3.out hb.size)
  clear hn h201 hgo hb
  have cg0 := cell_of_row _ _ 0 _ _ _ Rg4.out
  have cg1 := cell_of_row _ _ 1 _ _ _ Rg4.out
  have ch0 := cell_of_row _ _ 0 _ _ _ Rh4.out
  have ch1 := cell_of_row _ _ 1 _ _ _ Rh4.out
  have fh0 := frozen_of_row _ _ 0 _ _ Rh4.out
  have fh1 := frozen_of_row _ _ 1 _ _ Rh4.out
  go_wp2_with fail
  obtain ⟨v5, hv⟩ : ∃ v, ((v4.setCell ⟨w.heap.size + 1, 0, none⟩ (.int .i64 s)).setCell ⟨w.heap.size + 1, 1, none⟩ (.slice q' m c')) = v := ⟨_, rfl⟩
  rw [hv]
  have rr := (heap_setCell_same _ (w.heap.size + 1) 1 _ _ (.slice q' m c') (heap_setCell_same v4 (w.heap.size + 1) 0 _ _ (.int .i64 s) Rh4.out))
  rw [hv] at rr
  have g : v4.grownBy v5 (some (w.heap.size + 1)) := by rw [← hv]; exact (gB_setCell (gB_setCell (gB_refl _ _) _ _) _ _)
  have hbs : Below w.heap.size v4 v5 := below_of_grown g (by omega) HB4.out.size
  have Rh5 := Lib.hid rr
  have Rg5 := Lib.hid ((g.block w.heap.size (Array.getElem?_eq_some_iff.1 Rg4.out).1 (by simp)).trans Rg4.out)
  have HB5 := Lib.hid (HB4.out.trans hbs)
  have HE5 := Lib.hid (HEE.out.below HB5.out)
  have HGO5 := Lib.hid (GO.keepB HGO4.out g (by have := hs1.out; omega))
  have HHO5 := Lib.hid (GO.keepB HGb4.out g (by have := hs3.out; omega))
  have HG5 := Lib.hid (HGO5.out.gl HNa.out HTa.out)
  have HH5 := Lib.hid (HHO5.out.gl HNb.out HTb.out)
  have HKa := Lib.hid HGO5.out.k12
  have HKb := Lib.hid HHO5.out.k12
  have hDn := Lib.hid (show L'.toArray.size = n from by rw [List.size_toArray]; exact HNa.out)
  have hEn := Lib.hid (show M'.toArray.size = m from by rw [List.size_toArray]; exact HNb.out)
  obtain ⟨D, hD⟩ : ∃ D, L'.toArray = D := ⟨_, rfl⟩
  obtain ⟨F, hF⟩ : ∃ D, M'.toArray = D := ⟨_, rfl⟩
  rw [hD] at HG5 HKa hDn
  rw [hF] at HH5 HKb hEn
  clear cg0 cg1 ch0 ch1
  clear fh0 fh1 hv rr g hbs hD hF HGO5 HHO5 HGO4 HGO3 HGb4 HGa2
  by_cases hea : (checkG r D.toList).2 = 0
  · by_cases heb : (checkG s F.toList).2 = 0
    · have c1 := Alike14_in r s D F n m q q' c c' v5 hDn.out hEn.out HE5.out HG5.out HH5.out HKa.out HKb.out
      have t1 := fun W E G => Tidy15_in r D n q c W hDn.out E G HKa.out
      have t2 := fun W E G => Tidy15_in s F m q' c' W hEn.out E G HKb.out
      obtain ⟨hba, hra1, hra2, hra3⟩ := check_right hea
      obtain ⟨hbb, hrb1, hrb2, hrb3⟩ := check_right heb
      have hpg : alikeG r s D F = (alikeB D F r.toNat s.toNat, 0) := by unfold alikeG; rw [if_pos hea, if_pos heb]
      have hmath := Lib.hid fun T U (hT : TidyG D T (wk D r.toNat)) (hU : TidyG F U (wk F s.toNat)) => alikeB_tidy hba hbb hra2 hrb2 hT hU
      rw [hpg] at c1
      rw [hea] at t1
      rw [heb] at t2
      obtain ⟨b, hbd⟩ : ∃ b, alikeB D F r.toNat s.toNat = b := ⟨_, rfl⟩
      rw [hbd] at c1 hmath
      clear hba hra1 hra2 hra3 hbb hrb1 hrb2 hrb3 hpg hea heb hbd
      have C1 := Lib.hid c1
      have T1 := Lib.hid t1
      have T2 := Lib.hid t2
      clear c1 t1 t2
      refine C1.out.mono ?_
      rintro e v6 ⟨rfl, hb⟩
      have HE6 := Lib.hid (HE5.out.below hb)
      have HG6 := Lib.hid (HG5.out.below hb)
      have HH6 := Lib.hid (HH5.out.below hb)
      have HB6 := Lib.hid (HB5.out.trans (hb.mono HB5.out.size))
      have Rg6 := Lib.hid ((hb.block _ (Array.getElem?_eq_some_iff.1 Rg5.out).1).trans Rg5.out)
      have Rh6 := Lib.hid ((hb.block _ (Array.getElem?_eq_some_iff.1 Rh5.out).1).trans Rh5.out)
      clear hb
      have cg0 := cell_of_row _ _ 0 _ _ _ Rg6.out
      have cg1 := cell_of_row _ _ 1 _ _ _ Rg6.out
      have ch0 := cell_of_row _ _ 0 _ _ _ Rh6.out
      have ch1 := cell_of_row _ _ 1 _ _ _ Rh6.out
      go_wp2_with fail
      refine (T1.out v6 HE6.out HG6.out).mono ?_
      rintro e v7 ⟨T, q2, c2, rfl, hgT, hT, -, hb⟩
      clear cg0 cg1 ch0 ch1
      have HE7 := Lib.hid (HE6.out.below hb)
      have HG7 := Lib.hid (HG6.out.below hb)
      have HH7 := Lib.hid (HH6.out.below hb)
      have HB7 := Lib.hid (HB6.out.trans (hb.mono HB6.out.size))
      have Rg7 := Lib.hid ((hb.block _ (Array.getElem?_eq_some_iff.1 Rg6.out).1).trans Rg6.out)
      have Rh7 := Lib.hid ((hb.block _ (Array.getElem?_eq_some_iff.1 Rh6.out).1).trans Rh6.out)
      have HT7 := Lib.hid hgT
      have HTT := Lib.hid hT
      clear hb hgT hT
      have cg0 := cell_of_row _ _ 0 _ _ _ Rg7.out
      have cg1 := cell_of_row _ _ 1 _ _ _ Rg7.out
      have ch0 := cell_of_row _ _ 0 _ _ _ Rh7.out
      have ch1 := cell_of_row _ _ 1 _ _ _ Rh7.out
      have hlg : w.heap.size < v7.heap.size := (Array.getElem?_eq_some_iff.1 Rg7.out).1
      have hlh : w.heap.size + 1 < v7.heap.size := (Array.getElem?_eq_some_iff.1 Rh7.out).1
      obtain ⟨v8, hv, _, hb, hx⟩ := at1 v7 (.cells #[.int .i64 0, .slice q2 T.size c2] 24)
      have HV8 := Lib.hid hv
      have Rx8 := Lib.hid hx
      have HE8 := Lib.hid (HE7.out.below hb)
      have HG8 := Lib.hid (HG7.out.below hb)
      have HH8 := Lib.hid (HH7.out.below hb)
      have HT8 := Lib.hid (HT7.out.below hb)
      have HB8 := Lib.hid (HB7.out.trans (hb.mono HB7.out.size))
      have Rg8 := Lib.hid ((hb.block _ (Array.getElem?_eq_some_iff.1 Rg7.out).1).trans Rg7.out)
      have Rh8 := Lib.hid ((hb.block _ (Array.getElem?_eq_some_iff.1 Rh7.out).1).trans Rh7.out)
      clear hb hv hx
      go_wp2_with fail
      rw [HV8.out]
      refine (T2.out v8 HE8.out HH8.out).mono ?_
      rintro e v9 ⟨U, q3, c3, rfl, hgU, hU, -, hb⟩
      clear cg0 cg1 ch0 ch1
      have HE9 := Lib.hid (HE8.out.below hb)
      have HG9 := Lib.hid (HG8.out.below hb)
      have HH9 := Lib.hid (HH8.out.below hb)
      have HT9 := Lib.hid (HT8.out.below hb)
      have HB9 := Lib.hid (HB8.out.trans (hb.mono HB8.out.size))
      have Rg9 := Lib.hid ((hb.block _ (Array.getElem?_eq_some_iff.1 Rg8.out).1).trans Rg8.out)
      have Rh9 := Lib.hid ((hb.block _ (Array.getElem?_eq_some_iff.1 Rh8.out).1).trans Rh8.out)
      have Rx9 := Lib.hid ((hb.block _ (Array.getElem?_eq_some_iff.1 Rx8.out).1).trans Rx8.out)
      have HU9 := Lib.hid hgU
      have HUU := Lib.hid hU
      clear hb hgU hU hlg hlh
      have cg0 := cell_of_row _ _ 0 _ _ _ Rg9.out
      have cg1 := cell_of_row _ _ 1 _ _ _ Rg9.out
      have ch0 := cell_of_row _ _ 0 _ _ _ Rh9.out
      have ch1 := cell_of_row _ _ 1 _ _ _ Rh9.out
      have cx0 := cell_of_row _ _ 0 _ _ _ Rx9.out
      have cx1 := cell_of_row _ _ 1 _ _ _ Rx9.out
      have hlg : w.heap.size < v9.heap.size := (Array.getElem?_eq_some_iff.1 Rg9.out).1
      have hlx : v7.heap.size < v9.heap.size := (Array.getElem?_eq_some_iff.1 Rx9.out).1
      obtain ⟨v10, hv, _, hb, hx⟩ := at1 v9 (.cells #[.int .i64 0, .slice q3 U.size c3] 24)
      have HV10 := Lib.hid hv
      have Ry10 := Lib.hid hx
      have HE10 := Lib.hid (HE9.out.below hb)
      have HT10 := Lib.hid (HT9.out.below hb)
      have HU10 := Lib.hid (HU9.out.below hb)
      have HB10 := Lib.hid (HB9.out.trans (hb.mono HB9.out.size))
      have Rg10 := Lib.hid ((hb.block _ (Array.getElem?_eq_some_iff.1 Rg9.out).1).trans Rg9.out)
      have Rh10 := Lib.hid ((hb.block _ (Array.getElem?_eq_some_iff.1 Rh9.out).1).trans Rh9.out)
      have Rx10 := Lib.hid ((hb.block _ (Array.getElem?_eq_some_iff.1 Rx9.out).1).trans Rx9.out)
      have hsm := Lib.hid (Same_any 0 0 T U q2 q3 c2 c3 v10 HT10.out HU10.out)
      have hbb := Lib.hid (hmath.out T U (HTT.out (by trivial)) (HUU.out (by trivial)))
      clear hb hv hx
      go_wp2_with fail
      rw [HV10.out]
      refine hsm.out.mono ?_
      rintro e v11 ⟨rfl, hb⟩
      have HB11 := Lib.hid (HB10.out.trans (hb.mono HB10.out.size))
      clear hb
      rw [← hbb.out]
      have hbe : (b == b) = true := by simp
      go_wp2_with fail
      go_ret
      exact ⟨rfl, HB11.out⟩
    · have c1 := Alike14_in r s D F n m q q' c c' v5 hDn.out hEn.out HE5.out HG5.out HH5.out HKa.out HKb.out
      have t1 := fun W E G => Tidy15_in r D n q c W hDn.out E G HKa.out
      have t2 := fun W E G => Tidy15_in s F m q' c' W hEn.out E G HKb.out
      have hpg : alikeG r s D F = (false, (checkG s F.toList).2) := by unfold alikeG; rw [if_pos hea, if_neg heb]
      rw [hpg] at c1
      rw [hea] at t1
      obtain ⟨eb, hbd⟩ : ∃ b, (checkG s F.toList).2 = b := ⟨_, rfl⟩
      rw [hbd] at c1 t2 heb
      have hne : (eb != 0) = true := by simp [heb]
      have hne2 : ((0 : Int) == eb) = false := by simp [Ne.symm heb]
      clear hpg hea hbd
      have C1 := Lib.hid c1
      have T1 := Lib.hid t1
      have T2 := Lib.hid t2
      clear c1 t1 t2
      refine C1.out.mono ?_
      rintro e v6 ⟨rfl, hb⟩
      have HE6 := Lib.hid (HE5.out.below hb)
      have HG6 := Lib.hid (HG5.out.below hb)
      have HH6 := Lib.hid (HH5.out.below hb)
      have HB6 := Lib.hid (HB5.out.trans (hb.mono HB5.out.size))
      have Rg6 := Lib.hid ((hb.block _ (Array.getElem?_eq_some_iff.1 Rg5.out).1).trans Rg5.out)
      have Rh6 := Lib.hid ((hb.block _ (Array.getElem?_eq_some_iff.1 Rh5.out).1).trans Rh5.out)
      clear hb
      have cg0 := cell_of_row _ _ 0 _ _ _ Rg6.out
      have cg1 := cell_of_row _ _ 1 _ _ _ Rg6.out
      have ch0 := cell_of_row _ _ 0 _ _ _ Rh6.out
      have ch1 := cell_of_row _ _ 1 _ _ _ Rh6.out
      go_wp2_with fail
      refine (T1.out v6 HE6.out HG6.out).mono ?_
      rintro e v7 ⟨T, q2, c2, rfl, hgT, hT, -, hb⟩
      clear cg0 cg1 ch0 ch1
      have HE7 := Lib.hid (HE6.out.below hb)
      have HG7 := Lib.hid (HG6.out.below hb)
      have HH7 := Lib.hid (HH6.out.below hb)
      have HB7 := Lib.hid (HB6.out.trans (hb.mono HB6.out.size))
      have Rg7 := Lib.hid ((hb.block _ (Array.getElem?_eq_some_iff.1 Rg6.out).1).trans Rg6.out)
      have Rh7 := Lib.hid ((hb.block _ (Array.getElem?_eq_some_iff.1 Rh6.out).1).trans Rh6.out)
      have HT7 := Lib.hid hgT
      have HTT := Lib.hid hT
      clear hb hgT hT
      have cg0 := cell_of_row _ _ 0 _ _ _ Rg7.out
      have cg1 := cell_of_row _ _ 1 _ _ _ Rg7.out
      have ch0 := cell_of_row _ _ 0 _ _ _ Rh7.out
      have ch1 := cell_of_row _ _ 1 _ _ _ Rh7.out
      have hlg : w.heap.size < v7.heap.size := (Array.getElem?_eq_some_iff.1 Rg7.out).1
      have hlh : w.heap.size + 1 < v7.heap.size := (Array.getElem?_eq_some_iff.1 Rh7.out).1
      obtain ⟨v8, hv, _, hb, hx⟩ := at1 v7 (.cells #[.int .i64 0, .slice q2 T.size c2] 24)
      have HV8 := Lib.hid hv
      have Rx8 := Lib.hid hx
      have HE8 := Lib.hid (HE7.out.below hb)
      have HG8 := Lib.hid (HG7.out.below hb)
      have HH8 := Lib.hid (HH7.out.below hb)
      have HT8 := Lib.hid (HT7.out.below hb)
      have HB8 := Lib.hid (HB7.out.trans (hb.mono HB7.out.size))
      have Rg8 := Lib.hid ((hb.block _ (Array.getElem?_eq_some_iff.1 Rg7.out).1).trans Rg7.out)
      have Rh8 := Lib.hid ((hb.block _ (Array.getElem?_eq_some_iff.1 Rh7.out).1).trans Rh7.out)
      clear hb hv hx
      go_wp2_with fail
      rw [HV8.out]
      refine (T2.out v8 HE8.out HH8.out).mono ?_
      rintro e v9 ⟨U, q3, c3, rfl, hgU, hU, -, hb⟩
      clear cg0 cg1 ch0 ch1
      have HE9 := Lib.hid (HE8.out.below hb)
      have HG9 := Lib.hid (HG8.out.below hb)
      have HH9 := Lib.hid (HH8.out.below hb)
      have HT9 := Lib.hid (HT8.out.below hb)
      have HB9 := Lib.hid (HB8.out.trans (hb.mono HB8.out.size))
      have Rg9 := Lib.hid ((hb.block _ (Array.getElem?_eq_some_iff.1 Rg8.out).1).trans Rg8.out)
      have Rh9 := Lib.hid ((hb.block _ (Array.getElem?_eq_some_iff.1 Rh8.out).1).trans Rh8.out)
      have Rx9 := Lib.hid ((hb.block _ (Array.getElem?_eq_some_iff.1 Rx8.out).1).trans Rx8.out)
      have HU9 := Lib.hid hgU
      have HUU := Lib.hid hU
      clear hb hgU hU hlg hlh
      have cg0 := cell_of_row _ _ 0 _ _ _ Rg9.out
      have cg1 := cell_of_row _ _ 1 _ _ _ Rg9.out
      have ch0 := cell_of_row _ _ 0 _ _ _ Rh9.out
      have ch1 := cell_of_row _ _ 1 _ _ _ Rh9.out
      have cx0 := cell_of_row _ _ 0 _ _ _ Rx9.out
      have cx1 := cell_of_row _ _ 1 _ _ _ Rx9.out
      go_wp2_with fail
      go_ret
      exact ⟨rfl, HB9.out.alloc HB9.out.size _⟩
  · have c1 := Alike14_in r s D F n m q q' c c' v5 hDn.out hEn.out HE5.out HG5.out HH5.out HKa.out HKb.out
    have t1 := fun W E G => Tidy15_in r D n q c W hDn.out E G HKa.out
    have t2 := fun W E G => Tidy15_in s F m q' c' W hEn.out E G HKb.out
    have hpg : alikeG r s D F = (false, (checkG r D.toList).2) := by unfold alikeG; rw [if_neg hea]
    rw [hpg] at c1
    obtain ⟨ea, had⟩ : ∃ b, (checkG r D.toList).2 = b := ⟨_, rfl⟩
    rw [had] at c1 t1 hea
    have hne : (ea != 0) = true := by simp [hea]
    obtain ⟨eb, hbd⟩ : ∃ b, (checkG s F.toList).2 = b := ⟨_, rfl⟩
    rw [hbd] at t2
    clear hpg had hbd
    have C1 := Lib.hid c1
    have T1 := Lib.hid t1
    have T2 := Lib.hid t2
    clear c1 t1 t2
    refine C1.out.mono ?_
    rintro e v6 ⟨rfl, hb⟩
    have HE6 := Lib.hid (HE5.out.below hb)
    have HG6 := Lib.hid (HG5.out.below hb)
    have HH6 := Lib.hid (HH5.out.below hb)
    have HB6 := Lib.hid (HB5.out.trans (hb.mono HB5.out.size))
    have Rg6 := Lib.hid ((hb.block _ (Array.getElem?_eq_some_iff.1 Rg5.out).1).trans Rg5.out)
    have Rh6 := Lib.hid ((hb.block _ (Array.getElem?_eq_some_iff.1 Rh5.out).1).trans Rh5.out)
    clear hb
    have cg0 := cell_of_row _ _ 0 _ _ _ Rg6.out
    have cg1 := cell_of_row _ _ 1 _ _ _ Rg6.out
    have ch0 := cell_of_row _ _ 0 _ _ _ Rh6.out
    have ch1 := cell_of_row _ _ 1 _ _ _ Rh6.out
    go_wp2_with fail
    refine (T1.out v6 HE6.out HG6.out).mono ?_
    rintro e v7 ⟨T, q2, c2, rfl, hgT, hT, -, hb⟩
    clear cg0 cg1 ch0 ch1
    have HE7 := Lib.hid (HE6.out.below hb)
    have HG7 := Lib.hid (HG6.out.below hb)
    have HH7 := Lib.hid (HH6.out.below hb)
    have HB7 := Lib.hid (HB6.out.trans (hb.mono HB6.out.size))
    have Rg7 := Lib.hid ((hb.block _ (Array.getElem?_eq_some_iff.1 Rg6.out).1).trans Rg6.out)
    have Rh7 := Lib.hid ((hb.block _ (Array.getElem?_eq_some_iff.1 Rh6.out).1).trans Rh6.out)
    have HT7 := Lib.hid hgT
    have HTT := Lib.hid hT
    clear hb hgT hT
    have cg0 := cell_of_row _ _ 0 _ _ _ Rg7.out
    have cg1 := cell_of_row _ _ 1 _ _ _ Rg7.out
    have ch0 := cell_of_row _ _ 0 _ _ _ Rh7.out
    have ch1 := cell_of_row _ _ 1 _ _ _ Rh7.out
    have hlg : w.heap.size < v7.heap.size := (Array.getElem?_eq_some_iff.1 Rg7.out).1
    have hlh : w.heap.size + 1 < v7.heap.size := (Array.getElem?_eq_some_iff.1 Rh7.out).1
    obtain ⟨v8, hv, _, hb, hx⟩ := at1 v7 (.cells #[.int .i64 0, .slice q2 T.size c2] 24)
    have HV8 := Lib.hid hv
    have Rx8 := Lib.hid hx
    have HE8 := Lib.hid (HE7.out.below hb)
    have HG8 := Lib.hid (HG7.out.below hb)
    have HH8 := Lib.hid (HH7.out.below hb)
    have HT8 := Lib.hid (HT7.out.below hb)
    have HB8 := Lib.hid (HB7.out.trans (hb.mono HB7.out.size))
    have Rg8 := Lib.hid ((hb.block _ (Array.getElem?_eq_some_iff.1 Rg7.out).1).trans Rg7.out)
    have Rh8 := Lib.hid ((hb.block _ (Array.getElem?_eq_some_iff.1 Rh7.out).1).trans Rh7.out)
    clear hb hv hx
    go_wp2_with fail
    rw [HV8.out]
    refine (T2.out v8 HE8.out HH8.out).mono ?_
    rintro e v9 ⟨U, q3, c3, rfl, hgU, hU, -, hb⟩
    clear cg0 cg1 ch0 ch1
    have HE9 := Lib.hid (HE8.out.below hb)
    have HG9 := Lib.hid (HG8.out.below hb)
    have HH9 := Lib.hid (HH8.out.below hb)
    have HT9 := Lib.hid (HT8.out.below hb)
    have HB9 := Lib.hid (HB8.out.trans (hb.mono HB8.out.size))
    have Rg9 := Lib.hid ((hb.block _ (Array.getElem?_eq_some_iff.1 Rg8.out).1).trans Rg8.out)
    have Rh9 := Lib.hid ((hb.block _ (Array.getElem?_eq_some_iff.1 Rh8.out).1).trans Rh8.out)
    have Rx9 := Lib.hid ((hb.block _ (Array.getElem?_eq_some_iff.1 Rx8.out).1).trans Rx8.out)
    have HU9 := Lib.hid hgU
    have HUU := Lib.hid hU
    clear hb hgU hU hlg hlh
    have cg0 := cell_of_row _ _ 0 _ _ _ Rg9.out
    have cg1 := cell_of_row _ _ 1 _ _ _ Rg9.out
    have ch0 := cell_of_row _ _ 0 _ _ _ Rh9.out
    have ch1 := cell_of_row _ _ 1 _ _ _ Rh9.out
    have cx0 := cell_of_row _ _ 0 _ _ _ Rx9.out
    have cx1 := cell_of_row _ _ 1 _ _ _ Rx9.out
    go_wp2_with fail
    go_ret
    exact ⟨rfl, HB9.out.alloc HB9.out.size _⟩
end Go.Proofs.YtepelpmkmhhokaaGreatDoor
