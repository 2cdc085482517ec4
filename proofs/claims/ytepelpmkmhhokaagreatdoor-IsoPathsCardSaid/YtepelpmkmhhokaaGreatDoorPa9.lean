/- In graphs that are alike each path leads somewhere in both, or in none. Conditions: the graphs and the path came in. -/
import Derived.Test.YtepelpmkmhhokaaGreatDoorOr9
import Derived.Test.YtepelpmkmhhokaaGreatDoorPat
import Derived.Test.YtepelpmkmhhokaaGreatDoorRpa
import Derived.Test.YtepelpmkmhhokaaGreatDoorSsx
import Derived.Test.YtepelpmkmhhokaaGreatDoorWpx
set_option maxRecDepth 100000
namespace Go.Proofs.YtepelpmkmhhokaaGreatDoor
open Go.RowKit Go.Shelf
open Scs Dfs
set_option maxHeartbeats 16000000 in
theorem walkIsoPaths (ra rb : Int) (L M : Array Fn) (p p' : Option Addr) (cap cap' : Nat) (P : Array Int) (ps : Nat) (pp : Option Addr) (pc : Nat) (w : World) (E : Env w) (hg : GlR w p L) (hh : GlR w p' M) (hP : IlR w pp P) (hps : P.size = ps) (hc : ps ≤ pc) :
    Calls Tryz.prog 7 #[.agg #[.int .i64 ra, .slice p L.size cap], .agg #[.int .i64 rb, .slice p' M.size cap'], .slice pp ps pc] w fun e w' => e = .returned (.bool true) ∧ Below w.heap.size w w' := by
  have HEE := Lib.hid E
  obtain ⟨Q, hQ⟩ : ∃ Q, P.extract 0 30 = Q := ⟨_, rfl⟩
  obtain ⟨z, hzq⟩ : ∃ n, Q.size = n := ⟨_, rfl⟩
  have hz1 : z = min ps 30 := by rw [← hzq, ← hQ, Array.size_extract]; omega
  have hm1 : min (ps : Int) 30 = (z : Int) := by omega
  have hm2 : (z : Int) ≤ (pc : Int) := by omega
  have HPP := Lib.hid (show Il w pp Q by rw [← hQ]; exact il_first hP)
  have HZQ := Lib.hid hzq
  clear hP hps hc hQ hzq hz1
  obtain ⟨v0, hv0, hz0, hb0, r0, r1⟩ := at2 w (.cells #[.int .i64 ra, .slice p L.size cap] 24) (.cells #[.int .i64 rb, .slice p' M.size cap'] 24)
  have HE0 := Lib.hid (E.below hb0)
  have HB0 := Lib.hid hb0
  have HV0 := Lib.hid hv0
  have HZ0 := Lib.hid hz0
  have Rg0 := Lib.hid r0
  have HLg := Lib.hid hg
  have Rh0 := Lib.hid r1
  have HLh := Lib.hid hh
  clear hv0 hb0 E hg hh r0 r1 hz0
  go_enter Tryz.func7, Tryz.ntmps7
  go_wp2_with fail
  rw [HV0.out]
  refine (shown10_any v0 HE0.out).mono ?_
  rintro e v1 ⟨rfl, hb⟩
  have HE1 := Lib.hid (HE0.out.below hb)
  have HB1 := Lib.hid (HB0.out.trans (hb.mono HB0.out.size))
  have Rg1 := Lib.hid ((hb.block _ (Array.getElem?_eq_some_iff.1 Rg0.out).1).trans Rg0.out)
  have Rh1 := Lib.hid ((hb.block _ (Array.getElem?_eq_some_iff.1 Rh0.out).1).trans Rh0.out)
  have hs1 := Lib.hid (show w.heap.size + 2 ≤ v1.heap.size by have := hb.size; have := HZ0.out; omega)
  clear hb
  have cg0 := cell_of_row _ _ 0 _ _ _ Rg1.out
  have cg1 := cell_of_row _ _ 1 _ _ _ Rg1.out
  have ch0 := cell_of_row _ _ 0 _ _ _ Rh1.out
  have ch1 := cell_of_row _ _ 1 _ _ _ Rh1.out
  go_wp2_with fail
  refine (Small11_any ra L p cap v1 (HLg.out.below HB1.out)).mono ?_
  rintro e v2 ⟨r, q, n, c, rfl, ⟨Lg, hn, h201, hgo⟩, hb⟩
  clear cg0 cg1 ch0 ch1
  have HE2 := Lib.hid (HE1.out.below hb)
  have HB2 := Lib.hid (HB1.out.trans (hb.mono HB1.out.size))
  have Rg2 := Lib.hid ((hb.block _ (Array.getElem?_eq_some_iff.1 Rg1.out).1).trans Rg1.out)
  have Rh2 := Lib.hid ((hb.block _ (Array.getElem?_eq_some_iff.1 Rh1.out).1).trans Rh1.out)
  have HNg := Lib.hid hn
  have HTg := Lib.hid h201
  have HOg2 := Lib.hid hgo
  have hs2 := Lib.hid (Nat.le_trans hs1.out hb.size)
  clear hn h201 hgo hb
  have cg0 := cell_of_row _ _ 0 _ _ _ Rg2.out
  have cg1 := cell_of_row _ _ 1 _ _ _ Rg2.out
  have ch0 := cell_of_row _ _ 0 _ _ _ Rh2.out
  have ch1 := cell_of_row _ _ 1 _ _ _ Rh2.out
  have fg0 := frozen_of_row _ _ 0 _ _ Rg2.out
  have fg1 := frozen_of_row _ _ 1 _ _ Rg2.out
  go_wp2_with fail
  obtain ⟨v3, hv⟩ : ∃ v, ((v2.setCell ⟨w.heap.size, 0, none⟩ (.int .i64 r)).setCell ⟨w.heap.size, 1, none⟩ (.slice q n c)) = v := ⟨_, rfl⟩
  rw [hv]
  have rr := (heap_setCell_same _ (w.heap.size) 1 _ _ (.slice q n c) (heap_setCell_same v2 (w.heap.size) 0 _ _ (.int .i64 r) Rg2.out))
  rw [hv] at rr
  have g : v2.grownBy v3 (some (w.heap.size)) := by rw [← hv]; exact (gB_setCell (gB_setCell (gB_refl _ _) _ _) _ _)
  have hbs : Below w.heap.size v2 v3 := below_of_grown g (by omega) HB2.out.size
  have Rg3 := Lib.hid rr
  have Rh3 := Lib.hid ((g.block (w.heap.size + 1) (Array.getElem?_eq_some_iff.1 Rh2.out).1 (by simp)).trans Rh2.out)
  have HB3 := Lib.hid (HB2.out.trans hbs)
  have HE3 := Lib.hid (HEE.out.below HB3.out)
  have hs3 := Lib.hid (Nat.le_trans hs2.out g.size)
  have HOg3 := Lib.hid (GO.keepB HOg2.out g (by have := hs1.out; omega))
  clear cg0 cg1 ch0 ch1
  clear fg0 fg1 hv rr g hbs
  refine (Small11_any rb M p' cap' v3 (HLh.out.below HB3.out)).mono ?_
  rintro e v4 ⟨s, q', m, c', rfl, ⟨Lh, hn, h201, hgo⟩, hb⟩
  have HE4 := Lib.hid (HE3.out.below hb)
  have HOg4 := Lib.hid (HOg3.out.below hb)
  have HB4 := Lib.hid (HB3.out.trans (hb.mono HB3.out.size))
  have Rg4 := Lib.hid ((hb.block _ (Array.getElem?_eq_some_iff.1 Rg3.out).1).trans Rg3.out)
  have Rh4 := Lib.hid ((hb.block _ (Array.getElem?_eq_some_iff.1 Rh3.out).1).trans Rh3.out)
  have HNh := Lib.hid hn
  have HTh := Lib.hid h201
  have HOh4 := Lib.hid hgo
  have hs4 := Lib.hid (Nat.le_trans hs3.out hb.size)
  clear hn h201 hgo hb
  have cg0 := cell_of_row _ _ 0 _ _ _ Rg4.out
  have cg1 := cell_of_row _ _ 1 _ _ _ Rg4.out
  have ch0 := cell_of_row _ _ 0 _ _ _ Rh4.out
  have ch1 := cell_of_row _ _ 1 _ _ _ Rh4.out
  have fh0 := frozen_of_row _ _ 0 _ _ Rh4.out
  have fh1 := frozen_of_row _ _ 1 _ _ Rh4.out
  go_wp2_with fail
  obtain ⟨v5, hv⟩ : ∃ v, ((v4.setCell ⟨w.heap.size + 1, 0, none⟩ (.int .i64 s)).setCell ⟨w.heap.size + 1, 1, none⟩ (.slice q' m c')) = v := ⟨_, rfl⟩
  rw [hv]
  have rr := (heap_setCell_same _ (w.heap.size + 1) 1 _ _ (.slice q' m c') (heap_setCell_same v4 (w.heap.size + 1) 0 _ _ (.int .i64 s) Rh4.out))
  rw [hv] at rr
  have g : v4.grownBy v5 (some (w.heap.size + 1)) := by rw [← hv]; exact (gB_setCell (gB_setCell (gB_refl _ _) _ _) _ _)
  have hbs : Below w.heap.size v4 v5 := below_of_grown g (by omega) HB4.out.size
  have Rh5 := Lib.hid rr
  have Rg5 := Lib.hid ((g.block (w.heap.size) (Array.getElem?_eq_some_iff.1 Rg4.out).1 (by simp)).trans Rg4.out)
  have HB5 := Lib.hid (HB4.out.trans hbs)
  have HE5 := Lib.hid (HEE.out.below HB5.out)
  have hs5 := Lib.hid (Nat.le_trans hs4.out g.size)
  have HOg5 := Lib.hid (GO.keepB HOg4.out g (by have := hs1.out; have := hs2.out; have := hs3.out; omega))
  have HOh5 := Lib.hid (GO.keepB HOh4.out g (by have := hs1.out; have := hs2.out; have := hs3.out; omega))
  clear cg0 cg1 ch0 ch1
  clear fh0 fh1 hv rr g hbs
  have HGg5 := Lib.hid (HOg5.out.gl HNg.out HTg.out)
  have HKg := Lib.hid HOg5.out.k12
  have hDg := Lib.hid (show Lg.toArray.size = n from by rw [List.size_toArray]; exact HNg.out)
  obtain ⟨D, hD⟩ : ∃ D, Lg.toArray = D := ⟨_, rfl⟩
  rw [hD] at HGg5 HKg hDg
  clear hD
  have HGh5 := Lib.hid (HOh5.out.gl HNh.out HTh.out)
  have HKh := Lib.hid HOh5.out.k12
  have hDh := Lib.hid (show Lh.toArray.size = m from by rw [List.size_toArray]; exact HNh.out)
  obtain ⟨F, hD⟩ : ∃ D, Lh.toArray = D := ⟨_, rfl⟩
  rw [hD] at HGh5 HKh hDh
  clear hD
  by_cases hea : (checkG r D.toList).2 = 0
  · by_cases heb : (checkG s F.toList).2 = 0
    · by_cases hab : alikeB D F r.toNat s.toNat = true
      · rcases alike_atG (check_right hea).1 (check_right heb).1 (check_right hea).2.2.1 (check_right heb).2.2.1 (alikeB_iff.1 hab) Q.toList with ⟨hat1, hat2⟩ | ⟨a, b, ha, hbl, hat1, hat2, hfit, hal⟩
        · have c1 := Alike14_in r s D F n m q q' c c' v5 hDg.out hDh.out HE5.out HGg5.out HGh5.out HKg.out HKh.out
          have t1 := fun W E G I => At17_in r D n q c Q z pp pc W hDg.out HZQ.out E G HKg.out I
          have t2 := fun W E G I => At17_in s F m q' c' Q z pp pc W hDh.out HZQ.out E G HKh.out I
          have w1 := fun W E G => Walk13_in r D n q c W hDg.out E G HKg.out
          have w2 := fun W E G => Walk13_in s F m q' c' W hDh.out E G HKh.out
          have hpg : alikeG r s D F = (alikeB D F r.toNat s.toNat, 0) := by unfold alikeG; rw [if_pos hea, if_pos heb]
          rw [hpg, hab] at c1
          clear hpg
          have hcnt := alike_countG (check_right hea).1 (check_right heb).1 (check_right hea).2.2.1 (check_right heb).2.2.1 (alikeB_iff.1 hab)
          have hwd : (walkG r D).1 = wk D r.toNat := by unfold walkG; rw [if_pos hea]
          have hwf : (walkG s F).1 = wk F s.toNat := by unfold walkG; rw [if_pos heb]
          have hk1 : (walkG s F).1.length = (walkG r D).1.length := by rw [hwd, hwf, hcnt.1, hcnt.2]
          obtain ⟨xl, hxl⟩ : ∃ x, (walkG r D).1.length = x := ⟨_, rfl⟩
          obtain ⟨xv, hxv⟩ : ∃ x, (walkG r D).2 = x := ⟨_, rfl⟩
          obtain ⟨xw, hxw⟩ : ∃ x, (walkG s F).2 = x := ⟨_, rfl⟩
          rw [hxl, hxv] at w1
          rw [hk1, hxl, hxw] at w2
          clear hcnt hwd hwf hk1 hxl hxv hxw
          have ea1 : (atG r D Q.toList).2 = false := by unfold atG; rw [if_pos hea, hat1]; rfl
          have ea2 : (atG s F Q.toList).2 = false := by unfold atG; rw [if_pos heb, hat2]; rfl
          obtain ⟨xa, hxa⟩ : ∃ x, (atG r D Q.toList).1 = x := ⟨_, rfl⟩
          obtain ⟨xb, hxb⟩ : ∃ x, (atG s F Q.toList).1 = x := ⟨_, rfl⟩
          rw [hxa, ea1] at t1
          rw [hxb, ea2] at t2
          clear ea1 ea2 hxa hxb hat1 hat2 hea heb hab
          have C1 := Lib.hid c1
          have T1 := Lib.hid t1
          have T2 := Lib.hid t2
          have W1 := Lib.hid w1
          have W2 := Lib.hid w2
          have HP5 := Lib.hid (HPP.out.below HB5.out)
          clear t1 t2 w1 w2
          clear c1
          refine C1.out.mono ?_
          rintro e v6 ⟨rfl, hb⟩
          have HE6 := Lib.hid (HE5.out.below hb)
          have HGg6 := Lib.hid (HGg5.out.below hb)
          have HGh6 := Lib.hid (HGh5.out.below hb)
          have HP6 := Lib.hid (HP5.out.below hb)
          have HB6 := Lib.hid (HB5.out.trans (hb.mono HB5.out.size))
          have Rg6 := Lib.hid ((hb.block _ (Array.getElem?_eq_some_iff.1 Rg5.out).1).trans Rg5.out)
          have Rh6 := Lib.hid ((hb.block _ (Array.getElem?_eq_some_iff.1 Rh5.out).1).trans Rh5.out)
          clear hb
          have cg0 := cell_of_row _ _ 0 _ _ _ Rg6.out
          have cg1 := cell_of_row _ _ 1 _ _ _ Rg6.out
          have ch0 := cell_of_row _ _ 0 _ _ _ Rh6.out
          have ch1 := cell_of_row _ _ 1 _ _ _ Rh6.out
          go_wp2_with fail
          refine (T1.out v6 HE6.out HGg6.out HP6.out).mono ?_
          rintro e v7 ⟨rfl, hb⟩
          clear cg0 cg1 ch0 ch1
          have HE7 := Lib.hid (HE6.out.below hb)
          have HGg7 := Lib.hid (HGg6.out.below hb)
          have HGh7 := Lib.hid (HGh6.out.below hb)
          have HP7 := Lib.hid (HP6.out.below hb)
          have HB7 := Lib.hid (HB6.out.trans (hb.mono HB6.out.size))
          have Rg7 := Lib.hid ((hb.block _ (Array.getElem?_eq_some_iff.1 Rg6.out).1).trans Rg6.out)
          have Rh7 := Lib.hid ((hb.block _ (Array.getElem?_eq_some_iff.1 Rh6.out).1).trans Rh6.out)
          clear hb
          have cg0 := cell_of_row _ _ 0 _ _ _ Rg7.out
          have cg1 := cell_of_row _ _ 1 _ _ _ Rg7.out
          have ch0 := cell_of_row _ _ 0 _ _ _ Rh7.out
          have ch1 := cell_of_row _ _ 1 _ _ _ Rh7.out
          go_wp2_with fail
          refine (T2.out v7 HE7.out HGh7.out HP7.out).mono ?_
          rintro e v8 ⟨rfl, hb⟩
          clear cg0 cg1 ch0 ch1
          have HE8 := Lib.hid (HE7.out.below hb)
          have HGg8 := Lib.hid (HGg7.out.below hb)
          have HGh8 := Lib.hid (HGh7.out.below hb)
          have HB8 := Lib.hid (HB7.out.trans (hb.mono HB7.out.size))
          have Rg8 := Lib.hid ((hb.block _ (Array.getElem?_eq_some_iff.1 Rg7.out).1).trans Rg7.out)
          have Rh8 := Lib.hid ((hb.block _ (Array.getElem?_eq_some_iff.1 Rh7.out).1).trans Rh7.out)
          clear hb
          have cg0 := cell_of_row _ _ 0 _ _ _ Rg8.out
          have cg1 := cell_of_row _ _ 1 _ _ _ Rg8.out
          have ch0 := cell_of_row _ _ 0 _ _ _ Rh8.out
          have ch1 := cell_of_row _ _ 1 _ _ _ Rh8.out
          go_wp2_with fail
          refine (W1.out v8 HE8.out HGg8.out).mono ?_
          rintro e v9 ⟨q2, c2, rfl, -, hb⟩
          clear cg0 cg1 ch0 ch1
          have HE9 := Lib.hid (HE8.out.below hb)
          have HGg9 := Lib.hid (HGg8.out.below hb)
          have HGh9 := Lib.hid (HGh8.out.below hb)
          have HB9 := Lib.hid (HB8.out.trans (hb.mono HB8.out.size))
          have Rg9 := Lib.hid ((hb.block _ (Array.getElem?_eq_some_iff.1 Rg8.out).1).trans Rg8.out)
          have Rh9 := Lib.hid ((hb.block _ (Array.getElem?_eq_some_iff.1 Rh8.out).1).trans Rh8.out)
          clear hb
          have cg0 := cell_of_row _ _ 0 _ _ _ Rg9.out
          have cg1 := cell_of_row _ _ 1 _ _ _ Rg9.out
          have ch0 := cell_of_row _ _ 0 _ _ _ Rh9.out
          have ch1 := cell_of_row _ _ 1 _ _ _ Rh9.out
          go_wp2_with fail
          refine (W2.out v9 HE9.out HGh9.out).mono ?_
          rintro e v10 ⟨q3, c3, rfl, -, hb⟩
          clear cg0 cg1 ch0 ch1
          have HE10 := Lib.hid (HE9.out.below hb)
          have HGg10 := Lib.hid (HGg9.out.below hb)
          have HGh10 := Lib.hid (HGh9.out.below hb)
          have HB10 := Lib.hid (HB9.out.trans (hb.mono HB9.out.size))
          have Rg10 := Lib.hid ((hb.block _ (Array.getElem?_eq_some_iff.1 Rg9.out).1).trans Rg9.out)
          have Rh10 := Lib.hid ((hb.block _ (Array.getElem?_eq_some_iff.1 Rh9.out).1).trans Rh9.out)
          clear hb
          go_wp2_with fail
          go_ret
          exact ⟨rfl, HB10.out⟩
        · have c1 := Alike14_in r s D F n m q q' c c' v5 hDg.out hDh.out HE5.out HGg5.out HGh5.out HKg.out HKh.out
          have t1 := fun W E G I => At17_in r D n q c Q z pp pc W hDg.out HZQ.out E G HKg.out I
          have t2 := fun W E G I => At17_in s F m q' c' Q z pp pc W hDh.out HZQ.out E G HKh.out I
          have w1 := fun W E G => Walk13_in r D n q c W hDg.out E G HKg.out
          have w2 := fun W E G => Walk13_in s F m q' c' W hDh.out E G HKh.out
          have hpg : alikeG r s D F = (alikeB D F r.toNat s.toNat, 0) := by unfold alikeG; rw [if_pos hea, if_pos heb]
          rw [hpg, hab] at c1
          clear hpg
          have hcnt := alike_countG (check_right hea).1 (check_right heb).1 (check_right hea).2.2.1 (check_right heb).2.2.1 (alikeB_iff.1 hab)
          have hwd : (walkG r D).1 = wk D r.toNat := by unfold walkG; rw [if_pos hea]
          have hwf : (walkG s F).1 = wk F s.toNat := by unfold walkG; rw [if_pos heb]
          have hk1 : (walkG s F).1.length = (walkG r D).1.length := by rw [hwd, hwf, hcnt.1, hcnt.2]
          obtain ⟨xl, hxl⟩ : ∃ x, (walkG r D).1.length = x := ⟨_, rfl⟩
          obtain ⟨xv, hxv⟩ : ∃ x, (walkG r D).2 = x := ⟨_, rfl⟩
          obtain ⟨xw, hxw⟩ : ∃ x, (walkG s F).2 = x := ⟨_, rfl⟩
          rw [hxl, hxv] at w1
          rw [hk1, hxl, hxw] at w2
          clear hcnt hwd hwf hk1 hxl hxv hxw
          have ea1 : atG r D Q.toList = ((a : Int), true) := by unfold atG; rw [if_pos hea, hat1]; rfl
          have ea2 : atG s F Q.toList = ((b : Int), true) := by unfold atG; rw [if_pos heb, hat2]; rfl
          have c5 := fun W G G' => Fit19_in r s D F n m q q' c c' a b W hDg.out hDh.out G G' (by have := hDg.out; omega) (by have := hDh.out; omega)
          rw [hfit] at c5
          rw [ea1] at t1
          rw [ea2] at t2
          have ia1 : ¬ (a : Int) < 0 := by omega
          have ia2 : (a : Int) < (n : Int) := by have := hDg.out; omega
          have ib1 : ¬ (b : Int) < 0 := by omega
          have ib2 : (b : Int) < (m : Int) := by have := hDh.out; omega
          have C5 := Lib.hid c5
          clear c5 ea1 ea2 ha hbl hat1 hat2 hfit hal hea heb hab
          have C1 := Lib.hid c1
          have T1 := Lib.hid t1
          have T2 := Lib.hid t2
          have W1 := Lib.hid w1
          have W2 := Lib.hid w2
          have HP5 := Lib.hid (HPP.out.below HB5.out)
          clear t1 t2 w1 w2
          clear c1
          refine C1.out.mono ?_
          rintro e v6 ⟨rfl, hb⟩
          have HE6 := Lib.hid (HE5.out.below hb)
          have HGg6 := Lib.hid (HGg5.out.below hb)
          have HGh6 := Lib.hid (HGh5.out.below hb)
          have HP6 := Lib.hid (HP5.out.below hb)
          have HB6 := Lib.hid (HB5.out.trans (hb.mono HB5.out.size))
          have Rg6 := Lib.hid ((hb.block _ (Array.getElem?_eq_some_iff.1 Rg5.out).1).trans Rg5.out)
          have Rh6 := Lib.hid ((hb.block _ (Array.getElem?_eq_some_iff.1 Rh5.out).1).trans Rh5.out)
          clear hb
          have cg0 := cell_of_row _ _ 0 _ _ _ Rg6.out
          have cg1 := cell_of_row _ _ 1 _ _ _ Rg6.out
          have ch0 := cell_of_row _ _ 0 _ _ _ Rh6.out
          have ch1 := cell_of_row _ _ 1 _ _ _ Rh6.out
          go_wp2_with fail
          refine (T1.out v6 HE6.out HGg6.out HP6.out).mono ?_
          rintro e v7 ⟨rfl, hb⟩
          clear cg0 cg1 ch0 ch1
          have HE7 := Lib.hid (HE6.out.below hb)
          have HGg7 := Lib.hid (HGg6.out.below hb)
          have HGh7 := Lib.hid (HGh6.out.below hb)
          have HP7 := Lib.hid (HP6.out.below hb)
          have HB7 := Lib.hid (HB6.out.trans (hb.mono HB6.out.size))
          have Rg7 := Lib.hid ((hb.block _ (Array.getElem?_eq_some_iff.1 Rg6.out).1).trans Rg6.out)
          have Rh7 := Lib.hid ((hb.block _ (Array.getElem?_eq_some_iff.1 Rh6.out).1).trans Rh6.out)
          clear hb
          have cg0 := cell_of_row _ _ 0 _ _ _ Rg7.out
          have cg1 := cell_of_row _ _ 1 _ _ _ Rg7.out
          have ch0 := cell_of_row _ _ 0 _ _ _ Rh7.out
          have ch1 := cell_of_row _ _ 1 _ _ _ Rh7.out
          go_wp2_with fail
          refine (T2.out v7 HE7.out HGh7.out HP7.out).mono ?_
          rintro e v8 ⟨rfl, hb⟩
          clear cg0 cg1 ch0 ch1
          have HE8 := Lib.hid (HE7.out.below hb)
          have HGg8 := Lib.hid (HGg7.out.below hb)
          have HGh8 := Lib.hid (HGh7.out.below hb)
          have HB8 := Lib.hid (HB7.out.trans (hb.mono HB7.out.size))
          have Rg8 := Lib.hid ((hb.block _ (Array.getElem?_eq_some_iff.1 Rg7.out).1).trans Rg7.out)
          have Rh8 := Lib.hid ((hb.block _ (Array.getElem?_eq_some_iff.1 Rh7.out).1).trans Rh7.out)
          clear hb
          have cg0 := cell_of_row _ _ 0 _ _ _ Rg8.out
          have cg1 := cell_of_row _ _ 1 _ _ _ Rg8.out
          have ch0 := cell_of_row _ _ 0 _ _ _ Rh8.out
          have ch1 := cell_of_row _ _ 1 _ _ _ Rh8.out
          go_wp2_with fail
          refine (W1.out v8 HE8.out HGg8.out).mono ?_
          rintro e v9 ⟨q2, c2, rfl, -, hb⟩
          clear cg0 cg1 ch0 ch1
          have HE9 := Lib.hid (HE8.out.below hb)
          have HGg9 := Lib.hid (HGg8.out.below hb)
          have HGh9 := Lib.hid (HGh8.out.below hb)
          have HB9 := Lib.hid (HB8.out.trans (hb.mono HB8.out.size))
          have Rg9 := Lib.hid ((hb.block _ (Array.getElem?_eq_some_iff.1 Rg8.out).1).trans Rg8.out)
          have Rh9 := Lib.hid ((hb.block _ (Array.getElem?_eq_some_iff.1 Rh8.out).1).trans Rh8.out)
          clear hb
          have cg0 := cell_of_row _ _ 0 _ _ _ Rg9.out
          have cg1 := cell_of_row _ _ 1 _ _ _ Rg9.out
          have ch0 := cell_of_row _ _ 0 _ _ _ Rh9.out
          have ch1 := cell_of_row _ _ 1 _ _ _ Rh9.out
          go_wp2_with fail
          refine (W2.out v9 HE9.out HGh9.out).mono ?_
          rintro e v10 ⟨q3, c3, rfl, -, hb⟩
          clear cg0 cg1 ch0 ch1
          have HE10 := Lib.hid (HE9.out.below hb)
          have HGg10 := Lib.hid (HGg9.out.below hb)
          have HGh10 := Lib.hid (HGh9.out.below hb)
          have HB10 := Lib.hid (HB9.out.trans (hb.mono HB9.out.size))
          have Rg10 := Lib.hid ((hb.block _ (Array.getElem?_eq_some_iff.1 Rg9.out).1).trans Rg9.out)
          have Rh10 := Lib.hid ((hb.block _ (Array.getElem?_eq_some_iff.1 Rh9.out).1).trans Rh9.out)
          clear hb
          have cg0 := cell_of_row _ _ 0 _ _ _ Rg10.out
          have cg1 := cell_of_row _ _ 1 _ _ _ Rg10.out
          have ch0 := cell_of_row _ _ 0 _ _ _ Rh10.out
          have ch1 := cell_of_row _ _ 1 _ _ _ Rh10.out
          go_wp2_with fail
          refine (C5.out v10 HGg10.out HGh10.out).mono ?_
          rintro e v11 ⟨rfl, hb⟩
          have HB11 := Lib.hid (HB10.out.trans (hb.mono HB10.out.size))
          clear hb
          clear cg0 cg1 ch0 ch1
          go_wp2_with fail
          go_ret
          exact ⟨rfl, HB11.out⟩
      · rw [Bool.not_eq_true] at hab
        have c1 := Alike14_in r s D F n m q q' c c' v5 hDg.out hDh.out HE5.out HGg5.out HGh5.out HKg.out HKh.out
        have hpg : alikeG r s D F = (alikeB D F r.toNat s.toNat, 0) := by unfold alikeG; rw [if_pos hea, if_pos heb]
        rw [hpg, hab] at c1
        clear hpg
        clear hea heb hab
        have C1 := Lib.hid c1
        clear c1
        refine C1.out.mono ?_
        rintro e v6 ⟨rfl, hb⟩
        have HB6 := Lib.hid (HB5.out.trans (hb.mono HB5.out.size))
        clear hb
        go_wp2_with fail
        go_ret
        exact ⟨rfl, HB6.out⟩
    · have c1 := Alike14_in r s D F n m q q' c c' v5 hDg.out hDh.out HE5.out HGg5.out HGh5.out HKg.out HKh.out
      have hpg : alikeG r s D F = (false, (checkG s F.toList).2) := by unfold alikeG; rw [if_pos hea, if_neg heb]
      rw [hpg] at c1
      obtain ⟨ex, hbd⟩ : ∃ b, (checkG s F.toList).2 = b := ⟨_, rfl⟩
      rw [hbd] at c1 heb
      have hne : (ex != 0) = true := by simp [heb]
      clear hpg hbd
      have C1 := Lib.hid c1
      clear c1
      refine C1.out.mono ?_
      rintro e v6 ⟨rfl, hb⟩
      have HB6 := Lib.hid (HB5.out.trans (hb.mono HB5.out.size))
      clear hb
      go_wp2_with fail
      go_ret
      exact ⟨rfl, HB6.out⟩
  · have c1 := Alike14_in r s D F n m q q' c c' v5 hDg.out hDh.out HE5.out HGg5.out HGh5.out HKg.out HKh.out
    have hpg : alikeG r s D F = (false, (checkG r D.toList).2) := by unfold alikeG; rw [if_neg hea]
    rw [hpg] at c1
    obtain ⟨ex, hbd⟩ : ∃ b, (checkG r D.toList).2 = b := ⟨_, rfl⟩
    rw [hbd] at c1 hea
    have hne : (ex != 0) = true := by simp [hea]
    clear hpg hbd
    have C1 := Lib.hid c1
    clear c1
    refine C1.out.mono ?_
    rintro e v6 ⟨rfl, hb⟩
    have HB6 := Lib.hid (HB5.out.trans (hb.mono HB5.out.size))
    clear hb
    go_wp2_with fail
    go_ret
    exact ⟨rfl, HB6.out⟩
end Go.Proofs.YtepelpmkmhhokaaGreatDoor
