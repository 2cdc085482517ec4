/- What the document says of two graphs' pairs, and of whether they are alike. Conditions: the graphs came in. -/
import Derived.Test.YtepelpmkmhhokaaGreatDoorSmx
import Derived.Test.YtepelpmkmhhokaaGreatDoorRax
set_option maxRecDepth 100000
namespace Go.Proofs.YtepelpmkmhhokaaGreatDoor
open Go.RowKit Go.Shelf
open Scs Dfs
set_option maxHeartbeats 16000000 in
theorem walkIsoTells (ra rb : Int) (L M : Array Fn) (p p' : Option Addr) (cap cap' : Nat) (w : World) (E : Env w) (hg : GlR w p L) (hh : GlR w p' M) :
    Calls Tryz.prog 3 #[.agg #[.int .i64 ra, .slice p L.size cap], .agg #[.int .i64 rb, .slice p' M.size cap']] w fun e w' => e = .returned (.bool true) ∧ Below w.heap.size w w' := by
  have HEE := Lib.hid E
  obtain ⟨v0, hv0, hz0, hb0, r0, r1⟩ := at2 w (.cells #[.int .i64 ra, .slice p L.size cap] 24) (.cells #[.int .i64 rb, .slice p' M.size cap'] 24)
  have HE0 := Lib.hid (E.below hb0)
  have HB0 := Lib.hid hb0
  have HV0 := Lib.hid hv0
  have HZ0 := Lib.hid hz0
  have Rg0 := Lib.hid r0
  have HLg := Lib.hid hg
  have Rh0 := Lib.hid r1
  have HLh := Lib.hid hh
  clear hv0 hb0 E hg hh r0 r1 hz0
  go_enter Tryz.func3, Tryz.ntmps3
  go_wp2_with fail
  rw [HV0.out]
  refine (shown10_any v0 HE0.out).mono ?_
  rintro e v1 ⟨rfl, hb⟩
  have HE1 := Lib.hid (HE0.out.below hb)
  have HB1 := Lib.hid (HB0.out.trans (hb.mono HB0.out.size))
  have Rg1 := Lib.hid ((hb.block _ (Array.getElem?_eq_some_iff.1 Rg0.out).1).trans Rg0.out)
  have Rh1 := Lib.hid ((hb.block _ (Array.getElem?_eq_some_iff.1 Rh0.out).1).trans Rh0.out)
  have hs1 := Lib.hid (show w.heap.size + 2 ≤ v1.heap.size by have := hb.size; have := HZ0.out; omega)
  clear hb
  have cg0 := cell_of_row _ _ 0 _ _ _ Rg1.out
  have cg1 := cell_of_row _ _ 1 _ _ _ Rg1.out
  have ch0 := cell_of_row _ _ 0 _ _ _ Rh1.out
  have ch1 := cell_of_row _ _ 1 _ _ _ Rh1.out
  go_wp2_with fail
  refine (Small11_any ra L p cap v1 (HLg.out.below HB1.out)).mono ?_
  rintro e v2 ⟨r, q, n, c, rfl, ⟨Lg, hn, h201, hgo⟩, hb⟩
  clear cg0 cg1 ch0 ch1
  have HE2 := Lib.hid (HE1.out.below hb)
  have HB2 := Lib.hid (HB1.out.trans (hb.mono HB1.out.size))
  have Rg2 := Lib.hid ((hb.block _ (Array.getElem?_eq_some_iff.1 Rg1.out).1).trans Rg1.out)
  have Rh2 := Lib.hid ((hb.block _ (Array.getElem?_eq_some_iff.1 Rh1.out).1).trans Rh1.out)
  have HNg := Lib.hid hn
  have HTg := Lib.hid h201
  have HOg2 := Lib.hid hgo
  have hs2 := Lib.hid (Nat.le_trans hs1.out hb.size)
  clear hn h201 hgo hb
  have cg0 := cell_of_row _ _ 0 _ _ _ Rg2.out
  have cg1 := cell_of_row _ _ 1 _ _ _ Rg2.out
  have ch0 := cell_of_row _ _ 0 _ _ _ Rh2.out
  have ch1 := cell_of_row _ _ 1 _ _ _ Rh2.out
  have fg0 := frozen_of_row _ _ 0 _ _ Rg2.out
  have fg1 := frozen_of_row _ _ 1 _ _ Rg2.out
  go_wp2_with fail
  obtain ⟨v3, hv⟩ : ∃ v, ((v2.setCell ⟨w.heap.size, 0, none⟩ (.int .i64 r)).setCell ⟨w.heap.size, 1, none⟩ (.slice q n c)) = v := ⟨_, rfl⟩
  rw [hv]
  have rr := (heap_setCell_same _ (w.heap.size) 1 _ _ (.slice q n c) (heap_setCell_same v2 (w.heap.size) 0 _ _ (.int .i64 r) Rg2.out))
  rw [hv] at rr
  have g : v2.grownBy v3 (some (w.heap.size)) := by rw [← hv]; exact (gB_setCell (gB_setCell (gB_refl _ _) _ _) _ _)
  have hbs : Below w.heap.size v2 v3 := below_of_grown g (by omega) HB2.out.size
  have Rg3 := Lib.hid rr
  have Rh3 := Lib.hid ((g.block (w.heap.size + 1) (Array.getElem?_eq_some_iff.1 Rh2.out).1 (by simp)).trans Rh2.out)
  have HB3 := Lib.hid (HB2.out.trans hbs)
  have HE3 := Lib.hid (HEE.out.below HB3.out)
  have hs3 := Lib.hid (Nat.le_trans hs2.out g.size)
  have HOg3 := Lib.hid (GO.keepB HOg2.out g (by have := hs1.out; omega))
  clear cg0 cg1 ch0 ch1
  clear fg0 fg1 hv rr g hbs
  refine (Small11_any rb M p' cap' v3 (HLh.out.below HB3.out)).mono ?_
  rintro e v4 ⟨s, q', m, c', rfl, ⟨Lh, hn, h201, hgo⟩, hb⟩
  have HE4 := Lib.hid (HE3.out.below hb)
  have HOg4 := Lib.hid (HOg3.out.below hb)
  have HB4 := Lib.hid (HB3.out.trans (hb.mono HB3.out.size))
  have Rg4 := Lib.hid ((hb.block _ (Array.getElem?_eq_some_iff.1 Rg3.out).1).trans Rg3.out)
  have Rh4 := Lib.hid ((hb.block _ (Array.getElem?_eq_some_iff.1 Rh3.out).1).trans Rh3.out)
  have HNh := Lib.hid hn
  have HTh := Lib.hid h201
  have HOh4 := Lib.hid hgo
  have hs4 := Lib.hid (Nat.le_trans hs3.out hb.size)
  clear hn h201 hgo hb
  have cg0 := cell_of_row _ _ 0 _ _ _ Rg4.out
  have cg1 := cell_of_row _ _ 1 _ _ _ Rg4.out
  have ch0 := cell_of_row _ _ 0 _ _ _ Rh4.out
  have ch1 := cell_of_row _ _ 1 _ _ _ Rh4.out
  have fh0 := frozen_of_row _ _ 0 _ _ Rh4.out
  have fh1 := frozen_of_row _ _ 1 _ _ Rh4.out
  go_wp2_with fail
  obtain ⟨v5, hv⟩ : ∃ v, ((v4.setCell ⟨w.heap.size + 1, 0, none⟩ (.int .i64 s)).setCell ⟨w.heap.size + 1, 1, none⟩ (.slice q' m c')) = v := ⟨_, rfl⟩
  rw [hv]
  have rr := (heap_setCell_same _ (w.heap.size + 1) 1 _ _ (.slice q' m c') (heap_setCell_same v4 (w.heap.size + 1) 0 _ _ (.int .i64 s) Rh4.out))
  rw [hv] at rr
  have g : v4.grownBy v5 (some (w.heap.size + 1)) := by rw [← hv]; exact (gB_setCell (gB_setCell (gB_refl _ _) _ _) _ _)
  have hbs : Below w.heap.size v4 v5 := below_of_grown g (by omega) HB4.out.size
  have Rh5 := Lib.hid rr
  have Rg5 := Lib.hid ((g.block (w.heap.size) (Array.getElem?_eq_some_iff.1 Rg4.out).1 (by simp)).trans Rg4.out)
  have HB5 := Lib.hid (HB4.out.trans hbs)
  have HE5 := Lib.hid (HEE.out.below HB5.out)
  have hs5 := Lib.hid (Nat.le_trans hs4.out g.size)
  have HOg5 := Lib.hid (GO.keepB HOg4.out g (by have := hs1.out; have := hs2.out; have := hs3.out; omega))
  have HOh5 := Lib.hid (GO.keepB HOh4.out g (by have := hs1.out; have := hs2.out; have := hs3.out; omega))
  clear cg0 cg1 ch0 ch1
  clear fh0 fh1 hv rr g hbs
  have HGg5 := Lib.hid (HOg5.out.gl HNg.out HTg.out)
  have HKg := Lib.hid HOg5.out.k12
  have hDg := Lib.hid (show Lg.toArray.size = n from by rw [List.size_toArray]; exact HNg.out)
  obtain ⟨D, hD⟩ : ∃ D, Lg.toArray = D := ⟨_, rfl⟩
  rw [hD] at HGg5 HKg hDg
  clear hD
  have HGh5 := Lib.hid (HOh5.out.gl HNh.out HTh.out)
  have HKh := Lib.hid HOh5.out.k12
  have hDh := Lib.hid (show Lh.toArray.size = m from by rw [List.size_toArray]; exact HNh.out)
  obtain ⟨F, hD⟩ : ∃ D, Lh.toArray = D := ⟨_, rfl⟩
  rw [hD] at HGh5 HKh hDh
  clear hD
  have c1 := Pairs12_in r s D F n m q q' c c' v5 hDg.out hDh.out HE5.out HGg5.out HGh5.out HKg.out HKh.out
  have c2 := fun W G G' => Pairs13_in r s D F n m q q' c c' W hDg.out hDh.out G G'
  have c3 := fun W E G G' => Alike14_in r s D F n m q q' c c' W hDg.out hDh.out E G G' HKg.out HKh.out
  have c4 := fun W G G' => Alike15_in r s D F n m q q' c c' W hDg.out hDh.out G G'
  have hlen := pairsG_len r s D F
  obtain ⟨PL, hPL⟩ : ∃ x, (pairsG r s D F).1 = x := ⟨_, rfl⟩
  obtain ⟨PB, hPB⟩ : ∃ x, (pairsG r s D F).2.1 = x := ⟨_, rfl⟩
  obtain ⟨pe, hpe⟩ : ∃ x, (pairsG r s D F).2.2 = x := ⟨_, rfl⟩
  obtain ⟨al, hal⟩ : ∃ x, (alikeG r s D F).1 = x := ⟨_, rfl⟩
  obtain ⟨ae, hae⟩ : ∃ x, (alikeG r s D F).2 = x := ⟨_, rfl⟩
  rw [hPL, hPB, hpe] at c1 c2
  rw [hal, hae] at c3 c4
  rw [hPL] at hlen
  have C1 := Lib.hid c1
  have C2 := Lib.hid c2
  have C3 := Lib.hid c3
  have C4 := Lib.hid c4
  obtain ⟨k, hk⟩ : ∃ k, PL.length = k := ⟨_, rfl⟩
  have HKK := Lib.hid hk
  rw [hk] at hlen
  clear c1 c2 c3 c4 hPL hPB hpe hal hae hk
  have cg0 := cell_of_row _ _ 0 _ _ _ Rg5.out
  have cg1 := cell_of_row _ _ 1 _ _ _ Rg5.out
  have ch0 := cell_of_row _ _ 0 _ _ _ Rh5.out
  have ch1 := cell_of_row _ _ 1 _ _ _ Rh5.out
  go_wp2_with fail
  refine C1.out.mono ?_
  rintro e v6 ⟨va, rfl, hown, hb⟩
  obtain ⟨qa, ca, rfl, hpl⟩ := pl_own m hown rfl
  have HP6 := Lib.hid (show Pl v6 qa (pairA m PL) from hpl)
  clear cg0 cg1 ch0 ch1
  have HE6 := Lib.hid (HE5.out.below hb)
  have HGg6 := Lib.hid (HGg5.out.below hb)
  have HGh6 := Lib.hid (HGh5.out.below hb)
  have HB6 := Lib.hid (HB5.out.trans (hb.mono HB5.out.size))
  have Rg6 := Lib.hid ((hb.block _ (Array.getElem?_eq_some_iff.1 Rg5.out).1).trans Rg5.out)
  have Rh6 := Lib.hid ((hb.block _ (Array.getElem?_eq_some_iff.1 Rh5.out).1).trans Rh5.out)
  clear hb hown hpl
  rw [HKK.out]
  have cg0 := cell_of_row _ _ 0 _ _ _ Rg6.out
  have cg1 := cell_of_row _ _ 1 _ _ _ Rg6.out
  have ch0 := cell_of_row _ _ 0 _ _ _ Rh6.out
  have ch1 := cell_of_row _ _ 1 _ _ _ Rh6.out
  go_wp2_with fail
  refine (C2.out v6 HGg6.out HGh6.out).mono ?_
  rintro e v7 ⟨vb, rfl, hown, hb⟩
  obtain ⟨qb, cb, rfl, hpl⟩ := pl_own m hown rfl
  have HQ7 := Lib.hid (show Pl v7 qb (pairA m PL) from hpl)
  clear cg0 cg1 ch0 ch1
  have HE7 := Lib.hid (HE6.out.below hb)
  have HGg7 := Lib.hid (HGg6.out.below hb)
  have HGh7 := Lib.hid (HGh6.out.below hb)
  have HP7 := Lib.hid (HP6.out.below hb)
  have HB7 := Lib.hid (HB6.out.trans (hb.mono HB6.out.size))
  have Rg7 := Lib.hid ((hb.block _ (Array.getElem?_eq_some_iff.1 Rg6.out).1).trans Rg6.out)
  have Rh7 := Lib.hid ((hb.block _ (Array.getElem?_eq_some_iff.1 Rh6.out).1).trans Rh6.out)
  clear hb hown hpl
  rw [HKK.out]
  have cg0 := cell_of_row _ _ 0 _ _ _ Rg7.out
  have cg1 := cell_of_row _ _ 1 _ _ _ Rg7.out
  have ch0 := cell_of_row _ _ 0 _ _ _ Rh7.out
  have ch1 := cell_of_row _ _ 1 _ _ _ Rh7.out
  go_wp2_with fail
  refine (C3.out v7 HE7.out HGg7.out HGh7.out).mono ?_
  rintro e v8 ⟨rfl, hb⟩
  clear cg0 cg1 ch0 ch1
  have HE8 := Lib.hid (HE7.out.below hb)
  have HGg8 := Lib.hid (HGg7.out.below hb)
  have HGh8 := Lib.hid (HGh7.out.below hb)
  have HP8 := Lib.hid (HP7.out.below hb)
  have HQ8 := Lib.hid (HQ7.out.below hb)
  have HB8 := Lib.hid (HB7.out.trans (hb.mono HB7.out.size))
  have Rg8 := Lib.hid ((hb.block _ (Array.getElem?_eq_some_iff.1 Rg7.out).1).trans Rg7.out)
  have Rh8 := Lib.hid ((hb.block _ (Array.getElem?_eq_some_iff.1 Rh7.out).1).trans Rh7.out)
  clear hb
  have cg0 := cell_of_row _ _ 0 _ _ _ Rg8.out
  have cg1 := cell_of_row _ _ 1 _ _ _ Rg8.out
  have ch0 := cell_of_row _ _ 0 _ _ _ Rh8.out
  have ch1 := cell_of_row _ _ 1 _ _ _ Rh8.out
  go_wp2_with fail
  refine (C4.out v8 HGg8.out HGh8.out).mono ?_
  rintro e v9 ⟨rfl, hb⟩
  clear cg0 cg1 ch0 ch1
  have HP9 := Lib.hid (HP8.out.below hb)
  have HQ9 := Lib.hid (HQ8.out.below hb)
  have HB9 := Lib.hid (HB8.out.trans (hb.mono HB8.out.size))
  have Rg9 := Lib.hid ((hb.block _ (Array.getElem?_eq_some_iff.1 Rg8.out).1).trans Rg8.out)
  have Rh9 := Lib.hid ((hb.block _ (Array.getElem?_eq_some_iff.1 Rh8.out).1).trans Rh8.out)
  clear hb
  have hsm := Same16_any (pairA m PL) (pairA m PL) k k qa qb ca cb v9 ((pairA_size m PL).trans HKK.out) ((pairA_size m PL).trans HKK.out) (by omega) HP9.out HQ9.out
  rw [decide_eq_true rfl] at hsm
  have HSM := Lib.hid hsm
  clear hsm
  go_wp2_with fail
  refine HSM.out.mono ?_
  rintro e v10 ⟨rfl, hb⟩
  have HB10 := Lib.hid (HB9.out.trans (hb.mono HB9.out.size))
  clear hb
  go_wp2_with fail
  go_ret
  exact ⟨rfl, HB10.out⟩
end Go.Proofs.YtepelpmkmhhokaaGreatDoor
