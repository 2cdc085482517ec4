/- Graphs are alike in an order. Conditions: the graphs came in. -/
import Derived.Test.YtepelpmkmhhokaaGreatDoorSmx
import Derived.Test.YtepelpmkmhhokaaGreatDoorTdx
set_option maxRecDepth 100000
namespace Go.Proofs.YtepelpmkmhhokaaGreatDoor
open Go.RowKit Go.Shelf
open Scs Dfs
/-- a tidy graph's nodes have few keys, as the graph's -/
theorem tidy_few {L T : Array Fn} {root : Nat} (hb : badFrom L.size L.toList 0 = none) (hr : root < L.size) (h12 : ∀ t, t < L.size → L[t]!.keys.size ≤ 12) (hT : TidyG L T (wk L root)) : ∀ t, t < T.size → T[t]!.keys.size ≤ 12 := fun t ht => by
  obtain ⟨x, hx, _, _, hR, hF⟩ := hT.at hb hr ht
  have hxl := wk_lt hb hr x hx
  have h1 := h12 x hxl
  rw [← Array.length_toList, hF.keys]
  by_cases hk : L[x]!.k = 2
  · have h2 := keysOf_len hR hk
    have h3 := (right_map hR hk).1
    have h4 := kidsOf_len hR
    omega
  · rw [keysOf_no hk]; exact Nat.zero_le _
theorem alikeG_symm (r s : Int) (D F : Array Fn) : (alikeG r s D F).1 = (alikeG s r F D).1 := by
  unfold alikeG
  by_cases hea : (checkG r D.toList).2 = 0 <;> by_cases heb : (checkG s F.toList).2 = 0
  · rw [if_pos hea, if_pos heb, if_pos heb, if_pos hea]
    exact alikeB_symm (check_right hea).1 (check_right heb).1 (check_right hea).2.2.1 (check_right heb).2.2.1
  · rw [if_pos hea, if_neg heb, if_neg heb]
  · rw [if_neg hea, if_pos heb, if_neg hea]
  · rw [if_neg hea, if_neg heb]
theorem alikeG_yes {r s : Int} {D F : Array Fn} (h : (alikeG r s D F).1 = true) : (checkG r D.toList).2 = 0 ∧ (checkG s F.toList).2 = 0 ∧ AlikeG D F r.toNat s.toNat := by
  unfold alikeG at h
  by_cases hea : (checkG r D.toList).2 = 0 <;> by_cases heb : (checkG s F.toList).2 = 0
  · rw [if_pos hea, if_pos heb] at h
    exact ⟨hea, heb, alikeB_iff.1 h⟩
  · rw [if_pos hea, if_neg heb] at h; cases h
  · rw [if_neg hea] at h; cases h
  · rw [if_neg hea] at h; cases h
theorem alikeG_of {r s : Int} {D F : Array Fn} (hea : (checkG r D.toList).2 = 0) (heb : (checkG s F.toList).2 = 0) (h : AlikeG D F r.toNat s.toNat) : alikeG r s D F = (true, 0) := by
  unfold alikeG
  rw [if_pos hea, if_pos heb, alikeB_iff.2 h]
theorem alikeG_trans {r s u : Int} {D F J : Array Fn} (h : (alikeG r s D F).1 = true) (h' : (alikeG s u F J).1 = true) : (alikeG r u D J).1 = true := by
  obtain ⟨h1, h2, h3⟩ := alikeG_yes h
  obtain ⟨_, h5, h6⟩ := alikeG_yes h'
  rw [alikeG_of h1 h5 (alike_transG (check_right h1).1 (check_right h2).1 (check_right h1).2.2.1 (check_right h2).2.2.1 (check_right h5).1 (check_right h5).2.2.1 h3 h6)]
set_option maxHeartbeats 16000000 in
theorem walkIsoOrder (ra rb rk : Int) (L M K : Array Fn) (p p' p'' : Option Addr) (cap cap' cap'' : Nat) (w : World) (E : Env w) (hg : GlR w p L) (hh : GlR w p' M) (hk : GlR w p'' K) :
    Calls Tryz.prog 5 #[.agg #[.int .i64 ra, .slice p L.size cap], .agg #[.int .i64 rb, .slice p' M.size cap'], .agg #[.int .i64 rk, .slice p'' K.size cap'']] w fun e w' => e = .returned (.bool true) ∧ Below w.heap.size w w' := by
  have HEE := Lib.hid E
  obtain ⟨v0, hv0, hz0, hb0, r0, r1, r2⟩ := at3 w (.cells #[.int .i64 ra, .slice p L.size cap] 24) (.cells #[.int .i64 rb, .slice p' M.size cap'] 24) (.cells #[.int .i64 rk, .slice p'' K.size cap''] 24)
  have HE0 := Lib.hid (E.below hb0)
  have HB0 := Lib.hid hb0
  have HV0 := Lib.hid hv0
  have HZ0 := Lib.hid hz0
  have Rg0 := Lib.hid r0
  have HLg := Lib.hid hg
  have Rh0 := Lib.hid r1
  have HLh := Lib.hid hh
  have Rk0 := Lib.hid r2
  have HLk := Lib.hid hk
  clear hv0 hb0 E hg hh hk r0 r1 r2 hz0
  go_enter Tryz.func5, Tryz.ntmps5
  go_wp2_with fail
  rw [HV0.out]
  refine (shown10_any v0 HE0.out).mono ?_
  rintro e v1 ⟨rfl, hb⟩
  have HE1 := Lib.hid (HE0.out.below hb)
  have HB1 := Lib.hid (HB0.out.trans (hb.mono HB0.out.size))
  have Rg1 := Lib.hid ((hb.block _ (Array.getElem?_eq_some_iff.1 Rg0.out).1).trans Rg0.out)
  have Rh1 := Lib.hid ((hb.block _ (Array.getElem?_eq_some_iff.1 Rh0.out).1).trans Rh0.out)
  have Rk1 := Lib.hid ((hb.block _ (Array.getElem?_eq_some_iff.1 Rk0.out).1).trans Rk0.out)
  have hs1 := Lib.hid (show w.heap.size + 3 ≤ v1.heap.size by have := hb.size; have := HZ0.out; omega)
  clear hb
  have cg0 := cell_of_row _ _ 0 _ _ _ Rg1.out
  have cg1 := cell_of_row _ _ 1 _ _ _ Rg1.out
  have ch0 := cell_of_row _ _ 0 _ _ _ Rh1.out
  have ch1 := cell_of_row _ _ 1 _ _ _ Rh1.out
  have ck0 := cell_of_row _ _ 0 _ _ _ Rk1.out
  have ck1 := cell_of_row _ _ 1 _ _ _ Rk1.out
  go_wp2_with fail
  refine (Small11_any ra L p cap v1 (HLg.out.below HB1.out)).mono ?_
  rintro e v2 ⟨r, q, n, c, rfl, ⟨Lg, hn, h201, hgo⟩, hb⟩
  clear cg0 cg1 ch0 ch1 ck0 ck1
  have HE2 := Lib.hid (HE1.out.below hb)
  have HB2 := Lib.hid (HB1.out.trans (hb.mono HB1.out.size))
  have Rg2 := Lib.hid ((hb.block _ (Array.getElem?_eq_some_iff.1 Rg1.out).1).trans Rg1.out)
  have Rh2 := Lib.hid ((hb.block _ (Array.getElem?_eq_some_iff.1 Rh1.out).1).trans Rh1.out)
  have Rk2 := Lib.hid ((hb.block _ (Array.getElem?_eq_some_iff.1 Rk1.out).1).trans Rk1.out)
  have HNg := Lib.hid hn
  have HTg := Lib.hid h201
  have HOg2 := Lib.hid hgo
  have hs2 := Lib.hid (Nat.le_trans hs1.out hb.size)
  clear hn h201 hgo hb
  have cg0 := cell_of_row _ _ 0 _ _ _ Rg2.out
  have cg1 := cell_of_row _ _ 1 _ _ _ Rg2.out
  have ch0 := cell_of_row _ _ 0 _ _ _ Rh2.out
  have ch1 := cell_of_row _ _ 1 _ _ _ Rh2.out
  have ck0 := cell_of_row _ _ 0 _ _ _ Rk2.out
  have ck1 := cell_of_row _ _ 1 _ _ _ Rk2.out
  have fg0 := frozen_of_row _ _ 0 _ _ Rg2.out
  have fg1 := frozen_of_row _ _ 1 _ _ Rg2.out
  go_wp2_with fail
  obtain ⟨v3, hv⟩ : ∃ v, ((v2.setCell ⟨w.heap.size, 0, none⟩ (.int .i64 r)).setCell ⟨w.heap.size, 1, none⟩ (.slice q n c)) = v := ⟨_, rfl⟩
  rw [hv]
  have rr := (heap_setCell_same _ (w.heap.size) 1 _ _ (.slice q n c) (heap_setCell_same v2 (w.heap.size) 0 _ _ (.int .i64 r) Rg2.out))
  rw [hv] at rr
  have g : v2.grownBy v3 (some (w.heap.size)) := by rw [← hv]; exact (gB_setCell (gB_setCell (gB_refl _ _) _ _) _ _)
  have hbs : Below w.heap.size v2 v3 := below_of_grown g (by omega) HB2.out.size
  have Rg3 := Lib.hid rr
  have Rh3 := Lib.hid ((g.block (w.heap.size + 1) (Array.getElem?_eq_some_iff.1 Rh2.out).1 (by simp)).trans Rh2.out)
  have Rk3 := Lib.hid ((g.block (w.heap.size + 2) (Array.getElem?_eq_some_iff.1 Rk2.out).1 (by simp)).trans Rk2.out)
  have HB3 := Lib.hid (HB2.out.trans hbs)
  have HE3 := Lib.hid (HEE.out.below HB3.out)
  have hs3 := Lib.hid (Nat.le_trans hs2.out g.size)
  have HOg3 := Lib.hid (GO.keepB HOg2.out g (by have := hs1.out; omega))
  clear cg0 cg1 ch0 ch1 ck0 ck1
  clear fg0 fg1 hv rr g hbs
  refine (Small11_any rb M p' cap' v3 (HLh.out.below HB3.out)).mono ?_
  rintro e v4 ⟨s, q', m, c', rfl, ⟨Lh, hn, h201, hgo⟩, hb⟩
  have HE4 := Lib.hid (HE3.out.below hb)
  have HOg4 := Lib.hid (HOg3.out.below hb)
  have HB4 := Lib.hid (HB3.out.trans (hb.mono HB3.out.size))
  have Rg4 := Lib.hid ((hb.block _ (Array.getElem?_eq_some_iff.1 Rg3.out).1).trans Rg3.out)
  have Rh4 := Lib.hid ((hb.block _ (Array.getElem?_eq_some_iff.1 Rh3.out).1).trans Rh3.out)
  have Rk4 := Lib.hid ((hb.block _ (Array.getElem?_eq_some_iff.1 Rk3.out).1).trans Rk3.out)
  have HNh := Lib.hid hn
  have HTh := Lib.hid h201
  have HOh4 := Lib.hid hgo
  have hs4 := Lib.hid (Nat.le_trans hs3.out hb.size)
  clear hn h201 hgo hb
  have cg0 := cell_of_row _ _ 0 _ _ _ Rg4.out
  have cg1 := cell_of_row _ _ 1 _ _ _ Rg4.out
  have ch0 := cell_of_row _ _ 0 _ _ _ Rh4.out
  have ch1 := cell_of_row _ _ 1 _ _ _ Rh4.out
  have ck0 := cell_of_row _ _ 0 _ _ _ Rk4.out
  have ck1 := cell_of_row _ _ 1 _ _ _ Rk4.out
  have fh0 := frozen_of_row _ _ 0 _ _ Rh4.out
  have fh1 := frozen_of_row _ _ 1 _ _ Rh4.out
  go_wp2_with fail
  obtain ⟨v5, hv⟩ : ∃ v, ((v4.setCell ⟨w.heap.size + 1, 0, none⟩ (.int .i64 s)).setCell ⟨w.heap.size + 1, 1, none⟩ (.slice q' m c')) = v := ⟨_, rfl⟩
  rw [hv]
  have rr := (heap_setCell_same _ (w.heap.size + 1) 1 _ _ (.slice q' m c') (heap_setCell_same v4 (w.heap.size + 1) 0 _ _ (.int .i64 s) Rh4.out))
  rw [hv] at rr
  have g : v4.grownBy v5 (some (w.heap.size + 1)) := by rw [← hv]; exact (gB_setCell (gB_setCell (gB_refl _ _) _ _) _ _)
  have hbs : Below w.heap.size v4 v5 := below_of_grown g (by omega) HB4.out.size
  have Rh5 := Lib.hid rr
  have Rg5 := Lib.hid ((g.block (w.heap.size) (Array.getElem?_eq_some_iff.1 Rg4.out).1 (by simp)).trans Rg4.out)
  have Rk5 := Lib.hid ((g.block (w.heap.size + 2) (Array.getElem?_eq_some_iff.1 Rk4.out).1 (by simp)).trans Rk4.out)
  have HB5 := Lib.hid (HB4.out.trans hbs)
  have HE5 := Lib.hid (HEE.out.below HB5.out)
  have hs5 := Lib.hid (Nat.le_trans hs4.out g.size)
  have HOg5 := Lib.hid (GO.keepB HOg4.out g (by have := hs1.out; have := hs2.out; have := hs3.out; omega))
  have HOh5 := Lib.hid (GO.keepB HOh4.out g (by have := hs1.out; have := hs2.out; have := hs3.out; omega))
  clear cg0 cg1 ch0 ch1 ck0 ck1
  clear fh0 fh1 hv rr g hbs
  refine (Small11_any rk K p'' cap'' v5 (HLk.out.below HB5.out)).mono ?_
  rintro e v6 ⟨u, q'', l, c'', rfl, ⟨Lk, hn, h201, hgo⟩, hb⟩
  have HE6 := Lib.hid (HE5.out.below hb)
  have HOg6 := Lib.hid (HOg5.out.below hb)
  have HOh6 := Lib.hid (HOh5.out.below hb)
  have HB6 := Lib.hid (HB5.out.trans (hb.mono HB5.out.size))
  have Rg6 := Lib.hid ((hb.block _ (Array.getElem?_eq_some_iff.1 Rg5.out).1).trans Rg5.out)
  have Rh6 := Lib.hid ((hb.block _ (Array.getElem?_eq_some_iff.1 Rh5.out).1).trans Rh5.out)
  have Rk6 := Lib.hid ((hb.block _ (Array.getElem?_eq_some_iff.1 Rk5.out).1).trans Rk5.out)
  have HNk := Lib.hid hn
  have HTk := Lib.hid h201
  have HOk6 := Lib.hid hgo
  have hs6 := Lib.hid (Nat.le_trans hs5.out hb.size)
  clear hn h201 hgo hb
  have cg0 := cell_of_row _ _ 0 _ _ _ Rg6.out
  have cg1 := cell_of_row _ _ 1 _ _ _ Rg6.out
  have ch0 := cell_of_row _ _ 0 _ _ _ Rh6.out
  have ch1 := cell_of_row _ _ 1 _ _ _ Rh6.out
  have ck0 := cell_of_row _ _ 0 _ _ _ Rk6.out
  have ck1 := cell_of_row _ _ 1 _ _ _ Rk6.out
  have fk0 := frozen_of_row _ _ 0 _ _ Rk6.out
  have fk1 := frozen_of_row _ _ 1 _ _ Rk6.out
  go_wp2_with fail
  obtain ⟨v7, hv⟩ : ∃ v, ((v6.setCell ⟨w.heap.size + 2, 0, none⟩ (.int .i64 u)).setCell ⟨w.heap.size + 2, 1, none⟩ (.slice q'' l c'')) = v := ⟨_, rfl⟩
  rw [hv]
  have rr := (heap_setCell_same _ (w.heap.size + 2) 1 _ _ (.slice q'' l c'') (heap_setCell_same v6 (w.heap.size + 2) 0 _ _ (.int .i64 u) Rk6.out))
  rw [hv] at rr
  have g : v6.grownBy v7 (some (w.heap.size + 2)) := by rw [← hv]; exact (gB_setCell (gB_setCell (gB_refl _ _) _ _) _ _)
  have hbs : Below w.heap.size v6 v7 := below_of_grown g (by omega) HB6.out.size
  have Rk7 := Lib.hid rr
  have Rg7 := Lib.hid ((g.block (w.heap.size) (Array.getElem?_eq_some_iff.1 Rg6.out).1 (by simp)).trans Rg6.out)
  have Rh7 := Lib.hid ((g.block (w.heap.size + 1) (Array.getElem?_eq_some_iff.1 Rh6.out).1 (by simp)).trans Rh6.out)
  have HB7 := Lib.hid (HB6.out.trans hbs)
  have HE7 := Lib.hid (HEE.out.below HB7.out)
  have hs7 := Lib.hid (Nat.le_trans hs6.out g.size)
  have HOg7 := Lib.hid (GO.keepB HOg6.out g (by have := hs1.out; have := hs2.out; have := hs3.out; have := hs4.out; have := hs5.out; omega))
  have HOh7 := Lib.hid (GO.keepB HOh6.out g (by have := hs1.out; have := hs2.out; have := hs3.out; have := hs4.out; have := hs5.out; omega))
  have HOk7 := Lib.hid (GO.keepB HOk6.out g (by have := hs1.out; have := hs2.out; have := hs3.out; have := hs4.out; have := hs5.out; omega))
  clear cg0 cg1 ch0 ch1 ck0 ck1
  clear fk0 fk1 hv rr g hbs
  have HGg7 := Lib.hid (HOg7.out.gl HNg.out HTg.out)
  have HKg := Lib.hid HOg7.out.k12
  have hDg := Lib.hid (show Lg.toArray.size = n from by rw [List.size_toArray]; exact HNg.out)
  obtain ⟨D, hD⟩ : ∃ D, Lg.toArray = D := ⟨_, rfl⟩
  rw [hD] at HGg7 HKg hDg
  clear hD
  have HGh7 := Lib.hid (HOh7.out.gl HNh.out HTh.out)
  have HKh := Lib.hid HOh7.out.k12
  have hDh := Lib.hid (show Lh.toArray.size = m from by rw [List.size_toArray]; exact HNh.out)
  obtain ⟨F, hD⟩ : ∃ D, Lh.toArray = D := ⟨_, rfl⟩
  rw [hD] at HGh7 HKh hDh
  clear hD
  have HGk7 := Lib.hid (HOk7.out.gl HNk.out HTk.out)
  have HKk := Lib.hid HOk7.out.k12
  have hDk := Lib.hid (show Lk.toArray.size = l from by rw [List.size_toArray]; exact HNk.out)
  obtain ⟨J, hD⟩ : ∃ D, Lk.toArray = D := ⟨_, rfl⟩
  rw [hD] at HGk7 HKk hDk
  clear hD
  by_cases hea : (checkG r D.toList).2 = 0
  · have t1 := fun W E G => Tidy15_in r D n q c W hDg.out E G HKg.out
    obtain ⟨hba, hra1, hra2, hra3⟩ := check_right hea
    have a1 := fun W E G => Alike14_in r r D D n n q q c c W hDg.out hDg.out E G G HKg.out HKg.out
    have a2 := fun T (hT : TidyG D T (wk D r.toNat)) q2 c2 W E G G' => Alike14_in r 0 D T n T.size q q2 c c2 W hDg.out rfl E G G' HKg.out (tidy_few hba hra2 HKg.out hT)
    have a3 := fun W E G G' => Alike14_in r s D F n m q q' c c' W hDg.out hDh.out E G G' HKg.out HKh.out
    have a4 := fun W E G G' => Alike14_in s r F D m n q' q c' c W hDh.out hDg.out E G G' HKh.out HKg.out
    have a5 := fun W E G G' => Alike14_in s u F J m l q' q'' c' c'' W hDh.out hDk.out E G G' HKh.out HKk.out
    have a6 := fun W E G G' => Alike14_in r u D J n l q q'' c c'' W hDg.out hDk.out E G G' HKg.out HKk.out
    have e1 : alikeG r r D D = (true, 0) := alikeG_of hea hea (alike_reflG hba hra2)
    have e2 : ∀ T, TidyG D T (wk D r.toNat) → alikeG r 0 D T = (true, 0) := fun T hT => alikeG_of hea (by rw [hT.check hba hra2 hra3]) (alike_ownG hba hra2 hT)
    obtain ⟨x3, h3⟩ : ∃ x, (alikeG r s D F).1 = x := ⟨_, rfl⟩
    obtain ⟨y3, i3⟩ : ∃ x, (alikeG r s D F).2 = x := ⟨_, rfl⟩
    have h4 : (alikeG s r F D).1 = x3 := by rw [← h3, alikeG_symm]
    obtain ⟨y4, i4⟩ : ∃ x, (alikeG s r F D).2 = x := ⟨_, rfl⟩
    obtain ⟨x5, h5⟩ : ∃ x, (alikeG s u F J).1 = x := ⟨_, rfl⟩
    obtain ⟨y5, i5⟩ : ∃ x, (alikeG s u F J).2 = x := ⟨_, rfl⟩
    obtain ⟨x6, h6⟩ : ∃ x, (alikeG r u D J).1 = x := ⟨_, rfl⟩
    obtain ⟨y6, i6⟩ : ∃ x, (alikeG r u D J).2 = x := ⟨_, rfl⟩
    have htr := Lib.hid (show x3 = true → x5 = true → x6 = true from fun h h' => by rw [← h6]; exact alikeG_trans (by rw [h3, h]) (by rw [h5, h']))
    rw [e1] at a1
    rw [h3, i3] at a3
    rw [h4, i4] at a4
    rw [h5, i5] at a5
    rw [h6, i6] at a6
    rw [hea] at t1
    have A1 := Lib.hid a1
    have A2 := Lib.hid a2
    have A3 := Lib.hid a3
    have A4 := Lib.hid a4
    have A5 := Lib.hid a5
    have A6 := Lib.hid a6
    have E2 := Lib.hid e2
    clear a1 a2 a3 a4 a5 a6 e1 e2 h3 i3 h4 i4 h5 i5 h6 i6 hba hra1 hra2 hra3 hea
    have T1 := Lib.hid t1
    clear t1
    refine (T1.out v7 HE7.out HGg7.out).mono ?_
    rintro e v8 ⟨T, q2, c2, rfl, hgT, hT, -, hb⟩
    have HE8 := Lib.hid (HE7.out.below hb)
    have HGg8 := Lib.hid (HGg7.out.below hb)
    have HGh8 := Lib.hid (HGh7.out.below hb)
    have HGk8 := Lib.hid (HGk7.out.below hb)
    have HB8 := Lib.hid (HB7.out.trans (hb.mono HB7.out.size))
    have Rg8 := Lib.hid ((hb.block _ (Array.getElem?_eq_some_iff.1 Rg7.out).1).trans Rg7.out)
    have Rh8 := Lib.hid ((hb.block _ (Array.getElem?_eq_some_iff.1 Rh7.out).1).trans Rh7.out)
    have Rk8 := Lib.hid ((hb.block _ (Array.getElem?_eq_some_iff.1 Rk7.out).1).trans Rk7.out)
    have HT8 := Lib.hid hgT
    have HTT := Lib.hid hT
    clear hb hgT hT
    have cg0 := cell_of_row _ _ 0 _ _ _ Rg8.out
    have cg1 := cell_of_row _ _ 1 _ _ _ Rg8.out
    have ch0 := cell_of_row _ _ 0 _ _ _ Rh8.out
    have ch1 := cell_of_row _ _ 1 _ _ _ Rh8.out
    have ck0 := cell_of_row _ _ 0 _ _ _ Rk8.out
    have ck1 := cell_of_row _ _ 1 _ _ _ Rk8.out
    obtain ⟨v9, hv, _, hb, hx⟩ := at1 v8 (.cells #[.int .i64 0, .slice q2 T.size c2] 24)
    have HV9 := Lib.hid hv
    have Rx9 := Lib.hid hx
    have hlg : w.heap.size < v8.heap.size := (Array.getElem?_eq_some_iff.1 Rg8.out).1
    have HE9 := Lib.hid (HE8.out.below hb)
    have HGg9 := Lib.hid (HGg8.out.below hb)
    have HGh9 := Lib.hid (HGh8.out.below hb)
    have HGk9 := Lib.hid (HGk8.out.below hb)
    have HT9 := Lib.hid (HT8.out.below hb)
    have HB9 := Lib.hid (HB8.out.trans (hb.mono HB8.out.size))
    have Rg9 := Lib.hid ((hb.block _ (Array.getElem?_eq_some_iff.1 Rg8.out).1).trans Rg8.out)
    have Rh9 := Lib.hid ((hb.block _ (Array.getElem?_eq_some_iff.1 Rh8.out).1).trans Rh8.out)
    have Rk9 := Lib.hid ((hb.block _ (Array.getElem?_eq_some_iff.1 Rk8.out).1).trans Rk8.out)
    clear hb hv hx
    go_wp2_with fail
    rw [HV9.out]
    refine (A1.out v9 HE9.out HGg9.out).mono ?_
    rintro e v10 ⟨rfl, hb⟩
    clear hlg
    clear cg0 cg1 ch0 ch1 ck0 ck1
    have HE10 := Lib.hid (HE9.out.below hb)
    have HGg10 := Lib.hid (HGg9.out.below hb)
    have HGh10 := Lib.hid (HGh9.out.below hb)
    have HGk10 := Lib.hid (HGk9.out.below hb)
    have HT10 := Lib.hid (HT9.out.below hb)
    have HB10 := Lib.hid (HB9.out.trans (hb.mono HB9.out.size))
    have Rg10 := Lib.hid ((hb.block _ (Array.getElem?_eq_some_iff.1 Rg9.out).1).trans Rg9.out)
    have Rh10 := Lib.hid ((hb.block _ (Array.getElem?_eq_some_iff.1 Rh9.out).1).trans Rh9.out)
    have Rk10 := Lib.hid ((hb.block _ (Array.getElem?_eq_some_iff.1 Rk9.out).1).trans Rk9.out)
    have Rx10 := Lib.hid ((hb.block _ (Array.getElem?_eq_some_iff.1 Rx9.out).1).trans Rx9.out)
    clear hb
    have cg0 := cell_of_row _ _ 0 _ _ _ Rg10.out
    have cg1 := cell_of_row _ _ 1 _ _ _ Rg10.out
    have ch0 := cell_of_row _ _ 0 _ _ _ Rh10.out
    have ch1 := cell_of_row _ _ 1 _ _ _ Rh10.out
    have ck0 := cell_of_row _ _ 0 _ _ _ Rk10.out
    have ck1 := cell_of_row _ _ 1 _ _ _ Rk10.out
    have cx0 := cell_of_row _ _ 0 _ _ _ Rx10.out
    have cx1 := cell_of_row _ _ 1 _ _ _ Rx10.out
    have a2 := A2.out T (HTT.out (by trivial)) q2 c2 v10 HE10.out HGg10.out HT10.out
    rw [E2.out T (HTT.out (by trivial))] at a2
    have A2' := Lib.hid a2
    clear a2
    go_wp2_with fail
    refine A2'.out.mono ?_
    rintro e v11 ⟨rfl, hb⟩
    clear A2'
    clear cg0 cg1 ch0 ch1 ck0 ck1
    clear cx0 cx1
    have HE11 := Lib.hid (HE10.out.below hb)
    have HGg11 := Lib.hid (HGg10.out.below hb)
    have HGh11 := Lib.hid (HGh10.out.below hb)
    have HGk11 := Lib.hid (HGk10.out.below hb)
    have HB11 := Lib.hid (HB10.out.trans (hb.mono HB10.out.size))
    have Rg11 := Lib.hid ((hb.block _ (Array.getElem?_eq_some_iff.1 Rg10.out).1).trans Rg10.out)
    have Rh11 := Lib.hid ((hb.block _ (Array.getElem?_eq_some_iff.1 Rh10.out).1).trans Rh10.out)
    have Rk11 := Lib.hid ((hb.block _ (Array.getElem?_eq_some_iff.1 Rk10.out).1).trans Rk10.out)
    clear hb
    have cg0 := cell_of_row _ _ 0 _ _ _ Rg11.out
    have cg1 := cell_of_row _ _ 1 _ _ _ Rg11.out
    have ch0 := cell_of_row _ _ 0 _ _ _ Rh11.out
    have ch1 := cell_of_row _ _ 1 _ _ _ Rh11.out
    have ck0 := cell_of_row _ _ 0 _ _ _ Rk11.out
    have ck1 := cell_of_row _ _ 1 _ _ _ Rk11.out
    go_wp2_with fail
    refine (A3.out v11 HE11.out HGg11.out HGh11.out).mono ?_
    rintro e v12 ⟨rfl, hb⟩
    clear cg0 cg1 ch0 ch1 ck0 ck1
    have HE12 := Lib.hid (HE11.out.below hb)
    have HGg12 := Lib.hid (HGg11.out.below hb)
    have HGh12 := Lib.hid (HGh11.out.below hb)
    have HGk12 := Lib.hid (HGk11.out.below hb)
    have HB12 := Lib.hid (HB11.out.trans (hb.mono HB11.out.size))
    have Rg12 := Lib.hid ((hb.block _ (Array.getElem?_eq_some_iff.1 Rg11.out).1).trans Rg11.out)
    have Rh12 := Lib.hid ((hb.block _ (Array.getElem?_eq_some_iff.1 Rh11.out).1).trans Rh11.out)
    have Rk12 := Lib.hid ((hb.block _ (Array.getElem?_eq_some_iff.1 Rk11.out).1).trans Rk11.out)
    clear hb
    have cg0 := cell_of_row _ _ 0 _ _ _ Rg12.out
    have cg1 := cell_of_row _ _ 1 _ _ _ Rg12.out
    have ch0 := cell_of_row _ _ 0 _ _ _ Rh12.out
    have ch1 := cell_of_row _ _ 1 _ _ _ Rh12.out
    have ck0 := cell_of_row _ _ 0 _ _ _ Rk12.out
    have ck1 := cell_of_row _ _ 1 _ _ _ Rk12.out
    go_wp2_with fail
    refine (A4.out v12 HE12.out HGh12.out HGg12.out).mono ?_
    rintro e v13 ⟨rfl, hb⟩
    clear cg0 cg1 ch0 ch1 ck0 ck1
    have HE13 := Lib.hid (HE12.out.below hb)
    have HGg13 := Lib.hid (HGg12.out.below hb)
    have HGh13 := Lib.hid (HGh12.out.below hb)
    have HGk13 := Lib.hid (HGk12.out.below hb)
    have HB13 := Lib.hid (HB12.out.trans (hb.mono HB12.out.size))
    have Rg13 := Lib.hid ((hb.block _ (Array.getElem?_eq_some_iff.1 Rg12.out).1).trans Rg12.out)
    have Rh13 := Lib.hid ((hb.block _ (Array.getElem?_eq_some_iff.1 Rh12.out).1).trans Rh12.out)
    have Rk13 := Lib.hid ((hb.block _ (Array.getElem?_eq_some_iff.1 Rk12.out).1).trans Rk12.out)
    clear hb
    have cg0 := cell_of_row _ _ 0 _ _ _ Rg13.out
    have cg1 := cell_of_row _ _ 1 _ _ _ Rg13.out
    have ch0 := cell_of_row _ _ 0 _ _ _ Rh13.out
    have ch1 := cell_of_row _ _ 1 _ _ _ Rh13.out
    have ck0 := cell_of_row _ _ 0 _ _ _ Rk13.out
    have ck1 := cell_of_row _ _ 1 _ _ _ Rk13.out
    go_wp2_with fail
    refine (A5.out v13 HE13.out HGh13.out HGk13.out).mono ?_
    rintro e v14 ⟨rfl, hb⟩
    clear cg0 cg1 ch0 ch1 ck0 ck1
    have HE14 := Lib.hid (HE13.out.below hb)
    have HGg14 := Lib.hid (HGg13.out.below hb)
    have HGh14 := Lib.hid (HGh13.out.below hb)
    have HGk14 := Lib.hid (HGk13.out.below hb)
    have HB14 := Lib.hid (HB13.out.trans (hb.mono HB13.out.size))
    have Rg14 := Lib.hid ((hb.block _ (Array.getElem?_eq_some_iff.1 Rg13.out).1).trans Rg13.out)
    have Rh14 := Lib.hid ((hb.block _ (Array.getElem?_eq_some_iff.1 Rh13.out).1).trans Rh13.out)
    have Rk14 := Lib.hid ((hb.block _ (Array.getElem?_eq_some_iff.1 Rk13.out).1).trans Rk13.out)
    clear hb
    have cg0 := cell_of_row _ _ 0 _ _ _ Rg14.out
    have cg1 := cell_of_row _ _ 1 _ _ _ Rg14.out
    have ch0 := cell_of_row _ _ 0 _ _ _ Rh14.out
    have ch1 := cell_of_row _ _ 1 _ _ _ Rh14.out
    have ck0 := cell_of_row _ _ 0 _ _ _ Rk14.out
    have ck1 := cell_of_row _ _ 1 _ _ _ Rk14.out
    go_wp2_with fail
    refine (A6.out v14 HE14.out HGg14.out HGk14.out).mono ?_
    rintro e v15 ⟨rfl, hb⟩
    clear cg0 cg1 ch0 ch1 ck0 ck1
    have HE15 := Lib.hid (HE14.out.below hb)
    have HGg15 := Lib.hid (HGg14.out.below hb)
    have HGh15 := Lib.hid (HGh14.out.below hb)
    have HGk15 := Lib.hid (HGk14.out.below hb)
    have HB15 := Lib.hid (HB14.out.trans (hb.mono HB14.out.size))
    have Rg15 := Lib.hid ((hb.block _ (Array.getElem?_eq_some_iff.1 Rg14.out).1).trans Rg14.out)
    have Rh15 := Lib.hid ((hb.block _ (Array.getElem?_eq_some_iff.1 Rh14.out).1).trans Rh14.out)
    have Rk15 := Lib.hid ((hb.block _ (Array.getElem?_eq_some_iff.1 Rk14.out).1).trans Rk14.out)
    clear hb
    cases x3
    · go_wp2_with fail
      go_ret
      exact ⟨rfl, HB15.out⟩
    · cases x5
      · go_wp2_with fail
        go_ret
        exact ⟨rfl, HB15.out⟩
      · obtain rfl : x6 = true := htr.out rfl rfl
        go_wp2_with fail
        go_ret
        exact ⟨rfl, HB15.out⟩
  · have t1 := fun W E G => Tidy15_in r D n q c W hDg.out E G HKg.out
    obtain ⟨ea, had⟩ : ∃ b, (checkG r D.toList).2 = b := ⟨_, rfl⟩
    rw [had] at t1 hea
    have hne : (ea != 0) = true := by simp [hea]
    have T1 := Lib.hid t1
    clear t1
    refine (T1.out v7 HE7.out HGg7.out).mono ?_
    rintro e v8 ⟨T, q2, c2, rfl, hgT, hT, -, hb⟩
    have HE8 := Lib.hid (HE7.out.below hb)
    have HGg8 := Lib.hid (HGg7.out.below hb)
    have HGh8 := Lib.hid (HGh7.out.below hb)
    have HGk8 := Lib.hid (HGk7.out.below hb)
    have HB8 := Lib.hid (HB7.out.trans (hb.mono HB7.out.size))
    have Rg8 := Lib.hid ((hb.block _ (Array.getElem?_eq_some_iff.1 Rg7.out).1).trans Rg7.out)
    have Rh8 := Lib.hid ((hb.block _ (Array.getElem?_eq_some_iff.1 Rh7.out).1).trans Rh7.out)
    have Rk8 := Lib.hid ((hb.block _ (Array.getElem?_eq_some_iff.1 Rk7.out).1).trans Rk7.out)
    have HT8 := Lib.hid hgT
    have HTT := Lib.hid hT
    clear hb hgT hT
    have cg0 := cell_of_row _ _ 0 _ _ _ Rg8.out
    have cg1 := cell_of_row _ _ 1 _ _ _ Rg8.out
    have ch0 := cell_of_row _ _ 0 _ _ _ Rh8.out
    have ch1 := cell_of_row _ _ 1 _ _ _ Rh8.out
    have ck0 := cell_of_row _ _ 0 _ _ _ Rk8.out
    have ck1 := cell_of_row _ _ 1 _ _ _ Rk8.out
    go_wp2_with fail
    go_ret
    exact ⟨rfl, HB8.out.alloc HB8.out.size _⟩
end Go.Proofs.YtepelpmkmhhokaaGreatDoor
