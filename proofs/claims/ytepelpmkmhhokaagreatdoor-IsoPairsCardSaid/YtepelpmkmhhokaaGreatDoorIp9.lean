/- The first pair are the roots, none is there twice, and all but the last one fit. Conditions: the graphs came in. -/
import Derived.Test.YtepelpmkmhhokaaGreatDoorSmx
import Derived.Test.YtepelpmkmhhokaaGreatDoorSsx
set_option maxRecDepth 100000
namespace Go.Proofs.YtepelpmkmhhokaaGreatDoor
open Go.RowKit Go.Shelf
open Scs Dfs
theorem nodup_nat {l : List Nat} (h : l.Nodup) {i j : Nat} (hi : i < l.length) (hj : j < l.length) (e : l[i] = l[j]) : i = j := by
  have h2 := List.pairwise_iff_getElem.1 h
  rcases Nat.lt_trichotomy i j with hc | hc | hc
  · exact absurd e (h2 i j hi hj hc)
  · exact hc
  · exact absurd e.symm (h2 j i hj hi hc)
abbrev S6y (B : Nat) (x0 x1 x2 x3 : Value) (g o : Nat) (a b : Int) (wo W : World) : Prop :=
  W.cell? ⟨B, 0, none⟩ = some x0 ∧ W.cell? ⟨B, 1, none⟩ = some x1 ∧ W.cell? ⟨B + 1, 0, none⟩ = some x2 ∧ W.cell? ⟨B + 1, 1, none⟩ = some x3 ∧ W.cell? ⟨g, o, none⟩ = some (.int .i64 a) ∧ W.cell? ⟨g, o + 1, none⟩ = some (.int .i64 b) ∧ Below wo.heap.size wo W
theorem s6y_step {B : Nat} {x0 x1 x2 x3 : Value} {g o : Nat} {a b : Int} {wo W W' : World} (h : S6y B x0 x1 x2 x3 g o a b wo W) (hb : Below W.heap.size W W') : S6y B x0 x1 x2 x3 g o a b wo W' := by
  obtain ⟨h0, h1, h2, h3, h4, h5, hbb⟩ := h
  exact ⟨(hb.cell (block_lt_of_cell h0)).trans h0, (hb.cell (block_lt_of_cell h1)).trans h1, (hb.cell (block_lt_of_cell h2)).trans h2, (hb.cell (block_lt_of_cell h3)).trans h3, (hb.cell (block_lt_of_cell h4)).trans h4, (hb.cell (block_lt_of_cell h5)).trans h5, hbb.trans (hb.mono hbb.size)⟩
theorem s6y_drew {B : Nat} {x0 x1 x2 x3 : Value} {g o : Nat} {a b : Int} {wo W : World} (h : S6y B x0 x1 x2 x3 g o a b wo W) : S6y B x0 x1 x2 x3 g o a b wo W.drew := s6y_step h (Below.refl _ W).drew
set_option maxHeartbeats 16000000 in
theorem walkIsoPairs (ra rb : Int) (L M : Array Fn) (p p' : Option Addr) (cap cap' : Nat) (w : World) (E : Env w) (hg : GlR w p L) (hh : GlR w p' M) :
    Calls Tryz.prog 6 #[.agg #[.int .i64 ra, .slice p L.size cap], .agg #[.int .i64 rb, .slice p' M.size cap']] w fun e w' => e = .returned (.bool true) ∧ Below w.heap.size w w' := by
  have HEE := Lib.hid E
  obtain ⟨v0, hv0, hz0, hb0, r0, r1⟩ := at2 w (.cells #[.int .i64 ra, .slice p L.size cap] 24) (.cells #[.int .i64 rb, .slice p' M.size cap'] 24)
  have HE0 := Lib.hid (E.below hb0)
  have HB0 := Lib.hid hb0
  have HV0 := Lib.hid hv0
  have HZ0 := Lib.hid hz0
  have Rg0 := Lib.hid r0
  have HLg := Lib.hid hg
  have Rh0 := Lib.hid r1
  have HLh := Lib.hid hh
  clear hv0 hb0 E hg hh r0 r1 hz0
  go_enter Tryz.func6, Tryz.ntmps6
  go_wp2_with fail
  rw [HV0.out]
  refine (shown10_any v0 HE0.out).mono ?_
  rintro e v1 ⟨rfl, hb⟩
  have HE1 := Lib.hid (HE0.out.below hb)
  have HB1 := Lib.hid (HB0.out.trans (hb.mono HB0.out.size))
  have Rg1 := Lib.hid ((hb.block _ (Array.getElem?_eq_some_iff.1 Rg0.out).1).trans Rg0.out)
  have Rh1 := Lib.hid ((hb.block _ (Array.getElem?_eq_some_iff.1 Rh0.out).1).trans Rh0.out)
  have hs1 := Lib.hid (show w.heap.size + 2 ≤ v1.heap.size by have := hb.size; have := HZ0.out; omega)
  clear hb
  have cg0 := cell_of_row _ _ 0 _ _ _ Rg1.out
  have cg1 := cell_of_row _ _ 1 _ _ _ Rg1.out
  have ch0 := cell_of_row _ _ 0 _ _ _ Rh1.out
  have ch1 := cell_of_row _ _ 1 _ _ _ Rh1.out
  go_wp2_with fail
  refine (Small11_any ra L p cap v1 (HLg.out.below HB1.out)).mono ?_
  rintro e v2 ⟨r, q, n, c, rfl, ⟨Lg, hn, h201, hgo⟩, hb⟩
  clear cg0 cg1 ch0 ch1
  have HE2 := Lib.hid (HE1.out.below hb)
  have HB2 := Lib.hid (HB1.out.trans (hb.mono HB1.out.size))
  have Rg2 := Lib.hid ((hb.block _ (Array.getElem?_eq_some_iff.1 Rg1.out).1).trans Rg1.out)
  have Rh2 := Lib.hid ((hb.block _ (Array.getElem?_eq_some_iff.1 Rh1.out).1).trans Rh1.out)
  have HNg := Lib.hid hn
  have HTg := Lib.hid h201
  have HOg2 := Lib.hid hgo
  have hs2 := Lib.hid (Nat.le_trans hs1.out hb.size)
  clear hn h201 hgo hb
  have cg0 := cell_of_row _ _ 0 _ _ _ Rg2.out
  have cg1 := cell_of_row _ _ 1 _ _ _ Rg2.out
  have ch0 := cell_of_row _ _ 0 _ _ _ Rh2.out
  have ch1 := cell_of_row _ _ 1 _ _ _ Rh2.out
  have fg0 := frozen_of_row _ _ 0 _ _ Rg2.out
  have fg1 := frozen_of_row _ _ 1 _ _ Rg2.out
  go_wp2_with fail
  obtain ⟨v3, hv⟩ : ∃ v, ((v2.setCell ⟨w.heap.size, 0, none⟩ (.int .i64 r)).setCell ⟨w.heap.size, 1, none⟩ (.slice q n c)) = v := ⟨_, rfl⟩
  rw [hv]
  have rr := (heap_setCell_same _ (w.heap.size) 1 _ _ (.slice q n c) (heap_setCell_same v2 (w.heap.size) 0 _ _ (.int .i64 r) Rg2.out))
  rw [hv] at rr
  have g : v2.grownBy v3 (some (w.heap.size)) := by rw [← hv]; exact (gB_setCell (gB_setCell (gB_refl _ _) _ _) _ _)
  have hbs : Below w.heap.size v2 v3 := below_of_grown g (by omega) HB2.out.size
  have Rg3 := Lib.hid rr
  have Rh3 := Lib.hid ((g.block (w.heap.size + 1) (Array.getElem?_eq_some_iff.1 Rh2.out).1 (by simp)).trans Rh2.out)
  have HB3 := Lib.hid (HB2.out.trans hbs)
  have HE3 := Lib.hid (HEE.out.below HB3.out)
  have hs3 := Lib.hid (Nat.le_trans hs2.out g.size)
  have HOg3 := Lib.hid (GO.keepB HOg2.out g (by have := hs1.out; omega))
  clear cg0 cg1 ch0 ch1
  clear fg0 fg1 hv rr g hbs
  refine (Small11_any rb M p' cap' v3 (HLh.out.below HB3.out)).mono ?_
  rintro e v4 ⟨s, q', m, c', rfl, ⟨Lh, hn, h201, hgo⟩, hb⟩
  have HE4 := Lib.hid (HE3.out.below hb)
  have HOg4 := Lib.hid (HOg3.out.below hb)
  have HB4 := Lib.hid (HB3.out.trans (hb.mono HB3.out.size))
  have Rg4 := Lib.hid ((hb.block _ (Array.getElem?_eq_some_iff.1 Rg3.out).1).trans Rg3.out)
  have Rh4 := Lib.hid ((hb.block _ (Array.getElem?_eq_some_iff.1 Rh3.out).1).trans Rh3.out)
  have HNh := Lib.hid hn
  have HTh := Lib.hid h201
  have HOh4 := Lib.hid hgo
  have hs4 := Lib.hid (Nat.le_trans hs3.out hb.size)
  clear hn h201 hgo hb
  have cg0 := cell_of_row _ _ 0 _ _ _ Rg4.out
  have cg1 := cell_of_row _ _ 1 _ _ _ Rg4.out
  have ch0 := cell_of_row _ _ 0 _ _ _ Rh4.out
  have ch1 := cell_of_row _ _ 1 _ _ _ Rh4.out
  have fh0 := frozen_of_row _ _ 0 _ _ Rh4.out
  have fh1 := frozen_of_row _ _ 1 _ _ Rh4.out
  go_wp2_with fail
  obtain ⟨v5, hv⟩ : ∃ v, ((v4.setCell ⟨w.heap.size + 1, 0, none⟩ (.int .i64 s)).setCell ⟨w.heap.size + 1, 1, none⟩ (.slice q' m c')) = v := ⟨_, rfl⟩
  rw [hv]
  have rr := (heap_setCell_same _ (w.heap.size + 1) 1 _ _ (.slice q' m c') (heap_setCell_same v4 (w.heap.size + 1) 0 _ _ (.int .i64 s) Rh4.out))
  rw [hv] at rr
  have g : v4.grownBy v5 (some (w.heap.size + 1)) := by rw [← hv]; exact (gB_setCell (gB_setCell (gB_refl _ _) _ _) _ _)
  have hbs : Below w.heap.size v4 v5 := below_of_grown g (by omega) HB4.out.size
  have Rh5 := Lib.hid rr
  have Rg5 := Lib.hid ((g.block (w.heap.size) (Array.getElem?_eq_some_iff.1 Rg4.out).1 (by simp)).trans Rg4.out)
  have HB5 := Lib.hid (HB4.out.trans hbs)
  have HE5 := Lib.hid (HEE.out.below HB5.out)
  have hs5 := Lib.hid (Nat.le_trans hs4.out g.size)
  have HOg5 := Lib.hid (GO.keepB HOg4.out g (by have := hs1.out; have := hs2.out; have := hs3.out; omega))
  have HOh5 := Lib.hid (GO.keepB HOh4.out g (by have := hs1.out; have := hs2.out; have := hs3.out; omega))
  clear cg0 cg1 ch0 ch1
  clear fh0 fh1 hv rr g hbs
  have HGg5 := Lib.hid (HOg5.out.gl HNg.out HTg.out)
  have HKg := Lib.hid HOg5.out.k12
  have hDg := Lib.hid (show Lg.toArray.size = n from by rw [List.size_toArray]; exact HNg.out)
  obtain ⟨D, hD⟩ : ∃ D, Lg.toArray = D := ⟨_, rfl⟩
  rw [hD] at HGg5 HKg hDg
  clear hD
  have HGh5 := Lib.hid (HOh5.out.gl HNh.out HTh.out)
  have HKh := Lib.hid HOh5.out.k12
  have hDh := Lib.hid (show Lh.toArray.size = m from by rw [List.size_toArray]; exact HNh.out)
  obtain ⟨F, hD⟩ : ∃ D, Lh.toArray = D := ⟨_, rfl⟩
  rw [hD] at HGh5 HKh hDh
  clear hD
  by_cases hea : (checkG r D.toList).2 = 0
  · by_cases heb : (checkG s F.toList).2 = 0
    · have c1 := Pairs12_in r s D F n m q q' c c' v5 hDg.out hDh.out HE5.out HGg5.out HGh5.out HKg.out HKh.out
      have hpg : pairsG r s D F = ((pairsW D F r.toNat s.toNat).1, (pairsW D F r.toNat s.toNat).2, 0) := by unfold pairsG; rw [if_pos hea, if_pos heb]
      rw [hpg] at c1
      obtain ⟨hbD, hra, hlt, h200⟩ := check_right hea
      obtain ⟨hbF, hrb, hlt', h200'⟩ := check_right heb
      have hfew := pairs_few hbD hbF hlt hlt'
      obtain ⟨tl, htl⟩ := pairs_first hbD hbF hlt hlt'
      have hpf := fun t p => pairs_fit (D := D) (E := F) (r := r.toNat) (s := s.toNat) (t := t) (p := p)
      have hc5 := fun i j (hi : i < n) (hj : j < m) W G G' => Fit19_in r s D F n m q q' c c' i j W hDg.out hDh.out G G' hi hj
      obtain ⟨⟨PL, PB⟩, hPL⟩ : ∃ x, pairsW D F r.toNat s.toNat = x := ⟨_, rfl⟩
      rw [hPL] at c1 hfew htl hpf
      simp only at c1 hfew htl hpf
      have hpl : (pairA m PL)[0]! = (r, s) := by
        rw [pairA_get m PL 0 (by rw [htl]; simp), htl]
        unfold pairI
        rw [getElem!_pos _ 0 (by simp), List.getElem_cons_zero, hDh.out, pair_fst (by have := hDh.out; omega), pair_snd (by have := hDh.out; omega), ← hra, ← hrb]
      have hk0 : 0 < PL.length := by rw [htl]; simp
      have hkl : PL.length ≤ 40000 := Nat.le_trans (few_len _ _ hfew) (Nat.le_trans (Nat.mul_le_mul h200 h200') (by decide))
      rw [hDg.out, hDh.out] at hfew
      rw [hDh.out] at hpf
      have hat : ∀ t, t < PL.length → ∃ a b : Nat, a < n ∧ b < m ∧ (pairA m PL)[t]! = ((a : Int), (b : Int)) ∧ fitF D[a]! F[b]! = (decide (t + 1 < PL.length) || PB) := fun t ht => by
        have hx : PL[t]! < n * m := hfew.2 _ (by rw [getElem!_pos PL t ht]; exact List.getElem_mem ht)
        refine ⟨PL[t]! / m, PL[t]! % m, fst_lt hx, snd_lt hx, pairA_get m PL t ht, ?_⟩
        rw [Bool.eq_iff_iff, hpf t PL[t]! (by rw [getElem!_pos PL t ht]; exact List.getElem?_eq_getElem ht), Bool.or_eq_true, decide_eq_true_iff]
      have hno : ∀ t, t < PL.length → ∀ j, j < t → (pairA m PL)[j]! ≠ (pairA m PL)[t]! := fun t ht j hj e => by
        rw [pairA_get m PL t ht, pairA_get m PL j (by omega)] at e
        have e := pairI_inj e
        rw [getElem!_pos PL t ht, getElem!_pos PL j (by omega)] at e
        have := nodup_nat hfew.1 _ _ e
        omega
      have hps := pairA_size m PL
      obtain ⟨k, hk⟩ : ∃ k, PL.length = k := ⟨_, rfl⟩
      rw [hk] at hat hno hk0 hkl hps c1
      have C1 := Lib.hid c1
      have C5 := Lib.hid hc5
      have HAT := Lib.hid hat
      have HNO := Lib.hid hno
      have HK := Lib.hid hk
      have HP0 := Lib.hid hpl
      have HPS := Lib.hid hps
      clear c1 hpg hea heb hbD hra hlt h200 hbF hrb hlt' h200' hfew htl hpf hc5 hPL hpl hat hno hk hps
      have cg0 := cell_of_row _ _ 0 _ _ _ Rg5.out
      have cg1 := cell_of_row _ _ 1 _ _ _ Rg5.out
      have ch0 := cell_of_row _ _ 0 _ _ _ Rh5.out
      have ch1 := cell_of_row _ _ 1 _ _ _ Rh5.out
      go_wp2_with fail
      refine C1.out.mono ?_
      rintro e v6 ⟨va, rfl, hown, hb⟩
      obtain ⟨qa, ca, rfl, hpl⟩ := pl_own m hown HK.out.symm
      have hpl : Pl v6 qa (pairA m PL) := hpl
      obtain ⟨P, hP⟩ : ∃ P, pairA m PL = P := ⟨_, rfl⟩
      have hat := HAT.out
      have hno := HNO.out
      have hp0 := HP0.out
      have hps := HPS.out
      rw [hP] at hpl hat hno hp0 hps
      have HPL := Lib.hid hpl
      have HA := Lib.hid hat
      have HN := Lib.hid hno
      have HQ := Lib.hid hp0
      have HS := Lib.hid hps
      clear cg0 cg1 ch0 ch1
      have HE6 := Lib.hid (HE5.out.below hb)
      have HGg6 := Lib.hid (HGg5.out.below hb)
      have HGh6 := Lib.hid (HGh5.out.below hb)
      have HB6 := Lib.hid (HB5.out.trans (hb.mono HB5.out.size))
      have Rg6 := Lib.hid ((hb.block _ (Array.getElem?_eq_some_iff.1 Rg5.out).1).trans Rg5.out)
      have Rh6 := Lib.hid ((hb.block _ (Array.getElem?_eq_some_iff.1 Rh5.out).1).trans Rh5.out)
      clear hb hown hpl hat hno hp0 hps hP HAT HNO HP0 HPS
      go_wp2_with fail
      go_loopw [9] (fun i wr => ∃ t : Nat, t ≤ k ∧ i = .int .i64 t ∧ Below v6.heap.size v6 wr) (fun i _ => k - (intOf i).toNat)
      case atStart => exact ⟨0, by omega, rfl, Below.refl _ _⟩
      case round =>
        obtain ⟨t, ht, rfl, hb⟩ := hrel
        have HBt := Lib.hid hb
        obtain ⟨wo, rfl⟩ : ∃ W, W = wr := ⟨_, rfl⟩
        have Rg7 := Lib.hid ((hb.block _ (Array.getElem?_eq_some_iff.1 Rg6.out).1).trans Rg6.out)
        have Rh7 := Lib.hid ((hb.block _ (Array.getElem?_eq_some_iff.1 Rh6.out).1).trans Rh6.out)
        clear hb
        have cg0 := cell_of_row _ _ 0 _ _ _ Rg7.out
        have cg1 := cell_of_row _ _ 1 _ _ _ Rg7.out
        have ch0 := cell_of_row _ _ 0 _ _ _ Rh7.out
        have ch1 := cell_of_row _ _ 1 _ _ _ Rh7.out
        by_cases hlt : t < k
        · have i1 : (t : Int) < (k : Int) := by omega
          obtain ⟨g, o, rfl, hg, hc0, hc1⟩ := HPL.out t (by rw [HS.out]; exact hlt)
          obtain ⟨a, b, ha, hbm, hab, hfit⟩ := HA.out t hlt
          rw [hab] at hc0 hc1
          have x0 := (HBt.out.cell (p := ⟨g, o + t * 2, none⟩) hg).trans hc0
          have x1 := (HBt.out.cell (p := ⟨g, o + t * 2 + 1, none⟩) hg).trans hc1
          simp only at x0 x1
          have ia1 : ¬ (a : Int) < 0 := by omega
          have ia2 : (a : Int) < (n : Int) := by omega
          have ib1 : ¬ (b : Int) < 0 := by omega
          have ib2 : (b : Int) < (m : Int) := by omega
          have c5 := C5.out a b ha hbm
          have HC0 := Lib.hid hc0
          have HC1 := Lib.hid hc1
          have HG := Lib.hid hg
          have HAB := Lib.hid hab
          clear hc0 hc1 hg hab ha hbm
          rw [hfit] at c5
          obtain ⟨ft, hft⟩ : ∃ f, (decide (t + 1 < k) || PB) = f := ⟨_, rfl⟩
          rw [hft] at c5
          have HFT := Lib.hid hft
          have HCN : Hid (∀ W', Hid (S6y w.heap.size (.int .i64 r) (.slice q n c) (.int .i64 s) (.slice q' m c') g (o + t * 2) (a : Int) (b : Int) v6 W') → Calls Tryz.prog 19 #[.agg #[.int .i64 r, .slice q n c], .int .i64 (a : Int), .agg #[.int .i64 s, .slice q' m c'], .int .i64 (b : Int)] W' fun e W'' => e = .returned (.bool ft) ∧ Hid (S6y w.heap.size (.int .i64 r) (.slice q n c) (.int .i64 s) (.slice q' m c') g (o + t * 2) (a : Int) (b : Int) v6 W'')) :=
            Lib.hid fun W' h => (c5 W' (HGg6.out.below h.out.2.2.2.2.2.2) (HGh6.out.below h.out.2.2.2.2.2.2)).mono fun e W'' hh => ⟨hh.1, Lib.hid (s6y_step h.out hh.2)⟩
          have HSW := Lib.hid (show S6y w.heap.size (.int .i64 r) (.slice q n c) (.int .i64 s) (.slice q' m c') g (o + t * 2) (a : Int) (b : Int) v6 wo from ⟨cg0, cg1, ch0, ch1, x0, x1, HBt.out⟩)
          clear c5 hfit hft
          have ja1 : decide ((a : Int) < 0) = false := decide_eq_false ia1
          have ja2 : decide (n ≤ a) = false := decide_eq_false (by omega)
          have ja3 : decide ((n : Int) ≤ (a : Int)) = false := decide_eq_false (by omega)
          have jb1 : decide ((b : Int) < 0) = false := decide_eq_false ib1
          have jb2 : decide (m ≤ b) = false := decide_eq_false (by omega)
          have jb3 : decide ((m : Int) ≤ (b : Int)) = false := decide_eq_false (by omega)
          go_wp2_with fail
          go_quiet (fail)
          have hs8 := Lib.hid (s6y_step HSW.out (below_drewN (Below.refl _ wo) nq))
          clear cg0 cg1 ch0 ch1 x0 x1 ja1 ja2 ja3 jb1 jb2 jb3 ia1 ia2 ib1 ib2 HSW
          go_wp2_with fail
          go_region_held3 (S6y w.heap.size (.int .i64 r) (.slice q n c) (.int .i64 s) (.slice q' m c') g (o + t * 2) (a : Int) (b : Int) v6) (first | exact Hid.out (by assumption) | exact s6y_drew (Hid.out (by assumption))) (first
            | ((with_reducible refine (HCN.out _ (by first | assumption | exact Lib.hid (s6y_drew (Hid.out (by assumption))))).mono ?_); rintro e wq ⟨rfl, hbq⟩))
          have HB8 := Lib.hid hbq.out.2.2.2.2.2.2
          clear hbq
          have hft := HFT.out
          by_cases hl : t + 1 < k
          · rw [decide_eq_true hl, Bool.true_or] at hft
            subst hft
            have i2 : (t : Int) < (k : Int) - 1 := by omega
            go_wp2_with fail
            go_loopw [11] (fun j wr => ∃ u : Nat, u ≤ t ∧ j = .int .i64 u ∧ Below v6.heap.size v6 wr) (fun j _ => t - (intOf j).toNat)
            case atStart => exact ⟨0, by omega, rfl, HB8.out⟩
            case round =>
              obtain ⟨u, hu, rfl, hb⟩ := hrel
              have HBu := Lib.hid hb
              clear hb
              by_cases hlu : u < t
              · have i3 : (u : Int) < (t : Int) := by omega
                have i4 : (u : Int) < (k : Int) := by omega
                obtain ⟨g2, o2, e, hg2, hd0, hd1⟩ := HPL.out u (by rw [HS.out]; omega)
                injection e with e
                injection e with e1 e2 _
                subst e1 e2
                have hne := HN.out t hlt u hlu
                rw [HAB.out] at hne
                obtain ⟨y, hy⟩ : ∃ x, P[u]! = x := ⟨_, rfl⟩
                rw [hy] at hd0 hd1 hne
                obtain ⟨y1, y2⟩ := y
                have c0 := (HBu.out.cell (p := ⟨g, o + t * 2, none⟩) HG.out).trans HC0.out
                have c1 := (HBu.out.cell (p := ⟨g, o + t * 2 + 1, none⟩) HG.out).trans HC1.out
                have d0 := (HBu.out.cell (p := ⟨g, o + u * 2, none⟩) HG.out).trans hd0
                have d1 := (HBu.out.cell (p := ⟨g, o + u * 2 + 1, none⟩) HG.out).trans hd1
                have qe := eql_pair (y1, y2) ((a : Int), (b : Int))
                rw [decide_eq_false hne] at qe
                simp only at c0 c1 d0 d1 qe
                clear hd0 hd1 hy hne hg2
                go_wp2_with fail
                go_region
                go_wp2_with fail
                go_roundw
                case rel => exact ⟨u + 1, by omega, by go_num, HBu.out.drew⟩
                case measure => simp [intOf]; omega
              · have i3 : ¬ (u : Int) < (t : Int) := by omega
                obtain rfl : u = t := by omega
                go_wp2_with fail
                go_roundw
                case rel => exact ⟨u + 1, by omega, by go_num, HBu.out⟩
                case measure => simp [intOf]; omega
          · rw [decide_eq_false hl, Bool.false_or] at hft
            subst hft
            have i2 : ¬ (t : Int) < (k : Int) - 1 := by omega
            go_wp2_with fail
            go_loopw [11] (fun j wr => ∃ u : Nat, u ≤ t ∧ j = .int .i64 u ∧ Below v6.heap.size v6 wr) (fun j _ => t - (intOf j).toNat)
            case atStart => exact ⟨0, by omega, rfl, HB8.out⟩
            case round =>
              obtain ⟨u, hu, rfl, hb⟩ := hrel
              have HBu := Lib.hid hb
              clear hb
              by_cases hlu : u < t
              · have i3 : (u : Int) < (t : Int) := by omega
                have i4 : (u : Int) < (k : Int) := by omega
                obtain ⟨g2, o2, e, hg2, hd0, hd1⟩ := HPL.out u (by rw [HS.out]; omega)
                injection e with e
                injection e with e1 e2 _
                subst e1 e2
                have hne := HN.out t hlt u hlu
                rw [HAB.out] at hne
                obtain ⟨y, hy⟩ : ∃ x, P[u]! = x := ⟨_, rfl⟩
                rw [hy] at hd0 hd1 hne
                obtain ⟨y1, y2⟩ := y
                have c0 := (HBu.out.cell (p := ⟨g, o + t * 2, none⟩) HG.out).trans HC0.out
                have c1 := (HBu.out.cell (p := ⟨g, o + t * 2 + 1, none⟩) HG.out).trans HC1.out
                have d0 := (HBu.out.cell (p := ⟨g, o + u * 2, none⟩) HG.out).trans hd0
                have d1 := (HBu.out.cell (p := ⟨g, o + u * 2 + 1, none⟩) HG.out).trans hd1
                have qe := eql_pair (y1, y2) ((a : Int), (b : Int))
                rw [decide_eq_false hne] at qe
                simp only at c0 c1 d0 d1 qe
                clear hd0 hd1 hy hne hg2
                go_wp2_with fail
                go_region
                go_wp2_with fail
                go_roundw
                case rel => exact ⟨u + 1, by omega, by go_num, HBu.out.drew⟩
                case measure => simp [intOf]; omega
              · have i3 : ¬ (u : Int) < (t : Int) := by omega
                obtain rfl : u = t := by omega
                go_wp2_with fail
                go_roundw
                case rel => exact ⟨u + 1, by omega, by go_num, HBu.out⟩
                case measure => simp [intOf]; omega
        · have i1 : ¬ (t : Int) < (k : Int) := by omega
          obtain rfl : t = k := by omega
          have i5 : (0 : Int) < (t : Int) := by omega
          obtain ⟨g, o, rfl, hg, hc0, hc1⟩ := HPL.out 0 (by rw [HS.out]; exact hk0)
          rw [HQ.out] at hc0 hc1
          have x0 := (HBt.out.cell (p := ⟨g, o + 0 * 2, none⟩) hg).trans hc0
          have x1 := (HBt.out.cell (p := ⟨g, o + 0 * 2 + 1, none⟩) hg).trans hc1
          simp only [Nat.zero_mul, Nat.add_zero] at x0 x1
          have qe := eql_pair (r, s) (r, s)
          rw [decide_eq_true rfl] at qe
          simp only at qe
          clear hc0 hc1 hg
          go_wp2_with fail
          go_region
          go_wp2_with fail
          go_ret
          exact ⟨rfl, HB6.out.trans (HBt.out.drew.mono HB6.out.size)⟩
    · have c1 := Pairs12_in r s D F n m q q' c c' v5 hDg.out hDh.out HE5.out HGg5.out HGh5.out HKg.out HKh.out
      have hpg : pairsG r s D F = ([], false, (checkG s F.toList).2) := by unfold pairsG; rw [if_pos hea, if_neg heb]
      rw [hpg] at c1
      obtain ⟨ex, hbd⟩ : ∃ b, (checkG s F.toList).2 = b := ⟨_, rfl⟩
      rw [hbd] at c1 heb
      have hne : (ex != 0) = true := bne_iff_ne.2 heb
      have C1 := Lib.hid c1
      clear hpg hbd c1
      have cg0 := cell_of_row _ _ 0 _ _ _ Rg5.out
      have cg1 := cell_of_row _ _ 1 _ _ _ Rg5.out
      have ch0 := cell_of_row _ _ 0 _ _ _ Rh5.out
      have ch1 := cell_of_row _ _ 1 _ _ _ Rh5.out
      go_wp2_with fail
      refine C1.out.mono ?_
      rintro e v6 ⟨va, rfl, hown, hb⟩
      obtain ⟨qa, ca, rfl, -⟩ := pl_own m hown rfl
      clear cg0 cg1 ch0 ch1
      have HB6 := Lib.hid (HB5.out.trans (hb.mono HB5.out.size))
      clear hb hown
      go_wp2_with fail
      go_ret
      exact ⟨rfl, HB6.out⟩
  · have c1 := Pairs12_in r s D F n m q q' c c' v5 hDg.out hDh.out HE5.out HGg5.out HGh5.out HKg.out HKh.out
    have hpg : pairsG r s D F = ([], false, (checkG r D.toList).2) := by unfold pairsG; rw [if_neg hea]
    rw [hpg] at c1
    obtain ⟨ex, hbd⟩ : ∃ b, (checkG r D.toList).2 = b := ⟨_, rfl⟩
    rw [hbd] at c1 hea
    have hne : (ex != 0) = true := bne_iff_ne.2 hea
    have C1 := Lib.hid c1
    clear hpg hbd c1
    have cg0 := cell_of_row _ _ 0 _ _ _ Rg5.out
    have cg1 := cell_of_row _ _ 1 _ _ _ Rg5.out
    have ch0 := cell_of_row _ _ 0 _ _ _ Rh5.out
    have ch1 := cell_of_row _ _ 1 _ _ _ Rh5.out
    go_wp2_with fail
    refine C1.out.mono ?_
    rintro e v6 ⟨va, rfl, hown, hb⟩
    obtain ⟨qa, ca, rfl, -⟩ := pl_own m hown rfl
    clear cg0 cg1 ch0 ch1
    have HB6 := Lib.hid (HB5.out.trans (hb.mono HB5.out.size))
    clear hb hown
    go_wp2_with fail
    go_ret
    exact ⟨rfl, HB6.out⟩
end Go.Proofs.YtepelpmkmhhokaaGreatDoor
