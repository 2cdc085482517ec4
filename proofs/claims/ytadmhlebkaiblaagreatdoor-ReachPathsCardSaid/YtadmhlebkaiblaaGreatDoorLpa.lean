/- Each path leads in a graph, and in its tidy one, to nodes of the same scalar, kind, keys, and number of kids: the walk of the law. Conditions: the surroundings. -/
import Derived.Test.YtadmhlebkaiblaaGreatDoorPts
import Derived.Test.YtadmhlebkaiblaaGreatDoorPat
import Derived.Deep.RegionHeld3
import Derived.BigQuiet
set_option maxRecDepth 100000
namespace Go.Proofs.YtadmhlebkaiblaaGreatDoor
open Go.RowKit Go.Shelf
open Scs Dfs
theorem paths_bad {root : Int} {D : Array Fn} (he : (checkG root D.toList).2 ≠ 0) (l : List Int) : atG root D l = (0, false) ∧ atG 0 #[] l = (0, false) := by
  unfold atG
  rw [if_neg he]
  exact ⟨rfl, rfl⟩
theorem paths_ok {root : Int} {D T : Array Fn} (he : (checkG root D.toList).2 = 0) (hT : TidyG D T (wk D root.toNat)) (l : List Int) : (atG root D l = (0, false) ∧ atG 0 T l = (0, false)) ∨
    ∃ a b : Nat, atG root D l = ((a : Int), true) ∧ atG 0 T l = ((b : Int), true) ∧ a < D.size ∧ b < T.size ∧ T[b]!.k = D[a]!.k ∧ T[b]!.x = D[a]!.x ∧ keysOf T[b]! = keysOf D[a]! ∧ T[b]!.kids.size = D[a]!.kids.size := by
  obtain ⟨hb, _, hr, h200⟩ := check_right he
  unfold atG
  rw [if_pos he, hT.check hb hr h200, if_pos rfl, show ((0 : Int)).toNat = 0 from rfl, hT.path hb hr]
  cases ha : at_ (KN D) root.toNat l with
  | none => exact .inl ⟨rfl, rfl⟩
  | some a =>
    have ham : a ∈ wk D root.toNat := at_within (S := fun x => x ∈ wk D root.toNat) (walk_closed (KN_lt hb) hr) l _ a (wk_mem hb hr) ha
    obtain ⟨h1, hR, hF⟩ := hT.of_mem hb hr ham
    exact .inr ⟨a, _, rfl, rfl, wk_lt hb hr a ham, h1, hF.k, hF.x, by rw [hF.keysOf hR, hF.keys], (hF.sizes hR).1⟩
/-- two boxes, and two nodes of the same scalar and kind -/
abbrev S14 (a b b1 o1 n c b2 o2 m ct x y nd cd ce : Nat) (root k x0 x1 : Int) (x2 : ByteArray) (pd pe : Option Addr) (wo W : World) : Prop :=
  W.cell? ⟨a, 0, none⟩ = some (.int .i64 root) ∧ W.cell? ⟨a, 1, none⟩ = some (.slice (some ⟨b1, o1, none⟩) n c) ∧ W.cell? ⟨b, 0, none⟩ = some (.int .i64 0) ∧ W.cell? ⟨b, 1, none⟩ = some (.slice (some ⟨b2, o2, none⟩) m ct) ∧ W.cell? ⟨b1, o1 + x * 6, none⟩ = some (.int .i64 k) ∧ W.cell? ⟨b1, o1 + x * 6 + 1, none⟩ = some (.int .i64 x0) ∧ W.cell? ⟨b1, o1 + x * 6 + 2, none⟩ = some (.int .i64 x1) ∧ W.cell? ⟨b1, o1 + x * 6 + 3, none⟩ = some (.string x2) ∧ W.cell? ⟨b1, o1 + x * 6 + 5, none⟩ = some (.slice pd nd cd) ∧ W.cell? ⟨b2, o2 + y * 6, none⟩ = some (.int .i64 k) ∧ W.cell? ⟨b2, o2 + y * 6 + 1, none⟩ = some (.int .i64 x0) ∧ W.cell? ⟨b2, o2 + y * 6 + 2, none⟩ = some (.int .i64 x1) ∧ W.cell? ⟨b2, o2 + y * 6 + 3, none⟩ = some (.string x2) ∧ W.cell? ⟨b2, o2 + y * 6 + 5, none⟩ = some (.slice pe nd ce) ∧ Below wo.heap.size wo W
theorem s14_step {a b b1 o1 n c b2 o2 m ct x y nd cd ce : Nat} {root k x0 x1 : Int} {x2 : ByteArray} {pd pe : Option Addr} {wo W W' : World} (h : S14 a b b1 o1 n c b2 o2 m ct x y nd cd ce root k x0 x1 x2 pd pe wo W) (hb : Below W.heap.size W W') : S14 a b b1 o1 n c b2 o2 m ct x y nd cd ce root k x0 x1 x2 pd pe wo W' := by
  obtain ⟨h0, h1, h2, h3, h4, h5, h6, h7, h8, h9, h10, h11, h12, h13, hbb⟩ := h
  exact ⟨(hb.cell (block_lt_of_cell h0)).trans h0, (hb.cell (block_lt_of_cell h1)).trans h1, (hb.cell (block_lt_of_cell h2)).trans h2, (hb.cell (block_lt_of_cell h3)).trans h3, (hb.cell (block_lt_of_cell h4)).trans h4, (hb.cell (block_lt_of_cell h5)).trans h5, (hb.cell (block_lt_of_cell h6)).trans h6, (hb.cell (block_lt_of_cell h7)).trans h7, (hb.cell (block_lt_of_cell h8)).trans h8, (hb.cell (block_lt_of_cell h9)).trans h9, (hb.cell (block_lt_of_cell h10)).trans h10, (hb.cell (block_lt_of_cell h11)).trans h11, (hb.cell (block_lt_of_cell h12)).trans h12, (hb.cell (block_lt_of_cell h13)).trans h13, hbb.trans (hb.mono hbb.size)⟩
theorem s14_drew {a b b1 o1 n c b2 o2 m ct x y nd cd ce : Nat} {root k x0 x1 : Int} {x2 : ByteArray} {pd pe : Option Addr} {wo W : World} (h : S14 a b b1 o1 n c b2 o2 m ct x y nd cd ce root k x0 x1 x2 pd pe wo W) : S14 a b b1 o1 n c b2 o2 m ct x y nd cd ce root k x0 x1 x2 pd pe wo W.drew := s14_step h (Below.refl _ W).drew
set_option maxHeartbeats 16000000 in
theorem walkReachPaths (root : Int) (L : Array Fn) (p : Option Addr) (cap : Nat) (P : Array Int) (pp : Option Addr) (pc : Nat) (w : World) (E : Env w) (hL : GlR w p L) (hP : IlR w pp P) (hc : P.size ≤ pc) (hn : P.size ≤ 9223372036854775807) (hpn : pp = none → P.size = 0) :
    Calls Tryz.prog 5 #[.agg #[.int .i64 root, .slice p L.size cap], .slice pp P.size pc] w fun e w' => e = .returned (.bool true) ∧ Below w.heap.size w w' := by
  have HEE := Lib.hid E
  have HPP := Lib.hid (il_first hP)
  have HPA := Lib.hid fun w => path12_any pp P pc w hc hn hpn
  obtain ⟨Q, hQ⟩ : ∃ Q, P.extract 0 30 = Q := ⟨_, rfl⟩
  have hq30 : Q.size ≤ 30 := by rw [← hQ, Array.size_extract]; omega
  rw [hQ] at HPP HPA
  obtain ⟨v0, hv0⟩ : ∃ v, (w.alloc (.cells #[.int .i64 root, .slice p L.size cap] 24)) = v := ⟨_, rfl⟩
  have hb0 : Below w.heap.size w v0 := by rw [← hv0]; exact ((Below.refl _ w).alloc (Nat.le_refl _) _)
  have r0 : v0.heap[w.heap.size]? = some (.cells #[.int .i64 root, .slice p L.size cap] 24) := by
    rw [← hv0]
    have h := heap_alloc_new w (.cells #[.int .i64 root, .slice p L.size cap] 24)
    exact h
  have HE0 := Lib.hid (E.below hb0)
  have HL0 := Lib.hid (hL.below hb0)
  have HB0 := Lib.hid hb0
  have Rg0 := Lib.hid r0
  have HV0 := Lib.hid hv0
  obtain ⟨ps, hps⟩ : ∃ n, P.size = n := ⟨_, rfl⟩
  rw [hps] at HPA ⊢
  obtain ⟨qs, hqs⟩ : ∃ n, Q.size = n := ⟨_, rfl⟩
  rw [hqs] at HPA hq30
  have HQS := Lib.hid hqs
  clear hv0 hb0 E hL r0 hQ hP hc hn hpn hps hqs
  go_enter Tryz.func5, Tryz.ntmps5
  go_wp2_with fail
  rw [HV0.out]
  refine (rch.shown _ HE0.out).mono ?_
  rintro e v1 ⟨rfl, hb⟩
  have HE1 := Lib.hid (HE0.out.below hb)
  have HL1 := Lib.hid (HL0.out.below hb)
  have HB1 := Lib.hid (HB0.out.trans (hb.mono HB0.out.size))
  have Rg1 := Lib.hid ((hb.block _ (Array.getElem?_eq_some_iff.1 Rg0.out).1).trans Rg0.out)
  clear hb
  have cg0 := cell_of_row _ _ 0 _ _ _ Rg1.out
  have cg1 := cell_of_row _ _ 1 _ _ _ Rg1.out
  go_wp2_with fail
  refine (Cut07_any root L p cap v1 HL1.out).mono ?_
  rintro e v2 ⟨q, n, c, rfl, ⟨L', hn, h201, hgo⟩, hb⟩
  clear cg0 cg1
  have HE2 := Lib.hid (HE1.out.below hb)
  have HB2 := Lib.hid (HB1.out.trans (hb.mono HB1.out.size))
  have Rg2 := Lib.hid ((hb.block _ (Array.getElem?_eq_some_iff.1 Rg1.out).1).trans Rg1.out)
  have HNa := Lib.hid hn
  have HTa := Lib.hid h201
  have HGa2 := Lib.hid hgo
  clear hn h201 hgo hb
  have cg0 := cell_of_row _ _ 0 _ _ _ Rg2.out
  have cg1 := cell_of_row _ _ 1 _ _ _ Rg2.out
  have f0 := frozen_of_row _ _ 0 _ _ Rg2.out
  have f1 := frozen_of_row _ _ 1 _ _ Rg2.out
  go_upto_region 3 with fail
  obtain ⟨v3, hv⟩ : ∃ v, ((v2.setCell ⟨w.heap.size, 0, none⟩ (.int .i64 root)).setCell ⟨w.heap.size, 1, none⟩ (.slice q n c)) = v := ⟨_, rfl⟩
  rw [hv]
  have r := (heap_setCell_same _ (w.heap.size) 1 _ _ (.slice q n c) (heap_setCell_same v2 (w.heap.size) 0 _ _ (.int .i64 root) Rg2.out))
  rw [hv] at r
  have g : v2.grownBy v3 (some (w.heap.size)) := by rw [← hv]; exact (gB_setCell (gB_setCell (gB_refl _ _) _ _) _ _)
  have hbs : Below w.heap.size v2 v3 := below_of_grown g (by omega) HB2.out.size
  have hB1 : w.heap.size < v1.heap.size := (Array.getElem?_eq_some_iff.1 Rg1.out).1
  have Rg3 := Lib.hid r
  have HB3 := Lib.hid (HB2.out.trans hbs)
  have HE3 := Lib.hid (HEE.out.below HB3.out)
  have HGO3 : Hid (GO v1.heap.size v3 (.slice q n c) L') := Lib.hid (GO.keepB HGa2.out g hB1)
  have HG3 := Lib.hid (HGO3.out.gl HNa.out HTa.out)
  have HK := Lib.hid HGO3.out.k12
  have HP3 := Lib.hid (HPP.out.below HB3.out)
  have hDn : L'.toArray.size = n := by rw [List.size_toArray]; exact HNa.out
  obtain ⟨D, hD⟩ : ∃ D, L'.toArray = D := ⟨_, rfl⟩
  rw [hD] at HG3 HK hDn
  clear cg0 cg1 f0 f1 hv r g hbs hB1 hD
  have hTP := fun W E G => rch.tidy root D q c W E G HK.out
  have hA1 := fun W E G I => rch.at_ root D q c Q pp pc W E G HK.out I
  have hKD := fun i W E G => Keys_any root D q c i W E G
  have hpb := fun h => paths_bad (root := root) (D := D) h Q.toList
  have hpo := fun T h hT => paths_ok (root := root) (D := D) (T := T) h hT Q.toList
  have hck := check_right (root := root) (L := D)
  obtain ⟨te, hte⟩ : ∃ r, (checkG root D.toList).2 = r := ⟨_, rfl⟩
  rw [hDn] at hTP hA1 hKD
  rw [hte] at hTP hpb hpo hck
  rw [HQS.out] at hA1
  by_cases h0 : te = 0
  · subst h0
    have hfw := fun T (hT : TidyG D T (wk D root.toNat)) => hT.few (hck rfl).1 (hck rfl).2.2.1 HK.out
    have HTP := Lib.hid hTP
    have HA1 := Lib.hid hA1
    have HKD := Lib.hid hKD
    have HPO := Lib.hid fun T hT => hpo T rfl hT
    have HFW := Lib.hid hfw
    have HDN := Lib.hid hDn
    clear hTP hA1 hKD hpo hpb hck hfw hDn hte
    have cg0 := cell_of_row _ _ 0 _ _ _ Rg3.out
    have cg1 := cell_of_row _ _ 1 _ _ _ Rg3.out
    go_wp2_with fail
    refine (HPA.out _).mono ?_
    rintro e v4 ⟨rfl, rfl⟩
    clear cg0 cg1
    have HE4 := HE3
    have HG4 := HG3
    have HP4 := HP3
    have HB4 := HB3
    have Rg4 := Rg3
    have cg0 := cell_of_row _ _ 0 _ _ _ Rg4.out
    have cg1 := cell_of_row _ _ 1 _ _ _ Rg4.out
    go_wp2_with fail
    refine (HTP.out v4 HE4.out HG4.out).mono ?_
    rintro e v5 ⟨T, qt, ct, rfl, hg, ht1, _, hb⟩
    clear cg0 cg1
    have HE5 := Lib.hid (HE4.out.below hb)
    have HG5 := Lib.hid (HG4.out.below hb)
    have HP5 := Lib.hid (HP4.out.below hb)
    have HB5 := Lib.hid (HB4.out.trans (hb.mono HB4.out.size))
    have Rg5 := Lib.hid ((hb.block _ (Array.getElem?_eq_some_iff.1 Rg4.out).1).trans Rg4.out)
    have htt := ht1 (by trivial)
    have hpo := HPO.out T htt
    have h12 := HFW.out T htt
    have HT5 := Lib.hid hg
    clear hg ht1 htt
    clear hb
    have hA2 := fun W E G I => rch.at_ 0 T qt ct Q pp pc W E G h12 I
    have hKT := fun i W E G => Keys_any 0 T qt ct i W E G
    rw [HQS.out] at hA2
    obtain ⟨mt, hmt⟩ : ∃ n, T.size = n := ⟨_, rfl⟩
    rw [hmt] at hA2 hKT
    have HMT := Lib.hid hmt
    have HKT := Lib.hid hKT
    clear hKT h12 hmt
    go_upto_region 5 with fail
    rw [HMT.out]
    obtain ⟨v6, hv, _, hb, hx⟩ := at1 v5 (.cells #[.int .i64 0, .slice qt mt ct] 24)
    rw [hv]
    have HE6 := Lib.hid (HE5.out.below hb)
    have HG6 := Lib.hid (HG5.out.below hb)
    have HP6 := Lib.hid (HP5.out.below hb)
    have HT6 := Lib.hid (HT5.out.below hb)
    have HB6 := Lib.hid (HB5.out.trans (hb.mono HB5.out.size))
    have Rg6 := Lib.hid ((hb.block _ (Array.getElem?_eq_some_iff.1 Rg5.out).1).trans Rg5.out)
    have Rt6 := Lib.hid hx
    clear hv hb hx
    have hA1 := HA1.out
    rcases hpo with ⟨h1, h2⟩ | ⟨a, b, h1, h2, hal, hbl, hk, hx, hks, hds⟩
    · rw [h1] at hA1
      rw [h2] at hA2
      have HA1 := Lib.hid hA1
      have HA2 := Lib.hid hA2
      clear hA1 hA2 h1 h2
      have cg0 := cell_of_row _ _ 0 _ _ _ Rg6.out
      have cg1 := cell_of_row _ _ 1 _ _ _ Rg6.out
      go_wp2_with fail
      refine (HA1.out v6 HE6.out HG6.out HP6.out).mono ?_
      rintro e v7 ⟨rfl, hb⟩
      clear cg0 cg1
      have HE7 := Lib.hid (HE6.out.below hb)
      have HG7 := Lib.hid (HG6.out.below hb)
      have HP7 := Lib.hid (HP6.out.below hb)
      have HT7 := Lib.hid (HT6.out.below hb)
      have HB7 := Lib.hid (HB6.out.trans (hb.mono HB6.out.size))
      have Rg7 := Lib.hid ((hb.block _ (Array.getElem?_eq_some_iff.1 Rg6.out).1).trans Rg6.out)
      have Rt7 := Lib.hid ((hb.block _ (Array.getElem?_eq_some_iff.1 Rt6.out).1).trans Rt6.out)
      clear hb
      have ct0 := cell_of_row _ _ 0 _ _ _ Rt7.out
      have ct1 := cell_of_row _ _ 1 _ _ _ Rt7.out
      go_wp2_with fail
      refine (HA2.out v7 HE7.out HT7.out HP7.out).mono ?_
      rintro e v8 ⟨rfl, hb⟩
      clear ct0 ct1
      have HE8 := Lib.hid (HE7.out.below hb)
      have HG8 := Lib.hid (HG7.out.below hb)
      have HP8 := Lib.hid (HP7.out.below hb)
      have HT8 := Lib.hid (HT7.out.below hb)
      have HB8 := Lib.hid (HB7.out.trans (hb.mono HB7.out.size))
      have Rg8 := Lib.hid ((hb.block _ (Array.getElem?_eq_some_iff.1 Rg7.out).1).trans Rg7.out)
      have Rt8 := Lib.hid ((hb.block _ (Array.getElem?_eq_some_iff.1 Rt7.out).1).trans Rt7.out)
      clear hb
      go_wp2_with fail
      go_ret
      exact ⟨rfl, HB8.out⟩
    · rw [h1] at hA1
      rw [h2] at hA2
      have hk1 := HKD.out (a : Int)
      have hk2 := HKT.out (b : Int)
      rw [keys_yes hal] at hk1
      rw [keys_yes hbl, hks] at hk2
      obtain ⟨ks, hkk⟩ : ∃ ks, keysOf D[a]! = ks := ⟨_, rfl⟩
      rw [hkk] at hk1 hk2
      simp only at hk1 hk2 hA1 hA2
      obtain ⟨nk, hnk⟩ : ∃ n, ks.length = n := ⟨_, rfl⟩
      rw [hnk] at hk1 hk2
      have han : (a : Int) < (n : Int) := by have := HDN.out; omega
      have hbn : (b : Int) < (mt : Int) := by have := HMT.out; omega
      have HA1 := Lib.hid hA1
      have HA2 := Lib.hid hA2
      have HK1 := Lib.hid hk1
      have HK2 := Lib.hid hk2
      have HNK := Lib.hid hnk
      clear hA1 hA2 hk1 hk2 h1 h2 hks hkk hnk
      have cg0 := cell_of_row _ _ 0 _ _ _ Rg6.out
      have cg1 := cell_of_row _ _ 1 _ _ _ Rg6.out
      go_wp2_with fail
      refine (HA1.out v6 HE6.out HG6.out HP6.out).mono ?_
      rintro e v7 ⟨rfl, hb⟩
      clear cg0 cg1
      have HE7 := Lib.hid (HE6.out.below hb)
      have HG7 := Lib.hid (HG6.out.below hb)
      have HP7 := Lib.hid (HP6.out.below hb)
      have HT7 := Lib.hid (HT6.out.below hb)
      have HB7 := Lib.hid (HB6.out.trans (hb.mono HB6.out.size))
      have Rg7 := Lib.hid ((hb.block _ (Array.getElem?_eq_some_iff.1 Rg6.out).1).trans Rg6.out)
      have Rt7 := Lib.hid ((hb.block _ (Array.getElem?_eq_some_iff.1 Rt6.out).1).trans Rt6.out)
      clear hb
      have ct0 := cell_of_row _ _ 0 _ _ _ Rt7.out
      have ct1 := cell_of_row _ _ 1 _ _ _ Rt7.out
      go_wp2_with fail
      refine (HA2.out v7 HE7.out HT7.out HP7.out).mono ?_
      rintro e v8 ⟨rfl, hb⟩
      clear ct0 ct1
      have HE8 := Lib.hid (HE7.out.below hb)
      have HG8 := Lib.hid (HG7.out.below hb)
      have HP8 := Lib.hid (HP7.out.below hb)
      have HT8 := Lib.hid (HT7.out.below hb)
      have HB8 := Lib.hid (HB7.out.trans (hb.mono HB7.out.size))
      have Rg8 := Lib.hid ((hb.block _ (Array.getElem?_eq_some_iff.1 Rg7.out).1).trans Rg7.out)
      have Rt8 := Lib.hid ((hb.block _ (Array.getElem?_eq_some_iff.1 Rt7.out).1).trans Rt7.out)
      clear hb
      have g0 : decide ((a : Int) < 0) = false := decide_eq_false (by omega)
      have g1 : ¬ ((a : Int) ≥ (n : Int)) := by omega
      have g2 : decide ((b : Int) < 0) = false := decide_eq_false (by omega)
      have g3 : ¬ ((b : Int) ≥ (mt : Int)) := by omega
      have ct0 := cell_of_row _ _ 0 _ _ _ Rt8.out
      have ct1 := cell_of_row _ _ 1 _ _ _ Rt8.out
      have cg0 := cell_of_row _ _ 0 _ _ _ Rg8.out
      have cg1 := cell_of_row _ _ 1 _ _ _ Rg8.out
      go_wp2_with fail
      refine (HK1.out v8 HE8.out HG8.out).mono ?_
      rintro e v9 ⟨q1, c1, rfl, hs, hb⟩
      clear cg0 cg1
      have HE9 := Lib.hid (HE8.out.below hb)
      have HG9 := Lib.hid (HG8.out.below hb)
      have HP9 := Lib.hid (HP8.out.below hb)
      have HT9 := Lib.hid (HT8.out.below hb)
      have HB9 := Lib.hid (HB8.out.trans (hb.mono HB8.out.size))
      have Rg9 := Lib.hid ((hb.block _ (Array.getElem?_eq_some_iff.1 Rg8.out).1).trans Rg8.out)
      have Rt9 := Lib.hid ((hb.block _ (Array.getElem?_eq_some_iff.1 Rt8.out).1).trans Rt8.out)
      have HS9 := Lib.hid hs
      clear hs
      clear hb
      clear ct0 ct1
      have ct0 := cell_of_row _ _ 0 _ _ _ Rt9.out
      have ct1 := cell_of_row _ _ 1 _ _ _ Rt9.out
      go_wp2_with fail
      refine (HK2.out v9 HE9.out HT9.out).mono ?_
      rintro e v10 ⟨q2, c2, rfl, hs, hb⟩
      clear ct0 ct1
      have HE10 := Lib.hid (HE9.out.below hb)
      have HG10 := Lib.hid (HG9.out.below hb)
      have HP10 := Lib.hid (HP9.out.below hb)
      have HT10 := Lib.hid (HT9.out.below hb)
      have HS10 := Lib.hid (HS9.out.below hb)
      have HB10 := Lib.hid (HB9.out.trans (hb.mono HB9.out.size))
      have Rg10 := Lib.hid ((hb.block _ (Array.getElem?_eq_some_iff.1 Rg9.out).1).trans Rg9.out)
      have Rt10 := Lib.hid ((hb.block _ (Array.getElem?_eq_some_iff.1 Rt9.out).1).trans Rt9.out)
      have HU10 := Lib.hid hs
      clear hs
      clear hb
      have cg0 := cell_of_row _ _ 0 _ _ _ Rg10.out
      have cg1 := cell_of_row _ _ 1 _ _ _ Rg10.out
      have ct0 := cell_of_row _ _ 0 _ _ _ Rt10.out
      have ct1 := cell_of_row _ _ 1 _ _ _ Rt10.out
      obtain ⟨b1, o1, hq1, _, d0, d1, d2, d3, _, d5⟩ := HG10.out.at a hal
      obtain ⟨b2, o2, hq2, _, e0, e1, e2, e3, _, e5⟩ := HT10.out.at b hbl
      rw [hk] at e0
      rw [hx] at e1 e2 e3
      rw [hds] at e5
      rw [hq1] at cg1
      rw [hq2] at ct1
      obtain ⟨kk, hkk⟩ : ∃ z, D[a]!.k = z := ⟨_, rfl⟩
      obtain ⟨⟨x0, x1, x2⟩, hxx⟩ : ∃ z, D[a]!.x = z := ⟨_, rfl⟩
      obtain ⟨nd, hnd⟩ : ∃ z, D[a]!.kids.size = z := ⟨_, rfl⟩
      obtain ⟨pd, hpd⟩ : ∃ z, D[a]!.pd = z := ⟨_, rfl⟩
      obtain ⟨cd, hcd⟩ : ∃ z, D[a]!.cd = z := ⟨_, rfl⟩
      obtain ⟨pe, hpe⟩ : ∃ z, T[b]!.pd = z := ⟨_, rfl⟩
      obtain ⟨ce, hce⟩ : ∃ z, T[b]!.cd = z := ⟨_, rfl⟩
      rw [hkk] at d0 e0
      rw [hxx] at d1 d2 d3 e1 e2 e3
      rw [hpd, hnd, hcd] at d5
      rw [hpe, hnd, hce] at e5
      have hsm := fun W A B => sameS_any ks.toArray ks.toArray q1 q2 c1 c2 W A B
      rw [decide_eq_true rfl, show ks.toArray.size = nk by rw [List.size_toArray]; exact HNK.out] at hsm
      have hq := fun w => eq_sc x0 x1 x2 x0 x1 x2 w
      rw [show sameB x0 x1 x2 x0 x1 x2 = true by rw [sameB_iff]; exact decide_eq_true rfl] at hq
      have hS : Hid (S14 w.heap.size v5.heap.size b1 o1 n c b2 o2 mt ct a b nd cd ce root kk x0 x1 x2 pd pe v10 v10) := Lib.hid ⟨cg0, cg1, ct0, ct1, d0, d1, d2, d3, d5, e0, e1, e2, e3, e5, Below.refl _ _⟩
      have H26 : Hid (∀ W', Hid (S14 w.heap.size v5.heap.size b1 o1 n c b2 o2 mt ct a b nd cd ce root kk x0 x1 x2 pd pe v10 W') → Calls Tryz.prog 26 #[.slice q1 nk c1, .slice q2 nk c2] W' fun e W'' => e = .returned (.bool true) ∧ Hid (S14 w.heap.size v5.heap.size b1 o1 n c b2 o2 mt ct a b nd cd ce root kk x0 x1 x2 pd pe v10 W'')) :=
        Lib.hid fun W' h => (hsm W' (HS10.out.below h.out.2.2.2.2.2.2.2.2.2.2.2.2.2.2) (HU10.out.below h.out.2.2.2.2.2.2.2.2.2.2.2.2.2.2)).mono fun e W'' hh => ⟨hh.1, Lib.hid (s14_step h.out hh.2)⟩
      clear hsm cg0 cg1 ct0 ct1 d0 d1 d2 d3 d5 e0 e1 e2 e3 e5 hk hx hds hkk hxx hnd hpd hcd hpe hce hq1 hq2 hal hbl g0 g1 g2 g3
      go_wp2_with fail
      go_region_held3 (S14 w.heap.size v5.heap.size b1 o1 n c b2 o2 mt ct a b nd cd ce root kk x0 x1 x2 pd pe v10) (first | exact Hid.out (by assumption) | exact s14_drew (Hid.out (by assumption))) (first
        | ((with_reducible refine (H26.out _ (by first | assumption | exact Lib.hid (s14_drew (Hid.out (by assumption))))).mono ?_); rintro e wq ⟨rfl, hbq⟩))
      all_goals
        go_wp2_with fail
        go_ret
        exact ⟨by simp, HB10.out.trans ((Hid.out (by assumption) : S14 w.heap.size v5.heap.size b1 o1 n c b2 o2 mt ct a b nd cd ce root kk x0 x1 x2 pd pe v10 _).2.2.2.2.2.2.2.2.2.2.2.2.2.2.mono HB10.out.size)⟩
  · have hne : (te != 0) = true := by simp [h0]
    have heq : (te == 0) = false := by simp [h0]
    obtain ⟨h1, h2⟩ := hpb h0
    rw [h1] at hA1
    have HTP := Lib.hid hTP
    have HA1 := Lib.hid hA1
    have HH2 := Lib.hid h2
    have H0 := Lib.hid h0
    clear hTP hA1 hKD hpo hpb hck hDn hte h0 h1 h2
    have cg0 := cell_of_row _ _ 0 _ _ _ Rg3.out
    have cg1 := cell_of_row _ _ 1 _ _ _ Rg3.out
    go_wp2_with fail
    refine (HPA.out _).mono ?_
    rintro e v4 ⟨rfl, rfl⟩
    clear cg0 cg1
    have HE4 := HE3
    have HG4 := HG3
    have HP4 := HP3
    have HB4 := HB3
    have Rg4 := Rg3
    have cg0 := cell_of_row _ _ 0 _ _ _ Rg4.out
    have cg1 := cell_of_row _ _ 1 _ _ _ Rg4.out
    go_wp2_with fail
    refine (HTP.out v4 HE4.out HG4.out).mono ?_
    rintro e v5 ⟨T, qt, ct, rfl, hg, _, ht2, hb⟩
    clear cg0 cg1
    have HE5 := Lib.hid (HE4.out.below hb)
    have HG5 := Lib.hid (HG4.out.below hb)
    have HP5 := Lib.hid (HP4.out.below hb)
    have HB5 := Lib.hid (HB4.out.trans (hb.mono HB4.out.size))
    have Rg5 := Lib.hid ((hb.block _ (Array.getElem?_eq_some_iff.1 Rg4.out).1).trans Rg4.out)
    have hT := ht2 H0.out
    subst hT
    have HT5 := Lib.hid hg
    clear hg ht2
    clear hb
    have hA2 := fun W E G I => rch.at_ 0 #[] qt ct Q pp pc W E G (fun t ht => absurd ht (Nat.not_lt_zero _)) I
    rw [HQS.out, HH2.out, show (#[] : Array Fn).size = 0 from rfl] at hA2
    have HA2 := Lib.hid hA2
    clear hA2
    go_upto_region 5 with fail
    obtain ⟨v6, hv, _, hb, hx⟩ := at1 v5 (.cells #[.int .i64 0, .slice qt 0 ct] 24)
    rw [hv]
    have HE6 := Lib.hid (HE5.out.below hb)
    have HG6 := Lib.hid (HG5.out.below hb)
    have HP6 := Lib.hid (HP5.out.below hb)
    have HT6 := Lib.hid (HT5.out.below hb)
    have HB6 := Lib.hid (HB5.out.trans (hb.mono HB5.out.size))
    have Rg6 := Lib.hid ((hb.block _ (Array.getElem?_eq_some_iff.1 Rg5.out).1).trans Rg5.out)
    have Rt6 := Lib.hid hx
    clear hv hb hx
    have cg0 := cell_of_row _ _ 0 _ _ _ Rg6.out
    have cg1 := cell_of_row _ _ 1 _ _ _ Rg6.out
    go_wp2_with fail
    refine (HA1.out v6 HE6.out HG6.out HP6.out).mono ?_
    rintro e v7 ⟨rfl, hb⟩
    clear cg0 cg1
    have HE7 := Lib.hid (HE6.out.below hb)
    have HG7 := Lib.hid (HG6.out.below hb)
    have HP7 := Lib.hid (HP6.out.below hb)
    have HT7 := Lib.hid (HT6.out.below hb)
    have HB7 := Lib.hid (HB6.out.trans (hb.mono HB6.out.size))
    have Rg7 := Lib.hid ((hb.block _ (Array.getElem?_eq_some_iff.1 Rg6.out).1).trans Rg6.out)
    have Rt7 := Lib.hid ((hb.block _ (Array.getElem?_eq_some_iff.1 Rt6.out).1).trans Rt6.out)
    clear hb
    have ct0 := cell_of_row _ _ 0 _ _ _ Rt7.out
    have ct1 := cell_of_row _ _ 1 _ _ _ Rt7.out
    go_wp2_with fail
    refine (HA2.out v7 HE7.out HT7.out HP7.out).mono ?_
    rintro e v8 ⟨rfl, hb⟩
    clear ct0 ct1
    have HE8 := Lib.hid (HE7.out.below hb)
    have HG8 := Lib.hid (HG7.out.below hb)
    have HP8 := Lib.hid (HP7.out.below hb)
    have HT8 := Lib.hid (HT7.out.below hb)
    have HB8 := Lib.hid (HB7.out.trans (hb.mono HB7.out.size))
    have Rg8 := Lib.hid ((hb.block _ (Array.getElem?_eq_some_iff.1 Rg7.out).1).trans Rg7.out)
    have Rt8 := Lib.hid ((hb.block _ (Array.getElem?_eq_some_iff.1 Rt7.out).1).trans Rt7.out)
    clear hb
    go_wp2_with fail
    go_ret
    exact ⟨rfl, HB8.out⟩
end Go.Proofs.YtadmhlebkaiblaaGreatDoor
