/- A path with one number more leads to that kid of the node to which the path leads: the walk of the law. Conditions: the surroundings. -/
import Derived.Test.YtadmhlebkaiblaaGreatDoorPts
import Derived.Test.YtadmhlebkaiblaaGreatDoorPat
import Derived.Deep.RegionHeld3
import Derived.BigQuiet
set_option maxRecDepth 100000
namespace Go.Proofs.YtadmhlebkaiblaaGreatDoor
open Go.RowKit Go.Shelf
open Scs Dfs
theorem steps_cases (root : Int) (D : Array Fn) (l : List Int) (k : Int) : (atG root D l = (0, false) ∧ atG root D (l ++ [k]) = (0, false)) ∨
    ∃ a : Nat, atG root D l = ((a : Int), true) ∧ kidsG D (a : Int) = (natI (KN D a), 0) ∧ ((¬ (0 ≤ k ∧ k < (KN D a).length) ∧ atG root D (l ++ [k]) = (0, false)) ∨ (0 ≤ k ∧ k < (KN D a).length ∧ atG root D (l ++ [k]) = ((((KN D a)[k.toNat]! : Nat) : Int), true))) := by
  unfold atG
  by_cases he : (checkG root D.toList).2 = 0
  · rw [if_pos he, if_pos he, at_snoc]
    obtain ⟨hb, _, hr, _⟩ := check_right he
    cases ha : at_ (KN D) root.toNat l with
    | none => exact .inl ⟨rfl, rfl⟩
    | some a =>
      have hal : a < D.size := at_within (S := fun x => x < D.size) (fun x hx => KN_lt hb x hx) l _ a hr ha
      refine .inr ⟨a, rfl, by rw [kids_yes hal, kids_natI hb hal], ?_⟩
      simp only [Option.bind]
      by_cases hk : 0 ≤ k ∧ k < (KN D a).length
      · rw [if_pos hk]
        exact .inr ⟨hk.1, hk.2, rfl⟩
      · rw [if_neg hk]
        exact .inl ⟨hk, rfl⟩
  · rw [if_neg he, if_neg he]
    exact .inl ⟨rfl, rfl⟩
set_option maxHeartbeats 16000000 in
theorem walkReachSteps (root : Int) (L : Array Fn) (p : Option Addr) (cap : Nat) (P : Array Int) (pp : Option Addr) (pc : Nat) (k : Int) (w : World) (E : Env w) (hL : GlR w p L) (hP : IlR w pp P) (hc : P.size ≤ pc) (hn : P.size ≤ 9223372036854775807) (hpn : pp = none → P.size = 0) :
    Calls Tryz.prog 8 #[.agg #[.int .i64 root, .slice p L.size cap], .slice pp P.size pc, .int .i64 k] w fun e w' => e = .returned (.bool true) ∧ Below w.heap.size w w' := by
  have HEE := Lib.hid E
  have HPP := Lib.hid (il_first hP)
  have HPA := Lib.hid fun w => path12_any pp P pc w hc hn hpn
  obtain ⟨Q, hQ⟩ : ∃ Q, P.extract 0 30 = Q := ⟨_, rfl⟩
  have hq30 : Q.size ≤ 30 := by rw [← hQ, Array.size_extract]; omega
  rw [hQ] at HPP HPA
  obtain ⟨v0, hv0⟩ : ∃ v, (w.alloc (.cells #[.int .i64 root, .slice p L.size cap] 24)) = v := ⟨_, rfl⟩
  have hb0 : Below w.heap.size w v0 := by rw [← hv0]; exact ((Below.refl _ w).alloc (Nat.le_refl _) _)
  have r0 : v0.heap[w.heap.size]? = some (.cells #[.int .i64 root, .slice p L.size cap] 24) := by
    rw [← hv0]
    have h := heap_alloc_new w (.cells #[.int .i64 root, .slice p L.size cap] 24)
    exact h
  have HE0 := Lib.hid (E.below hb0)
  have HL0 := Lib.hid (hL.below hb0)
  have HB0 := Lib.hid hb0
  have Rg0 := Lib.hid r0
  have HV0 := Lib.hid hv0
  obtain ⟨ps, hps⟩ : ∃ n, P.size = n := ⟨_, rfl⟩
  rw [hps] at HPA ⊢
  obtain ⟨qs, hqs⟩ : ∃ n, Q.size = n := ⟨_, rfl⟩
  rw [hqs] at HPA hq30
  have HQS := Lib.hid hqs
  clear hv0 hb0 E hL r0 hQ hP hc hn hpn hps hqs
  go_enter Tryz.func8, Tryz.ntmps8
  go_wp2_with fail
  rw [HV0.out]
  refine (rch.shown _ HE0.out).mono ?_
  rintro e v1 ⟨rfl, hb⟩
  have HE1 := Lib.hid (HE0.out.below hb)
  have HL1 := Lib.hid (HL0.out.below hb)
  have HB1 := Lib.hid (HB0.out.trans (hb.mono HB0.out.size))
  have Rg1 := Lib.hid ((hb.block _ (Array.getElem?_eq_some_iff.1 Rg0.out).1).trans Rg0.out)
  clear hb
  have cg0 := cell_of_row _ _ 0 _ _ _ Rg1.out
  have cg1 := cell_of_row _ _ 1 _ _ _ Rg1.out
  go_wp2_with fail
  refine (Cut07_any root L p cap v1 HL1.out).mono ?_
  rintro e v2 ⟨q, n, c, rfl, ⟨L', hn, h201, hgo⟩, hb⟩
  clear cg0 cg1
  have HE2 := Lib.hid (HE1.out.below hb)
  have HB2 := Lib.hid (HB1.out.trans (hb.mono HB1.out.size))
  have Rg2 := Lib.hid ((hb.block _ (Array.getElem?_eq_some_iff.1 Rg1.out).1).trans Rg1.out)
  have HNa := Lib.hid hn
  have HTa := Lib.hid h201
  have HGa2 := Lib.hid hgo
  clear hn h201 hgo hb
  have cg0 := cell_of_row _ _ 0 _ _ _ Rg2.out
  have cg1 := cell_of_row _ _ 1 _ _ _ Rg2.out
  have f0 := frozen_of_row _ _ 0 _ _ Rg2.out
  have f1 := frozen_of_row _ _ 1 _ _ Rg2.out
  go_upto_region 3 with fail
  obtain ⟨v3, hv⟩ : ∃ v, ((v2.setCell ⟨w.heap.size, 0, none⟩ (.int .i64 root)).setCell ⟨w.heap.size, 1, none⟩ (.slice q n c)) = v := ⟨_, rfl⟩
  rw [hv]
  have r := (heap_setCell_same _ (w.heap.size) 1 _ _ (.slice q n c) (heap_setCell_same v2 (w.heap.size) 0 _ _ (.int .i64 root) Rg2.out))
  rw [hv] at r
  have g : v2.grownBy v3 (some (w.heap.size)) := by rw [← hv]; exact (gB_setCell (gB_setCell (gB_refl _ _) _ _) _ _)
  have hbs : Below w.heap.size v2 v3 := below_of_grown g (by omega) HB2.out.size
  have hB1 : w.heap.size < v1.heap.size := (Array.getElem?_eq_some_iff.1 Rg1.out).1
  have Rg3 := Lib.hid r
  have HB3 := Lib.hid (HB2.out.trans hbs)
  have HE3 := Lib.hid (HEE.out.below HB3.out)
  have HGO3 : Hid (GO v1.heap.size v3 (.slice q n c) L') := Lib.hid (GO.keepB HGa2.out g hB1)
  have HG3 := Lib.hid (HGO3.out.gl HNa.out HTa.out)
  have HK := Lib.hid HGO3.out.k12
  have HP3 := Lib.hid (HPP.out.below HB3.out)
  have hDn : L'.toArray.size = n := by rw [List.size_toArray]; exact HNa.out
  obtain ⟨D, hD⟩ : ∃ D, L'.toArray = D := ⟨_, rfl⟩
  rw [hD] at HG3 HK hDn
  clear cg0 cg1 f0 f1 hv r g hbs hB1 hD
  have hsc := steps_cases root D Q.toList k
  have hA1 := fun W E G I => rch.at_ root D q c Q pp pc W E G HK.out I
  have hA2 := fun q2 c2 W E G I => rch.at_ root D q c (Q.push k) q2 c2 W E G HK.out I
  have hKD := fun i W E G => Kids_any root D q c i W E G HK.out
  have hpsz : (Q.push k).size = qs + 1 := by rw [Array.size_push, HQS.out]
  rw [hDn, HQS.out] at hA1
  rw [hDn, hpsz, Array.toList_push] at hA2
  rw [hDn] at hKD
  obtain ⟨⟨az, ao⟩, hr1⟩ : ∃ r, atG root D Q.toList = r := ⟨_, rfl⟩
  obtain ⟨⟨bz, bo⟩, hr2⟩ : ∃ r, atG root D (Q.toList ++ [k]) = r := ⟨_, rfl⟩
  rw [hr1] at hA1 hsc
  rw [hr2] at hA2 hsc
  simp only at hA1 hA2
  have HA1 := Lib.hid hA1
  have HA2 := Lib.hid hA2
  have HKD := Lib.hid hKD
  have HSC := Lib.hid hsc
  clear hA1 hA2 hKD hsc hr1 hr2 hDn hpsz
  have cg0 := cell_of_row _ _ 0 _ _ _ Rg3.out
  have cg1 := cell_of_row _ _ 1 _ _ _ Rg3.out
  go_wp2_with fail
  refine (HPA.out _).mono ?_
  rintro e v4 ⟨rfl, rfl⟩
  clear cg0 cg1
  have HE4 := HE3
  have HG4 := HG3
  have HP4 := HP3
  have HB4 := HB3
  have Rg4 := Rg3
  have cg0 := cell_of_row _ _ 0 _ _ _ Rg4.out
  have cg1 := cell_of_row _ _ 1 _ _ _ Rg4.out
  go_wp2_with fail
  refine (HA1.out v4 HE4.out HG4.out HP4.out).mono ?_
  rintro e v5 ⟨rfl, hb⟩
  clear cg0 cg1
  have HE5 := Lib.hid (HE4.out.below hb)
  have HG5 := Lib.hid (HG4.out.below hb)
  have HP5 := Lib.hid (HP4.out.below hb)
  have HB5 := Lib.hid (HB4.out.trans (hb.mono HB4.out.size))
  have Rg5 := Lib.hid ((hb.block _ (Array.getElem?_eq_some_iff.1 Rg4.out).1).trans Rg4.out)
  clear hb
  obtain ⟨i0, hi, hz0, hz1, hz2⟩ := info_parts info3
  have hpush : ints Q.toList ++ [.int .i64 k] = ints (Q.push k).toList := by rw [Array.toList_push, ints_snoc]
  have hlenp : (Q.push k).toList.length = qs + 1 := by rw [Array.length_toList, Array.size_push, HQS.out]
  have hql : Q.toList.length = qs := by rw [Array.length_toList, HQS.out]
  go_upto_region 6 with fail
  go_cut [10] from 26 to 31 (fun t10 wx => ∃ q2 c2, t10 = .slice q2 (qs + 1) c2 ∧ Il wx q2 (Q.push k) ∧ Below v5.heap.size v5 wx)
  case first =>
    cases pp with
    | none =>
      obtain ⟨rfl, hrun⟩ : qs = 0 ∧ ∀ w : World, (Builtin.append_ #[25, 25] 25 #[.slice none 0 0, .slice none 0 pc]).run Tryz.prog w = .ok (.slice none 0 0) w := by
        refine ⟨?_, fun w => by kernel_rfl⟩
        rcases HP5.out.lies with h | ⟨_, _, h, _⟩
        · rw [HQS.out] at h; exact h
        · cases h
      have hq0 : Q.toList = [] := List.eq_nil_of_length_eq_zero hql
      rw [hq0] at hpush
      go_wp2_with (first
        | (at_builtin
           refine wpList_append_own_at _ rfl _ _ 25 rfl v5.heap.size 3 i0 (.int .i64 0) 1 8 Tryz.underlying25 hi hz0 hz1 hz2 rfl (by decide) (.slice none 0 0) 0 [] rfl (World.ownsRow_nil _ _ _ _) ⟨v5.heap.size, 0, none⟩ 1 1 [.int .i64 k] rfl rfl (World.news_of_block (heap_alloc_new v5 _)) (by intro u hu; simp at hu; subst hu; rfl) (by decide) (by omega) (by simp) ?_
           intro v8 w8 hown8 hg8 _ _
           have HOW8 := Lib.hid hown8
           have HG8 := Lib.hid hg8
           clear hown8 hg8))
      go_meet
      case rel =>
        have how := HOW8.out
        rw [show ([] : List Value) ++ [Value.int .i64 k] = ints (Q.push k).toList from hpush] at how
        obtain ⟨q2, c2, rfl, hil2⟩ := il_own how (by rw [hlenp]) (by omega)
        refine ⟨q2, c2, rfl, by simpa only [Array.toArray_toList] using hil2, ?_⟩
        exact ((Below.refl _ v5).alloc (Nat.le_refl _) _).grown HG8.out (by simp) fun q hq => by simp [Value.ownBlock] at hq
    | some ad =>
      have hnews : ∀ j u, (ints Q.toList)[j]? = some u → v5.cell? (ad.add j) = some u := fun j u hu => by
        unfold ints at hu
        rw [List.getElem?_map] at hu
        by_cases hj : j < Q.toList.length
        · rw [List.getElem?_eq_getElem hj] at hu
          obtain ⟨blk, off, h1, _, h2⟩ := HP5.out.at j (by rw [Array.length_toList] at hj; exact hj)
          injection h1 with h1
          subst h1
          rw [Go.WideShapes.add_plain]
          refine h2.trans ?_
          rw [getElem!_pos Q j (by rw [Array.length_toList] at hj; exact hj)]
          simpa using hu
        · rw [List.getElem?_eq_none (by omega)] at hu
          cases hu
      have hone : ∀ u ∈ ints Q.toList, u.oneCell' = true := fun u hu => by
        unfold ints at hu
        obtain ⟨z, _, rfl⟩ := List.mem_map.1 hu
        rfl
      have hil : (ints Q.toList).length = qs * 1 := by unfold ints; rw [List.length_map, hql, Nat.mul_one]
      have HNEWS := Lib.hid hnews
      have HONE := Lib.hid hone
      have HIL := Lib.hid hil
      clear hnews hone hil
      go_wp2_with (first
        | (at_builtin
           refine wpList_append_own_at _ rfl _ _ 25 rfl v5.heap.size 3 i0 (.int .i64 0) 1 8 Tryz.underlying25 hi hz0 hz1 hz2 rfl (by decide) (.slice none 0 0) 0 [] rfl (World.ownsRow_nil _ _ _ _) ad qs pc (ints Q.toList) rfl HIL.out HNEWS.out HONE.out (by unfold maxLen; omega) (by omega) (Nat.le_refl _) ?_
           intro v7 w7 hown7 hg7 _ _
           rw [List.nil_append, Nat.zero_add] at hown7
           have hz7 := hg7.size
           have HOW7 := Lib.hid hown7
           have HG7 := Lib.hid hg7
           clear hown7 hg7)
        | (at_builtin
           refine wpList_append_own_at _ rfl _ _ 25 rfl v5.heap.size 3 i0 (.int .i64 0) 1 8 Tryz.underlying25 hi hz0 hz1 hz2 rfl (by decide) v7 qs (ints Q.toList) rfl (HOW7.out.alloc _) ⟨w7.heap.size, 0, none⟩ 1 1 [.int .i64 k] rfl rfl (World.news_of_block (heap_alloc_new w7 _)) (by intro u hu; simp at hu; subst hu; rfl) (by unfold maxLen; omega) (by omega) (by simp; omega) ?_
           intro v8 w8 hown8 hg8 _ _
           have HOW8 := Lib.hid hown8
           have HG8 := Lib.hid hg8
           clear hown8 hg8))
      go_meet
      case rel =>
        have how := HOW8.out
        rw [hpush] at how
        obtain ⟨q2, c2, rfl, hil2⟩ := il_own how (by rw [hlenp]) (by omega)
        refine ⟨q2, c2, rfl, by simpa only [Array.toArray_toList] using hil2, ?_⟩
        have hb7 : Below v5.heap.size v5 w7 := (Below.refl _ v5).grown HG7.out (Nat.le_refl _) fun q hq => by simp [Value.ownBlock] at hq
        exact (hb7.alloc hz7 _).grown HG8.out (by simp; omega) fun q hq => (own_lt HOW7.out q hq).1
  case rest =>
    obtain ⟨q2, c2, rfl, hil2, hb⟩ := hcut
    have HE6 := Lib.hid (HE5.out.below hb)
    have HG6 := Lib.hid (HG5.out.below hb)
    have HB6 := Lib.hid (HB5.out.trans (hb.mono HB5.out.size))
    have Rg6 := Lib.hid ((hb.block _ (Array.getElem?_eq_some_iff.1 Rg5.out).1).trans Rg5.out)
    have HI6 := Lib.hid hil2
    clear hb hil2 hpush hlenp hql hi hz0 hz1 hz2
    have cg0 := cell_of_row _ _ 0 _ _ _ Rg6.out
    have cg1 := cell_of_row _ _ 1 _ _ _ Rg6.out
    go_wp2_with fail
    refine (HA2.out q2 c2 wc HE6.out HG6.out HI6.out).mono ?_
    rintro e v7 ⟨rfl, hb⟩
    clear cg0 cg1
    have HE7 := Lib.hid (HE6.out.below hb)
    have HG7 := Lib.hid (HG6.out.below hb)
    have HB7 := Lib.hid (HB6.out.trans (hb.mono HB6.out.size))
    have Rg7 := Lib.hid ((hb.block _ (Array.getElem?_eq_some_iff.1 Rg6.out).1).trans Rg6.out)
    clear hb
    rcases HSC.out with ⟨h1, h2⟩ | ⟨a, h1, hkd, h2⟩
    · obtain ⟨rfl, rfl⟩ := Prod.mk.inj h1
      obtain ⟨rfl, rfl⟩ := Prod.mk.inj h2
      go_wp2_with fail
      go_ret
      exact ⟨rfl, HB7.out⟩
    · obtain ⟨rfl, rfl⟩ := Prod.mk.inj h1
      have hkc := HKD.out (a : Int)
      rw [hkd] at hkc
      obtain ⟨ks, hks⟩ : ∃ ks, KN D a = ks := ⟨_, rfl⟩
      rw [hks] at hkc h2
      simp only [natI_len] at hkc
      obtain ⟨nk, hnk⟩ : ∃ nk, ks.length = nk := ⟨_, rfl⟩
      rw [hnk] at hkc h2
      have HKC := Lib.hid hkc
      have HNK := Lib.hid hnk
      clear hkc hkd hks hnk h1
      have cg0 := cell_of_row _ _ 0 _ _ _ Rg7.out
      have cg1 := cell_of_row _ _ 1 _ _ _ Rg7.out
      go_wp2_with fail
      refine (HKC.out v7 HE7.out HG7.out).mono ?_
      rintro e v8 ⟨qk, ck, rfl, hil, hb⟩
      have HB8 := Lib.hid (HB7.out.trans (hb.mono HB7.out.size))
      have HIL := Lib.hid hil
      clear cg0 cg1 hb hil
      rcases h2 with ⟨hno, h2⟩ | ⟨hk0, hk1, h2⟩
      · obtain ⟨rfl, rfl⟩ := Prod.mk.inj h2
        by_cases h0 : k < 0
        · go_wp2_with fail
          go_ret
          exact ⟨rfl, HB8.out⟩
        · have g0 : decide (k < 0) = false := decide_eq_false h0
          have g1 : k ≥ (nk : Int) := by omega
          go_wp2_with fail
          go_ret
          exact ⟨rfl, HB8.out⟩
      · obtain ⟨rfl, rfl⟩ := Prod.mk.inj h2
        obtain ⟨y, rfl⟩ : ∃ y : Nat, k = y := ⟨k.toNat, by omega⟩
        have hyk : y < ks.length := by rw [HNK.out]; omega
        rw [Int.toNat_natCast]
        obtain ⟨b2, o2, rfl, hb2, hc2⟩ := HIL.out.at y (by rw [List.size_toArray, natI_len]; exact hyk)
        rw [natI_get ks y hyk] at hc2
        obtain ⟨z, hz⟩ : ∃ z : Nat, ks[y]! = z := ⟨_, rfl⟩
        rw [hz] at hc2
        have g0 : decide ((y : Int) < 0) = false := decide_eq_false (by omega)
        have g1 : ¬ ((y : Int) ≥ (nk : Int)) := by omega
        have hy0 : (0 : Int) ≤ (y : Int) := hk0
        have hyn : (y : Int) < (nk : Int) := hk1
        simp only [hz]
        go_wp2_with fail
        go_ret
        exact ⟨by simp, HB8.out⟩
end Go.Proofs.YtadmhlebkaiblaaGreatDoor
