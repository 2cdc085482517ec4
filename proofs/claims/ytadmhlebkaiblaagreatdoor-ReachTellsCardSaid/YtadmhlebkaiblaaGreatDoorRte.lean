/- Walks, tidy graphs, which are such, where paths lead: the walk of the law. Conditions: the contracts of what is called. -/
import Derived.Test.YtadmhlebkaiblaaGreatDoorRsr
import Derived.Deep.RegionHeld3
import Derived.BigQuiet
set_option maxRecDepth 100000
namespace Go.Proofs.YtadmhlebkaiblaaGreatDoor
open Go.RowKit Go.Shelf
open Scs Dfs
theorem tidy_same {L T U : Array Fn} {root : Int} (h1 : (checkG root L.toList).2 = 0 → TidyG L T (wk L root.toNat)) (h2 : (checkG root L.toList).2 ≠ 0 → T = #[]) (h3 : (checkG root L.toList).2 = 0 → TidyG L U (wk L root.toNat)) (h4 : (checkG root L.toList).2 ≠ 0 → U = #[]) : sameG 0 0 T U = true := by
  unfold sameG
  rw [if_pos rfl]
  by_cases h : (checkG root L.toList).2 = 0
  · rw [TidyG.sameNs (A := T) (h3 h) (h1 h)]
    unfold sameNs
    exact decide_eq_true ⟨rfl, fun j _ => sameF_iff.2 ⟨rfl, rfl, rfl, rfl⟩⟩
  · rw [h2 h, h4 h]
    rfl
abbrev S6 (B : Nat) (root : Int) (q : Option Addr) (n c tc td : Nat) (T U : Array Fn) (qt : Option Addr) (ct : Nat) (qu : Option Addr) (cu : Nat) (wo W : World) : Prop :=
  W.cell? ⟨B, 0, none⟩ = some (.int .i64 root) ∧ W.cell? ⟨B, 1, none⟩ = some (.slice q n c) ∧ W.cell? ⟨tc, 0, none⟩ = some (.int .i64 0) ∧ W.cell? ⟨tc, 1, none⟩ = some (.slice qt T.size ct) ∧ W.cell? ⟨td, 0, none⟩ = some (.int .i64 0) ∧ W.cell? ⟨td, 1, none⟩ = some (.slice qu U.size cu) ∧ Below wo.heap.size wo W
theorem s6_step {B : Nat} {root : Int} {q : Option Addr} {n c tc td : Nat} {T U : Array Fn} {qt : Option Addr} {ct : Nat} {qu : Option Addr} {cu : Nat} {wo W W' : World} (h : S6 B root q n c tc td T U qt ct qu cu wo W) (hb : Below W.heap.size W W') : S6 B root q n c tc td T U qt ct qu cu wo W' := by
  obtain ⟨h0, h1, h2, h3, h4, h5, hbb⟩ := h
  exact ⟨(hb.cell (block_lt_of_cell h0)).trans h0, (hb.cell (block_lt_of_cell h1)).trans h1, (hb.cell (block_lt_of_cell h2)).trans h2, (hb.cell (block_lt_of_cell h3)).trans h3, (hb.cell (block_lt_of_cell h4)).trans h4, (hb.cell (block_lt_of_cell h5)).trans h5, hbb.trans (hb.mono hbb.size)⟩
theorem s6_drew {B : Nat} {root : Int} {q : Option Addr} {n c tc td : Nat} {T U : Array Fn} {qt : Option Addr} {ct : Nat} {qu : Option Addr} {cu : Nat} {wo W : World} (h : S6 B root q n c tc td T U qt ct qu cu wo W) : S6 B root q n c tc td T U qt ct qu cu wo W.drew := s6_step h (Below.refl _ W).drew
set_option maxHeartbeats 16000000 in
theorem walkReachTells (K : Rch) (root : Int) (L : Array Fn) (p : Option Addr) (cap : Nat) (P : Array Int) (pp : Option Addr) (pc : Nat) (w : World) (E : Env w) (hL : GlR w p L) (hP : IlR w pp P) (hc : P.size ≤ pc) (hn : P.size ≤ 9223372036854775807) (hpn : pp = none → P.size = 0) :
    Calls Tryz.prog 3 #[.agg #[.int .i64 root, .slice p L.size cap], .slice pp P.size pc] w fun e w' => e = .returned (.bool true) ∧ Below w.heap.size w w' := by
  have HEE := Lib.hid E
  have HPP := Lib.hid (il_first hP)
  have HPA := Lib.hid fun w => path12_any pp P pc w hc hn hpn
  obtain ⟨Q, hQ⟩ : ∃ Q, P.extract 0 30 = Q := ⟨_, rfl⟩
  rw [hQ] at HPP HPA
  obtain ⟨v0, hv0⟩ : ∃ v, (w.alloc (.cells #[.int .i64 root, .slice p L.size cap] 24)) = v := ⟨_, rfl⟩
  have hb0 : Below w.heap.size w v0 := by rw [← hv0]; exact ((Below.refl _ w).alloc (Nat.le_refl _) _)
  have r0 : v0.heap[w.heap.size]? = some (.cells #[.int .i64 root, .slice p L.size cap] 24) := by
    rw [← hv0]
    have h := heap_alloc_new w (.cells #[.int .i64 root, .slice p L.size cap] 24)
    exact h
  have HE0 := Lib.hid (E.below hb0)
  have HL0 := Lib.hid (hL.below hb0)
  have HB0 := Lib.hid hb0
  have R0_0 := Lib.hid r0
  have HV0 := Lib.hid hv0
  obtain ⟨ps, hps⟩ : ∃ n, P.size = n := ⟨_, rfl⟩
  rw [hps] at HPA ⊢
  obtain ⟨qs, hqs⟩ : ∃ n, Q.size = n := ⟨_, rfl⟩
  rw [hqs] at HPA
  have HQS := Lib.hid hqs
  clear hv0 hb0 E hL r0 hQ hP hc hn hpn hps hqs
  go_enter Tryz.func3, Tryz.ntmps3
  go_wp2_with fail
  rw [HV0.out]
  refine (K.shown _ HE0.out).mono ?_
  rintro e v1 ⟨rfl, hb⟩
  have R1_0 := Lib.hid ((hb.block _ (Array.getElem?_eq_some_iff.1 R0_0.out).1).trans R0_0.out)
  have HE1 := Lib.hid (HE0.out.below hb)
  have HB1 := Lib.hid (HB0.out.trans (hb.mono HB0.out.size))
  have HL1 := Lib.hid (HL0.out.below hb)
  clear hb
  have a0 := cell_of_row _ _ 0 _ _ _ R1_0.out
  have a1 := cell_of_row _ _ 1 _ _ _ R1_0.out
  go_wp2_with fail
  refine (Cut07_any root L p cap v1 HL1.out).mono ?_
  rintro e v2 ⟨q, n, c, rfl, ⟨L', hn, h201, hgo⟩, hb⟩
  clear a0 a1
  have R2_0 := Lib.hid ((hb.block _ (Array.getElem?_eq_some_iff.1 R1_0.out).1).trans R1_0.out)
  have HE2 := Lib.hid (HE1.out.below hb)
  have HB2 := Lib.hid (HB1.out.trans (hb.mono HB1.out.size))
  have HNa := Lib.hid hn
  have HTa := Lib.hid h201
  have HGa2 := Lib.hid hgo
  clear hn h201 hgo
  clear hb
  have a0 := cell_of_row _ _ 0 _ _ _ R2_0.out
  have a1 := cell_of_row _ _ 1 _ _ _ R2_0.out
  have f0 := frozen_of_row _ _ 0 _ _ R2_0.out
  have f1 := frozen_of_row _ _ 1 _ _ R2_0.out
  go_upto_region 3 with fail
  obtain ⟨v3, hv⟩ : ∃ v, ((v2.setCell ⟨w.heap.size, 0, none⟩ (.int .i64 root)).setCell ⟨w.heap.size, 1, none⟩ (.slice q n c)) = v := ⟨_, rfl⟩
  rw [hv]
  have r := (heap_setCell_same _ (w.heap.size) 1 _ _ (.slice q n c) (heap_setCell_same v2 (w.heap.size) 0 _ _ (.int .i64 root) R2_0.out))
  rw [hv] at r
  have g : v2.grownBy v3 (some (w.heap.size)) := by rw [← hv]; exact (gB_setCell (gB_setCell (gB_refl _ _) _ _) _ _)
  have hbs : Below w.heap.size v2 v3 := below_of_grown g (by omega) HB2.out.size
  have hB1 : w.heap.size < v1.heap.size := (Array.getElem?_eq_some_iff.1 R1_0.out).1
  have R3_0 := Lib.hid r
  have HB3 := Lib.hid (HB2.out.trans hbs)
  have HE3 := Lib.hid (HEE.out.below HB3.out)
  have HGO3 : Hid (GO v1.heap.size v3 (.slice q n c) L') := Lib.hid (GO.keepB HGa2.out g hB1)
  have HG3 := Lib.hid (HGO3.out.gl HNa.out HTa.out)
  have HK := Lib.hid HGO3.out.k12
  have HP3 := Lib.hid (HPP.out.below HB3.out)
  have hDn : L'.toArray.size = n := by rw [List.size_toArray]; exact HNa.out
  obtain ⟨D, hD⟩ : ∃ D, L'.toArray = D := ⟨_, rfl⟩
  rw [hD] at HG3 HK hDn
  clear a0 a1 f0 f1 hv r g hbs hB1 hD
  have hWP := fun W E G => K.walk root D q c W E G HK.out
  have hWR := fun W G => Walk14_any root D q c W G
  have hTP := fun W E G => K.tidy root D q c W E G HK.out
  have hTR := fun W G => Tidy16_any root D q c W G
  have hAP := fun W E G I => K.at_ root D q c Q pp pc W E G HK.out I
  have hAR := fun W G I => At18_any root D q c Q pp pc W G I
  have hIP := fun W E G => K.isTidy root D q c W E G HK.out
  have hIR := fun W G => IsTidy22_any root D q c W G
  obtain ⟨⟨wl, we⟩, hr1⟩ : ∃ r, walkG root D = r := ⟨_, rfl⟩
  obtain ⟨⟨az, ao⟩, hr2⟩ : ∃ r, atG root D Q.toList = r := ⟨_, rfl⟩
  obtain ⟨ib, hr3⟩ : ∃ r, isTidyB root D = r := ⟨_, rfl⟩
  obtain ⟨te, hr4⟩ : ∃ r, (checkG root D.toList).2 = r := ⟨_, rfl⟩
  have hts := fun T U => tidy_same (L := D) (T := T) (U := U) (root := root)
  rw [hr1] at hWP hWR
  rw [hr2] at hAP hAR
  rw [hr3] at hIP hIR
  rw [hr4] at hTP hTR hts
  rw [hDn] at hWP hWR hTP hTR hAP hAR hIP hIR
  rw [HQS.out] at hAP hAR
  obtain ⟨wn, hwn⟩ : ∃ n, wl.length = n := ⟨_, rfl⟩
  simp only at hWP hWR hAP hAR
  rw [hwn] at hWP hWR
  have HWP := Lib.hid hWP
  have HWR := Lib.hid hWR
  have HTP := Lib.hid hTP
  have HTR := Lib.hid hTR
  have HAP := Lib.hid hAP
  have HAR := Lib.hid hAR
  have HIP := Lib.hid hIP
  have HIR := Lib.hid hIR
  have HTS := Lib.hid hts
  have HWN := Lib.hid hwn
  clear hWP hWR hTP hTR hAP hAR hIP hIR hr1 hr2 hr3 hr4 hDn hts hwn
  have a0 := cell_of_row _ _ 0 _ _ _ R3_0.out
  have a1 := cell_of_row _ _ 1 _ _ _ R3_0.out
  go_wp2_with fail
  refine (HPA.out _).mono ?_
  rintro e v4 ⟨rfl, rfl⟩
  clear a0 a1
  have HE4 := HE3
  have HB4 := HB3
  have HG4 := HG3
  have HP4 := HP3
  have R4_0 := R3_0
  have a0 := cell_of_row _ _ 0 _ _ _ R4_0.out
  have a1 := cell_of_row _ _ 1 _ _ _ R4_0.out
  go_wp2_with fail
  refine (HWP.out v4 HE4.out HG4.out).mono ?_
  rintro e v5 ⟨wq, wc2, rfl, hi, hb⟩
  clear a0 a1
  have R5_0 := Lib.hid ((hb.block _ (Array.getElem?_eq_some_iff.1 R4_0.out).1).trans R4_0.out)
  have HE5 := Lib.hid (HE4.out.below hb)
  have HB5 := Lib.hid (HB4.out.trans (hb.mono HB4.out.size))
  have HG5 := Lib.hid (HG4.out.below hb)
  have HP5 := Lib.hid (HP4.out.below hb)
  have HIa5 := Lib.hid hi
  clear hi
  clear hb
  have a0 := cell_of_row _ _ 0 _ _ _ R5_0.out
  have a1 := cell_of_row _ _ 1 _ _ _ R5_0.out
  go_wp2_with fail
  refine (HWR.out v5 HG5.out).mono ?_
  rintro e v6 ⟨wq2, wc3, rfl, hi, hb⟩
  clear a0 a1
  have R6_0 := Lib.hid ((hb.block _ (Array.getElem?_eq_some_iff.1 R5_0.out).1).trans R5_0.out)
  have HE6 := Lib.hid (HE5.out.below hb)
  have HB6 := Lib.hid (HB5.out.trans (hb.mono HB5.out.size))
  have HG6 := Lib.hid (HG5.out.below hb)
  have HP6 := Lib.hid (HP5.out.below hb)
  have HIa6 := Lib.hid (HIa5.out.below hb)
  have HIb6 := Lib.hid hi
  clear hi
  clear hb
  have a0 := cell_of_row _ _ 0 _ _ _ R6_0.out
  have a1 := cell_of_row _ _ 1 _ _ _ R6_0.out
  go_wp2_with fail
  refine (HTP.out v6 HE6.out HG6.out).mono ?_
  rintro e v7 ⟨T, qt, ct, rfl, hg, ht1, ht2, hb⟩
  clear a0 a1
  have R7_0 := Lib.hid ((hb.block _ (Array.getElem?_eq_some_iff.1 R6_0.out).1).trans R6_0.out)
  have HE7 := Lib.hid (HE6.out.below hb)
  have HB7 := Lib.hid (HB6.out.trans (hb.mono HB6.out.size))
  have HG7 := Lib.hid (HG6.out.below hb)
  have HP7 := Lib.hid (HP6.out.below hb)
  have HIa7 := Lib.hid (HIa6.out.below hb)
  have HIb7 := Lib.hid (HIb6.out.below hb)
  have HT7 := Lib.hid hg
  have HT1 := Lib.hid ht1
  have HT2 := Lib.hid ht2
  clear hg ht1 ht2
  clear hb
  go_upto_region 7 with fail
  obtain ⟨v8, hv⟩ : ∃ v, (v7.alloc (.cells #[.int .i64 0, .slice qt T.size ct] 24)) = v := ⟨_, rfl⟩
  have hb : Below v7.heap.size v7 v8 := by rw [← hv]; exact (Below.refl _ _).alloc (Nat.le_refl _) _
  have rt : v8.heap[v7.heap.size]? = some (.cells #[.int .i64 0, .slice qt T.size ct] 24 (0, 0)) := by rw [← hv]; exact heap_alloc_new v7 _
  rw [hv]
  have R8_0 := Lib.hid ((hb.block _ (Array.getElem?_eq_some_iff.1 R7_0.out).1).trans R7_0.out)
  have HE8 := Lib.hid (HE7.out.below hb)
  have HB8 := Lib.hid (HB7.out.trans (hb.mono HB7.out.size))
  have HG8 := Lib.hid (HG7.out.below hb)
  have HP8 := Lib.hid (HP7.out.below hb)
  have HIa8 := Lib.hid (HIa7.out.below hb)
  have HIb8 := Lib.hid (HIb7.out.below hb)
  have HT8 := Lib.hid (HT7.out.below hb)
  have RT8 := Lib.hid rt
  clear hv hb rt
  have a0 := cell_of_row _ _ 0 _ _ _ R8_0.out
  have a1 := cell_of_row _ _ 1 _ _ _ R8_0.out
  go_wp2_with fail
  refine (HTR.out v8 HG8.out).mono ?_
  rintro e v9 ⟨U, qu, cu, rfl, hg, hu1, hu2, hb⟩
  clear a0 a1
  have R9_0 := Lib.hid ((hb.block _ (Array.getElem?_eq_some_iff.1 R8_0.out).1).trans R8_0.out)
  have HE9 := Lib.hid (HE8.out.below hb)
  have HB9 := Lib.hid (HB8.out.trans (hb.mono HB8.out.size))
  have HG9 := Lib.hid (HG8.out.below hb)
  have HP9 := Lib.hid (HP8.out.below hb)
  have HIa9 := Lib.hid (HIa8.out.below hb)
  have HIb9 := Lib.hid (HIb8.out.below hb)
  have HT9 := Lib.hid (HT8.out.below hb)
  have HU9 := Lib.hid hg
  have HU1 := Lib.hid hu1
  have HU2 := Lib.hid hu2
  have RT9 := Lib.hid ((hb.block _ (Array.getElem?_eq_some_iff.1 RT8.out).1).trans RT8.out)
  clear hg hu1 hu2
  clear hb
  go_upto_region 8 with fail
  obtain ⟨v10, hv⟩ : ∃ v, (v9.alloc (.cells #[.int .i64 0, .slice qu U.size cu] 24)) = v := ⟨_, rfl⟩
  have hb : Below v9.heap.size v9 v10 := by rw [← hv]; exact (Below.refl _ _).alloc (Nat.le_refl _) _
  have ru : v10.heap[v9.heap.size]? = some (.cells #[.int .i64 0, .slice qu U.size cu] 24 (0, 0)) := by rw [← hv]; exact heap_alloc_new v9 _
  rw [hv]
  have R10_0 := Lib.hid ((hb.block _ (Array.getElem?_eq_some_iff.1 R9_0.out).1).trans R9_0.out)
  have HE10 := Lib.hid (HE9.out.below hb)
  have HB10 := Lib.hid (HB9.out.trans (hb.mono HB9.out.size))
  have HG10 := Lib.hid (HG9.out.below hb)
  have HP10 := Lib.hid (HP9.out.below hb)
  have HIa10 := Lib.hid (HIa9.out.below hb)
  have HIb10 := Lib.hid (HIb9.out.below hb)
  have HT10 := Lib.hid (HT9.out.below hb)
  have HU10 := Lib.hid (HU9.out.below hb)
  have RU10 := Lib.hid ru
  have RT10 := Lib.hid ((hb.block _ (Array.getElem?_eq_some_iff.1 RT9.out).1).trans RT9.out)
  clear hv hb ru
  have a0 := cell_of_row _ _ 0 _ _ _ R10_0.out
  have a1 := cell_of_row _ _ 1 _ _ _ R10_0.out
  go_wp2_with fail
  refine (HAP.out v10 HE10.out HG10.out HP10.out).mono ?_
  rintro e v11 ⟨rfl, hb⟩
  clear a0 a1
  have R11_0 := Lib.hid ((hb.block _ (Array.getElem?_eq_some_iff.1 R10_0.out).1).trans R10_0.out)
  have HE11 := Lib.hid (HE10.out.below hb)
  have HB11 := Lib.hid (HB10.out.trans (hb.mono HB10.out.size))
  have HG11 := Lib.hid (HG10.out.below hb)
  have HP11 := Lib.hid (HP10.out.below hb)
  have HIa11 := Lib.hid (HIa10.out.below hb)
  have HIb11 := Lib.hid (HIb10.out.below hb)
  have HT11 := Lib.hid (HT10.out.below hb)
  have HU11 := Lib.hid (HU10.out.below hb)
  have RT11 := Lib.hid ((hb.block _ (Array.getElem?_eq_some_iff.1 RT10.out).1).trans RT10.out)
  have RU11 := Lib.hid ((hb.block _ (Array.getElem?_eq_some_iff.1 RU10.out).1).trans RU10.out)
  clear hb
  have a0 := cell_of_row _ _ 0 _ _ _ R11_0.out
  have a1 := cell_of_row _ _ 1 _ _ _ R11_0.out
  go_wp2_with fail
  refine (HAR.out v11 HG11.out HP11.out).mono ?_
  rintro e v12 ⟨rfl, hb⟩
  clear a0 a1
  have R12_0 := Lib.hid ((hb.block _ (Array.getElem?_eq_some_iff.1 R11_0.out).1).trans R11_0.out)
  have HE12 := Lib.hid (HE11.out.below hb)
  have HB12 := Lib.hid (HB11.out.trans (hb.mono HB11.out.size))
  have HG12 := Lib.hid (HG11.out.below hb)
  have HP12 := Lib.hid (HP11.out.below hb)
  have HIa12 := Lib.hid (HIa11.out.below hb)
  have HIb12 := Lib.hid (HIb11.out.below hb)
  have HT12 := Lib.hid (HT11.out.below hb)
  have HU12 := Lib.hid (HU11.out.below hb)
  have RT12 := Lib.hid ((hb.block _ (Array.getElem?_eq_some_iff.1 RT11.out).1).trans RT11.out)
  have RU12 := Lib.hid ((hb.block _ (Array.getElem?_eq_some_iff.1 RU11.out).1).trans RU11.out)
  clear hb
  have hin := fun w' a b => ints_any (natI wl).toArray (natI wl).toArray wq wq2 wc2 wc3 w' a b
  rw [decide_eq_true rfl, List.size_toArray, natI_len, HWN.out] at hin
  have HIN := Lib.hid hin
  have hsm := fun W' a b => Same21_any 0 0 T U qt qu ct cu W' a b
  rw [HTS.out T U HT1.out HT2.out HU1.out HU2.out] at hsm
  have HSM := Lib.hid hsm
  clear hin hsm
  have a0 := cell_of_row _ _ 0 _ _ _ R12_0.out
  have a1 := cell_of_row _ _ 1 _ _ _ R12_0.out
  have t0 := cell_of_row _ _ 0 _ _ _ RT12.out
  have t1 := cell_of_row _ _ 1 _ _ _ RT12.out
  have u0 := cell_of_row _ _ 0 _ _ _ RU12.out
  have u1 := cell_of_row _ _ 1 _ _ _ RU12.out
  have hS : Hid (S6 w.heap.size root q n c v7.heap.size v9.heap.size T U qt ct qu cu v12 v12) := Lib.hid ⟨a0, a1, t0, t1, u0, u1, Below.refl _ _⟩
  have H19 : Hid (∀ W', Hid (S6 w.heap.size root q n c v7.heap.size v9.heap.size T U qt ct qu cu v12 W') → Calls Tryz.prog 19 #[.slice wq wn wc2, .slice wq2 wn wc3] W' fun e W'' => e = .returned (.bool true) ∧ Hid (S6 w.heap.size root q n c v7.heap.size v9.heap.size T U qt ct qu cu v12 W'')) :=
    Lib.hid fun W' h => (HIN.out W' (HIa12.out.below h.out.2.2.2.2.2.2) (HIb12.out.below h.out.2.2.2.2.2.2)).mono fun e W'' hh => ⟨hh.1, Lib.hid (s6_step h.out hh.2)⟩
  have H20 : Hid (∀ W', Hid (S6 w.heap.size root q n c v7.heap.size v9.heap.size T U qt ct qu cu v12 W') → Calls Tryz.prog 20 #[.agg #[.int .i64 0, .slice qt T.size ct], .agg #[.int .i64 0, .slice qu U.size cu]] W' fun e W'' => e = .returned (.bool true) ∧ Hid (S6 w.heap.size root q n c v7.heap.size v9.heap.size T U qt ct qu cu v12 W'')) :=
    Lib.hid fun W' h => (HSM.out W' (HT12.out.below h.out.2.2.2.2.2.2) (HU12.out.below h.out.2.2.2.2.2.2)).mono fun e W'' hh => ⟨hh.1, Lib.hid (s6_step h.out hh.2)⟩
  have H21 : Hid (∀ W', Hid (S6 w.heap.size root q n c v7.heap.size v9.heap.size T U qt ct qu cu v12 W') → Calls Tryz.prog 21 #[.agg #[.int .i64 root, .slice q n c]] W' fun e W'' => e = .returned (.bool ib) ∧ Hid (S6 w.heap.size root q n c v7.heap.size v9.heap.size T U qt ct qu cu v12 W'')) :=
    Lib.hid fun W' h => (HIP.out W' (HE12.out.below h.out.2.2.2.2.2.2) (HG12.out.below h.out.2.2.2.2.2.2)).mono fun e W'' hh => ⟨hh.1, Lib.hid (s6_step h.out hh.2)⟩
  have H22 : Hid (∀ W', Hid (S6 w.heap.size root q n c v7.heap.size v9.heap.size T U qt ct qu cu v12 W') → Calls Tryz.prog 22 #[.agg #[.int .i64 root, .slice q n c]] W' fun e W'' => e = .returned (.bool ib) ∧ Hid (S6 w.heap.size root q n c v7.heap.size v9.heap.size T U qt ct qu cu v12 W'')) :=
    Lib.hid fun W' h => (HIR.out W' (HG12.out.below h.out.2.2.2.2.2.2)).mono fun e W'' hh => ⟨hh.1, Lib.hid (s6_step h.out hh.2)⟩
  clear a0 a1 t0 t1 u0 u1
  go_wp2_with fail
  go_region_held3 (S6 w.heap.size root q n c v7.heap.size v9.heap.size T U qt ct qu cu v12) (first | exact Hid.out (by assumption) | exact s6_drew (Hid.out (by assumption))) (first
    | ((with_reducible refine (H19.out _ (by first | assumption | exact Lib.hid (s6_drew (Hid.out (by assumption))))).mono ?_); rintro e wq ⟨rfl, hbq⟩)
    | ((with_reducible refine (H20.out _ (by first | assumption | exact Lib.hid (s6_drew (Hid.out (by assumption))))).mono ?_); rintro e wq ⟨rfl, hbq⟩)
    | ((with_reducible refine (H21.out _ (by first | assumption | exact Lib.hid (s6_drew (Hid.out (by assumption))))).mono ?_); rintro e wq ⟨rfl, hbq⟩)
    | ((with_reducible refine (H22.out _ (by first | assumption | exact Lib.hid (s6_drew (Hid.out (by assumption))))).mono ?_); rintro e wq ⟨rfl, hbq⟩))
  all_goals
    go_wp2_with fail
    go_ret
    exact ⟨rfl, HB12.out.trans ((Hid.out (by assumption) : S6 w.heap.size root q n c v7.heap.size v9.heap.size T U qt ct qu cu v12 _).2.2.2.2.2.2.mono HB12.out.size)⟩
end Go.Proofs.YtadmhlebkaiblaaGreatDoor
