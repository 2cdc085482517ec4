/- Each kid of a right graph's node is one's place; a map has as many as keys, that rise, and each is found under its key: the walk of the law. Conditions: the contracts of what is called. -/
import Derived.Test.YtfpcjdopfodfnaaGreatDoorLmk
import Derived.Deep.RegionHeld3
import Derived.BigQuiet
set_option maxRecDepth 100000
namespace Go.Proofs.YtfpcjdopfodfnaaGreatDoor
open Go.RowKit Go.Shelf
open Scs
/-- what the second loop reads -/
abbrev S16 (B : Nat) (root : Int) (q : Option Addr) (n c : Nat) (bk ok : Nat) (z : Int) (b o : Nat) (x : Sc) (bp op : Nat) (y : Sc) (wo W : World) : Prop :=
  W.cell? ⟨B, 0, none⟩ = some (.int .i64 root) ∧ W.cell? ⟨B, 1, none⟩ = some (.slice q n c) ∧ W.cell? ⟨bk, ok, none⟩ = some (.int .i64 z) ∧
  W.cell? ⟨b, o, none⟩ = some (.int .i64 x.1) ∧ W.cell? ⟨b, o + 1, none⟩ = some (.int .i64 x.2.1) ∧ W.cell? ⟨b, o + 2, none⟩ = some (.string x.2.2) ∧
  W.cell? ⟨bp, op, none⟩ = some (.int .i64 y.1) ∧ W.cell? ⟨bp, op + 1, none⟩ = some (.int .i64 y.2.1) ∧ W.cell? ⟨bp, op + 2, none⟩ = some (.string y.2.2) ∧ Below wo.heap.size wo W
theorem s16_step {B : Nat} {root : Int} {q : Option Addr} {n c bk ok : Nat} {z : Int} {b o : Nat} {x : Sc} {bp op : Nat} {y : Sc} {wo W W' : World} (h : S16 B root q n c bk ok z b o x bp op y wo W) (hb : Below W.heap.size W W') : S16 B root q n c bk ok z b o x bp op y wo W' := by
  obtain ⟨h0, h1, h2, h3, h4, h5, h6, h7, h8, hbb⟩ := h
  exact ⟨(hb.cell (block_lt_of_cell h0)).trans h0, (hb.cell (block_lt_of_cell h1)).trans h1, (hb.cell (block_lt_of_cell h2)).trans h2, (hb.cell (block_lt_of_cell h3)).trans h3, (hb.cell (block_lt_of_cell h4)).trans h4, (hb.cell (block_lt_of_cell h5)).trans h5,
    (hb.cell (block_lt_of_cell h6)).trans h6, (hb.cell (block_lt_of_cell h7)).trans h7, (hb.cell (block_lt_of_cell h8)).trans h8, hbb.trans (hb.mono hbb.size)⟩
theorem s16_drew {B : Nat} {root : Int} {q : Option Addr} {n c bk ok : Nat} {z : Int} {b o : Nat} {x : Sc} {bp op : Nat} {y : Sc} {wo W : World} (h : S16 B root q n c bk ok z b o x bp op y wo W) : S16 B root q n c bk ok z b o x bp op y wo W.drew := s16_step h (Below.refl _ W).drew
set_option maxHeartbeats 16000000 in
theorem walkArenaKids (root : Int) (L : Array Fn) (p : Option Addr) (cap : Nat) (i : Int) (w : World) (E : Env w) (hL : GlR w p L) :
    Calls Tryz.prog 4 #[.agg #[.int .i64 root, .slice p L.size cap], .int .i64 i] w fun e w' => e = .returned (.bool true) ∧ Below w.heap.size w w' := by
  have HEE := Lib.hid E
  obtain ⟨v0, hv0⟩ : ∃ v, (w.alloc (.cells #[.int .i64 root, .slice p L.size cap] 24)) = v := ⟨_, rfl⟩
  have hb0 : Below w.heap.size w v0 := by rw [← hv0]; exact ((Below.refl _ w).alloc (Nat.le_refl _) _)
  have r0 : v0.heap[w.heap.size]? = some (.cells #[.int .i64 root, .slice p L.size cap] 24) := by
    rw [← hv0]
    have h := heap_alloc_new w (.cells #[.int .i64 root, .slice p L.size cap] 24)
    exact h
  have HE0 := Lib.hid (E.below hb0)
  have HL0 := Lib.hid (hL.below hb0)
  have HB0 := Lib.hid hb0
  have R0_0 := Lib.hid r0
  have HV0 := Lib.hid hv0
  clear hv0 hb0 E hL r0
  go_enter Tryz.func4, Tryz.ntmps4
  go_wp2_with fail
  rw [HV0.out]
  refine (shown_any _ HE0.out).mono ?_
  rintro e v1 ⟨rfl, hb⟩
  have R1_0 := Lib.hid ((hb.block _ (Array.getElem?_eq_some_iff.1 R0_0.out).1).trans R0_0.out)
  have HE1 := Lib.hid (HE0.out.below hb)
  have HL1 := Lib.hid (HL0.out.below hb)
  have HB1 := Lib.hid (HB0.out.trans (hb.mono HB0.out.size))
  clear hb
  have c0 := cell_of_row _ _ 0 _ _ _ R1_0.out
  have c1 := cell_of_row _ _ 1 _ _ _ R1_0.out
  go_wp2_with fail
  refine (Cut07_any root L p cap v1 HL1.out).mono ?_
  rintro e v2 ⟨q, n, c, rfl, ⟨L', hn, h201, hgo⟩, hb⟩
  clear c0 c1
  have R2_0 := Lib.hid ((hb.block _ (Array.getElem?_eq_some_iff.1 R1_0.out).1).trans R1_0.out)
  have HE2 := Lib.hid (HE1.out.below hb)
  have HB2 := Lib.hid (HB1.out.trans (hb.mono HB1.out.size))
  have HN := Lib.hid hn
  have HGO2 := Lib.hid hgo
  have hs1 := HB1.out.size
  have HB12 := Lib.hid hb
  clear hb hn hgo
  have c0 := cell_of_row _ _ 0 _ _ _ R2_0.out
  have c1 := cell_of_row _ _ 1 _ _ _ R2_0.out
  have f0 := frozen_of_row _ _ 0 _ _ R2_0.out
  have f1 := frozen_of_row _ _ 1 _ _ R2_0.out
  go_upto_region 3 with fail
  obtain ⟨v3, hv3⟩ : ∃ v, ((v2.setCell ⟨w.heap.size, 0, none⟩ (.int .i64 root)).setCell ⟨w.heap.size, 1, none⟩ (.slice q n c)) = v := ⟨_, rfl⟩
  rw [hv3]
  have r3 := heap_setCell_same _ (w.heap.size) 1 _ _ (.slice q n c) (heap_setCell_same v2 (w.heap.size) 0 _ _ (.int .i64 root) R2_0.out)
  rw [hv3] at r3
  have g3 : v2.grownBy v3 (some (w.heap.size)) := by rw [← hv3]; exact gB_setCell (gB_setCell (gB_refl _ _) _ _) _ _
  have hB1 : w.heap.size < v1.heap.size := (Array.getElem?_eq_some_iff.1 R1_0.out).1
  have HGO3 : Hid (GO v1.heap.size v3 (.slice q n c) L') := Lib.hid (GO.keepB HGO2.out g3 hB1)
  have HGL := Lib.hid (HGO3.out.gl HN.out h201)
  have HK := Lib.hid HGO3.out.k12
  have hDn : L'.toArray.size = n := by rw [List.size_toArray]; exact HN.out
  have HLT := Lib.hid (show L'.toArray.toList = L' by simp)
  obtain ⟨D, hD⟩ : ∃ D, L'.toArray = D := ⟨_, rfl⟩
  rw [hD] at HGL HK hDn HLT
  have hbs : Below w.heap.size v2 v3 := below_of_grown g3 (by omega) HB2.out.size
  have R3_0 := Lib.hid r3
  have HB3 := Lib.hid (HB2.out.trans hbs)
  have HE3 := Lib.hid (HEE.out.below HB3.out)
  have HDN := Lib.hid hDn
  have HD := Lib.hid hD
  have H201 := Lib.hid h201
  clear c0 c1 f0 f1 hv3 r3 g3 hB1 hbs hs1 hDn hD h201
  have c0 := cell_of_row _ _ 0 _ _ _ R3_0.out
  have c1 := cell_of_row _ _ 1 _ _ _ R3_0.out
  have HCK := Lib.hid fun r W E G => Check_any r D q c W E G
  rw [HDN.out] at HCK
  obtain ⟨r1, hr1⟩ : ∃ r, checkG root D.toList = r := ⟨_, rfl⟩
  have hk1 := HCK.out root v3 HE3.out HGL.out
  rw [hr1] at hk1
  have HK1 := Lib.hid hk1
  have HDD := Lib.hid fun W E G => Kids_any root D q c i W E G HK.out
  have HKY := Lib.hid fun W E G => Keys_any root D q c i W E G
  obtain ⟨dr, hdr⟩ : ∃ r, kidsG D i = r := ⟨_, rfl⟩
  obtain ⟨kr, hkr⟩ : ∃ r, keysG D i = r := ⟨_, rfl⟩
  have HDR := Lib.hid hdr
  have HKR := Lib.hid hkr
  obtain ⟨ds, de⟩ := dr
  obtain ⟨ks, ke⟩ := kr
  rw [hdr, HDN.out] at HDD
  rw [hkr, HDN.out] at HKY
  clear hk1 hdr hkr
  go_wp2_with fail
  refine (HK1.out).mono ?_
  rintro e v4 ⟨rfl, hb⟩
  clear c0 c1
  have R4_0 := Lib.hid ((hb.block _ (Array.getElem?_eq_some_iff.1 R3_0.out).1).trans R3_0.out)
  have HE4 := Lib.hid (HE3.out.below hb)
  have HB4 := Lib.hid (HB3.out.trans (hb.mono HB3.out.size))
  have HGL4 := Lib.hid (HGL.out.below hb)
  clear hb
  have c0 := cell_of_row _ _ 0 _ _ _ R4_0.out
  have c1 := cell_of_row _ _ 1 _ _ _ R4_0.out
  go_wp2_with fail
  refine (HDD.out v4 HE4.out HGL4.out).mono ?_
  rintro e v5 ⟨dq, dc, rfl, hd, hb⟩
  clear c0 c1
  have R5_0 := Lib.hid ((hb.block _ (Array.getElem?_eq_some_iff.1 R4_0.out).1).trans R4_0.out)
  have HE5 := Lib.hid (HE4.out.below hb)
  have HB5 := Lib.hid (HB4.out.trans (hb.mono HB4.out.size))
  have HGL5 := Lib.hid (HGL4.out.below hb)
  have HD5 := Lib.hid hd
  clear hd
  clear hb
  have c0 := cell_of_row _ _ 0 _ _ _ R5_0.out
  have c1 := cell_of_row _ _ 1 _ _ _ R5_0.out
  go_wp2_with fail
  refine (HKY.out v5 HE5.out HGL5.out).mono ?_
  rintro e v6 ⟨kq, kc, rfl, hs, hb⟩
  clear c0 c1
  have R6_0 := Lib.hid ((hb.block _ (Array.getElem?_eq_some_iff.1 R5_0.out).1).trans R5_0.out)
  have HE6 := Lib.hid (HE5.out.below hb)
  have HB6 := Lib.hid (HB5.out.trans (hb.mono HB5.out.size))
  have HGL6 := Lib.hid (HGL5.out.below hb)
  have HS := Lib.hid hs
  have HI := Lib.hid (HD5.out.below hb)
  clear hs
  clear hb
  have c0 := cell_of_row _ _ 0 _ _ _ R6_0.out
  have c1 := cell_of_row _ _ 1 _ _ _ R6_0.out
  have HR1 := Lib.hid hr1
  obtain ⟨a1, e1⟩ := r1
  clear hr1
  obtain ⟨nd, hnd⟩ : ∃ m, ds.length = m := ⟨_, rfl⟩
  obtain ⟨nk, hnk⟩ : ∃ m, ks.length = m := ⟨_, rfl⟩
  rw [hnd, hnk]
  have hd6 : nd ≤ 1000000 := by have := HI.out.small; rw [List.size_toArray, hnd] at this; exact this
  have hk6 : nk ≤ 1000000 := by have := HS.out.small; rw [List.size_toArray, hnk] at this; exact this
  have HND := Lib.hid hnd
  have HNK := Lib.hid hnk
  clear hnd hnk
  have h201 := H201.out
  by_cases hi : plB i n = true
  · have hde := HDR.out
    have hke := HKR.out
    unfold kidsG at hde
    unfold keysG at hke
    rw [HDN.out, if_pos hi] at hde hke
    simp only [Prod.mk.injEq] at hde hke
    obtain ⟨hds, rfl⟩ := hde
    obtain ⟨hks, rfl⟩ := hke
    obtain ⟨p0, p1⟩ := plB_iff.1 hi
    by_cases he : e1 = 0
    · subst he
      obtain ⟨h2, h3, h4⟩ := check_ok (r := root) (L := D.toList) (by rw [HR1.out])
      rw [Array.length_toList, HDN.out] at h3
      have hR := node_right (by rw [Array.length_toList]; exact HDN.out) h3 hi (D := D) rfl
      obtain ⟨t, rfl⟩ : ∃ t : Nat, i = t := ⟨i.toNat, by omega⟩
      have htn : t < n := by omega
      rw [Int.toNat_natCast] at hds hks hR
      obtain ⟨f, hf⟩ : ∃ f, D[t]! = f := ⟨_, rfl⟩
      rw [hf] at hds hks hR
      subst hds hks
      have hfi : ∀ x, findG D t x = underR (underG f x) := fun x => by unfold findG; rw [HDN.out, if_pos hi, Int.toNat_natCast, hf]
      obtain ⟨gb, go, rfl, hgb, z0, z1, z2, z3, z4, z5⟩ := HGL6.out.at t (by rw [HDN.out]; exact htn)
      rw [hf] at z0 z5
      have HFI := Lib.hid hfi
      have HZ0 := Lib.hid z0
      have HZ5 := Lib.hid z5
      have HRT := Lib.hid hR
      have ht1 : (t : Int) < (n : Int) := by omega
      have ht2 : ¬ (t : Int) ≥ (n : Int) := by omega
      have ht3 : decide (n ≤ t) = false := decide_eq_false (by omega)
      have ht4 : decide ((n : Int) ≤ (t : Int)) = false := decide_eq_false (by omega)
      have hkl := kidsOf_len hR
      rw [HND.out] at hkl
      clear hi p0 p1 h2 h3 h4 hf hfi z0 z1 z2 z3 z4 z5 hR
      go_wp2_with fail
      go_loopw [4, 12] (fun _ i wr => ∃ j : Nat, j ≤ nd ∧ i = .int .i64 j ∧ Below v6.heap.size v6 wr) (fun _ i _ => nd - (intOf i).toNat)
      case atStart => exact ⟨0, by omega, rfl, Below.refl _ _⟩
      case round =>
        obtain ⟨j, hj, rfl, hbw⟩ := hrel
        have HBW := Lib.hid hbw
        have hrw := (hbw.block _ (Array.getElem?_eq_some_iff.1 R6_0.out).1).trans R6_0.out
        have HRW := Lib.hid hrw
        have c1 := cell_of_row _ _ 1 _ _ _ hrw
        clear hbw hrw
        by_cases hlt : j < nd
        · have i1 : (j : Int) < (nd : Int) := by omega
          have hjd : j < (kidsOf f).toArray.size := by rw [List.size_toArray, HND.out]; exact hlt
          obtain ⟨kb, ko, hpd, hkb2, k0⟩ := HI.out.at j hjd
          subst hpd
          have k1 := (HBW.out.cell (p := ⟨kb, ko + j, none⟩) hkb2).trans k0
          have hz := kidsOf_mem HRT.out (kidsOf f).toArray[j]! (by rw [getElem!_pos _ j hjd]; simp)
          generalize (kidsOf f).toArray[j]! = z at k1 hz
          clear k0 hjd
          have hz0 : decide (z < 0) = false := decide_eq_false (by omega)
          have hz1 : ¬ z ≥ (n : Int) := by omega
          have hz2 : z < (n : Int) := by omega
          clear hz
          go_wp2_with fail
          go_region
          all_goals
           go_wp2_with fail
           go_roundw
           case rel => exact ⟨j + 1, by omega, by go_num, HBW.out.drew⟩
           case measure => simp [intOf]; omega
        · have i1 : ¬ (j : Int) < (nd : Int) := by omega
          obtain rfl : j = nd := by omega
          clear c1
          have HB7 := Lib.hid HBW.out
          go_wp2_with fail
          go_loopw [4, 13, 14, 15] (fun _ i _ _ wx => ∃ k : Nat, k ≤ nk ∧ i = .int .i64 k ∧ Below v6.heap.size v6 wx) (fun _ i _ _ _ => nk - (intOf i).toNat)
          case atStart => exact ⟨0, by omega, rfl, HB7.out⟩
          case round =>
            obtain ⟨k, hk, rfl, hbx⟩ := hrel
            have HBX := Lib.hid hbx
            have hrx := (hbx.block _ (Array.getElem?_eq_some_iff.1 R6_0.out).1).trans R6_0.out
            have c0 := cell_of_row _ _ 0 _ _ _ hrx
            have c1 := cell_of_row _ _ 1 _ _ _ hrx
            clear hbx hrx
            by_cases hkt : k < nk
            · have i2 : (k : Int) < (nk : Int) := by omega
              obtain ⟨hkd, hun⟩ := keysOf_kid HRT.out (t := k) (by rw [HNK.out]; exact hkt)
              rw [HND.out] at hkd
              have hkz : k < (keysOf f).toArray.size := by rw [List.size_toArray, HNK.out]; exact hkt
              have hdz : k < (kidsOf f).toArray.size := by rw [List.size_toArray, HND.out]; exact hkd
              obtain ⟨b1, o1, hkq, hb1, g0, g1, g2⟩ := HS.out.at k hkz
              obtain ⟨kb, ko, hpd, hkb2, k0⟩ := HI.out.at k hdz
              have ex : (keysOf f).toArray[k]! = (keysOf f)[k]! := by simp
              have ez : (kidsOf f).toArray[k]! = (kidsOf f)[k]! := by simp
              have x0 := (HBX.out.cell (p := ⟨b1, o1 + k * 3, none⟩) hb1).trans g0
              have x1 := (HBX.out.cell (p := ⟨b1, o1 + k * 3 + 1, none⟩) hb1).trans g1
              have x2 := (HBX.out.cell (p := ⟨b1, o1 + k * 3 + 2, none⟩) hb1).trans g2
              have z0 := (HBX.out.cell (p := ⟨kb, ko + k, none⟩) hkb2).trans k0
              rw [ex] at x0 x1 x2
              rw [ez] at z0
              have hfx : findG D t (keysOf f)[k]! = ((kidsOf f)[k]!, true) := by rw [HFI.out, hun]; rfl
              have hprev : ∃ s op Y, (k = 0 ∧ s = 0 ∨ k = s + 1 ∧ op = o1 + s * 3 ∧ cmpSc Y (keysOf f)[k]! < 0) ∧ wr.cell? ⟨b1, op, none⟩ = some (.int .i64 Y.1) ∧ wr.cell? ⟨b1, op + 1, none⟩ = some (.int .i64 Y.2.1) ∧ wr.cell? ⟨b1, op + 2, none⟩ = some (.string Y.2.2) := by
                by_cases h0 : k = 0
                · exact ⟨0, _, _, .inl ⟨h0, rfl⟩, x0, x1, x2⟩
                · obtain ⟨b1', o1', hkq', hb1', g0', g1', g2'⟩ := HS.out.at (k - 1) (by omega)
                  obtain ⟨rfl, rfl⟩ : b1 = b1' ∧ o1 = o1' := by
                    rw [hkq] at hkq'
                    injection hkq' with h
                    injection h with h1 h2
                    exact ⟨h1, h2⟩
                  have ey : (keysOf f).toArray[k - 1]! = (keysOf f)[k - 1]! := by simp
                  rw [ey] at g0' g1' g2'
                  exact ⟨k - 1, o1 + (k - 1) * 3, _, .inr ⟨by omega, rfl, keysOf_rise HRT.out (a := k - 1) (b := k) (by omega) (by rw [HNK.out]; exact hkt)⟩, (HBX.out.cell (p := ⟨b1, o1 + (k - 1) * 3, none⟩) hb1).trans g0', (HBX.out.cell (p := ⟨b1, o1 + (k - 1) * 3 + 1, none⟩) hb1).trans g1', (HBX.out.cell (p := ⟨b1, o1 + (k - 1) * 3 + 2, none⟩) hb1).trans g2'⟩
              obtain ⟨s, op, Y, hsp, y0, y1, y2⟩ := hprev
              subst hkq hpd
              obtain ⟨X, hX⟩ : ∃ X, (keysOf f)[k]! = X := ⟨_, rfl⟩
              obtain ⟨z, hz⟩ : ∃ z, (kidsOf f)[k]! = z := ⟨_, rfl⟩
              rw [hX] at x0 x1 x2 hfx hsp
              rw [hz] at z0 hfx
              have hs0 : S16 w.heap.size root (some ⟨gb, go, none⟩) n c kb (ko + k) z b1 (o1 + k * 3) X b1 op Y v6 wr := ⟨c0, c1, z0, x0, x1, x2, y0, y1, y2, HBX.out⟩
              have HF : Hid (∀ W, Hid (S16 w.heap.size root (some ⟨gb, go, none⟩) n c kb (ko + k) z b1 (o1 + k * 3) X b1 op Y v6 W) → Calls Tryz.prog 18 #[.agg #[.int .i64 root, .slice (some ⟨gb, go, none⟩) n c], .int .i64 (t : Int), .agg #[.int .i64 X.1, .int .i64 X.2.1, .string X.2.2]] W fun e W' => e = .returned (.tuple #[.int .i64 z, .bool true]) ∧ Hid (S16 w.heap.size root (some ⟨gb, go, none⟩) n c kb (ko + k) z b1 (o1 + k * 3) X b1 op Y v6 W')) :=
                Lib.hid fun W h => by
                  have hF := Find_any root D (some ⟨gb, go, none⟩) c t X W (HGL6.out.below h.out.2.2.2.2.2.2.2.2.2)
                  unfold aggS at hF
                  rw [hfx, HDN.out] at hF
                  exact hF.mono fun e W' hh => ⟨hh.1, Lib.hid (s16_step h.out hh.2)⟩
              have HCM : Hid (∀ W, Hid (S16 w.heap.size root (some ⟨gb, go, none⟩) n c kb (ko + k) z b1 (o1 + k * 3) X b1 op Y v6 W) → Calls Tryz.prog 24 #[.agg #[.int .i64 Y.1, .int .i64 Y.2.1, .string Y.2.2], .agg #[.int .i64 X.1, .int .i64 X.2.1, .string X.2.2]] W fun e W' => e = .returned (.int .i64 (cmpSc Y X)) ∧ Hid (S16 w.heap.size root (some ⟨gb, go, none⟩) n c kb (ko + k) z b1 (o1 + k * 3) X b1 op Y v6 W')) :=
                Lib.hid fun W h => by
                  have hF := Compare_below Y X W
                  unfold aggS at hF
                  exact hF.mono fun e W' hh => ⟨hh.1, Lib.hid (s16_step h.out hh.2)⟩
              obtain ⟨cv, hcv⟩ : ∃ v, cmpSc Y X = v := ⟨_, rfl⟩
              rw [hcv] at HCM hsp
              have HS0 := Lib.hid hs0
              have i5 : (k : Int) < (f.kids.size : Int) := by omega
              have i3 : decide (f.kids.size ≤ k) = false := decide_eq_false (by omega)
              have i4 : decide ((f.kids.size : Int) ≤ (k : Int)) = false := decide_eq_false (by omega)
              clear hun hkz hdz hb1 g0 g1 g2 hkb2 k0 ex ez hfx hX hz hs0 hcv
              have HSP := Lib.hid hsp
              clear hsp
              go_wp2_with fail
              go_region_held3 (S16 w.heap.size root (some ⟨gb, go, none⟩) n c kb (ko + k) z b1 (o1 + k * 3) X b1 op Y v6) (first | exact Hid.out (by assumption) | exact s16_drew (Hid.out (by assumption))) (first
                | ((with_reducible refine (HF.out _ (by first | assumption | exact Lib.hid (s16_drew (Hid.out (by assumption))))).mono ?_); rintro e wq ⟨rfl, hbq⟩))
              obtain ⟨c0, c1, z0, x0, x1, x2, y0, y1, y2, hbq2⟩ := hbq.out
              rcases HSP.out with ⟨h0, _⟩ | ⟨h0, h1, h2⟩
              · have j1 : decide (0 < k) = false := decide_eq_false (by omega)
                have j2 : decide ((k : Int) > 0) = false := decide_eq_false (by omega)
                have j3 : decide (0 < (k : Int)) = false := decide_eq_false (by omega)
                clear h0
                go_wp2_with fail
                have HX9 := Lib.hid hbq2
                go_quiet (fail)
                go_wp2_with fail
                go_roundw
                case rel => exact ⟨k + 1, by omega, by go_num, below_drewN HX9.out _⟩
                case measure => simp [intOf]; omega
              · have j1 : decide (0 < k) = true := decide_eq_true (by omega)
                have j2 : decide ((k : Int) > 0) = true := decide_eq_true (by omega)
                have j3 : decide (0 < (k : Int)) = true := decide_eq_true (by omega)
                have j9 : IntKind.i64.wrap ((k : Int) - 1) = (s : Int) := by rw [IntWalk.i64_left]; unfold wrap64; omega
                have j7 : (s : Int) < (nk : Int) := by omega
                have j8 : (0 : Int) ≤ (s : Int) := by omega
                have j5 : decide (cv ≥ 0) = false := decide_eq_false (by omega)
                have j6 : decide (0 ≤ cv) = false := decide_eq_false (by omega)
                subst h1
                clear h0 h2
                go_wp2_with fail
                go_region_held3 (S16 w.heap.size root (some ⟨gb, go, none⟩) n c kb (ko + k) z b1 (o1 + k * 3) X b1 (o1 + s * 3) Y v6) (first | exact Hid.out (by assumption) | exact s16_drew (Hid.out (by assumption))) (first
                  | ((with_reducible refine (HCM.out _ (by first | assumption | exact Lib.hid (s16_drew (Hid.out (by assumption))))).mono ?_); rintro e wq ⟨rfl, hbq⟩))
                have HX9 := Lib.hid hbq.out.2.2.2.2.2.2.2.2.2
                go_wp2_with fail
                go_roundw
                case rel => exact ⟨k + 1, by omega, by go_num, HX9.out⟩
                case measure => simp [intOf]; omega
            · have i2 : ¬ (k : Int) < (nk : Int) := by omega
              obtain rfl : k = nk := by omega
              have y0 := (HBX.out.cell (p := ⟨gb, go + t * 6, none⟩) hgb).trans HZ0.out
              have y5 := (HBX.out.cell (p := ⟨gb, go + t * 6 + 5, none⟩) hgb).trans HZ5.out
              rw [← hkl] at y5
              have HBZ := Lib.hid (HB6.out.trans (HBX.out.mono HB6.out.size))
              by_cases hf2 : f.k = 2
              · have e2 := keysOf_len HRT.out hf2
                rw [HND.out, HNK.out] at e2
                subst e2
                rw [hf2] at y0
                clear HBX hf2
                go_wp2_with fail
                go_ret
                exact ⟨rfl, HBZ.out⟩
              · have e2 : (keysOf f).length = 0 := by rw [keysOf_no hf2]; rfl
                rw [HNK.out] at e2
                subst e2
                have hne : (f.k != 2) = true := by simp [hf2]
                have hne2 : (f.k == 2) = false := by simp [hf2]
                clear HBX hf2
                go_wp2_with fail
                go_ret
                exact ⟨rfl, HBZ.out⟩
    · have hne : (e1 != 0) = true := by simp [he]
      have i1 : ¬ i < 0 := by omega
      have i2 : i ≥ 0 := p0
      have i3 : i < (n : Int) := p1
      have HB := HB6
      clear HDR HKR hds hks
      go_wp2_with fail
      go_ret
      exact ⟨rfl, HB.out⟩
  · have hde := HDR.out
    have hke := HKR.out
    unfold kidsG at hde
    unfold keysG at hke
    rw [HDN.out, if_neg hi] at hde hke
    simp only [Prod.mk.injEq] at hde hke
    obtain ⟨_, rfl⟩ := hde
    obtain ⟨_, rfl⟩ := hke
    have hi2 : i < 0 ∨ (0 ≤ i ∧ (n : Int) ≤ i) := by
      by_cases h0 : i < 0
      · exact .inl h0
      · refine .inr ⟨by omega, ?_⟩
        refine Int.not_lt.1 fun h1 => hi (plB_iff.2 ⟨by omega, h1⟩)
    clear hi HDR HKR
    by_cases he : e1 = 0
    · subst he
      rcases hi2 with h0 | ⟨h0, h1⟩
      · have h3 : ¬ i ≥ 0 := by omega
        go_wp2_with fail
        go_ret
        exact ⟨rfl, HB6.out⟩
      · have h3 : ¬ i < 0 := by omega
        have h4 : i ≥ (n : Int) := h1
        have h5 : decide (i < (n : Int)) = false := decide_eq_false (by omega)
        go_wp2_with fail
        go_ret
        exact ⟨rfl, HB6.out⟩
    · have hne : (e1 != 0) = true := by simp [he]
      rcases hi2 with h0 | ⟨h0, h1⟩
      · have h3 : ¬ i ≥ 0 := by omega
        go_wp2_with fail
        go_ret
        exact ⟨rfl, HB6.out⟩
      · have h3 : ¬ i < 0 := by omega
        have h4 : i ≥ (n : Int) := h1
        have h5 : decide (i < (n : Int)) = false := decide_eq_false (by omega)
        go_wp2_with fail
        go_ret
        exact ⟨rfl, HB6.out⟩
end Go.Proofs.YtfpcjdopfodfnaaGreatDoor
