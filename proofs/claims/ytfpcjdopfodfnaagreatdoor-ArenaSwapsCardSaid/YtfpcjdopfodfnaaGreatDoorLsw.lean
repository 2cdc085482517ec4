/- A map whose keys, and kids with them, stand the other way round tells the same keys and kids: the walk of the law. Conditions: the contracts of what is called. -/
import Derived.Test.YtfpcjdopfodfnaaGreatDoorLsm
import Derived.Deep.RegionHeld3
import Derived.BigQuiet
import Derived.Deep.RegionLaw
import Derived.Deep.AppendLies
set_option maxRecDepth 100000
namespace Go.Proofs.YtfpcjdopfodfnaaGreatDoor
open Go.RowKit Go.Shelf
open Scs
theorem GO.slice {b : Nat} {W : World} {q : Option Addr} {n c : Nat} {L : List Fn} (h : GO b W (.slice q n c) L) (hn : 0 < n) : ∃ g, q = some ⟨g, 0, none⟩ ∧ b ≤ g := by
  rcases h.row with ⟨_, ⟨h1, h2⟩ | ⟨g, c', cur, hv, hbg, hg, hnc, hr⟩⟩
  · injection h1 with _ a b
    omega
  · injection hv with a _ _
    exact ⟨g, a, hbg⟩
theorem Gl.at0 {W : World} {g : Nat} {L : Array Fn} (h : Gl W (some ⟨g, 0, none⟩) L) (t : Nat) (ht : t < L.size) :
    g < W.heap.size ∧ W.cell? ⟨g, t * 6, none⟩ = some (.int .i64 L[t]!.k) ∧ W.cell? ⟨g, t * 6 + 1, none⟩ = some (.int .i64 L[t]!.x.1) ∧ W.cell? ⟨g, t * 6 + 2, none⟩ = some (.int .i64 L[t]!.x.2.1) ∧ W.cell? ⟨g, t * 6 + 3, none⟩ = some (.string L[t]!.x.2.2) ∧
      W.cell? ⟨g, t * 6 + 4, none⟩ = some (.slice L[t]!.pk L[t]!.keys.size L[t]!.ck) ∧ W.cell? ⟨g, t * 6 + 5, none⟩ = some (.slice L[t]!.pd L[t]!.kids.size L[t]!.cd) := by
  obtain ⟨b, o, he, hb, c0, c1, c2, c3, c4, c5⟩ := h.at t ht
  injection he with he
  injection he with h1 h2
  subst h1 h2
  rw [Nat.zero_add] at c0 c1 c2 c3 c4 c5
  exact ⟨hb, c0, c1, c2, c3, c4, c5⟩
theorem Il.newer {A B : World} {p : Option Addr} {l : Array Int} {r b : Nat} (h : Il A p l) (hn : New b p l.size) (hg : A.grownBy B (some r)) (hr : r < b) : Il B p l := by
  rcases hn with h0 | ⟨g, o, hp, hb⟩
  · exact ⟨h.small, .inl h0⟩
  · refine ⟨h.small, ?_⟩
    rcases h.lies with h0 | ⟨blk, off, hp', hbl, hc⟩
    · exact .inl h0
    · have he : blk = g := by rw [hp] at hp'; injection hp' with h1; injection h1 with h1; exact h1.symm
      have hk := hg.block blk hbl (by intro e; injection e with e; omega)
      exact .inr ⟨blk, off, hp', (Array.getElem?_eq_some_iff.1 (hk.trans (Array.getElem?_eq_getElem hbl))).1, fun i hi => (World.cell?_of_block hk).trans (hc i hi)⟩
theorem Sl.newer {A B : World} {p : Option Addr} {l : Array Sc} {r b : Nat} (h : Sl A p l) (hn : New b p l.size) (hg : A.grownBy B (some r)) (hr : r < b) : Sl B p l := by
  rcases hn with h0 | ⟨g, o, hp, hb⟩
  · exact ⟨h.small, h.short, .inl h0⟩
  · exact h.grown hg fun blk off hp' => by
      have he : blk = g := by rw [hp] at hp'; injection hp' with h1; injection h1 with h1; exact h1.symm
      omega
theorem rev_take {α : Type} [Inhabited α] (l : Array α) {j s : Nat} (h : j + (s + 1) = l.size) : l.toList.reverse.take (j + 1) = l.toList.reverse.take j ++ [l[s]!] := by
  have hs : s < l.size := by omega
  rw [List.take_add_one, List.getElem?_eq_getElem (by simp; omega), getElem!_pos l s hs, List.getElem_reverse]
  have e : l.toList.length - 1 - j = s := by rw [Array.length_toList]; omega
  simp only [e, Option.toList_some, Array.getElem_toList]
set_option maxHeartbeats 16000000 in
theorem walkArenaSwaps (root : Int) (L : Array Fn) (p : Option Addr) (cap : Nat) (i : Int) (w : World) (E : Env w) (hL : GlR w p L) :
    Calls Tryz.prog 6 #[.agg #[.int .i64 root, .slice p L.size cap], .int .i64 i] w fun e w' => e = .returned (.bool true) ∧ Below w.heap.size w w' := by
  have HEE := Lib.hid E
  obtain ⟨v0, hv0⟩ : ∃ v, (w.alloc (.cells #[.int .i64 root, .slice p L.size cap] 24)) = v := ⟨_, rfl⟩
  have hb0 : Below w.heap.size w v0 := by rw [← hv0]; exact ((Below.refl _ w).alloc (Nat.le_refl _) _)
  have r0 : v0.heap[w.heap.size]? = some (.cells #[.int .i64 root, .slice p L.size cap] 24) := by
    rw [← hv0]
    have h := heap_alloc_new w (.cells #[.int .i64 root, .slice p L.size cap] 24)
    exact h
  have HE0 := Lib.hid (E.below hb0)
  have HL0 := Lib.hid (hL.below hb0)
  have HB0 := Lib.hid hb0
  have R0_0 := Lib.hid r0
  have HV0 := Lib.hid hv0
  clear hv0 hb0 E hL r0
  go_enter Tryz.func6, Tryz.ntmps6
  go_wp2_with fail
  rw [HV0.out]
  refine (shown_any _ HE0.out).mono ?_
  rintro e v1 ⟨rfl, hb⟩
  have R1_0 := Lib.hid ((hb.block _ (Array.getElem?_eq_some_iff.1 R0_0.out).1).trans R0_0.out)
  have HE1 := Lib.hid (HE0.out.below hb)
  have HL1 := Lib.hid (HL0.out.below hb)
  have HB1 := Lib.hid (HB0.out.trans (hb.mono HB0.out.size))
  clear hb
  have c0 := cell_of_row _ _ 0 _ _ _ R1_0.out
  have c1 := cell_of_row _ _ 1 _ _ _ R1_0.out
  go_wp2_with fail
  refine (Cut07_any root L p cap v1 HL1.out).mono ?_
  rintro e v2 ⟨q, n, c, rfl, ⟨L', hn, h201, hgo⟩, hb⟩
  clear c0 c1
  have R2_0 := Lib.hid ((hb.block _ (Array.getElem?_eq_some_iff.1 R1_0.out).1).trans R1_0.out)
  have HE2 := Lib.hid (HE1.out.below hb)
  have HB2 := Lib.hid (HB1.out.trans (hb.mono HB1.out.size))
  have HN := Lib.hid hn
  have HGO2 := Lib.hid hgo
  have hs1 := HB1.out.size
  have HB12 := Lib.hid hb
  clear hb hn hgo
  have c0 := cell_of_row _ _ 0 _ _ _ R2_0.out
  have c1 := cell_of_row _ _ 1 _ _ _ R2_0.out
  have f0 := frozen_of_row _ _ 0 _ _ R2_0.out
  have f1 := frozen_of_row _ _ 1 _ _ R2_0.out
  go_upto_region 3 with fail
  obtain ⟨v3, hv3⟩ : ∃ v, ((v2.setCell ⟨w.heap.size, 0, none⟩ (.int .i64 root)).setCell ⟨w.heap.size, 1, none⟩ (.slice q n c)) = v := ⟨_, rfl⟩
  rw [hv3]
  have r3 := heap_setCell_same _ (w.heap.size) 1 _ _ (.slice q n c) (heap_setCell_same v2 (w.heap.size) 0 _ _ (.int .i64 root) R2_0.out)
  rw [hv3] at r3
  have g3 : v2.grownBy v3 (some (w.heap.size)) := by rw [← hv3]; exact gB_setCell (gB_setCell (gB_refl _ _) _ _) _ _
  have hB1 : w.heap.size < v1.heap.size := (Array.getElem?_eq_some_iff.1 R1_0.out).1
  have HGO3 : Hid (GO v1.heap.size v3 (.slice q n c) L') := Lib.hid (GO.keepB HGO2.out g3 hB1)
  have HGL := Lib.hid (HGO3.out.gl HN.out h201)
  have HK := Lib.hid HGO3.out.k12
  have hDn : L'.toArray.size = n := by rw [List.size_toArray]; exact HN.out
  have HLT := Lib.hid (show L'.toArray.toList = L' by simp)
  obtain ⟨D, hD⟩ : ∃ D, L'.toArray = D := ⟨_, rfl⟩
  rw [hD] at HGL HK hDn HLT
  have hbs : Below w.heap.size v2 v3 := below_of_grown g3 (by omega) HB2.out.size
  have R3_0 := Lib.hid r3
  have HB3 := Lib.hid (HB2.out.trans hbs)
  have HE3 := Lib.hid (HEE.out.below HB3.out)
  have HDN := Lib.hid hDn
  have HD := Lib.hid hD
  have H201 := Lib.hid h201
  clear c0 c1 f0 f1 hv3 r3 g3 hB1 hbs hs1 hDn hD h201
  have c0 := cell_of_row _ _ 0 _ _ _ R3_0.out
  have c1 := cell_of_row _ _ 1 _ _ _ R3_0.out
  have HCK := Lib.hid fun r W E G => Check_any r D q c W E G
  rw [HDN.out] at HCK
  obtain ⟨r1, hr1⟩ : ∃ r, checkG root D.toList = r := ⟨_, rfl⟩
  have hk1 := HCK.out root v3 HE3.out HGL.out
  rw [hr1] at hk1
  have HK1 := Lib.hid hk1
  have HDD := Lib.hid fun W E G => Kids_new root D q c i W E G HK.out
  have HKY := Lib.hid fun W E G => Keys_new root D q c i W E G
  obtain ⟨dr, hdr⟩ : ∃ r, kidsG D i = r := ⟨_, rfl⟩
  obtain ⟨kr, hkr⟩ : ∃ r, keysG D i = r := ⟨_, rfl⟩
  have HDR := Lib.hid hdr
  have HKR := Lib.hid hkr
  obtain ⟨ds, de⟩ := dr
  obtain ⟨ks, ke⟩ := kr
  rw [hdr, HDN.out] at HDD
  rw [hkr, HDN.out] at HKY
  clear hk1 hdr hkr
  go_wp2_with fail
  refine (HK1.out).mono ?_
  rintro e v4 ⟨rfl, hb⟩
  clear c0 c1
  have R4_0 := Lib.hid ((hb.block _ (Array.getElem?_eq_some_iff.1 R3_0.out).1).trans R3_0.out)
  have HE4 := Lib.hid (HE3.out.below hb)
  have HB4 := Lib.hid (HB3.out.trans (hb.mono HB3.out.size))
  have HGL4 := Lib.hid (HGL.out.below hb)
  have HGO4 := Lib.hid (GO.keep HGO3.out fun g _ hg => hb.block g hg)
  clear hb
  have c0 := cell_of_row _ _ 0 _ _ _ R4_0.out
  have c1 := cell_of_row _ _ 1 _ _ _ R4_0.out
  have HR1 := Lib.hid hr1
  obtain ⟨a1, e1⟩ := r1
  clear hr1
  have h201 := H201.out
  by_cases he : e1 = 0
  · subst he
    by_cases hi : plB i n = true
    · obtain ⟨p0, p1⟩ := plB_iff.1 hi
      have hde := HDR.out
      have hke := HKR.out
      unfold kidsG at hde
      unfold keysG at hke
      rw [HDN.out, if_pos hi] at hde hke
      simp only [Prod.mk.injEq] at hde hke
      obtain ⟨hds, rfl⟩ := hde
      obtain ⟨hks, rfl⟩ := hke
      obtain ⟨h2, h3, h4⟩ := check_ok (r := root) (L := D.toList) (by rw [HR1.out])
      rw [Array.length_toList, HDN.out] at h2 h3 h4
      have hR := node_right (by rw [Array.length_toList]; exact HDN.out) h3 hi (D := D) rfl
      obtain ⟨t, rfl⟩ : ∃ t : Nat, i = t := ⟨i.toNat, by omega⟩
      have htn : t < n := by omega
      rw [Int.toNat_natCast] at hds hks hR
      obtain ⟨f, hf⟩ : ∃ f, D[t]! = f := ⟨_, rfl⟩
      rw [hf] at hds hks hR
      subst hds hks
      obtain ⟨g, rfl, hgv⟩ := HGO4.out.slice (by omega)
      have HGV := Lib.hid hgv
      obtain ⟨hg4, z0, z1, z2, z3, z4, z5⟩ := HGL4.out.at0 t (by rw [HDN.out]; exact htn)
      rw [hf] at z0 z1 z2 z3 z4 z5
      have HG4 := Lib.hid hg4
      have HZ0 := Lib.hid z0
      have HZ1 := Lib.hid z1
      have HZ2 := Lib.hid z2
      have HZ3 := Lib.hid z3
      have HZ4 := Lib.hid z4
      have HZ5 := Lib.hid z5
      have HF := Lib.hid hf
      have HRT := Lib.hid hR
      have HRR := Lib.hid h3
      have HRP := Lib.hid h4
      have ht0 : decide ((t : Int) < 0) = false := decide_eq_false (by omega)
      have ht1 : (t : Int) < (n : Int) := by omega
      have ht2 : ¬ (t : Int) ≥ (n : Int) := by omega
      have ht3 : decide (n ≤ t) = false := decide_eq_false (by omega)
      have ht4 : decide ((n : Int) ≤ (t : Int)) = false := decide_eq_false (by omega)
      clear hi p0 p1 h2 h3 h4 hf hR hgv hg4 z0 z1 z2 z3 z4 z5
      go_wp2_with fail
      refine (HDD.out v4 HE4.out HGL4.out).mono ?_
      rintro e v5 ⟨dq, dc, rfl, hd, hnw, hb⟩
      have HNW1 := Lib.hid hnw
      clear hnw
      clear c0 c1
      have R5_0 := Lib.hid ((hb.block _ (Array.getElem?_eq_some_iff.1 R4_0.out).1).trans R4_0.out)
      have HE5 := Lib.hid (HE4.out.below hb)
      have HB45 := Lib.hid hb
      have HGL5 := Lib.hid (HGL4.out.below hb)
      have HD5 := Lib.hid hd
      clear hb hd
      have c0 := cell_of_row _ _ 0 _ _ _ R5_0.out
      have c1 := cell_of_row _ _ 1 _ _ _ R5_0.out
      go_wp2_with fail
      refine (HKY.out v5 HE5.out HGL5.out).mono ?_
      rintro e v6 ⟨kq, kc, rfl, hs, hnw, hb⟩
      have HNW2 := Lib.hid (hnw.low HB45.out.size)
      clear hnw
      clear c0 c1
      have R6_0 := Lib.hid ((hb.block _ (Array.getElem?_eq_some_iff.1 R5_0.out).1).trans R5_0.out)
      have HE6 := Lib.hid (HE5.out.below hb)
      have HB46 := Lib.hid (HB45.out.trans (hb.mono HB45.out.size))
      have HS := Lib.hid hs
      have HI := Lib.hid (HD5.out.below hb)
      clear hb hs
      have c0 := cell_of_row _ _ 0 _ _ _ R6_0.out
      have c1 := cell_of_row _ _ 1 _ _ _ R6_0.out
      have z0 := (HB46.out.cell (p := ⟨g, t * 6, none⟩) HG4.out).trans HZ0.out
      have z1 := (HB46.out.cell (p := ⟨g, t * 6 + 1, none⟩) HG4.out).trans HZ1.out
      have z2 := (HB46.out.cell (p := ⟨g, t * 6 + 2, none⟩) HG4.out).trans HZ2.out
      have z3 := (HB46.out.cell (p := ⟨g, t * 6 + 3, none⟩) HG4.out).trans HZ3.out
      have hlg : g < v6.heap.size := Nat.lt_of_lt_of_le HG4.out HB46.out.size
      have hlB : w.heap.size < v6.heap.size := (Array.getElem?_eq_some_iff.1 R6_0.out).1
      go_upto_region 8 with fail
      go_cut [12] from 54 to 161 (fun s wx => ∃ b8, s = .pointer (some ⟨b8, 0, none⟩) ∧ v6.heap.size ≤ b8 ∧ wx.heap[b8]? = some (.cells #[.int .i64 f.k, .int .i64 f.x.1, .int .i64 f.x.2.1, .string f.x.2.2, .slice none 0 0, .slice none 0 0] 47 (0, 0)) ∧ Below v6.heap.size v6 wx)
      case first =>
        go_region_with (fail)
        all_goals
          go_wp2
          go_meet
          exact ⟨_, rfl, Nat.le_refl _, heap_alloc_new v6 _, have hba := (Below.refl _ v6).alloc (Nat.le_refl _) (.cells #[.int .i64 f.k, .int .i64 f.x.1, .int .i64 f.x.2.1, .string f.x.2.2, .slice none 0 0, .slice none 0 0] 47); ⟨hba.os, hba.tape, hba.output, hba.size, hba.block⟩⟩
      case rest =>
        obtain ⟨b8, rfl, hb8, hx8, hbx⟩ := hcut
        have HX8 := Lib.hid hx8
        have HBX := Lib.hid hbx
        have hb9 : b8 < wc.heap.size := (Array.getElem?_eq_some_iff.1 hx8).1
        clear c0 c1 z0 z1 z2 z3 hx8 hbx
        have r9 := (HBX.out.block _ hlB).trans R6_0.out
        have R9 := Lib.hid r9
        have c1 := cell_of_row _ _ 1 _ _ _ r9
        have HB49 := Lib.hid (HB46.out.trans (HBX.out.mono HB46.out.size))
        have z4 := (HB49.out.cell (p := ⟨g, t * 6 + 4, none⟩) HG4.out).trans HZ4.out
        clear r9
        obtain ⟨wo, rfl⟩ : ∃ W, W = wc := ⟨wc, rfl⟩
        have hNs : f.keys.size ≤ 12 := by rw [← HF.out]; exact HK.out t (by rw [HDN.out]; exact htn)
        go_wp2_with fail
        go_loopw [13] (fun i wr => ∃ j m : Nat, ∃ q2 c2 q3 c3, i = .int .i64 ((m : Int) - 1) ∧ j + m = f.keys.size ∧ wr.heap[b8]? = some (.cells #[.int .i64 f.k, .int .i64 f.x.1, .int .i64 f.x.2.1, .string f.x.2.2, .slice q2 j c2, .slice q3 j c3] 47 (0, 0)) ∧ wr.ownsRow (b8 + 1) 26 3 (.slice q2 j c2) j (flatS (f.keys.toList.reverse.take j)) ∧ wr.ownsRow (b8 + 1) 3 1 (.slice q3 j c3) j (ints (f.kids.toList.reverse.take j)) ∧ Below b8 wo wr) (fun i _ => (intOf i + 1).toNat)
        case atStart => exact ⟨0, f.keys.size, none, 0, none, 0, rfl, by omega, HX8.out, World.ownsRow_nil _ _ _ _, World.ownsRow_nil _ _ _ _, Below.refl _ _⟩
        case round =>
          obtain ⟨j, m, q2, c2, q3, c3, rfl, hjm, hx, hk2, hd2, hbr⟩ := hrel
          have HX := Lib.hid hx
          have HK2 := Lib.hid hk2
          have HD2 := Lib.hid hd2
          have HBR := Lib.hid hbr
          clear hx hk2 hd2 hbr
          cases m with
          | zero =>
            have hts : (((0 : Nat) : Int) - 1) = -1 := by omega
            rw [hts]
            obtain rfl : j = f.keys.size := by omega
            obtain ⟨wk, rfl⟩ : ∃ W, W = wr := ⟨wr, rfl⟩
            have y4 : wk.cell? ⟨b8, 4, none⟩ = some (.slice q2 f.keys.size c2) := cell_of_row _ _ 4 _ _ _ HX.out
            have HBK := Lib.hid (HB4.out.trans ((HB49.out.trans (HBR.out.mono (Nat.le_trans HB46.out.size hb8))).mono HB4.out.size))
            clear hts
            by_cases hN0 : f.keys.size = 0
            · have hke : (keysOf f).length = 0 := by
                by_cases hk2 : f.k = 2
                · rw [keysOf_len HRT.out hk2, kidsOf_len HRT.out, ← (right_map HRT.out hk2).1, hN0]
                · rw [keysOf_no hk2]; rfl
              rw [hke]
              rw [hN0] at y4 ⊢
              clear hke hN0
              go_wp2_with fail
              go_ret
              exact ⟨rfl, HBK.out⟩
            · have hne : ((f.keys.size : Int) == 0) = false := by rw [beq_eq_false_iff_ne]; omega
              have hk2 : f.k = 2 := by
                rcases right_kind HRT.out with hk | hk | hk
                · have := (right_one HRT.out hk).1; omega
                · have := (right_seq HRT.out hk).1; omega
                · exact hk
              have hsz := (right_map HRT.out hk2).1
              have y0 := cell_of_row _ _ 0 _ _ _ HX.out
              have y1 := cell_of_row _ _ 1 _ _ _ HX.out
              have y2 := cell_of_row _ _ 2 _ _ _ HX.out
              have y3 := cell_of_row _ _ 3 _ _ _ HX.out
              have y5 : wk.cell? ⟨b8, 5, none⟩ = some (.slice q3 f.keys.size c3) := cell_of_row _ _ 5 _ _ _ HX.out
              have c1k := (HBR.out.cell (p := ⟨w.heap.size, 1, none⟩) (by show w.heap.size < b8; omega)).trans c1
              have hHD : D.toList = L' := HLT.out
              have hgo : GO v1.heap.size wk (.slice (some ⟨g, 0, none⟩) n c) L' := GO.keep HGO4.out fun g' _ hg' => (HBR.out.block g' (by have := HB46.out.size; omega)).trans (HB49.out.block g' hg')
              have hrow := hgo.row
              obtain ⟨cur, hcur, hcz⟩ : ∃ cur, wk.heap[g]? = some (.cells cur 47 (0, 0)) ∧ t * 6 + 6 ≤ cur.size := by
                rcases hrow with ⟨_, ⟨h1, _⟩ | ⟨g', c', cur, hv, hbg, hgr, hnc, _, hcs, _⟩⟩
                · cases h1
                · obtain rfl : g = g' := by injection hv with h1 _ _; injection h1 with h1; injection h1
                  have := HN.out
                  exact ⟨cur, hgr, by rw [hcs]; omega⟩
              have f0 := frozen_of_row wk g (t * 6) _ _ hcur
              have f1 := frozen_of_row wk g (t * 6 + 1) _ _ hcur
              have f2 := frozen_of_row wk g (t * 6 + 2) _ _ hcur
              have f3 := frozen_of_row wk g (t * 6 + 3) _ _ hcur
              have f4 := frozen_of_row wk g (t * 6 + 4) _ _ hcur
              have f5 := frozen_of_row wk g (t * 6 + 5) _ _ hcur
              have e0 := (HBR.out.cell (p := ⟨g, t * 6, none⟩) (by show g < b8; omega)).trans ((HB49.out.cell (p := ⟨g, t * 6, none⟩) HG4.out).trans HZ0.out)
              have e1 := (HBR.out.cell (p := ⟨g, t * 6 + 1, none⟩) (by show g < b8; omega)).trans ((HB49.out.cell (p := ⟨g, t * 6 + 1, none⟩) HG4.out).trans HZ1.out)
              have e2 := (HBR.out.cell (p := ⟨g, t * 6 + 2, none⟩) (by show g < b8; omega)).trans ((HB49.out.cell (p := ⟨g, t * 6 + 2, none⟩) HG4.out).trans HZ2.out)
              have e3 := (HBR.out.cell (p := ⟨g, t * 6 + 3, none⟩) (by show g < b8; omega)).trans ((HB49.out.cell (p := ⟨g, t * 6 + 3, none⟩) HG4.out).trans HZ3.out)
              have e4 := (HBR.out.cell (p := ⟨g, t * 6 + 4, none⟩) (by show g < b8; omega)).trans ((HB49.out.cell (p := ⟨g, t * 6 + 4, none⟩) HG4.out).trans HZ4.out)
              have e5 := (HBR.out.cell (p := ⟨g, t * 6 + 5, none⟩) (by show g < b8; omega)).trans ((HB49.out.cell (p := ⟨g, t * 6 + 5, none⟩) HG4.out).trans HZ5.out)
              have HGW := Lib.hid hgo
              obtain ⟨G, gk, gx, g0, g1, gks, g2, g3, gds⟩ : ∃ G : Fn, G.k = f.k ∧ G.x = f.x ∧ G.pk = q2 ∧ G.ck = c2 ∧ G.keys.toList = f.keys.toList.reverse ∧ G.pd = q3 ∧ G.cd = c3 ∧ G.kids.toList = f.kids.toList.reverse :=
                ⟨⟨f.k, f.x, q2, c2, f.keys.toList.reverse.toArray, q3, c3, f.kids.toList.reverse.toArray⟩, rfl, rfl, rfl, rfl, rfl, rfl, rfl, rfl⟩
              have hT : Turned f G := ⟨gk, gx, gks, gds⟩
              have htl : t < L'.length := by rw [HN.out]; exact htn
              have hfl : L'.toArray[t]! = f := by rw [HD.out]; exact HF.out
              have hmem : f ∈ L' := by
                rw [← hfl, getElem!_pos L'.toArray t (by simpa using htl)]
                simp
              have hKO := turned_own HK2.out HD2.out (b := v1.heap.size) (by have := HGV.out; omega) hT hsz (hgo.nodes f hmem) g0 g1 g2 g3
              have hst := hgo.store HN.out htn hKO
              obtain ⟨h2', h3', h4'⟩ := check_ok (r := root) (L := D.toList) (by rw [HR1.out])
              rw [hHD, HN.out] at h2' h3' h4'
              obtain ⟨hck, hkk, hkey⟩ := swap_graph HN.out htn h3' h2' h4' hfl hk2 hT
              obtain ⟨wz, hwz⟩ : ∃ v, putF wk g (t * 6) G = v := ⟨_, rfl⟩
              have hwz2 : ((((((wk.setCell ⟨g, t * 6, none⟩ (.int .i64 f.k)).setCell ⟨g, t * 6 + 1, none⟩ (.int .i64 f.x.1)).setCell ⟨g, t * 6 + 2, none⟩ (.int .i64 f.x.2.1)).setCell ⟨g, t * 6 + 3, none⟩ (.string f.x.2.2)).setCell ⟨g, t * 6 + 4, none⟩ (.slice q2 f.keys.size c2)).setCell ⟨g, t * 6 + 5, none⟩ (.slice q3 f.keys.size c3)) = wz := by
                rw [← hwz]
                unfold putF
                rw [gk, gx, g0, g1, g2, g3, hT.sizes.1, hT.sizes.2, ← hsz]
              have hgrz := putF_grown wk g (t * 6) G
              rw [hwz] at hst hgrz
              have hglz := hst.gl (by rw [List.length_set]; exact HN.out) h201
              have hk12z := hst.k12
              have hszz : (L'.set t G).toArray.size = n := by rw [List.size_toArray, List.length_set]; exact HN.out
              obtain ⟨DZ, hDZ⟩ : ∃ d, (L'.set t G).toArray = d := ⟨_, rfl⟩
              rw [hDZ] at hck hkk hkey hglz hk12z hszz
              have hlgw : w.heap.size ≤ g := by have h1 := HB1.out.size; have h2 := HGV.out; omega
              have hbz : Below w.heap.size wk wz := below_of_grown hgrz hlgw HBK.out.size
              have HBZ := Lib.hid (HBK.out.trans hbz)
              have HEZ := Lib.hid (HEE.out.below HBZ.out)
              have hbox := (HBR.out.block w.heap.size (by omega)).trans R9.out
              have HRZ := Lib.hid ((hgrz.block w.heap.size (Array.getElem?_eq_some_iff.1 hbox).1 (by simp; have := (Array.getElem?_eq_some_iff.1 R1_0.out).1; have := HGV.out; omega)).trans hbox)
              have hbiz : Below v6.heap.size v6 wk := HBX.out.trans (HBR.out.mono hb8)
              have HIZ := Lib.hid ((HI.out.below hbiz).newer (by rw [List.size_toArray]; exact HNW1.out) hgrz HG4.out)
              have HSZ := Lib.hid ((HS.out.below hbiz).newer (by rw [List.size_toArray]; exact HNW2.out) hgrz HG4.out)
              have HGZ := Lib.hid hglz
              have HW2 := Lib.hid hwz2
              have HGRZ := Lib.hid hgrz
              have HC := Lib.hid fun W E G => Check_any root DZ (some ⟨g, 0, none⟩) c W E G
              have HKD := Lib.hid fun W E G => Kids_any root DZ (some ⟨g, 0, none⟩) c t W E G hk12z
              have HKE := Lib.hid fun W E G => Keys_any root DZ (some ⟨g, 0, none⟩) c t W E G
              rw [hszz] at HC HKD HKE
              rw [hck] at HC
              rw [hkk] at HKD
              rw [hkey] at HKE
              clear hgo hrow hcur hcz hHD c1 z4 gk gx g0 g1 gks g2 g3 gds hT htl hfl hmem hKO hst h2' h3' h4' hck hkk hkey hwz hwz2 hgrz hglz hk12z hszz hDZ hbz hbox hbiz hk2 hsz
              go_upto_region 17 with fail
              rw [HW2.out]
              have c0 := cell_of_row _ _ 0 _ _ _ HRZ.out
              have c1 := cell_of_row _ _ 1 _ _ _ HRZ.out
              clear y0 y1 y2 y3 y4 y5 f0 f1 f2 f3 f4 f5 e0 e1 e2 e3 e4 e5 c1k
              go_wp2_with fail
              refine (HC.out wz HEZ.out HGZ.out).mono ?_
              rintro e x1 ⟨rfl, hb⟩
              have HRX := Lib.hid ((hb.block _ (Array.getElem?_eq_some_iff.1 HRZ.out).1).trans HRZ.out)
              have HEX := Lib.hid (HEZ.out.below hb)
              have HGX := Lib.hid (HGZ.out.below hb)
              have HBX1 := Lib.hid (HBZ.out.trans (hb.mono HBZ.out.size))
              have HZ1 := Lib.hid hb
              clear hb c0 c1
              have c0 := cell_of_row _ _ 0 _ _ _ HRX.out
              have c1 := cell_of_row _ _ 1 _ _ _ HRX.out
              go_wp2_with fail
              refine (HKD.out x1 HEX.out HGX.out).mono ?_
              rintro e x2 ⟨dq2, dc2, rfl, hd, hb⟩
              have HRX2 := Lib.hid ((hb.block _ (Array.getElem?_eq_some_iff.1 HRX.out).1).trans HRX.out)
              have HEX2 := Lib.hid (HEX.out.below hb)
              have HGX2 := Lib.hid (HGX.out.below hb)
              have HBX2 := Lib.hid (HBX1.out.trans (hb.mono HBX1.out.size))
              have HZ2 := Lib.hid (HZ1.out.trans (hb.mono HZ1.out.size))
              have HDX2 := Lib.hid hd
              clear hb hd c0 c1
              have c0 := cell_of_row _ _ 0 _ _ _ HRX2.out
              have c1 := cell_of_row _ _ 1 _ _ _ HRX2.out
              go_wp2_with fail
              refine (HKE.out x2 HEX2.out HGX2.out).mono ?_
              rintro e x3 ⟨kq2, kc2, rfl, hs, hb⟩
              have HBX3 := Lib.hid (HBX2.out.trans (hb.mono HBX2.out.size))
              have HZ3 := Lib.hid (HZ2.out.trans (hb.mono HZ2.out.size))
              have HDX3 := Lib.hid (HDX2.out.below hb)
              have HSX3 := Lib.hid hs
              clear hb hs c0 c1
              have hI := ints_any (kidsOf f).toArray (kidsOf f).toArray dq dq2 dc dc2 x3 (HIZ.out.below HZ3.out) HDX3.out
              have hS := fun W h1 h2 => sameS_any (keysOf f).toArray (keysOf f).toArray kq kq2 kc kc2 W h1 h2
              rw [List.size_toArray, decide_eq_true rfl] at hI
              rw [List.size_toArray, decide_eq_true rfl] at hS
              have HI9 := Lib.hid hI
              have HS9 := Lib.hid hS
              clear hI hS
              go_wp2_with (first
                | (refine HI9.out.mono ?_
                   rintro e x4 ⟨rfl, hb4⟩
                   have HZ4' := Lib.hid hb4
                   clear hb4)
                | (refine (HS9.out _ ((HSZ.out.below HZ3.out).below HZ4'.out) (HSX3.out.below HZ4'.out)).mono ?_
                   rintro e x5 ⟨rfl, hb5⟩
                   have HZ5' := Lib.hid hb5
                   clear hb5))
              go_ret
              exact ⟨rfl, HBX3.out.trans ((HZ4'.out.trans (HZ5'.out.mono HZ4'.out.size)).mono HBX3.out.size)⟩
          | succ s =>
            have hts : (((s + 1 : Nat) : Int) - 1) = (s : Int) := by omega
            rw [hts]
            have hs0 : (0 : Int) ≤ (s : Int) := by omega
            have hsN : s < f.keys.size := by omega
            have hk2f : f.k = 2 := by
              rcases right_kind HRT.out with hk | hk | hk
              · have := (right_one HRT.out hk).1; omega
              · have := (right_seq HRT.out hk).1; omega
              · exact hk
            have hsz := (right_map HRT.out hk2f).1
            have hsK : s < f.kids.size := by omega
            have hnl := HGL4.out.nodes t (by rw [HDN.out]; exact htn)
            rw [HF.out] at hnl
            obtain ⟨wk, rfl⟩ : ∃ W, W = wr := ⟨wr, rfl⟩
            have hvb : v4.heap.size ≤ b8 := Nat.le_trans HB46.out.size hb8
            obtain ⟨bs, os, hpk, hbs, s0, s1, s2⟩ := hnl.ks.at s hsN
            obtain ⟨bd, od, hpd, hbd, d0⟩ := hnl.ds.at s hsK
            have hbs2 : bs < b8 := Nat.lt_of_lt_of_le hbs hvb
            have hbd2 : bd < b8 := Nat.lt_of_lt_of_le hbd hvb
            replace s0 := (HBR.out.cell (p := ⟨bs, os + s * 3, none⟩) hbs2).trans ((HB49.out.cell (p := ⟨bs, os + s * 3, none⟩) hbs).trans s0)
            replace s1 := (HBR.out.cell (p := ⟨bs, os + s * 3 + 1, none⟩) hbs2).trans ((HB49.out.cell (p := ⟨bs, os + s * 3 + 1, none⟩) hbs).trans s1)
            replace s2 := (HBR.out.cell (p := ⟨bs, os + s * 3 + 2, none⟩) hbs2).trans ((HB49.out.cell (p := ⟨bs, os + s * 3 + 2, none⟩) hbs).trans s2)
            replace d0 := (HBR.out.cell (p := ⟨bd, od + s, none⟩) hbd2).trans ((HB49.out.cell (p := ⟨bd, od + s, none⟩) hbd).trans d0)
            have c1k := (HBR.out.cell (p := ⟨w.heap.size, 1, none⟩) (by show w.heap.size < b8; omega)).trans c1
            have z4k := (HBR.out.cell (p := ⟨g, t * 6 + 4, none⟩) (by show g < b8; omega)).trans z4
            have y4 : wk.cell? ⟨b8, 4, none⟩ = some (.slice q2 j c2) := cell_of_row _ _ 4 _ _ _ HX.out
            have g4 : wk.frozen? ⟨b8, 4, none⟩ = false := frozen_of_row _ _ 4 _ _ HX.out
            have hl8 : b8 < wk.heap.size := (Array.getElem?_eq_some_iff.1 HX.out).1
            obtain ⟨⟨x0, x1, x2⟩, hxv⟩ : ∃ x, f.keys[s]! = x := ⟨_, rfl⟩
            rw [hxv] at s0 s1 s2
            rw [hpk] at z4k
            have HXV := Lib.hid hxv
            have HD0 := Lib.hid d0
            have HPD := Lib.hid hpd
            have isN : (s : Int) < (f.keys.size : Int) := by omega
            obtain ⟨iS, hiS, hzS0, hzS1, hzS2⟩ := info_parts info23
            have hlBk : w.heap.size < wk.heap.size := by omega
            have hlgk : g < wk.heap.size := by omega
            have hlsk : bs < wk.heap.size := by omega
            have hb1 := fun (o0 : Obj) => (Below.refl wk.heap.size wk).alloc (Nat.le_refl _) o0
            have q1 := ((hb1 (.cells #[.int .i64 x0, .int .i64 x1, .string x2] 26)).cell (p := ⟨b8, 4, none⟩) hl8).trans y4
            have hst := rev_take f.keys (j := j) (s := s) (by omega)
            have hst2 := rev_take f.kids (j := j) (s := s) (by omega)
            rw [hxv] at hst
            have HST := Lib.hid hst
            have HST2 := Lib.hid hst2
            clear hts hsN hk2f hsz hsK hnl hpk hpd hbs hbd hxv d0 hb1 hvb c1 z4 hst hst2
            go_upto_region 12 with fail
            go_cut [13] from 79 to 106 (fun i wy => i = .int .i64 (s : Int) ∧ ∃ q4 c4, wy.heap[b8]? = some (.cells #[.int .i64 f.k, .int .i64 f.x.1, .int .i64 f.x.2.1, .string f.x.2.2, .slice q4 (j + 1) c4, .slice q3 j c3] 47 (0, 0)) ∧ wy.ownsRow (b8 + 1) 26 3 (.slice q4 (j + 1) c4) (j + 1) (flatS (f.keys.toList.reverse.take (j + 1))) ∧ wy.ownsRow (b8 + 1) 3 1 (.slice q3 j c3) j (ints (f.kids.toList.reverse.take j)) ∧ Below b8 wk wy)
            case first =>
              go_region_law (first
                | (refine step_append_lies _ rfl (.tmp 80) (.tmp 90) 36 rfl (b8 + 1) 26 iS (.agg #[.int .i64 0, .int .i64 0, .string ⟨#[]⟩]) 3 32 Tryz.underlying36 hiS hzS0 hzS1 hzS2 rfl (by decide) (.slice q2 j c2) j (flatS (f.keys.toList.reverse.take j)) (by simp [Act.eval]) (own_keepG (HK2.out.alloc (.cells #[.int .i64 x0, .int .i64 x1, .string x2] 26)) (fun _ _ => rfl)) ⟨wk.heap.size, 0, none⟩ 1 1 [.int .i64 x0, .int .i64 x1, .string x2] (by simp [Act.eval]) rfl (World.news_of_block (heap_alloc_new wk _)) (by intro u hu; simp at hu; rcases hu with rfl | rfl | rfl <;> rfl) (by decide) (by unfold maxLen; omega) (by omega) (by simp; omega) _ rfl ?_
                   intro g8 cap8 w8 hown8 hgr8 _ hlt8
                   have x8 := (hgr8.block b8 (by simp; omega) (fun e => by have := (own_lt HK2.out _ e.symm).1; omega)).trans ((Below.heap_alloc wk (.cells #[.int .i64 x0, .int .i64 x1, .string x2] 26) b8 hl8).trans HX.out)
                   have y8 : w8.cell? ⟨b8, 4, none⟩ = some (.slice q2 j c2) := cell_of_row _ _ 4 _ _ _ x8
                   have k8 : w8.frozen? ⟨b8, 4, none⟩ = false := frozen_of_row _ _ 4 _ _ x8
                   have X8 := Lib.hid x8
                   have HOW8 := Lib.hid hown8
                   have HGR8 := Lib.hid hgr8
                   clear x8 hown8 hgr8))
              all_goals
                go_wp2
                go_meet
                have g9 : w8.grownBy (w8.setCell ⟨b8, 4, none⟩ (.slice (some ⟨g8, 0, none⟩) (j + 1) cap8)) (some b8) := gB_setCell (gB_refl _ _) _ _
                have hq8 : w8.ownsRow (b8 + 1) 3 1 (.slice q3 j c3) j (ints (f.kids.toList.reverse.take j)) := own_keepG HD2.out fun g hv => (HGR8.out.block g (by have := (own_lt HD2.out g hv).2; simp; omega) (fun e => own_ne HD2.out HK2.out (by decide) hv e.symm rfl)).trans (Below.heap_alloc wk _ g (own_lt HD2.out g hv).2)
                refine ⟨rfl, _, _, heap_setCell_same w8 b8 4 _ _ _ X8.out, ?_, ?_, ?_⟩
                · rw [HST.out, flatS_snoc]
                  exact own_keepG HOW8.out fun g hv => g9.block g (own_lt HOW8.out g hv).2 (by have := (own_lt HOW8.out g hv).1; simp; omega)
                · exact own_keepG hq8 fun g hv => g9.block g (own_lt hq8 g hv).2 (by have := (own_lt hq8 g hv).1; simp; omega)
                · exact ((((Below.refl b8 wk).alloc (by omega) (.cells #[.int .i64 x0, .int .i64 x1, .string x2] 26)).drew).grown HGR8.out (by simp; omega) fun g hv => by have := (own_lt HK2.out g hv).1; omega).setCell (Nat.le_refl _) _
            case rest =>
              obtain ⟨rfl, q4, c4, hx4, hk4, hd4, hb4⟩ := hcut
              obtain ⟨wj, rfl⟩ : ∃ W, W = wc := ⟨wc, rfl⟩
              have HX4 := Lib.hid hx4
              have HK4 := Lib.hid hk4
              have HD4 := Lib.hid hd4
              have HB4' := Lib.hid (HBR.out.trans hb4)
              have c1j := (hb4.cell (p := ⟨w.heap.size, 1, none⟩) (by show w.heap.size < b8; omega)).trans c1k
              have z5j := (HB4'.out.cell (p := ⟨g, t * 6 + 5, none⟩) (by show g < b8; omega)).trans ((HB49.out.cell (p := ⟨g, t * 6 + 5, none⟩) HG4.out).trans HZ5.out)
              have d0j := (hb4.cell (p := ⟨bd, od + s, none⟩) hbd2).trans HD0.out
              rw [HPD.out] at z5j
              have y5 : wj.cell? ⟨b8, 5, none⟩ = some (.slice q3 j c3) := cell_of_row _ _ 5 _ _ _ hx4
              have g5 : wj.frozen? ⟨b8, 5, none⟩ = false := frozen_of_row _ _ 5 _ _ hx4
              have hl8j : b8 < wj.heap.size := (Array.getElem?_eq_some_iff.1 hx4).1
              have HSK := Lib.hid (show s < f.kids.size by
                have h1 := (right_map HRT.out (by
                  rcases right_kind HRT.out with hk | hk | hk
                  · have := (right_one HRT.out hk).1; omega
                  · have := (right_seq HRT.out hk).1; omega
                  · exact hk)).1
                omega)
              have isK : (s : Int) < (f.kids.size : Int) := by have := HSK.out; omega
              obtain ⟨iD, hiD, hzD0, hzD1, hzD2⟩ := info_parts info3
              have hlBj : w.heap.size < wj.heap.size := by omega
              have hlgj : g < wj.heap.size := by omega
              have hldj : bd < wj.heap.size := by omega
              have q5 := ((fun (o0 : Obj) => (Below.refl wj.heap.size wj).alloc (Nat.le_refl _) o0) (.cells #[.int .i64 f.kids[s]!] 3) |>.cell (p := ⟨b8, 5, none⟩) hl8j).trans y5
              clear hx4 hk4 hd4 hb4 s0 s1 s2 c1k z4k y4 g4 q1
              generalize f.kids[s]! = dv at d0j q5 HST2
              go_upto_region 13 with fail
              go_region_law (first
                | (refine step_append_lies _ rfl (.tmp 94) (.tmp 104) 33 rfl (b8 + 1) 3 iD (.int .i64 0) 1 8 Tryz.underlying33 hiD hzD0 hzD1 hzD2 rfl (by decide) (.slice q3 j c3) j (ints (f.kids.toList.reverse.take j)) (by simp [Act.eval]) (own_keepG (HD4.out.alloc (.cells #[.int .i64 dv] 3)) (fun _ _ => rfl)) ⟨wj.heap.size, 0, none⟩ 1 1 [.int .i64 dv] (by simp [Act.eval]) rfl (World.news_of_block (heap_alloc_new wj _)) (by intro u hu; simp at hu; rcases hu with rfl; rfl) (by decide) (by unfold maxLen; omega) (by omega) (by simp; omega) _ rfl ?_
                   intro g8 cap8 w8 hown8 hgr8 _ hlt8
                   have x8 := (hgr8.block b8 (by simp; omega) (fun e => by have := (own_lt HD4.out _ e.symm).1; omega)).trans ((Below.heap_alloc wj (.cells #[.int .i64 dv] 3) b8 hl8j).trans HX4.out)
                   have y8 : w8.cell? ⟨b8, 5, none⟩ = some (.slice q3 j c3) := cell_of_row _ _ 5 _ _ _ x8
                   have k8 : w8.frozen? ⟨b8, 5, none⟩ = false := frozen_of_row _ _ 5 _ _ x8
                   have X8 := Lib.hid x8
                   have HOW8 := Lib.hid hown8
                   have HGR8 := Lib.hid hgr8
                   clear x8 hown8 hgr8))
              all_goals
                go_wp2
                go_roundw
                case rel =>
                  have g9 : w8.grownBy (w8.setCell ⟨b8, 5, none⟩ (.slice (some ⟨g8, 0, none⟩) (j + 1) cap8)) (some b8) := gB_setCell (gB_refl _ _) _ _
                  have hq8 : w8.ownsRow (b8 + 1) 26 3 (.slice q4 (j + 1) c4) (j + 1) (flatS (f.keys.toList.reverse.take (j + 1))) := own_keepG HK4.out fun g hv => (HGR8.out.block g (by have := (own_lt HK4.out g hv).2; simp; omega) (fun e => own_ne HK4.out HD4.out (by decide) hv e.symm rfl)).trans (Below.heap_alloc wj _ g (own_lt HK4.out g hv).2)
                  refine ⟨j + 1, s, _, _, _, _, by go_num, by omega, heap_setCell_same w8 b8 5 _ _ _ X8.out, ?_, ?_, ?_⟩
                  · exact own_keepG hq8 fun g hv => g9.block g (own_lt hq8 g hv).2 (by have := (own_lt hq8 g hv).1; simp; omega)
                  · rw [HST2.out, ints_snoc]
                    exact own_keepG HOW8.out fun g hv => g9.block g (own_lt HOW8.out g hv).2 (by have := (own_lt HOW8.out g hv).1; simp; omega)
                  · exact (((HB4'.out.alloc (by omega) (.cells #[.int .i64 dv] 3)).drew).grown HGR8.out (by simp; omega) fun g hv => by have := (own_lt HD4.out g hv).1; omega).setCell (Nat.le_refl _) _
                case measure => simp [intOf]
    · have hi2 : i < 0 ∨ (0 ≤ i ∧ (n : Int) ≤ i) := by
        by_cases h0 : i < 0
        · exact .inl h0
        · refine .inr ⟨by omega, ?_⟩
          refine Int.not_lt.1 fun h1 => hi (plB_iff.2 ⟨by omega, h1⟩)
      clear hi HDR HKR
      rcases hi2 with h0 | ⟨h0, h1⟩
      · go_wp2_with fail
        go_ret
        exact ⟨rfl, HB4.out⟩
      · have h3 : ¬ i < 0 := by omega
        have h4 : i ≥ (n : Int) := h1
        go_wp2_with fail
        go_ret
        exact ⟨rfl, HB4.out⟩
  · have hne : (e1 != 0) = true := by simp [he]
    clear HDR HKR
    go_wp2_with fail
    go_ret
    exact ⟨rfl, HB4.out⟩
end Go.Proofs.YtfpcjdopfodfnaaGreatDoor
