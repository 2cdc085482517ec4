/- A right graph without its last node is right, unless that is its root, or a kid: the walk of the law. Conditions: the contracts of what is called. -/
import Derived.Test.YtfpcjdopfodfnaaGreatDoorLml
import Derived.Deep.RegionHeld3
set_option maxRecDepth 100000
namespace Go.Proofs.YtfpcjdopfodfnaaGreatDoor
open Go.RowKit Go.Shelf
open Scs
abbrev S15 (B : Nat) (root : Int) (q : Option Addr) (n c : Nat) (wo W : World) : Prop :=
  W.cell? ⟨B, 0, none⟩ = some (.int .i64 root) ∧ W.cell? ⟨B, 1, none⟩ = some (.slice q n c) ∧ Below wo.heap.size wo W
theorem s15_step {B : Nat} {root : Int} {q : Option Addr} {n c : Nat} {wo W W' : World} (h : S15 B root q n c wo W) (hb : Below W.heap.size W W') : S15 B root q n c wo W' := by
  obtain ⟨h0, h1, hbb⟩ := h
  exact ⟨(hb.cell (block_lt_of_cell h0)).trans h0, (hb.cell (block_lt_of_cell h1)).trans h1, hbb.trans (hb.mono hbb.size)⟩
theorem s15_drew {B : Nat} {root : Int} {q : Option Addr} {n c : Nat} {wo W : World} (h : S15 B root q n c wo W) : S15 B root q n c wo W.drew := s15_step h (Below.refl _ W).drew
set_option maxHeartbeats 8000000 in
theorem walkArenaLess (root : Int) (L : Array Fn) (p : Option Addr) (cap : Nat) (w : World) (E : Env w) (hL : GlR w p L) :
    Calls Tryz.prog 5 #[.agg #[.int .i64 root, .slice p L.size cap]] w fun e w' => e = .returned (.bool true) ∧ Below w.heap.size w w' := by
  have HEE := Lib.hid E
  obtain ⟨v0, hv0⟩ : ∃ v, (w.alloc (.cells #[.int .i64 root, .slice p L.size cap] 24)) = v := ⟨_, rfl⟩
  have hb0 : Below w.heap.size w v0 := by rw [← hv0]; exact ((Below.refl _ w).alloc (Nat.le_refl _) _)
  have r0 : v0.heap[w.heap.size]? = some (.cells #[.int .i64 root, .slice p L.size cap] 24) := by
    rw [← hv0]
    have h := heap_alloc_new w (.cells #[.int .i64 root, .slice p L.size cap] 24)
    exact h
  have HE0 := Lib.hid (E.below hb0)
  have HL0 := Lib.hid (hL.below hb0)
  have HB0 := Lib.hid hb0
  have R0_0 := Lib.hid r0
  have HV0 := Lib.hid hv0
  clear hv0 hb0 E hL r0
  go_enter Tryz.func5, Tryz.ntmps5
  go_wp2_with fail
  rw [HV0.out]
  refine (shown_any _ HE0.out).mono ?_
  rintro e v1 ⟨rfl, hb⟩
  have R1_0 := Lib.hid ((hb.block _ (Array.getElem?_eq_some_iff.1 R0_0.out).1).trans R0_0.out)
  have HE1 := Lib.hid (HE0.out.below hb)
  have HL1 := Lib.hid (HL0.out.below hb)
  have HB1 := Lib.hid (HB0.out.trans (hb.mono HB0.out.size))
  clear hb
  have c0 := cell_of_row _ _ 0 _ _ _ R1_0.out
  have c1 := cell_of_row _ _ 1 _ _ _ R1_0.out
  go_wp2_with fail
  refine (Cut07_any root L p cap v1 HL1.out).mono ?_
  rintro e v2 ⟨q, n, c, rfl, ⟨L', hn, h201, hgo⟩, hb⟩
  clear c0 c1
  have R2_0 := Lib.hid ((hb.block _ (Array.getElem?_eq_some_iff.1 R1_0.out).1).trans R1_0.out)
  have HE2 := Lib.hid (HE1.out.below hb)
  have HB2 := Lib.hid (HB1.out.trans (hb.mono HB1.out.size))
  have HN := Lib.hid hn
  have HGO2 := Lib.hid hgo
  have hs1 := HB1.out.size
  have HB12 := Lib.hid hb
  clear hb hn hgo
  have c0 := cell_of_row _ _ 0 _ _ _ R2_0.out
  have c1 := cell_of_row _ _ 1 _ _ _ R2_0.out
  have f0 := frozen_of_row _ _ 0 _ _ R2_0.out
  have f1 := frozen_of_row _ _ 1 _ _ R2_0.out
  go_upto_region 3 with fail
  obtain ⟨v3, hv3⟩ : ∃ v, ((v2.setCell ⟨w.heap.size, 0, none⟩ (.int .i64 root)).setCell ⟨w.heap.size, 1, none⟩ (.slice q n c)) = v := ⟨_, rfl⟩
  rw [hv3]
  have r3 := heap_setCell_same _ (w.heap.size) 1 _ _ (.slice q n c) (heap_setCell_same v2 (w.heap.size) 0 _ _ (.int .i64 root) R2_0.out)
  rw [hv3] at r3
  have g3 : v2.grownBy v3 (some (w.heap.size)) := by rw [← hv3]; exact gB_setCell (gB_setCell (gB_refl _ _) _ _) _ _
  have hB1 : w.heap.size < v1.heap.size := (Array.getElem?_eq_some_iff.1 R1_0.out).1
  have HGO3 : Hid (GO v1.heap.size v3 (.slice q n c) L') := Lib.hid (GO.keepB HGO2.out g3 hB1)
  have HGL := Lib.hid (HGO3.out.gl HN.out h201)
  have HK := Lib.hid HGO3.out.k12
  have hDn : L'.toArray.size = n := by rw [List.size_toArray]; exact HN.out
  have HLT := Lib.hid (show L'.toArray.toList = L' by simp)
  obtain ⟨D, hD⟩ : ∃ D, L'.toArray = D := ⟨_, rfl⟩
  rw [hD] at HGL HK hDn HLT
  have hbs : Below w.heap.size v2 v3 := below_of_grown g3 (by omega) HB2.out.size
  have R3_0 := Lib.hid r3
  have HB3 := Lib.hid (HB2.out.trans hbs)
  have HE3 := Lib.hid (HEE.out.below HB3.out)
  have HDN := Lib.hid hDn
  have HD := Lib.hid hD
  have H201 := Lib.hid h201
  clear c0 c1 f0 f1 hv3 r3 g3 hB1 hbs hs1 hDn hD h201
  have c0 := cell_of_row _ _ 0 _ _ _ R3_0.out
  have c1 := cell_of_row _ _ 1 _ _ _ R3_0.out
  have HCK := Lib.hid fun r W E G => Check_any r D q c W E G
  rw [HDN.out] at HCK
  obtain ⟨r1, hr1⟩ : ∃ r, checkG root D.toList = r := ⟨_, rfl⟩
  have hk1 := HCK.out root v3 HE3.out HGL.out
  rw [hr1] at hk1
  have HK1 := Lib.hid hk1
  clear hk1
  go_wp2_with fail
  refine (HK1.out).mono ?_
  rintro e v4 ⟨rfl, hb⟩
  clear c0 c1
  have R4_0 := Lib.hid ((hb.block _ (Array.getElem?_eq_some_iff.1 R3_0.out).1).trans R3_0.out)
  have HE4 := Lib.hid (HE3.out.below hb)
  have HB4 := Lib.hid (HB3.out.trans (hb.mono HB3.out.size))
  have HGL4 := Lib.hid (HGL.out.below hb)
  clear hb
  have c0 := cell_of_row _ _ 0 _ _ _ R4_0.out
  have c1 := cell_of_row _ _ 1 _ _ _ R4_0.out
  have HR1 := Lib.hid hr1
  obtain ⟨a1, e1⟩ := r1
  clear hr1
  by_cases he : e1 = 0
  · subst he
    obtain ⟨h2, h3, h4⟩ := check_ok (r := root) (L := D.toList) (by rw [HR1.out])
    rw [Array.length_toList, HDN.out] at h2 h3 h4
    obtain ⟨m, rfl⟩ : ∃ m, n = m + 1 := ⟨n - 1, by have := plB_iff.1 h4; omega⟩
    have hless := less_check HDN.out h2 h3 h4
    have HSL := Lib.hid ((GO.cap HGO3.out))
    have hGE := HGL4.out.less m (by rw [HDN.out]; omega)
    have hCE := fun W E G => Check_any root (D.extract 0 m) q c W E G
    have hse : (D.extract 0 m).size = m := by simp [HDN.out]
    rw [hse] at hCE
    obtain ⟨r2, hr2⟩ : ∃ r, checkG root (D.extract 0 m).toList = r := ⟨_, rfl⟩
    obtain ⟨a2, e2⟩ := r2
    rw [hr2] at hCE hless
    have HLS := Lib.hid hless
    have HCE := Lib.hid hCE
    have HGE := Lib.hid hGE
    have hm2 : m ≤ 199 := by omega
    have hmi : (m : Int) + 1 - 1 = m := by omega
    clear hless h2 h3 h4 hse hCE hGE hr2
    go_wp2_with fail
    go_loopw [7, 8] (fun u i wr => ∃ t : Nat, t ≤ m ∧ i = .int .i64 t ∧ u = .bool (decide (root = (m : Int)) || (D.toList.take t).any (usedK m)) ∧ Below v4.heap.size v4 wr) (fun _ i _ => m - (intOf i).toNat)
    case atStart => exact ⟨0, by omega, rfl, by rw [List.take_zero, List.any_nil, Bool.or_false]; rfl, Below.refl _ _⟩
    case round =>
      obtain ⟨t, ht, rfl, rfl, hbw⟩ := hrel
      have HBW := Lib.hid hbw
      have hrw := (hbw.block _ (Array.getElem?_eq_some_iff.1 R4_0.out).1).trans R4_0.out
      have HRW := Lib.hid hrw
      have c1 := cell_of_row _ _ 1 _ _ _ hrw
      clear hbw hrw
      by_cases hlt : t < m
      · have i1 : (t : Int) < (m : Int) := by omega
        obtain ⟨f, hf⟩ : ∃ f, D[t]! = f := ⟨_, rfl⟩
        have hst : D.toList.take (t + 1) = D.toList.take t ++ [f] := by
          rw [List.take_add_one, List.getElem?_eq_getElem (by rw [Array.length_toList, HDN.out]; omega)]
          have : t < D.size := by rw [HDN.out]; omega
          rw [← hf, getElem!_pos D t this]
          simp
        have hu1 : (D.toList.take (t + 1)).any (usedK m) = ((D.toList.take t).any (usedK m) || usedK m f) := by rw [hst, List.any_append]; simp
        obtain ⟨U, hU⟩ : ∃ U, (decide (root = (m : Int)) || (D.toList.take t).any (usedK m)) = U := ⟨_, rfl⟩
        have HU1 : Hid ((decide (root = (m : Int)) || (D.toList.take (t + 1)).any (usedK m)) = (U || usedK m f)) := Lib.hid (by rw [hu1, ← Bool.or_assoc, hU])
        rw [hU]
        have hnl := (HGL4.out.nodes t (by rw [HDN.out]; omega))
        obtain ⟨gb, go, rfl, hgb, z0, z1, z2, z3, z4, z5⟩ := HGL4.out.at t (by rw [HDN.out]; omega)
        have y5 := (HBW.out.cell (p := ⟨gb, go + t * 6 + 5, none⟩) hgb).trans z5
        rw [hf] at y5 hnl
        have HNL := Lib.hid (hnl.below HBW.out)
        have HY5 := Lib.hid y5
        have ht1 : (t : Int) < (m : Int) + 1 := by omega
        have hkb : f.kids.size ≤ 1000000 := hnl.ds.small
        clear hst hu1 hU hnl z0 z1 z2 z3 z4 z5 hf
        go_wp2_with fail
        go_loopw [7, 9] (fun u i wk => ∃ j : Nat, j ≤ f.kids.size ∧ i = .int .i64 j ∧ u = .bool (U || (f.kids.toList.take j).any fun z => decide (z = (m : Int))) ∧ Below wr.heap.size wr wk) (fun _ i _ => f.kids.size - (intOf i).toNat)
        case atStart => exact ⟨0, by omega, rfl, by rw [List.take_zero, List.any_nil, Bool.or_false], Below.refl _ _⟩
        case round =>
          obtain ⟨j, hj, rfl, rfl, hbk⟩ := hrel
          have HBK := Lib.hid hbk
          have hrk := (hbk.block _ (Array.getElem?_eq_some_iff.1 HRW.out).1).trans HRW.out
          replace c1 := cell_of_row _ _ 1 _ _ _ hrk
          replace y5 := (hbk.cell (p := ⟨gb, go + t * 6 + 5, none⟩) (Nat.lt_of_lt_of_le hgb HBW.out.size)).trans HY5.out
          clear hbk hrk
          by_cases hjl : j < f.kids.size
          · have i2 : (j : Int) < (f.kids.size : Int) := by omega
            obtain ⟨kb, ko, hpd, hkb2, k0⟩ := HNL.out.ds.at j hjl
            have k1 := (HBK.out.cell (p := ⟨kb, ko + j, none⟩) hkb2).trans k0
            rw [hpd] at y5
            have hst : f.kids.toList.take (j + 1) = f.kids.toList.take j ++ [f.kids[j]!] := by
              rw [List.take_add_one, List.getElem?_eq_getElem (by rw [Array.length_toList]; exact hjl), getElem!_pos f.kids j hjl]
              simp
            have HST : Hid (((f.kids.toList.take (j + 1)).any fun z => decide (z = (m : Int))) = (((f.kids.toList.take j).any fun z => decide (z = (m : Int))) || decide (f.kids[j]! = (m : Int)))) := Lib.hid (by rw [hst, List.any_append]; simp)
            clear hst k0
            generalize ((f.kids.toList.take j).any fun z => decide (z = (m : Int))) = s at HST ⊢
            generalize f.kids[j]! = z at k1 HST
            obtain ⟨V, hV⟩ : ∃ V, (U || s) = V := ⟨_, rfl⟩
            rw [hV]
            have HV := Lib.hid hV
            clear hV
            cases V
            · by_cases hz : z = (m : Int)
              · have hze : (z == (m : Int)) = true := by simp [hz]
                have HZ := Lib.hid hz
                clear hz
                go_wp2_with fail
                go_roundw
                case rel => exact ⟨j + 1, by omega, by go_num, by rw [HST.out, decide_eq_true HZ.out, Bool.or_true, Bool.or_true], HBK.out⟩
                case measure => simp [intOf]; omega
              · have hze : (z == (m : Int)) = false := by simp [hz]
                have HZ := Lib.hid hz
                clear hz
                go_wp2_with fail
                go_roundw
                case rel => exact ⟨j + 1, by omega, by go_num, by rw [HST.out, decide_eq_false HZ.out, Bool.or_false, HV.out], HBK.out⟩
                case measure => simp [intOf]; omega
            · go_wp2_with fail
              go_roundw
              case rel => exact ⟨j + 1, by omega, by go_num, by rw [HST.out, ← Bool.or_assoc, HV.out, Bool.true_or], HBK.out⟩
              case measure => simp [intOf]; omega
          · have i2 : ¬ (j : Int) < (f.kids.size : Int) := by omega
            obtain rfl : j = f.kids.size := by omega
            have hall : f.kids.toList.take f.kids.size = f.kids.toList := by rw [← Array.length_toList, List.take_length]
            rw [hall]
            clear hall
            go_wp2_with fail
            go_roundw
            case rel => exact ⟨t + 1, by omega, by go_num, by rw [HU1.out]; rfl, HBW.out.trans (HBK.out.mono HBW.out.size)⟩
            case measure => simp [intOf]; omega
      · have i1 : ¬ (t : Int) < (m : Int) := by omega
        obtain rfl : t = m := by omega
        obtain ⟨U, hU⟩ : ∃ U, (decide (root = (t : Int)) || (D.toList.take t).any (usedK t)) = U := ⟨_, rfl⟩
        have hl := HLS.out
        rw [hU] at hl ⊢
        have HL := Lib.hid hl
        have c0 := cell_of_row _ _ 0 _ _ _ HRW.out
        have hcap : ¬ (c : Int) < (t : Int) := by have := HSL.out; omega
        have hs0 : S15 w.heap.size root q (t + 1) c v4 wr := ⟨c0, c1, HBW.out⟩
        have HS0 := Lib.hid hs0
        have HC : Hid (∀ W, Hid (S15 w.heap.size root q (t + 1) c v4 W) → Calls Tryz.prog 12 #[.agg #[.int .i64 root, .slice q t c]] W fun e W' => e = .returned (.tuple #[.int .i64 a2, .int .i64 e2]) ∧ Hid (S15 w.heap.size root q (t + 1) c v4 W')) :=
          Lib.hid fun W h => (HCE.out W (HE4.out.below h.out.2.2) (HGE.out.below h.out.2.2)).mono fun e W' hh => ⟨hh.1, Lib.hid (s15_step h.out hh.2)⟩
        clear hl hU hs0
        go_wp2_with fail
        go_region_held3 (S15 w.heap.size root q (t + 1) c v4) (first | exact Hid.out (by assumption) | exact s15_drew (Hid.out (by assumption))) (first
          | ((with_reducible refine (HC.out _ (by first | assumption | exact Lib.hid (s15_drew (Hid.out (by assumption))))).mono ?_); rintro e wq ⟨rfl, hbq⟩))
        have HQ := Lib.hid (HB4.out.trans (hbq.out.2.2.mono HB4.out.size))
        clear hbq
        cases U
        · obtain rfl : e2 = 0 := by simpa using HL.out
          go_wp2_with fail
          go_ret
          exact ⟨rfl, HQ.out⟩
        · have hne : (e2 == 0) = false := by have := HL.out; simpa using this
          go_wp2_with fail
          go_ret
          exact ⟨rfl, HQ.out⟩
  · have hne : (e1 != 0) = true := by simp [he]
    go_wp2_with fail
    go_ret
    exact ⟨rfl, HB4.out⟩
end Go.Proofs.YtfpcjdopfodfnaaGreatDoor
