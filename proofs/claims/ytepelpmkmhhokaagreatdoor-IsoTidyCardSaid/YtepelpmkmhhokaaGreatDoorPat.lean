/- Where a path leads is told by the package as the document tells it. Conditions: the graph and the path lie. -/
import Derived.Test.YtepelpmkmhhokaaGreatDoorWpx
set_option maxRecDepth 100000
namespace Go.Proofs.YtepelpmkmhhokaaGreatDoor
open Go.RowKit Go.Shelf
open Scs Dfs
theorem Il.noK {w : World} {q : Option Addr} {l : Array Int} {n K : Nat} {M : List (Int × Value)} (h : Il w q l) (hn : l.size = n) (hK : HasM w K M) : InO (fun k => k ≠ K) q n := by
  subst hn
  by_cases h0 : l.size = 0
  · exact .inl h0
  · obtain ⟨blk, off, rfl, _, _⟩ := h.at 0 (by omega)
    exact .inr ⟨blk, off, rfl, fun e => h.no_map (by omega) (by rw [e]; exact hK)⟩
theorem Wkr.below {w0 : World} {L : Array Fn} {r m : Nat} {p : Option Addr} {cap K : Nat} (H : Wkr w0 L r m p cap K) {w w' : World} (hb : Below w0.heap.size w0 w) (hg : Grw (fun k => k = K) w w') : Below w0.heap.size w0 w' := by
  have h1 := H.new
  have h2 := hb.size
  exact hb.trans ⟨hg.os, hg.tape, hg.output, hg.size, fun k hk => hg.block k (by omega) (by omega)⟩
set_option maxHeartbeats 8000000 in
theorem follow_in {w0 : World} {L : Array Fn} {r m : Nat} {p : Option Addr} {cap K : Nat} (H : Wkr w0 L r m p cap K) (P : Array Int) (n : Nat) (q : Option Addr) (c : Nat) (w : World) (hn : P.size = n) (hb : Below w0.heap.size w0 w) (hp : Il w q P) (M : List (Int × Value)) (O : Nat → Prop) (hK : Kn L K M O w) (R : Int × Bool) (hR : atR (at_ (KN L) r P.toList) = R) :
    Calls Tryz.prog 37 #[.agg #[.int .i64 r, .slice p m cap, .map (some K)], .slice q n c] w fun e w' => e = .returned (.tuple #[.int .i64 R.1, .bool R.2]) ∧ Grw (fun k => k = K) w w' := by
  obtain ⟨W, hW, hz, hbW, hr0⟩ := at1 w (.cells #[.int .i64 r, .slice p m cap, .map (some K)] 78)
  have hKl : K < w.heap.size := (Array.getElem?_eq_some_iff.1 hK.has).1
  have hsm := hp.small
  rw [hn] at hsm
  obtain ⟨q0, q1, q2⟩ := cell3 hr0
  have hKW : Kn L K M O W := hK.keep hbW.size (hbW.block K hKl) fun k _ hk => hbW.block k hk
  have HH := Lib.hid H
  have HW := Lib.hid hW
  have HZ := Lib.hid hz
  have HBW := Lib.hid hbW
  have HR0 := Lib.hid hr0
  have HKW := Lib.hid hKW
  have HKL := Lib.hid hKl
  have HB := Lib.hid (hb.trans (hbW.mono hb.size))
  have HP := Lib.hid (hp.below hbW)
  have HN := Lib.hid hn
  have HRR := Lib.hid hR
  have HROOT := Lib.hid H.root
  clear hW hz hbW hr0 hKW hKl hb hp hn hR hK H
  go_enter Tryz.func37, Tryz.ntmps37
  go_upto_region 1 with fail
  rw [HW.out]
  go_wp2_with fail
  clear q0 q1 q2
  go_loopw [6, 15] (fun x i wr => ∃ t a : Nat, t ≤ n ∧ i = .int .i64 t ∧ x = .int .i64 a ∧ a < L.size ∧ at_ (KN L) a (P.toList.drop t) = at_ (KN L) r P.toList ∧ Grw (fun k => k = K) W wr ∧ ∃ M O, Kn L K M O wr) (fun _ i _ => n - (intOf i).toNat)
  case atStart => exact ⟨0, r, by omega, rfl, rfl, HROOT.out, rfl, Grw.refl _ _, M, O, HKW.out⟩
  case round =>
    obtain ⟨t, a, ht, rfl, rfl, ha, hat, hgw, M', O', hkn⟩ := hrel
    have hz := HZ.out
    have hkl0 := HKL.out
    have hrr := (hgw.block w.heap.size (by omega) (by omega)).trans HR0.out
    obtain ⟨q0, q1, q2⟩ := cell3 hrr
    have hpw : Il wr q P := HP.out.keepO (HP.out.noK rfl HKW.out.has) hgw.size fun k hk hkl => hgw.block k hkl hk
    have HGW := Lib.hid hgw
    have HAT := Lib.hid hat
    have HA := Lib.hid ha
    have HKN := Lib.hid hkn
    have HPW := Lib.hid hpw
    clear hgw hat ha hrr hkn hpw hz hkl0
    by_cases hlt : t < n
    · have i1 : (t : Int) < (n : Int) := by omega
      have hbw := HH.out.below HB.out HGW.out
      have hkd := kids_any (r : Int) L m p cap K a M' O' wr HH.out.hm (HH.out.env.below hbw) (HH.out.gl.below hbw) HH.out.k12 HA.out HKN.out
      rw [kids_natI HH.out.bad HA.out, natI_len] at hkd
      have hkl := KN_lt HH.out.bad a HA.out
      have hst := at_step (KN L) a P t (by rw [HN.out]; exact hlt)
      rw [HAT.out] at hst
      obtain ⟨ks, hK⟩ : ∃ K, KN L a = K := ⟨_, rfl⟩
      rw [hK] at hkd hkl hst
      obtain ⟨nk, hnk⟩ : ∃ n, ks.length = n := ⟨_, rfl⟩
      rw [hnk] at hkd hst
      obtain ⟨b1, o1, rfl, hb1, x1⟩ := HPW.out.at t (by rw [HN.out]; exact hlt)
      obtain ⟨z, hz⟩ : ∃ z, P[t]! = z := ⟨_, rfl⟩
      rw [hz] at x1 hst
      have HKDD := Lib.hid hkd
      have HKLL := Lib.hid hkl
      have HST := Lib.hid hst
      have HNK := Lib.hid hnk
      clear hkd hkl hst hK hnk hz hbw
      go_wp2_with fail
      refine HKDD.out.mono ?_
      rintro e w6 ⟨pk, ck, M6, rfl, hil, _, hkn6, hg6⟩
      have HIL := Lib.hid hil
      have HKN6 := Lib.hid hkn6
      have HG6 := Lib.hid (HGW.out.trans hg6)
      have HBX := Lib.hid ((Grw.of_below (O := fun k => k = K) HBW.out).trans HG6.out)
      clear hil hkn6 hg6 q0 q1 q2 x1
      by_cases h0 : z < 0
      · have HRX := Lib.hid (show R = (0, false) by rw [← HRR.out, HST.out, if_neg (by omega)]; rfl)
        go_wp2_with fail
        go_ret2
        exact ⟨by rw [HRX.out]; rfl, HBX.out⟩
      · by_cases h1 : z < (nk : Int)
        · have g1 : ¬ (z ≥ (nk : Int)) := by omega
          obtain ⟨y, rfl⟩ : ∃ y : Nat, z = y := ⟨z.toNat, by omega⟩
          have hyk : y < ks.length := by rw [HNK.out]; omega
          obtain ⟨b2, o2, rfl, hb2, hc2⟩ := HIL.out.at y (by rw [List.size_toArray, natI_len]; exact hyk)
          rw [natI_get ks y hyk] at hc2
          have hst := HST.out
          rw [if_pos ⟨by omega, h1⟩, Int.toNat_natCast] at hst
          have hlt2 : ks[y]! < L.size := HKLL.out _ (by rw [getElem!_pos ks y hyk]; exact List.getElem_mem hyk)
          obtain ⟨a2, ha2⟩ : ∃ a2, ks[y]! = a2 := ⟨_, rfl⟩
          rw [ha2] at hc2 hst hlt2
          have HST2 := Lib.hid hst
          have HL2 := Lib.hid hlt2
          have g0 : decide ((y : Int) < 0) = false := decide_eq_false (by omega)
          clear hst hlt2 ha2 hyk h0
          go_wp2_with fail
          go_roundw
          case rel => exact ⟨t + 1, a2, by omega, by go_num, rfl, HL2.out, HST2.out.symm, HG6.out, M6, _, HKN6.out⟩
          case measure => simp [intOf]; omega
        · have g1 : z ≥ (nk : Int) := by omega
          have HRX := Lib.hid (show R = (0, false) by rw [← HRR.out, HST.out, if_neg (by omega)]; rfl)
          have g0 : decide (z < 0) = false := decide_eq_false h0
          go_wp2_with fail
          go_ret2
          exact ⟨by rw [HRX.out]; rfl, HBX.out⟩
    · have i1 : ¬ (t : Int) < (n : Int) := by omega
      have htn : t = n := by omega
      have hd : P.toList.drop t = [] := by rw [List.drop_eq_nil_iff, Array.length_toList, HN.out]; omega
      have hat := HAT.out
      rw [hd] at hat
      have HRX := Lib.hid (show R = ((a : Int), true) by rw [← HRR.out, ← hat]; rfl)
      have HBX := Lib.hid ((Grw.of_below (O := fun k => k = K) HBW.out).trans HGW.out)
      clear hat hd htn q0 q1 q2
      go_wp2_with fail
      go_ret2
      exact ⟨by rw [HRX.out]; rfl, HBX.out⟩
set_option maxHeartbeats 8000000 in
theorem At17_in (root : Int) (L : Array Fn) (m : Nat) (p : Option Addr) (cap : Nat) (P : Array Int) (n : Nat) (q : Option Addr) (c : Nat) (w : World) (hm : L.size = m) (hn : P.size = n) (E : Env w) (hg : Gl w p L) (h12 : ∀ t, t < L.size → L[t]!.keys.size ≤ 12) (hp : Il w q P) :
    Calls Tryz.prog 20 #[.agg #[.int .i64 root, .slice p m cap], .slice q n c] w fun e w' => e = .returned (.tuple #[.int .i64 (atG root L P.toList).1, .bool (atG root L P.toList).2]) ∧ Below w.heap.size w w' := by
  obtain ⟨W, hW, hz, hb, hr0⟩ := at1 w (.cells #[.int .i64 root, .slice p m cap] 24)
  have q0 := cell_of_row _ _ 0 _ _ _ hr0
  have q1 := cell_of_row _ _ 1 _ _ _ hr0
  have HW := Lib.hid hW
  have HZ := Lib.hid hz
  have HB := Lib.hid hb
  have HP := Lib.hid hp
  by_cases he : (checkG root L.toList).2 = 0
  · have hwg : atG root L P.toList = atR (at_ (KN L) root.toNat P.toList) := by unfold atG; rw [if_pos he]
    have hC := walkerOf_ok root L m p cap W hm (E.below hb) (hg.below hb) he
    have hrr : root = (root.toNat : Int) := (check_right he).2.1
    have hwk := fun K (hK : w.heap.size ≤ K) => wkr_of (cap := cap) hm E hg h12 he hK
    rw [hwg]
    obtain ⟨r, hr⟩ : ∃ r : Nat, root.toNat = r := ⟨_, rfl⟩
    rw [hr] at hrr hwk ⊢
    subst hrr
    obtain ⟨R, hR⟩ : ∃ R, atR (at_ (KN L) r P.toList) = R := ⟨_, rfl⟩
    have hFL := fun K hK w1 hb hp M O hk => follow_in (hwk K hK) P n q c w1 hn hb hp M O hk R hR
    rw [hR]
    have HC := Lib.hid hC
    have HFL := Lib.hid hFL
    clear hC hW hb hr0 hg E he hm hz hwg hwk hFL hR h12 hn hr hp
    go_enter Tryz.func20, Tryz.ntmps20
    go_upto_region 1 with fail
    rw [HW.out]
    go_wp2_with fail
    refine HC.out.mono ?_
    rintro e w5 ⟨K, rfl, hK, hkm, hb5⟩
    have hz := HZ.out
    have hz5 := hb5.size
    have hKl := (Array.getElem?_eq_some_iff.1 hkm).1
    obtain ⟨w6, hw6, hz6, hb6, hr6⟩ := at1 w5 (.cells #[.int .i64 r, .slice p m cap, .map (some K)] 78)
    have s0 := cell_of_row _ _ 0 _ _ _ hr6
    have s1 := cell_of_row _ _ 1 _ _ _ hr6
    have s2 := cell_of_row _ _ 2 _ _ _ hr6
    have hbw5 : Below w.heap.size w w5 := HB.out.trans (hb5.mono (by omega))
    have hkm6 : HasM w6 K [] := hkm.keep (hb6.block K hKl)
    have hbw6 : Below w.heap.size w w6 := hbw5.trans (hb6.mono (by omega))
    have HCW := Lib.hid (HFL.out K (by omega) w6 hbw6 (HP.out.below hbw6) [] (fun _ => False) ⟨hkm6, fun x v e => by simp [findI] at e⟩)
    have HW6 := Lib.hid hw6
    have HB6 := Lib.hid hbw6
    have HKW := Lib.hid (show w.heap.size ≤ K by omega)
    clear hb5 hz5 hkm hK hb6 hr6 hw6 hbw5 q0 q1 hz hz6 hKl hkm6 hbw6
    go_upto_region 2 with fail
    rw [HW6.out]
    go_wp2_with fail
    refine HCW.out.mono ?_
    rintro e w8 ⟨rfl, hg8⟩
    have hb8 := HB6.out.trans (hg8.below HB6.out.size fun k hk => by rw [hk]; exact HKW.out)
    have HB8 := Lib.hid hb8
    clear hg8 hb8
    go_wp2_with fail
    go_ret2
    exact ⟨rfl, HB8.out⟩
  · have hwg : atG root L P.toList = (0, false) := by unfold atG; rw [if_neg he]
    rw [hwg]
    obtain ⟨e0, he0⟩ : ∃ e, (checkG root L.toList).2 = e := ⟨_, rfl⟩
    have hC := walkerOf_bad root L m p cap W hm (E.below hb) (hg.below hb) e0 he0 (by rw [← he0]; exact he)
    rw [he0] at he
    have hne : (e0 != 0) = true := by simp [he]
    have HC := Lib.hid hC
    clear hC hW hb hr0 hg E hm hz hwg he0 he h12 hp
    simp only
    go_enter Tryz.func20, Tryz.ntmps20
    go_upto_region 1 with fail
    rw [HW.out]
    go_wp2_with fail
    refine HC.out.mono ?_
    rintro e w5 ⟨rfl, hb5⟩
    have hz := HZ.out
    have HB5 := Lib.hid (HB.out.trans (hb5.mono (by omega)))
    clear hb5 q0 q1 hz
    go_wp2_with fail
    go_ret2
    exact ⟨rfl, HB5.out.alloc HB5.out.size _⟩
theorem At17_any (root : Int) (L : Array Fn) (p : Option Addr) (cap : Nat) (P : Array Int) (q : Option Addr) (c : Nat) (w : World) (E : Env w) (hg : Gl w p L) (h12 : ∀ t, t < L.size → L[t]!.keys.size ≤ 12) (hp : Il w q P) :
    Calls Tryz.prog 20 #[.agg #[.int .i64 root, .slice p L.size cap], .slice q P.size c] w fun e w' => e = .returned (.tuple #[.int .i64 (atG root L P.toList).1, .bool (atG root L P.toList).2]) ∧ Below w.heap.size w w' :=
  At17_in root L L.size p cap P P.size q c w rfl rfl E hg h12 hp
end Go.Proofs.YtepelpmkmhhokaaGreatDoor
