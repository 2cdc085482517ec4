/- The reference finds a key. Conditions: the graph lies. -/
import Derived.Test.YtfpcjdopfodfnaaGreatDoorLmx
set_option maxRecDepth 100000
namespace Go.Proofs.YtfpcjdopfodfnaaGreatDoor
open Go.RowKit Go.Shelf
open Scs
theorem find_no {L : Array Fn} {i : Int} {x : Sc} (h : plB i L.size = false) : findG L i x = (0, false) := by unfold findG; rw [h]; rfl
theorem find_not {L : Array Fn} {t : Nat} {x : Sc} (hk : L[t]!.k ≠ 2) : findG L t x = (0, false) := by
  unfold findG
  rw [Int.toNat_natCast]
  have : underG L[t]! x = none := by unfold underG; rw [pairsN_no hk]; rfl
  rw [this]
  split <;> rfl
theorem find_yes {L : Array Fn} {t : Nat} {x : Sc} (h : t < L.size) : findG L t x = underR (underFrom L[t]! x (pairsN L[t]!) 0) := by
  unfold findG
  rw [Int.toNat_natCast, plB_iff.2 ⟨by omega, by omega⟩, if_pos rfl]
  rfl
set_option maxHeartbeats 8000000 in
theorem Find19_in (root : Int) (L : Array Fn) (m : Nat) (p : Option Addr) (cap : Nat) (i : Int) (x : Sc) (r : Int × Bool) (w : World) (hm : L.size = m) (hg : Gl w p L) (hr : findG L i x = r) :
    Calls Tryz.prog 19 #[.agg #[.int .i64 root, .slice p m cap], .int .i64 i, .agg #[.int .i64 x.1, .int .i64 x.2.1, .string x.2.2]] w fun e w' => e = .returned (.tuple #[.int .i64 r.1, .bool r.2]) ∧ Below w.heap.size w w' := by
  obtain ⟨W, hW, hz, hb0, hr0, hr1⟩ := at2 w (.cells #[.int .i64 root, .slice p m cap] 24) (.cells #[.int .i64 x.1, .int .i64 x.2.1, .string x.2.2] 26)
  have hsm := hg.small
  rw [hm] at hsm
  have q0 := cell_of_row _ _ 0 _ _ _ hr0
  have q1 := cell_of_row _ _ 1 _ _ _ hr0
  have HG := Lib.hid (hg.below hb0)
  have HM := Lib.hid hm
  have HW := Lib.hid hW
  have HZ := Lib.hid hz
  have HR0 := Lib.hid hr0
  have HR1 := Lib.hid hr1
  have HB0 := Lib.hid hb0
  clear hW hr0 hr1 hb0 hz
  by_cases h0 : i < 0
  · have hp : plB i L.size = false := by
      cases hq : plB i L.size
      · rfl
      · have := plB_iff.1 hq; omega
    rw [find_no hp] at hr
    subst hr
    clear hp hg hm
    go_enter Tryz.func19, Tryz.ntmps19
    go_wp2_with fail
    rw [HW.out]
    go_wp2_with fail
    go_ret2
    exact ⟨rfl, HB0.out⟩
  · by_cases h1 : i < (m : Int)
    · obtain ⟨t, rfl⟩ : ∃ t : Nat, i = t := ⟨i.toNat, by omega⟩
      have hlt : t < L.size := by omega
      obtain ⟨g, o, rfl, hgl, hc0, hc1, hc2, hc3, hc4, hc5⟩ := HG.out.at t hlt
      have hNl := HG.out.nodes t hlt
      have hyes := find_yes (x := x) hlt
      have hnot := find_not (L := L) (t := t) (x := x)
      rw [hr] at hyes hnot
      obtain ⟨f, hf⟩ : ∃ f, L[t]! = f := ⟨_, rfl⟩
      rw [hf] at hNl hc0 hc1 hc2 hc3 hc4 hc5 hyes hnot
      have g1 : ¬ ((t : Int) ≥ (m : Int)) := by omega
      have g0 : decide ((t : Int) < 0) = false := decide_eq_false (by omega)
      clear hg hm hr hf h0 hlt
      by_cases hk : f.k = 2
      · have hkk : (f.k != 2) = false := by simp [hk]
        have hst := fun s => under_step f x s
        have hpn : pairsN f = min f.keys.size f.kids.size := by unfold pairsN; rw [if_pos hk]
        have hks := hNl.ks
        have hds := hNl.ds
        have hsk := hks.small
        have hsd := hds.small
        obtain ⟨N, hN⟩ : ∃ N, pairsN f = N := ⟨_, rfl⟩
        rw [hN] at hyes hst hpn
        have HY := Lib.hid hyes
        have HST := Lib.hid hst
        have HPN := Lib.hid hpn
        have HKS := Lib.hid hks
        have HDS := Lib.hid hds
        have HC0 := Lib.hid hc0
        obtain ⟨V, hV⟩ : ∃ V, (W.alloc (.cells #[.int .i64 f.k, .int .i64 f.x.1, .int .i64 f.x.2.1, .string f.x.2.2, .slice f.pk f.keys.size f.ck, .slice f.pd f.kids.size f.cd] 47)) = V := ⟨_, rfl⟩
        have hv0 : V.heap[W.heap.size]? = some (.cells #[.int .i64 f.k, .int .i64 f.x.1, .int .i64 f.x.2.1, .string f.x.2.2, .slice f.pk f.keys.size f.ck, .slice f.pd f.kids.size f.cd] 47 (0, 0)) := by rw [← hV]; exact heap_alloc_new W _
        have hbv : Below W.heap.size W V := by rw [← hV]; exact (Below.refl _ W).alloc (Nat.le_refl _) _
        have HV := Lib.hid hV
        have HV0 := Lib.hid hv0
        have HBV := Lib.hid hbv
        have HV1 := Lib.hid ((hbv.block _ (Array.getElem?_eq_some_iff.1 HR1.out).1).trans HR1.out)
        clear hyes hst hpn hks hds hnot hNl hN hk hV hv0 hbv
        go_enter Tryz.func19, Tryz.ntmps19
        go_upto_region 1 with fail
        rw [HW.out]
        go_wp2_with fail
        rw [HV.out]
        clear hc0 hc1 hc2 hc3 hc4 hc5 q0 q1 hkk g1 g0
        go_loopw [9] (fun i wr => ∃ s : Nat, s ≤ N ∧ i = .int .i64 s ∧ underFrom f x (N - s) s = underFrom f x N 0 ∧ Below V.heap.size V wr) (fun i _ => N - (intOf i).toNat)
        case atStart => exact ⟨0, by omega, rfl, rfl, Below.refl _ _⟩
        case round =>
          obtain ⟨s, hs, rfl, hun, hbw⟩ := hrel
          have hvr := (hbw.block _ (Array.getElem?_eq_some_iff.1 HV0.out).1).trans HV0.out
          have hxr := (hbw.block _ (Array.getElem?_eq_some_iff.1 HV1.out).1).trans HV1.out
          have q4 := cell_of_row _ _ 4 _ _ _ hvr
          have q5 := cell_of_row _ _ 5 _ _ _ hvr
          have y0 := cell_of_row _ _ 0 _ _ _ hxr
          have y1 := cell_of_row _ _ 1 _ _ _ hxr
          have y2 := cell_of_row _ _ 2 _ _ _ hxr
          have HUN := Lib.hid hun
          have HBW := Lib.hid hbw
          have HVW := Lib.hid (HBV.out.trans (hbw.mono HBV.out.size))
          have HBX := Lib.hid (HB0.out.trans (HVW.out.mono HB0.out.size))
          clear hvr hxr hun hbw
          by_cases hsn : s < N
          · have hlk : s < f.keys.size := by have := HPN.out; omega
            have hld : s < f.kids.size := by have := HPN.out; omega
            have hlki : (s : Int) < (f.keys.size : Int) := by omega
            have hldi : (s : Int) < (f.kids.size : Int) := by omega
            obtain ⟨blk, off, hpk, hbl, c0, c1, c2⟩ := HKS.out.at s hlk
            obtain ⟨bld, ofd, hpd, hbd, d0⟩ := HDS.out.at s hld
            rw [hpk] at q4
            rw [hpd] at q5
            have hst := HST.out s hsn
            rw [HUN.out] at hst
            have x0 := (HVW.out.cell (p := ⟨blk, off + s * 3, none⟩) hbl).trans c0
            have x1 := (HVW.out.cell (p := ⟨blk, off + s * 3 + 1, none⟩) hbl).trans c1
            have x2 := (HVW.out.cell (p := ⟨blk, off + s * 3 + 2, none⟩) hbl).trans c2
            have z0 := (HVW.out.cell (p := ⟨bld, ofd + s, none⟩) hbd).trans d0
            have q := eq_get f.keys[s]! x
            have qg := guard_sc
            obtain ⟨u, hu⟩ : ∃ u, f.keys[s]! = u := ⟨_, rfl⟩
            obtain ⟨z, hzz⟩ : ∃ u, f.kids[s]! = u := ⟨_, rfl⟩
            obtain ⟨nk, hnk⟩ : ∃ u, f.keys.size = u := ⟨_, rfl⟩
            obtain ⟨nd, hnd⟩ : ∃ u, f.kids.size = u := ⟨_, rfl⟩
            rw [hu] at x0 x1 x2 q hst
            rw [hzz] at z0 hst
            rw [hnk] at hlki q4 hsk
            rw [hnd] at hldi q5 hsd
            clear c0 c1 c2 d0 hpk hpd hlk hld hu hzz hnk hnd
            by_cases he : u = x
            · rw [if_pos he] at hst
              have HRX := Lib.hid (show r = (z, true) by rw [HY.out, hst]; rfl)
              rw [decide_eq_true he] at q
              clear hst he
              go_wp2_with fail
              go_region
              all_goals
                go_wp2_with fail
                go_ret2
                exact ⟨by rw [HRX.out]; rfl, HBX.out.drew⟩
            · rw [if_neg he] at hst
              have HST2 := Lib.hid hst
              rw [decide_eq_false he] at q
              clear hst he
              go_wp2_with fail
              go_region
              all_goals
                go_wp2_with fail
                go_roundw
                case rel => exact ⟨s + 1, by omega, by go_num, HST2.out.symm, HBW.out.drew⟩
                case measure => simp [intOf]; omega
          · obtain rfl : s = N := by omega
            have hu0 : underFrom f x s 0 = none := by rw [← HUN.out, Nat.sub_self]; rfl
            have HRX := Lib.hid (show r = (0, false) by rw [HY.out, hu0]; rfl)
            have hmin : s = f.keys.size ∨ (s < f.keys.size ∧ s = f.kids.size) := by have := HPN.out; omega
            obtain ⟨nk, hnk⟩ : ∃ u, f.keys.size = u := ⟨_, rfl⟩
            obtain ⟨nd, hnd⟩ : ∃ u, f.kids.size = u := ⟨_, rfl⟩
            rw [hnk] at q4 hmin
            rw [hnd] at q5 hmin
            clear hu0 hnk hnd
            rcases hmin with h | ⟨h, h2⟩
            · have j1 : ¬ (s : Int) < (nk : Int) := by omega
              have j1n : decide (s < nk) = false := decide_eq_false (by omega)
              have j1d : decide ((s : Int) < (nk : Int)) = false := decide_eq_false (by omega)
              clear h
              go_wp2_with fail
              go_ret2
              exact ⟨by rw [HRX.out]; rfl, HBX.out⟩
            · have j1 : (s : Int) < (nk : Int) := by omega
              have j2 : ¬ (s : Int) < (nd : Int) := by omega
              have j2n : decide (s < nd) = false := decide_eq_false (by omega)
              have j2d : decide ((s : Int) < (nd : Int)) = false := decide_eq_false (by omega)
              clear h h2
              go_wp2_with fail
              go_ret2
              exact ⟨by rw [HRX.out]; rfl, HBX.out⟩
      · have hkk : (f.k != 2) = true := by simp [hk]
        have HRX := Lib.hid (hnot hk)
        clear hnot hyes hk hNl
        go_enter Tryz.func19, Tryz.ntmps19
        go_upto_region 1 with fail
        rw [HW.out]
        go_wp2_with fail
        go_ret2
        exact ⟨by rw [HRX.out]; rfl, HB0.out⟩
    · have hp : plB i L.size = false := by
        cases hq : plB i L.size
        · rfl
        · have := plB_iff.1 hq; omega
      rw [find_no hp] at hr
      subst hr
      have g1 : (i ≥ (m : Int)) := by omega
      clear hp hg hm h1
      go_enter Tryz.func19, Tryz.ntmps19
      go_wp2_with fail
      rw [HW.out]
      go_wp2_with fail
      go_ret2
      exact ⟨rfl, HB0.out⟩
theorem Find19_any (root : Int) (L : Array Fn) (p : Option Addr) (cap : Nat) (i : Int) (x : Sc) (w : World) (hg : Gl w p L) :
    Calls Tryz.prog 19 #[.agg #[.int .i64 root, .slice p L.size cap], .int .i64 i, .agg #[.int .i64 x.1, .int .i64 x.2.1, .string x.2.2]] w fun e w' => e = .returned (.tuple #[.int .i64 (findG L i x).1, .bool (findG L i x).2]) ∧ Below w.heap.size w w' :=
  Find19_in root L L.size p cap i x _ w rfl hg rfl
end Go.Proofs.YtfpcjdopfodfnaaGreatDoor
