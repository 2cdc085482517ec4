/- The statements' own comparisons of rows of numbers, of scalars tell whether they are the same. Conditions: the rows lie. -/
import Derived.Test.YtfpcjdopfodfnaaGreatDoorAeq
set_option maxRecDepth 100000
namespace Go.Proofs.YtfpcjdopfodfnaaGreatDoor
open Go.RowKit Go.Shelf
open Scs
set_option maxHeartbeats 4000000 in
theorem ints_any (a b : Array Int) (p q : Option Addr) (c d : Nat) (w : World) (ha : Il w p a) (hb : Il w q b) :
    Calls Tryz.prog 22 #[.slice p a.size c, .slice q b.size d] w fun e w' => e = .returned (.bool (decide (a = b))) ∧ Below w.heap.size w w' := by
  by_cases hs : a.size = b.size
  · have hsm := ha.small
    have HA := Lib.hid ha
    have HB := Lib.hid hb
    have HS := Lib.hid hs
    rw [← hs]
    obtain ⟨m, hm⟩ : ∃ m, a.size = m := ⟨_, rfl⟩
    have HM := Lib.hid hm
    rw [hm] at hsm ⊢
    have hnn : ((m : Int) != (m : Int)) = false := by simp
    obtain ⟨R, hR⟩ : ∃ R, decide (a = b) = R := ⟨_, rfl⟩
    have HR := Lib.hid hR
    rw [hR]
    clear ha hb hs hm hR
    go_enter Tryz.func22, Tryz.ntmps22
    go_wp2_with fail
    go_loopw [5] (fun i wr => ∃ t : Nat, t ≤ m ∧ i = .int .i64 t ∧ (∀ j, j < t → a[j]! = b[j]!) ∧ Below w.heap.size w wr) (fun i _ => m - (intOf i).toNat)
    case atStart => exact ⟨0, by omega, rfl, fun j hj => absurd hj (Nat.not_lt_zero _), Below.refl _ _⟩
    case round =>
      obtain ⟨t, ht, rfl, hag, hbw⟩ := hrel
      have HAG := Lib.hid hag
      have HBW := Lib.hid hbw
      clear hag hbw hnn
      by_cases hlt : t < m
      · have i1 : (t : Int) < (m : Int) := by omega
        obtain ⟨b1, o1, rfl, hb1, hc1⟩ := HA.out.at t (by rw [HM.out]; exact hlt)
        obtain ⟨b2, o2, rfl, hb2, hc2⟩ := HB.out.at t (by rw [← HS.out, HM.out]; exact hlt)
        have x1 := (HBW.out.cell (p := ⟨b1, o1 + t, none⟩) hb1).trans hc1
        have x2 := (HBW.out.cell (p := ⟨b2, o2 + t, none⟩) hb2).trans hc2
        obtain ⟨u, hu⟩ : ∃ u, a[t]! = u := ⟨_, rfl⟩
        obtain ⟨v, hv⟩ : ∃ u, b[t]! = u := ⟨_, rfl⟩
        rw [hu] at x1
        rw [hv] at x2
        have HU := Lib.hid hu
        have HV := Lib.hid hv
        clear hc1 hc2 hu hv
        by_cases he : u = v
        · have hne : (u != v) = false := by simp [he]
          have HE := Lib.hid he
          clear he
          go_wp2_with fail
          go_quiet (fail)
          go_wp2_with fail
          go_roundw
          case rel =>
            refine ⟨t + 1, by omega, by go_num, fun j hj => ?_, below_drewN HBW.out _⟩
            rcases Nat.lt_or_ge j t with h | h
            · exact HAG.out j h
            · obtain rfl : j = t := by omega
              rw [HU.out, HV.out, HE.out]
          case measure => simp [intOf]; omega
        · have hne : (u != v) = true := by simp [he]
          have hRf : R = false := by
            rw [← HR.out]
            exact decide_eq_false fun e => he (by rw [← HU.out, ← HV.out, e])
          have HRF := Lib.hid hRf
          clear he hRf
          go_wp2_with fail
          go_quiet (fail)
          go_wp2_with fail
          go_ret
          exact ⟨by rw [HRF.out]; rfl, below_drewN HBW.out _⟩
      · have i1 : ¬ (t : Int) < (m : Int) := by omega
        have hRt : R = true := by
          rw [← HR.out]
          exact decide_eq_true (arr_ext HS.out fun j hj => HAG.out j (by have := HM.out; omega))
        have HRT := Lib.hid hRt
        clear hRt
        go_wp2_with fail
        go_ret
        exact ⟨by rw [HRT.out]; rfl, HBW.out⟩
  · have hne : ((a.size : Int) != (b.size : Int)) = true := by simp; omega
    have hd : decide (a = b) = false := decide_eq_false fun e => hs (by rw [e])
    rw [hd]
    clear ha hb hd
    go_enter Tryz.func22, Tryz.ntmps22
    go_wp2_with fail
    go_ret
    exact ⟨rfl, Below.refl _ _⟩
set_option maxHeartbeats 4000000 in
theorem sameS_any (a b : Array Sc) (p q : Option Addr) (c d : Nat) (w : World) (ha : Sl w p a) (hb : Sl w q b) :
    Calls Tryz.prog 23 #[.slice p a.size c, .slice q b.size d] w fun e w' => e = .returned (.bool (decide (a = b))) ∧ Below w.heap.size w w' := by
  by_cases hs : a.size = b.size
  · have hsm := ha.small
    have HA := Lib.hid ha
    have HB := Lib.hid hb
    have HS := Lib.hid hs
    rw [← hs]
    obtain ⟨m, hm⟩ : ∃ m, a.size = m := ⟨_, rfl⟩
    have HM := Lib.hid hm
    rw [hm] at hsm ⊢
    have hnn : ((m : Int) != (m : Int)) = false := by simp
    obtain ⟨R, hR⟩ : ∃ R, decide (a = b) = R := ⟨_, rfl⟩
    have HR := Lib.hid hR
    rw [hR]
    clear ha hb hs hm hR
    go_enter Tryz.func23, Tryz.ntmps23
    go_wp2_with fail
    go_loopw [5] (fun i wr => ∃ t : Nat, t ≤ m ∧ i = .int .i64 t ∧ (∀ j, j < t → a[j]! = b[j]!) ∧ Below w.heap.size w wr) (fun i _ => m - (intOf i).toNat)
    case atStart => exact ⟨0, by omega, rfl, fun j hj => absurd hj (Nat.not_lt_zero _), Below.refl _ _⟩
    case round =>
      obtain ⟨t, ht, rfl, hag, hbw⟩ := hrel
      have HAG := Lib.hid hag
      have HBW := Lib.hid hbw
      clear hag hbw hnn
      by_cases hlt : t < m
      · have i1 : (t : Int) < (m : Int) := by omega
        obtain ⟨b1, o1, rfl, hb1, hc0, hc1, hc2⟩ := HA.out.at t (by rw [HM.out]; exact hlt)
        obtain ⟨b2, o2, rfl, hb2, hd0, hd1, hd2⟩ := HB.out.at t (by rw [← HS.out, HM.out]; exact hlt)
        have x0 := (HBW.out.cell (p := ⟨b1, o1 + t * 3, none⟩) hb1).trans hc0
        have x1 := (HBW.out.cell (p := ⟨b1, o1 + t * 3 + 1, none⟩) hb1).trans hc1
        have x2 := (HBW.out.cell (p := ⟨b1, o1 + t * 3 + 2, none⟩) hb1).trans hc2
        have y0 := (HBW.out.cell (p := ⟨b2, o2 + t * 3, none⟩) hb2).trans hd0
        have y1 := (HBW.out.cell (p := ⟨b2, o2 + t * 3 + 1, none⟩) hb2).trans hd1
        have y2 := (HBW.out.cell (p := ⟨b2, o2 + t * 3 + 2, none⟩) hb2).trans hd2
        obtain ⟨⟨u0, u1, u2⟩, hu⟩ : ∃ u, a[t]! = u := ⟨_, rfl⟩
        obtain ⟨⟨v0, v1, v2⟩, hv⟩ : ∃ u, b[t]! = u := ⟨_, rfl⟩
        rw [hu] at x0 x1 x2
        rw [hv] at y0 y1 y2
        have hq := fun w => neq_sc u0 u1 u2 v0 v1 v2 w
        have qg := guard_sc
        have HU := Lib.hid hu
        have HV := Lib.hid hv
        clear hc0 hc1 hc2 hd0 hd1 hd2 hu hv
        by_cases he : ((u0, u1, u2) : Sc) = (v0, v1, v2)
        · rw [decide_eq_true he] at hq
          have HE := Lib.hid he
          clear he
          go_wp2_with fail
          go_region
          go_wp2_with fail
          go_roundw
          case rel =>
            refine ⟨t + 1, by omega, by go_num, fun j hj => ?_, HBW.out.drew⟩
            rcases Nat.lt_or_ge j t with h | h
            · exact HAG.out j h
            · obtain rfl : j = t := by omega
              rw [HU.out, HV.out, HE.out]
          case measure => simp [intOf]; omega
        · rw [decide_eq_false he] at hq
          have hRf : R = false := by
            rw [← HR.out]
            exact decide_eq_false fun e => he (by rw [← HU.out, ← HV.out, e])
          have HRF := Lib.hid hRf
          clear he hRf
          go_wp2_with fail
          go_region
          go_wp2_with fail
          go_ret
          exact ⟨by rw [HRF.out]; rfl, HBW.out.drew⟩
      · have i1 : ¬ (t : Int) < (m : Int) := by omega
        have hRt : R = true := by
          rw [← HR.out]
          exact decide_eq_true (arr_ext HS.out fun j hj => HAG.out j (by have := HM.out; omega))
        have HRT := Lib.hid hRt
        clear hRt
        go_wp2_with fail
        go_ret
        exact ⟨by rw [HRT.out]; rfl, HBW.out⟩
  · have hne : ((a.size : Int) != (b.size : Int)) = true := by simp; omega
    have hd : decide (a = b) = false := decide_eq_false fun e => hs (by rw [e])
    rw [hd]
    clear ha hb hd
    go_enter Tryz.func23, Tryz.ntmps23
    go_wp2_with fail
    go_ret
    exact ⟨rfl, Below.refl _ _⟩
end Go.Proofs.YtfpcjdopfodfnaaGreatDoor
