/- The reference tells whether a text may stand plain, by its bytes. Conditions: the text is not too long. -/
import Derived.Test.YtkliecngkcjieaaGreatDoorRpl
set_option maxRecDepth 100000
namespace Go.Proofs.YtkliecngkcjieaaGreatDoor
open Go.RowKit
open Pl On
namespace On
def headsU : List UInt8 := [44, 91, 93, 123, 125, 35, 38, 42, 33, 124, 62, 39, 34, 37, 64, 96]
def marksU : List UInt8 := [45, 63, 58]
def flowsU : List UInt8 := [44, 91, 93, 123, 125]
/-- may no byte stand at a place, for what stands beside it -/
def badAt (flow : Bool) (l : List UInt8) (k : Nat) : Bool :=
  (l.getD k 0 == 58 && (k + 1 == l.length || l.getD (k + 1) 0 == 32)) || (l.getD k 0 == 35 && (decide (0 < k) && l.getD (k - 1) 0 == 32)) || (flow && amU (l.getD k 0) flowsU)
/-- may a text not begin, or end, so -/
def headBad (l : List UInt8) : Bool :=
  l.getD 0 0 == 32 || (l.getD (l.length - 1) 0 == 32 || (amU (l.getD 0 0) headsU || (amU (l.getD 0 0) marksU && (l.length == 1 || l.getD 1 0 == 32))))
def mayS (flow : Bool) (l : List UInt8) : Bool := if l = [] then false else (plainS l && !headBad l) && (List.range l.length).all fun k => !badAt flow l k
theorem mayS_nil (flow : Bool) : mayS flow [] = false := rfl
theorem mayS_plain {flow : Bool} {l : List UInt8} (h : plainS l = false) : mayS flow l = false := by unfold mayS; rw [h]; split <;> rfl
theorem mayS_head {flow : Bool} {l : List UInt8} (h : headBad l = true) : mayS flow l = false := by unfold mayS; rw [h]; split <;> simp
theorem mayS_bad {flow : Bool} {l : List UInt8} {k : Nat} (hk : k < l.length) (h : badAt flow l k = true) : mayS flow l = false := by
  unfold mayS
  split
  · rfl
  · have : ((List.range l.length).all fun k => !badAt flow l k) = false := by
      rw [List.all_eq_false]
      exact ⟨k, List.mem_range.2 hk, by rw [h]; decide⟩
    rw [this, Bool.and_false]
theorem mayS_yes {flow : Bool} {l : List UInt8} (hne : l ≠ []) (hp : plainS l = true) (hh : headBad l = false) (h : ∀ k, k < l.length → badAt flow l k = false) : mayS flow l = true := by
  unfold mayS
  rw [if_neg hne, hp, hh]
  have : ((List.range l.length).all fun k => !badAt flow l k) = true := by
    rw [List.all_eq_true]
    intro k hk
    rw [h k (List.mem_range.1 hk)]
    rfl
  rw [this]
  rfl
end On
theorem lit32 (c : UInt8) : ((c.toNat : Int) == 32) = (c == 32) := by rw [show (c == 32) = decide (c = 32) from rfl]; exact u8_eq c 32
theorem lit58 (c : UInt8) : ((c.toNat : Int) == 58) = (c == 58) := by rw [show (c == 58) = decide (c = 58) from rfl]; exact u8_eq c 58
theorem lit35 (c : UInt8) : ((c.toNat : Int) == 35) = (c == 35) := by rw [show (c == 35) = decide (c = 35) from rfl]; exact u8_eq c 35
theorem getD_at (s : ByteArray) (k : Nat) (h : k < s.size) : s.data.toList.getD k 0 = s[k] := by
  rw [List.getD_eq_getElem?_getD, List.getElem?_eq_getElem (by rw [len_list]; exact h)]
  rfl
theorem amH (c : UInt8) (w : World) : Calls Tryz.prog 76 #[.int .u8 (c.toNat : Int), .string ⟨#[44, 91, 93, 123, 125, 35, 38, 42, 33, 124, 62, 39, 34, 37, 64, 96]⟩] w fun e w' => e = .returned (.bool (amU c headsU)) ∧ w = w' := among_any c ⟨#[44, 91, 93, 123, 125, 35, 38, 42, 33, 124, 62, 39, 34, 37, 64, 96]⟩ (by decide) w
theorem amM (c : UInt8) (w : World) : Calls Tryz.prog 76 #[.int .u8 (c.toNat : Int), .string ⟨#[45, 63, 58]⟩] w fun e w' => e = .returned (.bool (amU c marksU)) ∧ w = w' := among_any c ⟨#[45, 63, 58]⟩ (by decide) w
theorem amF (c : UInt8) (w : World) : Calls Tryz.prog 76 #[.int .u8 (c.toNat : Int), .string ⟨#[44, 91, 93, 123, 125]⟩] w fun e w' => e = .returned (.bool (amU c flowsU)) ∧ w = w' := among_any c ⟨#[44, 91, 93, 123, 125]⟩ (by decide) w
set_option maxRecDepth 100000 in
set_option maxHeartbeats 8000000 in
theorem May5_any (s : ByteArray) (hs : s.size ≤ 1099511627776) (flow : Bool) (w : World) : Calls Tryz.prog 52 #[.string s, .bool flow] w fun e w' => e = .returned (.bool (mayS flow s.data.toList)) ∧ Below w.heap.size w w' := by
  have hgd := fun k h => getD_at s k h
  have hlen := len_list s
  have hp5 := fun w => plain5_any s hs w
  have hte : s.toList = s.data.toList := ByteArray.toList_eq s
  obtain ⟨l, hl⟩ : ∃ l, s.data.toList = l := ⟨_, rfl⟩
  rw [hl] at hgd hlen hp5 hte ⊢
  clear hl
  have HGD := Lib.hid hgd
  have HLN := Lib.hid hlen
  clear hgd
  by_cases h0 : s.size = 0
  · have hnil : l = [] := List.eq_nil_of_length_eq_zero (by omega)
    subst hnil
    have z1 : s.toList.isEmpty = true := by rw [hte]; rfl
    have z2 : s.toList = [] := hte
    rw [mayS_nil]
    clear hte hp5 hlen h0
    go_enter Tryz.func52, Tryz.ntmps52
    go_wp2_with fail
    go_ret
    exact ⟨rfl, Below.refl _ _⟩
  have hne : l ≠ [] := by intro h; rw [h, List.length_nil] at hlen; omega
  have z1 : s.toList.isEmpty = false := by rw [hte]; simpa using hne
  have z2 : (!s.toList.isEmpty) = true := by rw [z1]; rfl
  have hpos : 0 < s.size := by omega
  have HNE := Lib.hid hne
  clear hte hne
  cases hpl : plainS l
  · rw [mayS_plain hpl]
    rw [hpl] at hp5
    have HP5 := Lib.hid hp5
    clear hp5 hpl hlen
    go_enter Tryz.func52, Tryz.ntmps52
    go_wp2_with fail
    refine (HP5.out _).mono ?_
    rintro e w1 ⟨rfl, hb1⟩
    have HB1 := Lib.hid hb1
    clear hb1
    go_wp2_with fail
    go_ret
    exact ⟨rfl, HB1.out⟩
  rw [hpl] at hp5
  have HP5 := Lib.hid hp5
  have HPL := Lib.hid hpl
  have x5 : s.size - 1 < s.size := by omega
  have g0 := HGD.out 0 hpos
  have gz := HGD.out (s.size - 1) x5
  have x1 : (0 : Int) ≤ (s.size : Int) - 1 := by omega
  have x2 : (s.size : Int) - 1 < (s.size : Int) := by omega
  have x3 : ((s.size : Int) - 1).toNat = s.size - 1 := by omega
  obtain ⟨b0, hb0⟩ : ∃ b, s[0] = b := ⟨_, rfl⟩
  obtain ⟨bz, hbz⟩ : ∃ b, s[s.size - 1]'x5 = b := ⟨_, rfl⟩
  rw [hb0] at g0
  rw [hbz] at gz
  have q0 := lit32 b0
  have qz := lit32 bz
  have G0 := Lib.hid g0
  have GZ := Lib.hid gz
  clear hp5 hpl hlen g0 gz
  cases e0 : (b0 == 32)
  rotate_left
  · rw [e0] at q0
    rw [mayS_head (l := l) (by unfold headBad; rw [HLN.out, G0.out, e0]; simp)]
    go_enter Tryz.func52, Tryz.ntmps52
    go_wp2_with fail
    refine (HP5.out _).mono ?_
    rintro e w1 ⟨rfl, hb1⟩
    have HB1 := Lib.hid hb1
    clear hb1
    go_wp2_with fail
    go_ret
    exact ⟨rfl, HB1.out⟩
  rw [e0] at q0
  cases ez : (bz == 32)
  rotate_left
  · rw [ez] at qz
    rw [mayS_head (l := l) (by unfold headBad; rw [HLN.out, GZ.out, ez]; simp)]
    go_enter Tryz.func52, Tryz.ntmps52
    go_wp2_with fail
    refine (HP5.out _).mono ?_
    rintro e w1 ⟨rfl, hb1⟩
    have HB1 := Lib.hid hb1
    clear hb1
    go_wp2_with fail
    go_ret
    exact ⟨rfl, HB1.out⟩
  rw [ez] at qz
  have hAH := fun w => amH b0 w
  cases eh : amU b0 headsU
  rotate_left
  · rw [eh] at hAH
    have HAH := Lib.hid hAH
    clear hAH
    rw [mayS_head (l := l) (by unfold headBad; rw [HLN.out, G0.out, eh]; simp)]
    go_enter Tryz.func52, Tryz.ntmps52
    go_wp2_with fail
    refine (HP5.out _).mono ?_
    rintro e w1 ⟨rfl, hb1⟩
    have HB1 := Lib.hid hb1
    clear hb1
    go_wp2_with fail
    refine (HAH.out _).mono ?_
    rintro e w' ⟨rfl, rfl⟩
    go_wp2_with fail
    go_ret
    exact ⟨rfl, HB1.out⟩
  rw [eh] at hAH
  have HAH := Lib.hid hAH
  clear hAH
  have hAM := fun w => amM b0 w
  cases em : amU b0 marksU
  · rw [em] at hAM
    have HAM := Lib.hid hAM
    clear hAM
    have hhb : headBad l = false := by unfold headBad; rw [HLN.out, G0.out, GZ.out, e0, ez, eh, em]; simp
    have HHB := Lib.hid hhb
    clear hhb
    cases flow
    · go_enter Tryz.func52, Tryz.ntmps52
      go_wp2_with fail
      refine (HP5.out _).mono ?_
      rintro e w1 ⟨rfl, hb1⟩
      have HB1 := Lib.hid hb1
      clear hb1
      go_wp2_with fail
      refine (HAH.out _).mono ?_
      rintro e w' ⟨rfl, rfl⟩
      go_wp2_with fail
      refine (HAM.out _).mono ?_
      rintro e w' ⟨rfl, rfl⟩
      go_wp2_with fail
      go_loop [5] (fun i => ∃ k : Nat, k ≤ s.size ∧ i = .int .i64 k ∧ ∀ j, j < k → badAt false l j = false) (fun i => s.size - (intOf i).toNat)
      case atStart => exact ⟨0, Nat.zero_le _, rfl, fun j hj => absurd hj (Nat.not_lt_zero _)⟩
      case round =>
        obtain ⟨k, hk, rfl, hbd⟩ := hrel
        have HBD := Lib.hid hbd
        clear hbd q0 qz x1 x2 x3 hb0 hbz x5
        by_cases hlt : k < s.size
        rotate_left
        · have hlti : ¬ (k : Int) < (s.size : Int) := by omega
          have HM := Lib.hid (mayS_yes HNE.out HPL.out HHB.out (fun j hj => HBD.out j (by rw [HLN.out] at hj; omega)))
          go_wp2_with fail
          go_ret
          exact ⟨ret_b HM.out.symm, HB1.out⟩
        have hlti : (k : Int) < (s.size : Int) := by omega
        have gk := HGD.out k hlt
        obtain ⟨c, hc⟩ : ∃ c, s[k] = c := ⟨_, rfl⟩
        rw [hc] at gk
        have q58 := lit58 c
        have q35 := lit35 c
        have GK := Lib.hid gk
        clear gk
        have HAF := Lib.hid (fun w => amF c w)
        cases e58 : (c == 58)
        rotate_left
        · rw [e58] at q58
          have e35 : (c == 35) = false := by rw [beq_iff_eq] at e58; subst e58; rfl
          rw [e35] at q35
          by_cases hlast : k + 1 = s.size
          · have y1 : ((k : Int) == (s.size : Int) - 1) = true := by rw [beq_iff_eq]; omega
            have el : (k + 1 == s.size) = true := by rw [beq_iff_eq]; exact hlast
            have HM := Lib.hid (mayS_bad (flow := false) (l := l) (k := k) (by rw [HLN.out]; exact hlt) (by unfold badAt; rw [HLN.out, GK.out, e58, el]; simp))
            go_wp2_with fail
            go_ret
            exact ⟨ret_b HM.out.symm, HB1.out⟩
          · have y1 : ((k : Int) == (s.size : Int) - 1) = false := beq_eq_false_iff_ne.2 (by omega)
            have el : (k + 1 == s.size) = false := beq_eq_false_iff_ne.2 hlast
            have y2 : k + 1 < s.size := by omega
            have y3 : (k : Int) + 1 < (s.size : Int) := by omega
            have y4 : ((k : Int) + 1).toNat = k + 1 := by omega
            have y5 : (0 : Int) ≤ (k : Int) + 1 := by omega
            have gd := HGD.out (k + 1) y2
            obtain ⟨d, hd⟩ : ∃ d, s[k + 1] = d := ⟨_, rfl⟩
            rw [hd] at gd
            have q32 := lit32 d
            have GD := Lib.hid gd
            clear gd
            cases ed : (d == 32)
            · rw [ed] at q32
              have hok : badAt false l k = false := by unfold badAt; rw [HLN.out, GK.out, GD.out, e58, el, ed, e35]; simp
              have HOK := Lib.hid hok
              clear hok
              go_wp2_with fail
              go_round
              case rel =>
                refine ⟨k + 1, by omega, by go_num, fun j hj => ?_⟩
                rcases Nat.lt_or_ge j k with h | h
                · exact HBD.out j h
                · obtain rfl : j = k := by omega
                  exact HOK.out
              case measure => simp [intOf]; omega
            · rw [ed] at q32
              have HM := Lib.hid (mayS_bad (flow := false) (l := l) (k := k) (by rw [HLN.out]; exact hlt) (by unfold badAt; rw [HLN.out, GK.out, GD.out, e58, el, ed]; simp))
              go_wp2_with fail
              go_ret
              exact ⟨ret_b HM.out.symm, HB1.out⟩
        rw [e58] at q58
        cases e35 : (c == 35)
        · rw [e35] at q35
          have hok : badAt false l k = false := by unfold badAt; rw [HLN.out, GK.out, e58, e35]; simp
          have HOK := Lib.hid hok
          clear hok
          go_wp2_with fail
          go_round
          case rel =>
            refine ⟨k + 1, by omega, by go_num, fun j hj => ?_⟩
            rcases Nat.lt_or_ge j k with h | h
            · exact HBD.out j h
            · obtain rfl : j = k := by omega
              exact HOK.out
          case measure => simp [intOf]; omega
        · rw [e35] at q35
          by_cases hk0 : k = 0
          · have y6 : ¬ (0 : Int) < (k : Int) := by omega
            have Y7 := Lib.hid (show decide (0 < k) = false from decide_eq_false (by omega))
            clear hk0
            have hok : badAt false l k = false := by unfold badAt; rw [HLN.out, GK.out, e58, e35, Y7.out]; simp
            have HOK := Lib.hid hok
            clear hok
            go_wp2_with fail
            go_round
            case rel =>
              refine ⟨k + 1, by omega, by go_num, fun j hj => ?_⟩
              rcases Nat.lt_or_ge j k with h | h
              · exact HBD.out j h
              · obtain rfl : j = k := by omega
                exact HOK.out
            case measure => simp [intOf]; omega
          · have y1 : (0 : Int) < (k : Int) := by omega
            have y2 : k - 1 < s.size := by omega
            have y3 : (k : Int) - 1 < (s.size : Int) := by omega
            have y4 : ((k : Int) - 1).toNat = k - 1 := by omega
            have y5 : (0 : Int) ≤ (k : Int) - 1 := by omega
            have y7 : decide (0 < k) = true := decide_eq_true (by omega)
            have Y7 := Lib.hid y7
            clear y7
            have gp := HGD.out (k - 1) y2
            obtain ⟨p, hp⟩ : ∃ d, s[k - 1] = d := ⟨_, rfl⟩
            rw [hp] at gp
            have q32 := lit32 p
            have GP := Lib.hid gp
            clear gp
            cases ed : (p == 32)
            · rw [ed] at q32
              have hok : badAt false l k = false := by unfold badAt; rw [HLN.out, GK.out, GP.out, e58, e35, ed, Y7.out]; simp
              have HOK := Lib.hid hok
              clear hok
              go_wp2_with fail
              go_round
              case rel =>
                refine ⟨k + 1, by omega, by go_num, fun j hj => ?_⟩
                rcases Nat.lt_or_ge j k with h | h
                · exact HBD.out j h
                · obtain rfl : j = k := by omega
                  exact HOK.out
              case measure => simp [intOf]; omega
            · rw [ed] at q32
              have HM := Lib.hid (mayS_bad (flow := false) (l := l) (k := k) (by rw [HLN.out]; exact hlt) (by unfold badAt; rw [HLN.out, GK.out, GP.out, e58, e35, ed, Y7.out]; simp))
              go_wp2_with fail
              go_ret
              exact ⟨ret_b HM.out.symm, HB1.out⟩
    · go_enter Tryz.func52, Tryz.ntmps52
      go_wp2_with fail
      refine (HP5.out _).mono ?_
      rintro e w1 ⟨rfl, hb1⟩
      have HB1 := Lib.hid hb1
      clear hb1
      go_wp2_with fail
      refine (HAH.out _).mono ?_
      rintro e w' ⟨rfl, rfl⟩
      go_wp2_with fail
      refine (HAM.out _).mono ?_
      rintro e w' ⟨rfl, rfl⟩
      go_wp2_with fail
      go_loop [5] (fun i => ∃ k : Nat, k ≤ s.size ∧ i = .int .i64 k ∧ ∀ j, j < k → badAt true l j = false) (fun i => s.size - (intOf i).toNat)
      case atStart => exact ⟨0, Nat.zero_le _, rfl, fun j hj => absurd hj (Nat.not_lt_zero _)⟩
      case round =>
        obtain ⟨k, hk, rfl, hbd⟩ := hrel
        have HBD := Lib.hid hbd
        clear hbd q0 qz x1 x2 x3 hb0 hbz x5
        by_cases hlt : k < s.size
        rotate_left
        · have hlti : ¬ (k : Int) < (s.size : Int) := by omega
          have HM := Lib.hid (mayS_yes HNE.out HPL.out HHB.out (fun j hj => HBD.out j (by rw [HLN.out] at hj; omega)))
          go_wp2_with fail
          go_ret
          exact ⟨ret_b HM.out.symm, HB1.out⟩
        have hlti : (k : Int) < (s.size : Int) := by omega
        have gk := HGD.out k hlt
        obtain ⟨c, hc⟩ : ∃ c, s[k] = c := ⟨_, rfl⟩
        rw [hc] at gk
        have q58 := lit58 c
        have q35 := lit35 c
        have GK := Lib.hid gk
        clear gk
        have HAF := Lib.hid (fun w => amF c w)
        cases e58 : (c == 58)
        rotate_left
        · rw [e58] at q58
          have e35 : (c == 35) = false := by rw [beq_iff_eq] at e58; subst e58; rfl
          rw [e35] at q35
          by_cases hlast : k + 1 = s.size
          · have y1 : ((k : Int) == (s.size : Int) - 1) = true := by rw [beq_iff_eq]; omega
            have el : (k + 1 == s.size) = true := by rw [beq_iff_eq]; exact hlast
            have HM := Lib.hid (mayS_bad (flow := true) (l := l) (k := k) (by rw [HLN.out]; exact hlt) (by unfold badAt; rw [HLN.out, GK.out, e58, el]; simp))
            go_wp2_with fail
            go_ret
            exact ⟨ret_b HM.out.symm, HB1.out⟩
          · have y1 : ((k : Int) == (s.size : Int) - 1) = false := beq_eq_false_iff_ne.2 (by omega)
            have el : (k + 1 == s.size) = false := beq_eq_false_iff_ne.2 hlast
            have y2 : k + 1 < s.size := by omega
            have y3 : (k : Int) + 1 < (s.size : Int) := by omega
            have y4 : ((k : Int) + 1).toNat = k + 1 := by omega
            have y5 : (0 : Int) ≤ (k : Int) + 1 := by omega
            have gd := HGD.out (k + 1) y2
            obtain ⟨d, hd⟩ : ∃ d, s[k + 1] = d := ⟨_, rfl⟩
            rw [hd] at gd
            have q32 := lit32 d
            have GD := Lib.hid gd
            clear gd
            cases ed : (d == 32)
            · rw [ed] at q32
              have hAF := HAF.out
              cases ef : amU c flowsU
              · have hok : badAt true l k = false := by unfold badAt; rw [HLN.out, GK.out, GD.out, e58, el, ed, e35, ef]; simp
                rw [ef] at hAF
                have HF := Lib.hid hAF
                have HOK := Lib.hid hok
                clear hok hAF ef
                go_wp2_with fail
                refine (HF.out _).mono ?_
                rintro e w' ⟨rfl, rfl⟩
                go_wp2_with fail
                go_round
                case rel =>
                  refine ⟨k + 1, by omega, by go_num, fun j hj => ?_⟩
                  rcases Nat.lt_or_ge j k with h | h
                  · exact HBD.out j h
                  · obtain rfl : j = k := by omega
                    exact HOK.out
                case measure => simp [intOf]; omega
              · have HM := Lib.hid (mayS_bad (flow := true) (l := l) (k := k) (by rw [HLN.out]; exact hlt) (by unfold badAt; rw [GK.out, ef]; simp))
                rw [ef] at hAF
                have HF := Lib.hid hAF
                clear hAF ef
                go_wp2_with fail
                refine (HF.out _).mono ?_
                rintro e w' ⟨rfl, rfl⟩
                go_wp2_with fail
                go_ret
                exact ⟨ret_b HM.out.symm, HB1.out⟩
            · rw [ed] at q32
              have HM := Lib.hid (mayS_bad (flow := true) (l := l) (k := k) (by rw [HLN.out]; exact hlt) (by unfold badAt; rw [HLN.out, GK.out, GD.out, e58, el, ed]; simp))
              go_wp2_with fail
              go_ret
              exact ⟨ret_b HM.out.symm, HB1.out⟩
        rw [e58] at q58
        cases e35 : (c == 35)
        · rw [e35] at q35
          have hAF := HAF.out
          cases ef : amU c flowsU
          · have hok : badAt true l k = false := by unfold badAt; rw [HLN.out, GK.out, e58, e35, ef]; simp
            rw [ef] at hAF
            have HF := Lib.hid hAF
            have HOK := Lib.hid hok
            clear hok hAF ef
            go_wp2_with fail
            refine (HF.out _).mono ?_
            rintro e w' ⟨rfl, rfl⟩
            go_wp2_with fail
            go_round
            case rel =>
              refine ⟨k + 1, by omega, by go_num, fun j hj => ?_⟩
              rcases Nat.lt_or_ge j k with h | h
              · exact HBD.out j h
              · obtain rfl : j = k := by omega
                exact HOK.out
            case measure => simp [intOf]; omega
          · have HM := Lib.hid (mayS_bad (flow := true) (l := l) (k := k) (by rw [HLN.out]; exact hlt) (by unfold badAt; rw [GK.out, ef]; simp))
            rw [ef] at hAF
            have HF := Lib.hid hAF
            clear hAF ef
            go_wp2_with fail
            refine (HF.out _).mono ?_
            rintro e w' ⟨rfl, rfl⟩
            go_wp2_with fail
            go_ret
            exact ⟨ret_b HM.out.symm, HB1.out⟩
        · rw [e35] at q35
          by_cases hk0 : k = 0
          · have y6 : ¬ (0 : Int) < (k : Int) := by omega
            have Y7 := Lib.hid (show decide (0 < k) = false from decide_eq_false (by omega))
            clear hk0
            have hAF := HAF.out
            cases ef : amU c flowsU
            · have hok : badAt true l k = false := by unfold badAt; rw [HLN.out, GK.out, e58, e35, Y7.out, ef]; simp
              rw [ef] at hAF
              have HF := Lib.hid hAF
              have HOK := Lib.hid hok
              clear hok hAF ef
              go_wp2_with fail
              refine (HF.out _).mono ?_
              rintro e w' ⟨rfl, rfl⟩
              go_wp2_with fail
              go_round
              case rel =>
                refine ⟨k + 1, by omega, by go_num, fun j hj => ?_⟩
                rcases Nat.lt_or_ge j k with h | h
                · exact HBD.out j h
                · obtain rfl : j = k := by omega
                  exact HOK.out
              case measure => simp [intOf]; omega
            · have HM := Lib.hid (mayS_bad (flow := true) (l := l) (k := k) (by rw [HLN.out]; exact hlt) (by unfold badAt; rw [GK.out, ef]; simp))
              rw [ef] at hAF
              have HF := Lib.hid hAF
              clear hAF ef
              go_wp2_with fail
              refine (HF.out _).mono ?_
              rintro e w' ⟨rfl, rfl⟩
              go_wp2_with fail
              go_ret
              exact ⟨ret_b HM.out.symm, HB1.out⟩
          · have y1 : (0 : Int) < (k : Int) := by omega
            have y2 : k - 1 < s.size := by omega
            have y3 : (k : Int) - 1 < (s.size : Int) := by omega
            have y4 : ((k : Int) - 1).toNat = k - 1 := by omega
            have y5 : (0 : Int) ≤ (k : Int) - 1 := by omega
            have y7 : decide (0 < k) = true := decide_eq_true (by omega)
            have Y7 := Lib.hid y7
            clear y7
            have gp := HGD.out (k - 1) y2
            obtain ⟨p, hp⟩ : ∃ d, s[k - 1] = d := ⟨_, rfl⟩
            rw [hp] at gp
            have q32 := lit32 p
            have GP := Lib.hid gp
            clear gp
            cases ed : (p == 32)
            · rw [ed] at q32
              have hAF := HAF.out
              cases ef : amU c flowsU
              · have hok : badAt true l k = false := by unfold badAt; rw [HLN.out, GK.out, GP.out, e58, e35, ed, Y7.out, ef]; simp
                rw [ef] at hAF
                have HF := Lib.hid hAF
                have HOK := Lib.hid hok
                clear hok hAF ef
                go_wp2_with fail
                refine (HF.out _).mono ?_
                rintro e w' ⟨rfl, rfl⟩
                go_wp2_with fail
                go_round
                case rel =>
                  refine ⟨k + 1, by omega, by go_num, fun j hj => ?_⟩
                  rcases Nat.lt_or_ge j k with h | h
                  · exact HBD.out j h
                  · obtain rfl : j = k := by omega
                    exact HOK.out
                case measure => simp [intOf]; omega
              · have HM := Lib.hid (mayS_bad (flow := true) (l := l) (k := k) (by rw [HLN.out]; exact hlt) (by unfold badAt; rw [GK.out, ef]; simp))
                rw [ef] at hAF
                have HF := Lib.hid hAF
                clear hAF ef
                go_wp2_with fail
                refine (HF.out _).mono ?_
                rintro e w' ⟨rfl, rfl⟩
                go_wp2_with fail
                go_ret
                exact ⟨ret_b HM.out.symm, HB1.out⟩
            · rw [ed] at q32
              have HM := Lib.hid (mayS_bad (flow := true) (l := l) (k := k) (by rw [HLN.out]; exact hlt) (by unfold badAt; rw [HLN.out, GK.out, GP.out, e58, e35, ed, Y7.out]; simp))
              go_wp2_with fail
              go_ret
              exact ⟨ret_b HM.out.symm, HB1.out⟩
  · rw [em] at hAM
    have HAM := Lib.hid hAM
    clear hAM
    by_cases hs1 : s.size = 1
    · have y1 : ((s.size : Int) == 1) = true := by rw [beq_iff_eq]; omega
      have el : (s.size == 1) = true := by rw [beq_iff_eq]; exact hs1
      have HS1 := Lib.hid hs1
      clear hs1
      rw [mayS_head (l := l) (by unfold headBad; rw [HLN.out, G0.out, em, el]; simp)]
      go_enter Tryz.func52, Tryz.ntmps52
      go_wp2_with fail
      refine (HP5.out _).mono ?_
      rintro e w1 ⟨rfl, hb1⟩
      have HB1 := Lib.hid hb1
      clear hb1
      go_wp2_with fail
      refine (HAH.out _).mono ?_
      rintro e w' ⟨rfl, rfl⟩
      go_wp2_with fail
      refine (HAM.out _).mono ?_
      rintro e w' ⟨rfl, rfl⟩
      go_wp2_with fail
      go_ret
      exact ⟨rfl, HB1.out⟩
    · have y1 : ((s.size : Int) == 1) = false := beq_eq_false_iff_ne.2 (by omega)
      have el : (s.size == 1) = false := beq_eq_false_iff_ne.2 hs1
      have y2 : 1 < s.size := by omega
      have g1 := HGD.out 1 y2
      obtain ⟨b1, hb1'⟩ : ∃ d, s[1] = d := ⟨_, rfl⟩
      rw [hb1'] at g1
      have q1 := lit32 b1
      have G1 := Lib.hid g1
      clear g1
      cases e1 : (b1 == 32)
      rotate_left
      · rw [e1] at q1
        rw [mayS_head (l := l) (by unfold headBad; rw [HLN.out, G0.out, G1.out, em, e1]; simp)]
        go_enter Tryz.func52, Tryz.ntmps52
        go_wp2_with fail
        refine (HP5.out _).mono ?_
        rintro e w1 ⟨rfl, hb1⟩
        have HB1 := Lib.hid hb1
        clear hb1
        go_wp2_with fail
        refine (HAH.out _).mono ?_
        rintro e w' ⟨rfl, rfl⟩
        go_wp2_with fail
        refine (HAM.out _).mono ?_
        rintro e w' ⟨rfl, rfl⟩
        go_wp2_with fail
        go_ret
        exact ⟨rfl, HB1.out⟩
      rw [e1] at q1
      have hhb : headBad l = false := by unfold headBad; rw [HLN.out, G0.out, GZ.out, e0, ez, eh, em, el, G1.out, e1]; simp
      have HHB := Lib.hid hhb
      clear hhb
      cases flow
      · go_enter Tryz.func52, Tryz.ntmps52
        go_wp2_with fail
        refine (HP5.out _).mono ?_
        rintro e w1 ⟨rfl, hb1⟩
        have HB1 := Lib.hid hb1
        clear hb1
        go_wp2_with fail
        refine (HAH.out _).mono ?_
        rintro e w' ⟨rfl, rfl⟩
        go_wp2_with fail
        refine (HAM.out _).mono ?_
        rintro e w' ⟨rfl, rfl⟩
        go_wp2_with fail
        go_loop [5] (fun i => ∃ k : Nat, k ≤ s.size ∧ i = .int .i64 k ∧ ∀ j, j < k → badAt false l j = false) (fun i => s.size - (intOf i).toNat)
        case atStart => exact ⟨0, Nat.zero_le _, rfl, fun j hj => absurd hj (Nat.not_lt_zero _)⟩
        case round =>
          obtain ⟨k, hk, rfl, hbd⟩ := hrel
          have HBD := Lib.hid hbd
          clear hbd q0 qz x1 x2 x3 hb0 hbz x5 q1 hb1' y1
          by_cases hlt : k < s.size
          rotate_left
          · have hlti : ¬ (k : Int) < (s.size : Int) := by omega
            have HM := Lib.hid (mayS_yes HNE.out HPL.out HHB.out (fun j hj => HBD.out j (by rw [HLN.out] at hj; omega)))
            go_wp2_with fail
            go_ret
            exact ⟨ret_b HM.out.symm, HB1.out⟩
          have hlti : (k : Int) < (s.size : Int) := by omega
          have gk := HGD.out k hlt
          obtain ⟨c, hc⟩ : ∃ c, s[k] = c := ⟨_, rfl⟩
          rw [hc] at gk
          have q58 := lit58 c
          have q35 := lit35 c
          have GK := Lib.hid gk
          clear gk
          have HAF := Lib.hid (fun w => amF c w)
          cases e58 : (c == 58)
          rotate_left
          · rw [e58] at q58
            have e35 : (c == 35) = false := by rw [beq_iff_eq] at e58; subst e58; rfl
            rw [e35] at q35
            by_cases hlast : k + 1 = s.size
            · have y1 : ((k : Int) == (s.size : Int) - 1) = true := by rw [beq_iff_eq]; omega
              have el : (k + 1 == s.size) = true := by rw [beq_iff_eq]; exact hlast
              have HM := Lib.hid (mayS_bad (flow := false) (l := l) (k := k) (by rw [HLN.out]; exact hlt) (by unfold badAt; rw [HLN.out, GK.out, e58, el]; simp))
              go_wp2_with fail
              go_ret
              exact ⟨ret_b HM.out.symm, HB1.out⟩
            · have y1 : ((k : Int) == (s.size : Int) - 1) = false := beq_eq_false_iff_ne.2 (by omega)
              have el : (k + 1 == s.size) = false := beq_eq_false_iff_ne.2 hlast
              have y2 : k + 1 < s.size := by omega
              have y3 : (k : Int) + 1 < (s.size : Int) := by omega
              have y4 : ((k : Int) + 1).toNat = k + 1 := by omega
              have y5 : (0 : Int) ≤ (k : Int) + 1 := by omega
              have gd := HGD.out (k + 1) y2
              obtain ⟨d, hd⟩ : ∃ d, s[k + 1] = d := ⟨_, rfl⟩
              rw [hd] at gd
              have q32 := lit32 d
              have GD := Lib.hid gd
              clear gd
              cases ed : (d == 32)
              · rw [ed] at q32
                have hok : badAt false l k = false := by unfold badAt; rw [HLN.out, GK.out, GD.out, e58, el, ed, e35]; simp
                have HOK := Lib.hid hok
                clear hok
                go_wp2_with fail
                go_round
                case rel =>
                  refine ⟨k + 1, by omega, by go_num, fun j hj => ?_⟩
                  rcases Nat.lt_or_ge j k with h | h
                  · exact HBD.out j h
                  · obtain rfl : j = k := by omega
                    exact HOK.out
                case measure => simp [intOf]; omega
              · rw [ed] at q32
                have HM := Lib.hid (mayS_bad (flow := false) (l := l) (k := k) (by rw [HLN.out]; exact hlt) (by unfold badAt; rw [HLN.out, GK.out, GD.out, e58, el, ed]; simp))
                go_wp2_with fail
                go_ret
                exact ⟨ret_b HM.out.symm, HB1.out⟩
          rw [e58] at q58
          cases e35 : (c == 35)
          · rw [e35] at q35
            have hok : badAt false l k = false := by unfold badAt; rw [HLN.out, GK.out, e58, e35]; simp
            have HOK := Lib.hid hok
            clear hok
            go_wp2_with fail
            go_round
            case rel =>
              refine ⟨k + 1, by omega, by go_num, fun j hj => ?_⟩
              rcases Nat.lt_or_ge j k with h | h
              · exact HBD.out j h
              · obtain rfl : j = k := by omega
                exact HOK.out
            case measure => simp [intOf]; omega
          · rw [e35] at q35
            by_cases hk0 : k = 0
            · have y6 : ¬ (0 : Int) < (k : Int) := by omega
              have Y7 := Lib.hid (show decide (0 < k) = false from decide_eq_false (by omega))
              clear hk0
              have hok : badAt false l k = false := by unfold badAt; rw [HLN.out, GK.out, e58, e35, Y7.out]; simp
              have HOK := Lib.hid hok
              clear hok
              go_wp2_with fail
              go_round
              case rel =>
                refine ⟨k + 1, by omega, by go_num, fun j hj => ?_⟩
                rcases Nat.lt_or_ge j k with h | h
                · exact HBD.out j h
                · obtain rfl : j = k := by omega
                  exact HOK.out
              case measure => simp [intOf]; omega
            · have y1 : (0 : Int) < (k : Int) := by omega
              have y2 : k - 1 < s.size := by omega
              have y3 : (k : Int) - 1 < (s.size : Int) := by omega
              have y4 : ((k : Int) - 1).toNat = k - 1 := by omega
              have y5 : (0 : Int) ≤ (k : Int) - 1 := by omega
              have y7 : decide (0 < k) = true := decide_eq_true (by omega)
              have Y7 := Lib.hid y7
              clear y7
              have gp := HGD.out (k - 1) y2
              obtain ⟨p, hp⟩ : ∃ d, s[k - 1] = d := ⟨_, rfl⟩
              rw [hp] at gp
              have q32 := lit32 p
              have GP := Lib.hid gp
              clear gp
              cases ed : (p == 32)
              · rw [ed] at q32
                have hok : badAt false l k = false := by unfold badAt; rw [HLN.out, GK.out, GP.out, e58, e35, ed, Y7.out]; simp
                have HOK := Lib.hid hok
                clear hok
                go_wp2_with fail
                go_round
                case rel =>
                  refine ⟨k + 1, by omega, by go_num, fun j hj => ?_⟩
                  rcases Nat.lt_or_ge j k with h | h
                  · exact HBD.out j h
                  · obtain rfl : j = k := by omega
                    exact HOK.out
                case measure => simp [intOf]; omega
              · rw [ed] at q32
                have HM := Lib.hid (mayS_bad (flow := false) (l := l) (k := k) (by rw [HLN.out]; exact hlt) (by unfold badAt; rw [HLN.out, GK.out, GP.out, e58, e35, ed, Y7.out]; simp))
                go_wp2_with fail
                go_ret
                exact ⟨ret_b HM.out.symm, HB1.out⟩
      · go_enter Tryz.func52, Tryz.ntmps52
        go_wp2_with fail
        refine (HP5.out _).mono ?_
        rintro e w1 ⟨rfl, hb1⟩
        have HB1 := Lib.hid hb1
        clear hb1
        go_wp2_with fail
        refine (HAH.out _).mono ?_
        rintro e w' ⟨rfl, rfl⟩
        go_wp2_with fail
        refine (HAM.out _).mono ?_
        rintro e w' ⟨rfl, rfl⟩
        go_wp2_with fail
        go_loop [5] (fun i => ∃ k : Nat, k ≤ s.size ∧ i = .int .i64 k ∧ ∀ j, j < k → badAt true l j = false) (fun i => s.size - (intOf i).toNat)
        case atStart => exact ⟨0, Nat.zero_le _, rfl, fun j hj => absurd hj (Nat.not_lt_zero _)⟩
        case round =>
          obtain ⟨k, hk, rfl, hbd⟩ := hrel
          have HBD := Lib.hid hbd
          clear hbd q0 qz x1 x2 x3 hb0 hbz x5 q1 hb1' y1
          by_cases hlt : k < s.size
          rotate_left
          · have hlti : ¬ (k : Int) < (s.size : Int) := by omega
            have HM := Lib.hid (mayS_yes HNE.out HPL.out HHB.out (fun j hj => HBD.out j (by rw [HLN.out] at hj; omega)))
            go_wp2_with fail
            go_ret
            exact ⟨ret_b HM.out.symm, HB1.out⟩
          have hlti : (k : Int) < (s.size : Int) := by omega
          have gk := HGD.out k hlt
          obtain ⟨c, hc⟩ : ∃ c, s[k] = c := ⟨_, rfl⟩
          rw [hc] at gk
          have q58 := lit58 c
          have q35 := lit35 c
          have GK := Lib.hid gk
          clear gk
          have HAF := Lib.hid (fun w => amF c w)
          cases e58 : (c == 58)
          rotate_left
          · rw [e58] at q58
            have e35 : (c == 35) = false := by rw [beq_iff_eq] at e58; subst e58; rfl
            rw [e35] at q35
            by_cases hlast : k + 1 = s.size
            · have y1 : ((k : Int) == (s.size : Int) - 1) = true := by rw [beq_iff_eq]; omega
              have el : (k + 1 == s.size) = true := by rw [beq_iff_eq]; exact hlast
              have HM := Lib.hid (mayS_bad (flow := true) (l := l) (k := k) (by rw [HLN.out]; exact hlt) (by unfold badAt; rw [HLN.out, GK.out, e58, el]; simp))
              go_wp2_with fail
              go_ret
              exact ⟨ret_b HM.out.symm, HB1.out⟩
            · have y1 : ((k : Int) == (s.size : Int) - 1) = false := beq_eq_false_iff_ne.2 (by omega)
              have el : (k + 1 == s.size) = false := beq_eq_false_iff_ne.2 hlast
              have y2 : k + 1 < s.size := by omega
              have y3 : (k : Int) + 1 < (s.size : Int) := by omega
              have y4 : ((k : Int) + 1).toNat = k + 1 := by omega
              have y5 : (0 : Int) ≤ (k : Int) + 1 := by omega
              have gd := HGD.out (k + 1) y2
              obtain ⟨d, hd⟩ : ∃ d, s[k + 1] = d := ⟨_, rfl⟩
              rw [hd] at gd
              have q32 := lit32 d
              have GD := Lib.hid gd
              clear gd
              cases ed : (d == 32)
              · rw [ed] at q32
                have hAF := HAF.out
                cases ef : amU c flowsU
                · have hok : badAt true l k = false := by unfold badAt; rw [HLN.out, GK.out, GD.out, e58, el, ed, e35, ef]; simp
                  rw [ef] at hAF
                  have HF := Lib.hid hAF
                  have HOK := Lib.hid hok
                  clear hok hAF ef
                  go_wp2_with fail
                  refine (HF.out _).mono ?_
                  rintro e w' ⟨rfl, rfl⟩
                  go_wp2_with fail
                  go_round
                  case rel =>
                    refine ⟨k + 1, by omega, by go_num, fun j hj => ?_⟩
                    rcases Nat.lt_or_ge j k with h | h
                    · exact HBD.out j h
                    · obtain rfl : j = k := by omega
                      exact HOK.out
                  case measure => simp [intOf]; omega
                · have HM := Lib.hid (mayS_bad (flow := true) (l := l) (k := k) (by rw [HLN.out]; exact hlt) (by unfold badAt; rw [GK.out, ef]; simp))
                  rw [ef] at hAF
                  have HF := Lib.hid hAF
                  clear hAF ef
                  go_wp2_with fail
                  refine (HF.out _).mono ?_
                  rintro e w' ⟨rfl, rfl⟩
                  go_wp2_with fail
                  go_ret
                  exact ⟨ret_b HM.out.symm, HB1.out⟩
              · rw [ed] at q32
                have HM := Lib.hid (mayS_bad (flow := true) (l := l) (k := k) (by rw [HLN.out]; exact hlt) (by unfold badAt; rw [HLN.out, GK.out, GD.out, e58, el, ed]; simp))
                go_wp2_with fail
                go_ret
                exact ⟨ret_b HM.out.symm, HB1.out⟩
          rw [e58] at q58
          cases e35 : (c == 35)
          · rw [e35] at q35
            have hAF := HAF.out
            cases ef : amU c flowsU
            · have hok : badAt true l k = false := by unfold badAt; rw [HLN.out, GK.out, e58, e35, ef]; simp
              rw [ef] at hAF
              have HF := Lib.hid hAF
              have HOK := Lib.hid hok
              clear hok hAF ef
              go_wp2_with fail
              refine (HF.out _).mono ?_
              rintro e w' ⟨rfl, rfl⟩
              go_wp2_with fail
              go_round
              case rel =>
                refine ⟨k + 1, by omega, by go_num, fun j hj => ?_⟩
                rcases Nat.lt_or_ge j k with h | h
                · exact HBD.out j h
                · obtain rfl : j = k := by omega
                  exact HOK.out
              case measure => simp [intOf]; omega
            · have HM := Lib.hid (mayS_bad (flow := true) (l := l) (k := k) (by rw [HLN.out]; exact hlt) (by unfold badAt; rw [GK.out, ef]; simp))
              rw [ef] at hAF
              have HF := Lib.hid hAF
              clear hAF ef
              go_wp2_with fail
              refine (HF.out _).mono ?_
              rintro e w' ⟨rfl, rfl⟩
              go_wp2_with fail
              go_ret
              exact ⟨ret_b HM.out.symm, HB1.out⟩
          · rw [e35] at q35
            by_cases hk0 : k = 0
            · have y6 : ¬ (0 : Int) < (k : Int) := by omega
              have Y7 := Lib.hid (show decide (0 < k) = false from decide_eq_false (by omega))
              clear hk0
              have hAF := HAF.out
              cases ef : amU c flowsU
              · have hok : badAt true l k = false := by unfold badAt; rw [HLN.out, GK.out, e58, e35, Y7.out, ef]; simp
                rw [ef] at hAF
                have HF := Lib.hid hAF
                have HOK := Lib.hid hok
                clear hok hAF ef
                go_wp2_with fail
                refine (HF.out _).mono ?_
                rintro e w' ⟨rfl, rfl⟩
                go_wp2_with fail
                go_round
                case rel =>
                  refine ⟨k + 1, by omega, by go_num, fun j hj => ?_⟩
                  rcases Nat.lt_or_ge j k with h | h
                  · exact HBD.out j h
                  · obtain rfl : j = k := by omega
                    exact HOK.out
                case measure => simp [intOf]; omega
              · have HM := Lib.hid (mayS_bad (flow := true) (l := l) (k := k) (by rw [HLN.out]; exact hlt) (by unfold badAt; rw [GK.out, ef]; simp))
                rw [ef] at hAF
                have HF := Lib.hid hAF
                clear hAF ef
                go_wp2_with fail
                refine (HF.out _).mono ?_
                rintro e w' ⟨rfl, rfl⟩
                go_wp2_with fail
                go_ret
                exact ⟨ret_b HM.out.symm, HB1.out⟩
            · have y1 : (0 : Int) < (k : Int) := by omega
              have y2 : k - 1 < s.size := by omega
              have y3 : (k : Int) - 1 < (s.size : Int) := by omega
              have y4 : ((k : Int) - 1).toNat = k - 1 := by omega
              have y5 : (0 : Int) ≤ (k : Int) - 1 := by omega
              have y7 : decide (0 < k) = true := decide_eq_true (by omega)
              have Y7 := Lib.hid y7
              clear y7
              have gp := HGD.out (k - 1) y2
              obtain ⟨p, hp⟩ : ∃ d, s[k - 1] = d := ⟨_, rfl⟩
              rw [hp] at gp
              have q32 := lit32 p
              have GP := Lib.hid gp
              clear gp
              cases ed : (p == 32)
              · rw [ed] at q32
                have hAF := HAF.out
                cases ef : amU c flowsU
                · have hok : badAt true l k = false := by unfold badAt; rw [HLN.out, GK.out, GP.out, e58, e35, ed, Y7.out, ef]; simp
                  rw [ef] at hAF
                  have HF := Lib.hid hAF
                  have HOK := Lib.hid hok
                  clear hok hAF ef
                  go_wp2_with fail
                  refine (HF.out _).mono ?_
                  rintro e w' ⟨rfl, rfl⟩
                  go_wp2_with fail
                  go_round
                  case rel =>
                    refine ⟨k + 1, by omega, by go_num, fun j hj => ?_⟩
                    rcases Nat.lt_or_ge j k with h | h
                    · exact HBD.out j h
                    · obtain rfl : j = k := by omega
                      exact HOK.out
                  case measure => simp [intOf]; omega
                · have HM := Lib.hid (mayS_bad (flow := true) (l := l) (k := k) (by rw [HLN.out]; exact hlt) (by unfold badAt; rw [GK.out, ef]; simp))
                  rw [ef] at hAF
                  have HF := Lib.hid hAF
                  clear hAF ef
                  go_wp2_with fail
                  refine (HF.out _).mono ?_
                  rintro e w' ⟨rfl, rfl⟩
                  go_wp2_with fail
                  go_ret
                  exact ⟨ret_b HM.out.symm, HB1.out⟩
              · rw [ed] at q32
                have HM := Lib.hid (mayS_bad (flow := true) (l := l) (k := k) (by rw [HLN.out]; exact hlt) (by unfold badAt; rw [HLN.out, GK.out, GP.out, e58, e35, ed, Y7.out]; simp))
                go_wp2_with fail
                go_ret
                exact ⟨ret_b HM.out.symm, HB1.out⟩
end Go.Proofs.YtkliecngkcjieaaGreatDoor
