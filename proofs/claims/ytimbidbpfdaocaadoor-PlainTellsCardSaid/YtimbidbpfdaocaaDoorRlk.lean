/- The reference tells whether a text looks like a number, by its bytes. Conditions: the text is not too long. -/
import Derived.Test.YtimbidbpfdaocaaDoorRpl
namespace Go.Proofs.YtimbidbpfdaocaaDoor
open Go.RowKit
open Pl On
namespace On
/-- what stands behind the first byte, if that is one of some -/
def dropU (m : List UInt8) : List UInt8 → List UInt8
  | [] => []
  | b :: t => if amU b m = true then t else b :: t
def hdB (m : List UInt8) : List UInt8 → Bool
  | [] => false
  | b :: _ => amU b m
theorem dropU_no {m l : List UInt8} (h : hdB m l = false) : dropU m l = l := by
  cases l with
  | nil => rfl
  | cons b t =>
    have h' : amU b m = false := h
    show (if amU b m = true then t else b :: t) = _
    rw [h']; rfl
theorem dropU_yes {m l : List UInt8} (h : hdB m l = true) : ∃ b t, l = b :: t ∧ dropU m l = t := by
  cases l with
  | nil => cases h
  | cons b t =>
    have h' : amU b m = true := h
    refine ⟨b, t, rfl, ?_⟩
    show (if amU b m = true then t else b :: t) = _
    rw [h']; rfl
def numU : List UInt8 := [46, 101, 69, 43, 45, 95]
def lookU (b : UInt8) : Bool := digU b || amU b numU
def behindU (l : List UInt8) : List UInt8 := dropU [46] (dropU [43, 45] l)
def looksS (l : List UInt8) : Bool := if behindU l = [] then false else digU ((behindU l).getD 0 0) && (behindU l).all lookU
theorem dropU_le (m l : List UInt8) : (dropU m l).length ≤ l.length := by
  cases l with
  | nil => exact Nat.le_refl _
  | cons b t =>
    show (if amU b m = true then t else b :: t).length ≤ _
    split <;> simp
end On
theorem lit46 (c : UInt8) : ((c.toNat : Int) == 46) = (c == 46) := by rw [show (c == 46) = decide (c = 46) from rfl]; exact u8_eq c 46
theorem atD (s : ByteArray) (k : Nat) (h : k < s.size) : s.data.toList.getD k 0 = s[k] := by
  rw [List.getD_eq_getElem?_getD, List.getElem?_eq_getElem (by rw [len_list]; exact h)]
  rfl
theorem head_of (s : ByteArray) (h : 0 < s.size) : ∃ b t, s[0] = b ∧ s.data.toList = b :: t := by
  cases hl : s.data.toList with
  | nil => have := len_list s; rw [hl, List.length_nil] at this; omega
  | cons b t =>
    refine ⟨b, t, ?_, rfl⟩
    have := atD s 0 h
    rw [hl] at this
    exact this.symm
theorem tail_of (s : ByteArray) {b : UInt8} {t : List UInt8} (h : s.data.toList = b :: t) : (s.extract 1 s.size).data.toList = t := by
  have e := ext_take s 1 (s.size - 1)
  have hl := len_list s
  rw [h, List.length_cons] at hl
  rw [show 1 + (s.size - 1) = s.size by omega, h] at e
  rw [e, List.drop_succ_cons, List.drop_zero]
  exact List.take_of_length_le (by omega)
theorem size_of (s : ByteArray) {l : List UInt8} (h : s.data.toList = l) : s.size = l.length := by rw [← h, len_list]
theorem amS (c : UInt8) (w : World) : Calls Tryd.prog 18 #[.int .u8 (c.toNat : Int), .string ⟨#[43, 45]⟩] w fun e w' => e = .returned (.bool (amU c [43, 45])) ∧ w = w' := among_any c ⟨#[43, 45]⟩ (by decide) w
theorem amN (c : UInt8) (w : World) : Calls Tryd.prog 18 #[.int .u8 (c.toNat : Int), .string ⟨#[46, 101, 69, 43, 45, 95]⟩] w fun e w' => e = .returned (.bool (amU c numU)) ∧ w = w' := among_any c ⟨#[46, 101, 69, 43, 45, 95]⟩ (by decide) w
set_option maxRecDepth 100000 in
set_option maxHeartbeats 8000000 in
theorem looks5_any (s : ByteArray) (hs : s.size ≤ 1099511627776) (w : World) : Calls Tryd.prog 21 #[.string s] w fun e w' => e = .returned (.bool (looksS s.data.toList)) ∧ w = w' := by
  obtain ⟨l, hl⟩ : ∃ l, s.data.toList = l := ⟨_, rfl⟩
  rw [hl]
  have HL := Lib.hid hl
  clear hl
  go_enter Tryd.func21, Tryd.ntmps21
  go_upto_region 1 with (fail)
  go_cut [10] (fun v wx => v = .bool (hdB [43, 45] s.data.toList) ∧ w = wx)
  case first =>
    by_cases h0 : s.size = 0
    · have hnil : s.data.toList = [] := List.eq_nil_of_length_eq_zero (by rw [len_list]; exact h0)
      have z1 : s.toList.isEmpty = true := by rw [ByteArray.toList_eq, hnil]; rfl
      have z2 : (!s.toList.isEmpty) = false := by rw [z1]; rfl
      have HN := Lib.hid hnil
      clear hnil h0
      go_wp2_with fail
      go_meet
      exact ⟨by rw [HN.out]; rfl, rfl⟩
    · have hpos : 0 < s.size := by omega
      obtain ⟨b, t, hb, hbt⟩ := head_of s hpos
      have z1 : s.toList.isEmpty = false := by rw [ByteArray.toList_eq, hbt]; rfl
      have z2 : (!s.toList.isEmpty) = true := by rw [z1]; rfl
      have HBT := Lib.hid hbt
      clear hbt h0
      have hA := fun w => amS b w
      obtain ⟨A, ha⟩ : ∃ A, amU b [43, 45] = A := ⟨_, rfl⟩
      rw [ha] at hA
      have HA := Lib.hid hA
      have HAA := Lib.hid ha
      clear hA ha
      go_wp2_with fail
      refine (HA.out _).mono ?_
      rintro e w' ⟨rfl, rfl⟩
      go_wp2_with fail
      go_meet
      exact ⟨by rw [HBT.out]; exact congrArg Value.bool HAA.out.symm, rfl⟩
  case rest =>
    obtain ⟨rfl, rfl⟩ := hcut
    go_upto_if 10 with (fail)
    go_cut [0] (fun v wx => ∃ T : ByteArray, v = .string T ∧ T.data.toList = dropU [43, 45] l ∧ T.size ≤ s.size ∧ w = wx)
    case first =>
      cases hh : hdB [43, 45] s.data.toList
      · have HH := Lib.hid hh
        clear hh
        go_wp2_with fail
        go_meet
        exact ⟨s, rfl, by rw [← HL.out, dropU_no HH.out], Nat.le_refl _, rfl⟩
      · obtain ⟨b, t, h1, h2⟩ := dropU_yes hh
        have hpos : (1 : Int) ≤ (s.size : Int) := by have := size_of s h1; rw [List.length_cons] at this; omega
        have HT2 := Lib.hid (tail_of s h1)
        have HD := Lib.hid h2
        have HB := Lib.hid h1
        clear hh h1 h2
        go_wp2_with fail
        go_meet
        exact ⟨s.extract 1 s.size, rfl, by rw [HT2.out, ← HL.out, HD.out], by have h1 := size_of _ HT2.out; have h2 := size_of _ HB.out; rw [List.length_cons] at h2; omega, rfl⟩
    case rest =>
      obtain ⟨T, rfl, hT, hTs, rfl⟩ := hcut
      have HT := Lib.hid hT
      clear hT
      go_upto_region 3 with (fail)
      go_cut [19] (fun v wx => v = .bool (hdB [46] T.data.toList) ∧ w = wx)
      case first =>
        by_cases h0 : T.size = 0
        · have hnil : T.data.toList = [] := List.eq_nil_of_length_eq_zero (by rw [len_list]; exact h0)
          have z1 : T.toList.isEmpty = true := by rw [ByteArray.toList_eq, hnil]; rfl
          have z2 : (!T.toList.isEmpty) = false := by rw [z1]; rfl
          have HN := Lib.hid hnil
          clear hnil h0
          go_wp2_with fail
          go_meet
          exact ⟨by rw [HN.out]; rfl, rfl⟩
        · have hpos : 0 < T.size := by omega
          obtain ⟨b, t, hb, hbt⟩ := head_of T hpos
          have z1 : T.toList.isEmpty = false := by rw [ByteArray.toList_eq, hbt]; rfl
          have z2 : (!T.toList.isEmpty) = true := by rw [z1]; rfl
          have HBT := Lib.hid hbt
          clear hbt h0
          have q := lit46 b
          have HQ := Lib.hid (show (b == 46) = amU b [46] by unfold amU; rw [Bool.eq_iff_iff]; simp)
          go_wp2_with fail
          go_meet
          exact ⟨by rw [HBT.out]; exact congrArg Value.bool HQ.out, rfl⟩
      case rest =>
        obtain ⟨rfl, rfl⟩ := hcut
        go_upto_if 19 with (fail)
        go_cut [0] (fun v wx => ∃ U : ByteArray, v = .string U ∧ U.data.toList = behindU l ∧ U.size ≤ s.size ∧ w = wx)
        case first =>
          cases hh : hdB [46] T.data.toList
          · have HH := Lib.hid hh
            clear hh
            go_wp2_with fail
            go_meet
            exact ⟨T, rfl, by unfold behindU; rw [← HT.out, dropU_no HH.out], hTs, rfl⟩
          · obtain ⟨b, t, h1, h2⟩ := dropU_yes hh
            have hpos : (1 : Int) ≤ (T.size : Int) := by have := size_of T h1; rw [List.length_cons] at this; omega
            have HT2 := Lib.hid (tail_of T h1)
            have HD := Lib.hid h2
            have HB := Lib.hid h1
            clear hh h1 h2
            go_wp2_with fail
            go_meet
            exact ⟨T.extract 1 T.size, rfl, by rw [HT2.out]; unfold behindU; rw [← HT.out, HD.out], by have h1 := size_of _ HT2.out; have h2 := size_of _ HB.out; rw [List.length_cons] at h2; omega, rfl⟩
        case rest =>
          obtain ⟨U, rfl, hU, hUs, rfl⟩ := hcut
          have hlook : looksS l = if U.data.toList = [] then false else digU (U.data.toList.getD 0 0) && U.data.toList.all lookU := by unfold looksS; rw [hU]
          have HLK := Lib.hid hlook
          clear hU hlook
          by_cases h0 : U.size = 0
          · have hnil : U.data.toList = [] := List.eq_nil_of_length_eq_zero (by rw [len_list]; exact h0)
            have z1 : U.toList.isEmpty = true := by rw [ByteArray.toList_eq, hnil]; rfl
            have HN := Lib.hid hnil
            clear hnil h0
            go_wp2_with fail
            go_ret
            exact ⟨ret_b (by rw [HLK.out, if_pos HN.out]), rfl⟩
          · have hpos : 0 < U.size := by omega
            obtain ⟨b, t, hb, hbt⟩ := head_of U hpos
            have z1 : U.toList.isEmpty = false := by rw [ByteArray.toList_eq, hbt]; rfl
            have hlk2 : looksS l = (digU b && U.data.toList.all lookU) := by rw [HLK.out, if_neg (by rw [hbt]; simp)]; rw [hbt]; rfl
            have HL2 := Lib.hid hlk2
            have hD := fun w => Digit_any b w
            clear hbt h0 hlk2
            cases hd : digU b
            · rw [hd] at hD
              have HD := Lib.hid hD
              have HDD := Lib.hid hd
              clear hD hd
              go_wp2_with fail
              refine (HD.out _).mono ?_
              rintro e w' ⟨rfl, rfl⟩
              go_wp2_with fail
              go_ret
              exact ⟨ret_b (by rw [HL2.out, HDD.out]; rfl), rfl⟩
            · rw [hd] at hD
              have HD := Lib.hid hD
              have HDD := Lib.hid hd
              clear hD hd
              go_wp2_with fail
              refine (HD.out _).mono ?_
              rintro e w' ⟨rfl, rfl⟩
              go_wp2_with fail
              go_loop [3] (fun i => ∃ k : Nat, k ≤ U.size ∧ i = .int .i64 k ∧ ∀ j (hj : j < U.size), j < k → lookU U[j] = true) (fun i => U.size - (intOf i).toNat)
              case atStart => exact ⟨0, Nat.zero_le _, rfl, fun j _ hj => absurd hj (Nat.not_lt_zero _)⟩
              case round =>
                obtain ⟨k, hk, rfl, hne⟩ := hrel
                have HN := Lib.hid hne
                clear hne
                by_cases hlt : k < U.size
                · have hlti : (k : Int) < (U.size : Int) := by omega
                  have hm : U[k] ∈ U.data.toList := by rw [← list_at U k hlt]; exact List.getElem_mem _
                  obtain ⟨c, hc⟩ : ∃ c, U[k] = c := ⟨_, rfl⟩
                  rw [hc] at hm
                  have HM := Lib.hid hm
                  have HC := Lib.hid hc
                  have hD := fun w => Digit_any c w
                  have hA := fun w => amN c w
                  clear hm hb
                  cases h1 : digU c
                  · rw [h1] at hD
                    have HDc := Lib.hid hD
                    cases h2 : amU c numU
                    · rw [h2] at hA
                      have HAc := Lib.hid hA
                      have HX := Lib.hid (show lookU c = false by unfold lookU; rw [h1, h2]; rfl)
                      clear hD hA h1 h2
                      go_wp2_with fail
                      refine (HDc.out _).mono ?_
                      rintro e w' ⟨rfl, rfl⟩
                      go_wp2_with fail
                      refine (HAc.out _).mono ?_
                      rintro e w' ⟨rfl, rfl⟩
                      go_wp2_with fail
                      go_ret
                      refine ⟨ret_b ?_, rfl⟩
                      rw [HL2.out, HDD.out]
                      symm
                      rw [Bool.true_and, List.all_eq_false]
                      exact ⟨c, HM.out, by rw [HX.out]; decide⟩
                    · rw [h2] at hA
                      have HAc := Lib.hid hA
                      have HX := Lib.hid (show lookU c = true by unfold lookU; rw [h1, h2]; rfl)
                      clear hD hA h1 h2
                      go_wp2_with fail
                      refine (HDc.out _).mono ?_
                      rintro e w' ⟨rfl, rfl⟩
                      go_wp2_with fail
                      refine (HAc.out _).mono ?_
                      rintro e w' ⟨rfl, rfl⟩
                      go_wp2_with fail
                      go_round
                      case rel =>
                        refine ⟨k + 1, by omega, by go_num, fun j hj hjk => ?_⟩
                        rcases Nat.lt_or_ge j k with h | h
                        · exact HN.out j hj h
                        · obtain rfl : j = k := by omega
                          rw [HC.out]; exact HX.out
                      case measure => simp [intOf]; omega
                  · rw [h1] at hD
                    have HDc := Lib.hid hD
                    have HX := Lib.hid (show lookU c = true by unfold lookU; rw [h1]; rfl)
                    clear hD hA h1
                    go_wp2_with fail
                    refine (HDc.out _).mono ?_
                    rintro e w' ⟨rfl, rfl⟩
                    go_wp2_with fail
                    go_round
                    case rel =>
                      refine ⟨k + 1, by omega, by go_num, fun j hj hjk => ?_⟩
                      rcases Nat.lt_or_ge j k with h | h
                      · exact HN.out j hj h
                      · obtain rfl : j = k := by omega
                        rw [HC.out]; exact HX.out
                    case measure => simp [intOf]; omega
                · have hlti : ¬ (k : Int) < (U.size : Int) := by omega
                  go_wp2_with fail
                  go_ret
                  refine ⟨ret_b ?_, rfl⟩
                  rw [HL2.out, HDD.out]
                  symm
                  rw [Bool.true_and, List.all_eq_true]
                  intro x hx
                  obtain ⟨j, hj, e⟩ := List.getElem_of_mem hx
                  rw [len_list] at hj
                  have := HN.out j hj (by omega)
                  rw [← list_at U j hj, e] at this
                  exact this
end Go.Proofs.YtimbidbpfdaocaaDoor
