/- The reference tells whether a text looks like a number, by its bytes. Conditions: the text is not too long. The reference's number of a text is told by its digits. Conditions: the text is not too long. -/
import Derived.Test.YtkliecngkcjieaaGreatDoorRpl
set_option maxRecDepth 100000
namespace Go.Proofs.YtkliecngkcjieaaGreatDoor
open Go.RowKit
open Pl On
namespace On
/-- what stands behind the first byte, if that is one of some -/
def dropU (m : List UInt8) : List UInt8 → List UInt8
  | [] => []
  | b :: t => if amU b m = true then t else b :: t
def hdB (m : List UInt8) : List UInt8 → Bool
  | [] => false
  | b :: _ => amU b m
theorem dropU_no {m l : List UInt8} (h : hdB m l = false) : dropU m l = l := by
  cases l with
  | nil => rfl
  | cons b t =>
    have h' : amU b m = false := h
    show (if amU b m = true then t else b :: t) = _
    rw [h']; rfl
theorem dropU_yes {m l : List UInt8} (h : hdB m l = true) : ∃ b t, l = b :: t ∧ dropU m l = t := by
  cases l with
  | nil => cases h
  | cons b t =>
    have h' : amU b m = true := h
    refine ⟨b, t, rfl, ?_⟩
    show (if amU b m = true then t else b :: t) = _
    rw [h']; rfl
def numU : List UInt8 := [46, 101, 69, 43, 45, 95]
def lookU (b : UInt8) : Bool := digU b || amU b numU
def behindU (l : List UInt8) : List UInt8 := dropU [46] (dropU [43, 45] l)
def looksS (l : List UInt8) : Bool := if behindU l = [] then false else digU ((behindU l).getD 0 0) && (behindU l).all lookU
theorem dropU_le (m l : List UInt8) : (dropU m l).length ≤ l.length := by
  cases l with
  | nil => exact Nat.le_refl _
  | cons b t =>
    show (if amU b m = true then t else b :: t).length ≤ _
    split <;> simp
end On
theorem lit46 (c : UInt8) : ((c.toNat : Int) == 46) = (c == 46) := by rw [show (c == 46) = decide (c = 46) from rfl]; exact u8_eq c 46
theorem atD (s : ByteArray) (k : Nat) (h : k < s.size) : s.data.toList.getD k 0 = s[k] := by
  rw [List.getD_eq_getElem?_getD, List.getElem?_eq_getElem (by rw [len_list]; exact h)]
  rfl
theorem head_of (s : ByteArray) (h : 0 < s.size) : ∃ b t, s[0] = b ∧ s.data.toList = b :: t := by
  cases hl : s.data.toList with
  | nil => have := len_list s; rw [hl, List.length_nil] at this; omega
  | cons b t =>
    refine ⟨b, t, ?_, rfl⟩
    have := atD s 0 h
    rw [hl] at this
    exact this.symm
theorem tail_of (s : ByteArray) {b : UInt8} {t : List UInt8} (h : s.data.toList = b :: t) : (s.extract 1 s.size).data.toList = t := by
  have e := ext_take s 1 (s.size - 1)
  have hl := len_list s
  rw [h, List.length_cons] at hl
  rw [show 1 + (s.size - 1) = s.size by omega, h] at e
  rw [e, List.drop_succ_cons, List.drop_zero]
  exact List.take_of_length_le (by omega)
theorem size_of (s : ByteArray) {l : List UInt8} (h : s.data.toList = l) : s.size = l.length := by rw [← h, len_list]
theorem amS (c : UInt8) (w : World) : Calls Tryz.prog 76 #[.int .u8 (c.toNat : Int), .string ⟨#[43, 45]⟩] w fun e w' => e = .returned (.bool (amU c [43, 45])) ∧ w = w' := among_any c ⟨#[43, 45]⟩ (by decide) w
theorem amN (c : UInt8) (w : World) : Calls Tryz.prog 76 #[.int .u8 (c.toNat : Int), .string ⟨#[46, 101, 69, 43, 45, 95]⟩] w fun e w' => e = .returned (.bool (amU c numU)) ∧ w = w' := among_any c ⟨#[46, 101, 69, 43, 45, 95]⟩ (by decide) w
set_option maxRecDepth 100000 in
set_option maxHeartbeats 8000000 in
theorem looks5_any (s : ByteArray) (hs : s.size ≤ 1099511627776) (w : World) : Calls Tryz.prog 53 #[.string s] w fun e w' => e = .returned (.bool (looksS s.data.toList)) ∧ w = w' := by
  obtain ⟨l, hl⟩ : ∃ l, s.data.toList = l := ⟨_, rfl⟩
  rw [hl]
  have HL := Lib.hid hl
  clear hl
  go_enter Tryz.func53, Tryz.ntmps53
  go_upto_region 1 with (fail)
  go_cut [10] (fun v wx => v = .bool (hdB [43, 45] s.data.toList) ∧ w = wx)
  case first =>
    by_cases h0 : s.size = 0
    · have hnil : s.data.toList = [] := List.eq_nil_of_length_eq_zero (by rw [len_list]; exact h0)
      have z1 : s.toList.isEmpty = true := by rw [ByteArray.toList_eq, hnil]; rfl
      have z2 : (!s.toList.isEmpty) = false := by rw [z1]; rfl
      have HN := Lib.hid hnil
      clear hnil h0
      go_wp2_with fail
      go_meet
      exact ⟨by rw [HN.out]; rfl, rfl⟩
    · have hpos : 0 < s.size := by omega
      obtain ⟨b, t, hb, hbt⟩ := head_of s hpos
      have z1 : s.toList.isEmpty = false := by rw [ByteArray.toList_eq, hbt]; rfl
      have z2 : (!s.toList.isEmpty) = true := by rw [z1]; rfl
      have HBT := Lib.hid hbt
      clear hbt h0
      have hA := fun w => amS b w
      obtain ⟨A, ha⟩ : ∃ A, amU b [43, 45] = A := ⟨_, rfl⟩
      rw [ha] at hA
      have HA := Lib.hid hA
      have HAA := Lib.hid ha
      clear hA ha
      go_wp2_with fail
      refine (HA.out _).mono ?_
      rintro e w' ⟨rfl, rfl⟩
      go_wp2_with fail
      go_meet
      exact ⟨by rw [HBT.out]; exact congrArg Value.bool HAA.out.symm, rfl⟩
  case rest =>
    obtain ⟨rfl, rfl⟩ := hcut
    go_upto_if 10 with (fail)
    go_cut [0] (fun v wx => ∃ T : ByteArray, v = .string T ∧ T.data.toList = dropU [43, 45] l ∧ T.size ≤ s.size ∧ w = wx)
    case first =>
      cases hh : hdB [43, 45] s.data.toList
      · have HH := Lib.hid hh
        clear hh
        go_wp2_with fail
        go_meet
        exact ⟨s, rfl, by rw [← HL.out, dropU_no HH.out], Nat.le_refl _, rfl⟩
      · obtain ⟨b, t, h1, h2⟩ := dropU_yes hh
        have hpos : (1 : Int) ≤ (s.size : Int) := by have := size_of s h1; rw [List.length_cons] at this; omega
        have HT2 := Lib.hid (tail_of s h1)
        have HD := Lib.hid h2
        have HB := Lib.hid h1
        clear hh h1 h2
        go_wp2_with fail
        go_meet
        exact ⟨s.extract 1 s.size, rfl, by rw [HT2.out, ← HL.out, HD.out], by have h1 := size_of _ HT2.out; have h2 := size_of _ HB.out; rw [List.length_cons] at h2; omega, rfl⟩
    case rest =>
      obtain ⟨T, rfl, hT, hTs, rfl⟩ := hcut
      have HT := Lib.hid hT
      clear hT
      go_upto_region 3 with (fail)
      go_cut [19] (fun v wx => v = .bool (hdB [46] T.data.toList) ∧ w = wx)
      case first =>
        by_cases h0 : T.size = 0
        · have hnil : T.data.toList = [] := List.eq_nil_of_length_eq_zero (by rw [len_list]; exact h0)
          have z1 : T.toList.isEmpty = true := by rw [ByteArray.toList_eq, hnil]; rfl
          have z2 : (!T.toList.isEmpty) = false := by rw [z1]; rfl
          have HN := Lib.hid hnil
          clear hnil h0
          go_wp2_with fail
          go_meet
          exact ⟨by rw [HN.out]; rfl, rfl⟩
        · have hpos : 0 < T.size := by omega
          obtain ⟨b, t, hb, hbt⟩ := head_of T hpos
          have z1 : T.toList.isEmpty = false := by rw [ByteArray.toList_eq, hbt]; rfl
          have z2 : (!T.toList.isEmpty) = true := by rw [z1]; rfl
          have HBT := Lib.hid hbt
          clear hbt h0
          have q := lit46 b
          have HQ := Lib.hid (show (b == 46) = amU b [46] by unfold amU; rw [Bool.eq_iff_iff]; simp)
          go_wp2_with fail
          go_meet
          exact ⟨by rw [HBT.out]; exact congrArg Value.bool HQ.out, rfl⟩
      case rest =>
        obtain ⟨rfl, rfl⟩ := hcut
        go_upto_if 19 with (fail)
        go_cut [0] (fun v wx => ∃ U : ByteArray, v = .string U ∧ U.data.toList = behindU l ∧ U.size ≤ s.size ∧ w = wx)
        case first =>
          cases hh : hdB [46] T.data.toList
          · have HH := Lib.hid hh
            clear hh
            go_wp2_with fail
            go_meet
            exact ⟨T, rfl, by unfold behindU; rw [← HT.out, dropU_no HH.out], hTs, rfl⟩
          · obtain ⟨b, t, h1, h2⟩ := dropU_yes hh
            have hpos : (1 : Int) ≤ (T.size : Int) := by have := size_of T h1; rw [List.length_cons] at this; omega
            have HT2 := Lib.hid (tail_of T h1)
            have HD := Lib.hid h2
            have HB := Lib.hid h1
            clear hh h1 h2
            go_wp2_with fail
            go_meet
            exact ⟨T.extract 1 T.size, rfl, by rw [HT2.out]; unfold behindU; rw [← HT.out, HD.out], by have h1 := size_of _ HT2.out; have h2 := size_of _ HB.out; rw [List.length_cons] at h2; omega, rfl⟩
        case rest =>
          obtain ⟨U, rfl, hU, hUs, rfl⟩ := hcut
          have hlook : looksS l = if U.data.toList = [] then false else digU (U.data.toList.getD 0 0) && U.data.toList.all lookU := by unfold looksS; rw [hU]
          have HLK := Lib.hid hlook
          clear hU hlook
          by_cases h0 : U.size = 0
          · have hnil : U.data.toList = [] := List.eq_nil_of_length_eq_zero (by rw [len_list]; exact h0)
            have z1 : U.toList.isEmpty = true := by rw [ByteArray.toList_eq, hnil]; rfl
            have HN := Lib.hid hnil
            clear hnil h0
            go_wp2_with fail
            go_ret
            exact ⟨ret_b (by rw [HLK.out, if_pos HN.out]), rfl⟩
          · have hpos : 0 < U.size := by omega
            obtain ⟨b, t, hb, hbt⟩ := head_of U hpos
            have z1 : U.toList.isEmpty = false := by rw [ByteArray.toList_eq, hbt]; rfl
            have hlk2 : looksS l = (digU b && U.data.toList.all lookU) := by rw [HLK.out, if_neg (by rw [hbt]; simp)]; rw [hbt]; rfl
            have HL2 := Lib.hid hlk2
            have hD := fun w => Digit_any b w
            clear hbt h0 hlk2
            cases hd : digU b
            · rw [hd] at hD
              have HD := Lib.hid hD
              have HDD := Lib.hid hd
              clear hD hd
              go_wp2_with fail
              refine (HD.out _).mono ?_
              rintro e w' ⟨rfl, rfl⟩
              go_wp2_with fail
              go_ret
              exact ⟨ret_b (by rw [HL2.out, HDD.out]; rfl), rfl⟩
            · rw [hd] at hD
              have HD := Lib.hid hD
              have HDD := Lib.hid hd
              clear hD hd
              go_wp2_with fail
              refine (HD.out _).mono ?_
              rintro e w' ⟨rfl, rfl⟩
              go_wp2_with fail
              go_loop [3] (fun i => ∃ k : Nat, k ≤ U.size ∧ i = .int .i64 k ∧ ∀ j (hj : j < U.size), j < k → lookU U[j] = true) (fun i => U.size - (intOf i).toNat)
              case atStart => exact ⟨0, Nat.zero_le _, rfl, fun j _ hj => absurd hj (Nat.not_lt_zero _)⟩
              case round =>
                obtain ⟨k, hk, rfl, hne⟩ := hrel
                have HN := Lib.hid hne
                clear hne
                by_cases hlt : k < U.size
                · have hlti : (k : Int) < (U.size : Int) := by omega
                  have hm : U[k] ∈ U.data.toList := by rw [← list_at U k hlt]; exact List.getElem_mem _
                  obtain ⟨c, hc⟩ : ∃ c, U[k] = c := ⟨_, rfl⟩
                  rw [hc] at hm
                  have HM := Lib.hid hm
                  have HC := Lib.hid hc
                  have hD := fun w => Digit_any c w
                  have hA := fun w => amN c w
                  clear hm hb
                  cases h1 : digU c
                  · rw [h1] at hD
                    have HDc := Lib.hid hD
                    cases h2 : amU c numU
                    · rw [h2] at hA
                      have HAc := Lib.hid hA
                      have HX := Lib.hid (show lookU c = false by unfold lookU; rw [h1, h2]; rfl)
                      clear hD hA h1 h2
                      go_wp2_with fail
                      refine (HDc.out _).mono ?_
                      rintro e w' ⟨rfl, rfl⟩
                      go_wp2_with fail
                      refine (HAc.out _).mono ?_
                      rintro e w' ⟨rfl, rfl⟩
                      go_wp2_with fail
                      go_ret
                      refine ⟨ret_b ?_, rfl⟩
                      rw [HL2.out, HDD.out]
                      symm
                      rw [Bool.true_and, List.all_eq_false]
                      exact ⟨c, HM.out, by rw [HX.out]; decide⟩
                    · rw [h2] at hA
                      have HAc := Lib.hid hA
                      have HX := Lib.hid (show lookU c = true by unfold lookU; rw [h1, h2]; rfl)
                      clear hD hA h1 h2
                      go_wp2_with fail
                      refine (HDc.out _).mono ?_
                      rintro e w' ⟨rfl, rfl⟩
                      go_wp2_with fail
                      refine (HAc.out _).mono ?_
                      rintro e w' ⟨rfl, rfl⟩
                      go_wp2_with fail
                      go_round
                      case rel =>
                        refine ⟨k + 1, by omega, by go_num, fun j hj hjk => ?_⟩
                        rcases Nat.lt_or_ge j k with h | h
                        · exact HN.out j hj h
                        · obtain rfl : j = k := by omega
                          rw [HC.out]; exact HX.out
                      case measure => simp [intOf]; omega
                  · rw [h1] at hD
                    have HDc := Lib.hid hD
                    have HX := Lib.hid (show lookU c = true by unfold lookU; rw [h1]; rfl)
                    clear hD hA h1
                    go_wp2_with fail
                    refine (HDc.out _).mono ?_
                    rintro e w' ⟨rfl, rfl⟩
                    go_wp2_with fail
                    go_round
                    case rel =>
                      refine ⟨k + 1, by omega, by go_num, fun j hj hjk => ?_⟩
                      rcases Nat.lt_or_ge j k with h | h
                      · exact HN.out j hj h
                      · obtain rfl : j = k := by omega
                        rw [HC.out]; exact HX.out
                    case measure => simp [intOf]; omega
                · have hlti : ¬ (k : Int) < (U.size : Int) := by omega
                  go_wp2_with fail
                  go_ret
                  refine ⟨ret_b ?_, rfl⟩
                  rw [HL2.out, HDD.out]
                  symm
                  rw [Bool.true_and, List.all_eq_true]
                  intro x hx
                  obtain ⟨j, hj, e⟩ := List.getElem_of_mem hx
                  rw [len_list] at hj
                  have := HN.out j hj (by omega)
                  rw [← list_at U j hj, e] at this
                  exact this
end Go.Proofs.YtkliecngkcjieaaGreatDoor

set_option maxRecDepth 100000
namespace Go.Proofs.YtkliecngkcjieaaGreatDoor
open Go.RowKit
open Pl On
namespace On
def stepD (n : Nat) (b : UInt8) : Nat := 10 * n + (b.toNat - 48)
def valD (l : List UInt8) : Nat := l.foldl stepD 0
/-- are some bytes the digits of a number that is written as l -/
def okD (l d : List UInt8) : Bool := (!d.isEmpty && decide (d.length ≤ 15)) && (!(d.getD 0 0 == 48 && !(l == [48])) && d.all digU)
def numS (l : List UInt8) : Option Int :=
  if l.getD 0 0 = 45 ∧ l ≠ [] then (if okD l (l.drop 1) = true then some (-(valD (l.drop 1) : Int)) else none)
  else (if okD l l = true then some (valD l : Int) else none)
theorem fold_lt : ∀ (l : List UInt8) (u : Nat), (∀ b ∈ l, digU b = true) → l.foldl stepD u < (u + 1) * 10 ^ l.length
  | [], u, _ => by simp
  | b :: t, u, h => by
    have hb : 48 ≤ b.toNat ∧ b.toNat ≤ 57 := of_decide_eq_true (h b (by simp))
    have ih := fold_lt t (stepD u b) (fun c hc => h c (List.mem_cons_of_mem _ hc))
    rw [List.foldl_cons, List.length_cons, Nat.pow_succ]
    refine Nat.lt_of_lt_of_le ih ?_
    have h1 : stepD u b + 1 ≤ (u + 1) * 10 := by unfold stepD; omega
    calc (stepD u b + 1) * 10 ^ t.length ≤ ((u + 1) * 10) * 10 ^ t.length := Nat.mul_le_mul_right _ h1
      _ = (u + 1) * (10 ^ t.length * 10) := by rw [Nat.mul_assoc, Nat.mul_comm 10]
theorem valD_lt (l : List UInt8) (h : ∀ b ∈ l, digU b = true) (hl : l.length ≤ 15) : valD l < 1000000000000000 := by
  have h1 := fold_lt l 0 h
  have h2 : 10 ^ l.length ≤ 10 ^ 15 := Nat.pow_le_pow_right (by decide) hl
  have h3 : (10 : Nat) ^ 15 = 1000000000000000 := by decide
  unfold valD
  omega
theorem valD_snoc (l : List UInt8) (b : UInt8) : valD (l ++ [b]) = 10 * valD l + (b.toNat - 48) := by unfold valD; rw [List.foldl_append]; rfl
end On
theorem lit45 (c : UInt8) : ((c.toNat : Int) == 45) = (c == 45) := by rw [show (c == 45) = decide (c = 45) from rfl]; exact u8_eq c 45
theorem lit48 (c : UInt8) : ((c.toNat : Int) == 48) = (c == 48) := by rw [show (c == 48) = decide (c = 48) from rfl]; exact u8_eq c 48
def numV : Option Int → Value
  | some n => .tuple #[.int .i64 n, .bool true]
  | none => .tuple #[.int .i64 0, .bool false]
theorem take_snocD (D : ByteArray) (k : Nat) (h : k < D.size) : D.data.toList.take (k + 1) = D.data.toList.take k ++ [D[k]] := by
  rw [List.take_succ_eq_append_getElem (by rw [len_list]; exact h)]; rfl
theorem ret_v5 {x y : Value} (h : x = y) : Ending.returned x = Ending.returned y := by rw [h]
set_option maxRecDepth 100000 in
set_option maxHeartbeats 8000000 in
theorem number_below (s D : ByteArray) (hs : s.size ≤ 1099511627776) (hpos : 0 < s.size) (hD : s.extract 1 s.size = D) (hb : s[0]'hpos = 45) (w : World) :
    Calls Tryz.prog 54 #[.string s] w fun e w' => e = .returned (numV (if okD s.data.toList D.data.toList = true then some (-(valD D.data.toList : Int)) else none)) ∧ w = w' := by
  obtain ⟨l, hl⟩ : ∃ l, s.data.toList = l := ⟨_, rfl⟩
  rw [hl]
  have hne : l ≠ [] := by intro h; have := len_list s; rw [hl, h, List.length_nil] at this; omega
  have z1 : s.toList.isEmpty = false := by rw [ByteArray.toList_eq, hl]; simpa using hne
  have z2 : (!s.toList.isEmpty) = true := by rw [z1]; rfl
  have HL := Lib.hid hl
  obtain ⟨R, hR⟩ : ∃ R, (if okD l D.data.toList = true then some (-(valD D.data.toList : Int)) else none) = R := ⟨_, rfl⟩
  rw [hR]
  have HR := Lib.hid hR
  have h1 : (1 : Int) ≤ (s.size : Int) := by omega
  have hDs : D.size ≤ s.size := by rw [← hD]; simp [ByteArray.size_extract]
  clear hl hne hR
  by_cases h0 : D.size = 0
  · have hnil : D.data.toList = [] := List.eq_nil_of_length_eq_zero (by rw [len_list]; exact h0)
    have y1 : D.toList.isEmpty = true := by rw [ByteArray.toList_eq, hnil]; rfl
    have HK := Lib.hid (show okD l D.data.toList = false by unfold okD; rw [hnil]; rfl)
    clear hnil h0
    go_enter Tryz.func54, Tryz.ntmps54
    go_upto_region 5 with (fail)
    go_wp2_with fail
    go_ret2
    exact ⟨ret_v5 (by rw [← HR.out, HK.out]; rfl), rfl⟩
  have dpos : 0 < D.size := by omega
  obtain ⟨d0, t0, hd0, hdt⟩ := head_of D dpos
  have y1 : D.toList.isEmpty = false := by rw [ByteArray.toList_eq, hdt]; rfl
  have HDT := Lib.hid hdt
  clear hdt h0
  by_cases h15 : 15 < D.size
  · have x15 : (15 : Int) < (D.size : Int) := by omega
    have HK := Lib.hid (show okD l D.data.toList = false by unfold okD; rw [decide_eq_false (by rw [len_list]; omega)]; simp)
    go_enter Tryz.func54, Tryz.ntmps54
    go_upto_region 5 with (fail)
    go_wp2_with fail
    go_ret2
    exact ⟨ret_v5 (by rw [← HR.out, HK.out]; rfl), rfl⟩
  have x15 : ¬ (15 : Int) < (D.size : Int) := by omega
  have q48 := lit48 d0
  have HG0 := Lib.hid (show D.data.toList.getD 0 0 = d0 by rw [HDT.out]; rfl)
  have hfirst : (d0 == 48 && !(l == [48])) = true ∨ (d0 == 48 && !(l == [48])) = false := by cases (d0 == 48 && !(l == [48])) <;> simp
  rcases hfirst with hf | hf
  · have HK := Lib.hid (show okD l D.data.toList = false by unfold okD; rw [HG0.out, hf]; simp)
    rw [Bool.and_eq_true] at hf
    obtain ⟨f1, f2⟩ := hf
    rw [f1] at q48
    have y3 : (s.toList == [48]) = false := by rw [ByteArray.toList_eq, HL.out]; simpa using f2
    have y4 : (!(s.toList == [48])) = true := by rw [y3]; rfl
    have y5 : (s.toList != [48]) = true := by unfold bne; rw [y3]; rfl
    clear f1 f2
    go_enter Tryz.func54, Tryz.ntmps54
    go_upto_region 5 with (fail)
    go_wp2_with fail
    go_ret2
    exact ⟨ret_v5 (by rw [← HR.out, HK.out]; rfl), rfl⟩
  have HF := Lib.hid hf
  have hcase : (d0 == 48) = false ∨ ((d0 == 48) = true ∧ (l == [48]) = true) := by
    cases h1 : (d0 == 48)
    · exact .inl rfl
    · rw [h1] at hf; exact .inr ⟨rfl, by simpa using hf⟩
  clear hf
  rcases hcase with h48 | ⟨h48, hl48⟩
  · rw [h48] at q48
    go_enter Tryz.func54, Tryz.ntmps54
    go_upto_region 5 with (fail)
    go_wp2_with fail
    go_loop [6, 7] (fun n i => ∃ k : Nat, k ≤ D.size ∧ i = .int .i64 k ∧ n = .int .i64 (valD (D.data.toList.take k) : Int) ∧ ∀ b ∈ D.data.toList.take k, digU b = true) (fun _ i => D.size - (intOf i).toNat)
    case atStart => exact ⟨0, Nat.zero_le _, rfl, rfl, fun b hb => by simp at hb⟩
    case round =>
      obtain ⟨k, hk, rfl, rfl, hall⟩ := hrel
      have hv := valD_lt _ hall (by rw [List.length_take]; omega)
      have HA := Lib.hid hall
      clear hall
      by_cases hlt : k < D.size
      · have hlti : (k : Int) < (D.size : Int) := by omega
        have hsn := take_snocD D k hlt
        have hmem : D[k] ∈ D.data.toList := by rw [← list_at D k hlt]; exact List.getElem_mem _
        obtain ⟨c, hc⟩ : ∃ c, D[k] = c := ⟨_, rfl⟩
        rw [hc] at hsn hmem
        have hDg := fun w => Digit_any c w
        have HM := Lib.hid hmem
        have HSN := Lib.hid hsn
        clear hsn hmem hd0
        cases hdg : digU c
        · rw [hdg] at hDg
          have HDG := Lib.hid hDg
          have HK := Lib.hid (show okD l D.data.toList = false by
            unfold okD
            rw [show D.data.toList.all digU = false from by rw [List.all_eq_false]; exact ⟨c, HM.out, by rw [hdg]; decide⟩]
            simp)
          clear hDg hdg
          go_wp2_with fail
          refine (HDG.out _).mono ?_
          rintro e w' ⟨rfl, rfl⟩
          go_wp2_with fail
          go_ret2
          exact ⟨ret_v5 (by rw [← HR.out, HK.out]; rfl), rfl⟩
        · rw [hdg] at hDg
          have HDG := Lib.hid hDg
          have c1 : 48 ≤ c.toNat ∧ c.toNat ≤ 57 := of_decide_eq_true hdg
          have HX := Lib.hid hdg
          have c2 : (48 : Int) ≤ (c.toNat : Int) := by omega
          have c3 : (c.toNat : Int) ≤ 57 := by omega
          clear hDg hdg
          go_wp2_with fail
          refine (HDG.out _).mono ?_
          rintro e w' ⟨rfl, rfl⟩
          go_wp2_with fail
          go_round
          case rel =>
            refine ⟨k + 1, by omega, by go_num, congrArg (Value.int .i64) ?_, fun b hb => ?_⟩
            · rw [HSN.out, valD_snoc]; omega
            · rw [HSN.out, List.mem_append, List.mem_singleton] at hb
              rcases hb with hb | rfl
              · exact HA.out b hb
              · exact HX.out
          case measure => simp [intOf]; omega
      · have hlti : ¬ (k : Int) < (D.size : Int) := by omega
        have hke : D.data.toList.take k = D.data.toList := List.take_of_length_le (by rw [len_list]; omega)
        have hall := HA.out
        rw [hke] at hall hv
        have HK := Lib.hid (show okD l D.data.toList = true by
          unfold okD
          rw [HG0.out, HF.out, decide_eq_true (by rw [len_list]; omega), List.all_eq_true.2 hall, HDT.out]
          rfl)
        have HKE := Lib.hid hke
        have HAL := Lib.hid hall
        clear hke hall
        obtain ⟨V, hV⟩ : ∃ V, valD (D.data.toList.take k) = V := ⟨_, rfl⟩
        have hV2 : V < 1000000000000000 := by rw [← hV, HKE.out]; exact hv
        rw [hV]
        have HV := Lib.hid hV
        clear hV hv
        go_wp2_with fail
        go_ret2
        exact ⟨ret_v5 (by rw [← HR.out, if_pos HK.out, ← HKE.out, HV.out]; rfl), rfl⟩
  · rw [h48] at q48
    have y3 : (s.toList == [48]) = true := by rw [ByteArray.toList_eq, HL.out]; exact hl48
    have y4 : (!(s.toList == [48])) = false := by rw [y3]; rfl
    have y5 : (s.toList != [48]) = false := by unfold bne; rw [y3]; rfl
    clear hl48
    go_enter Tryz.func54, Tryz.ntmps54
    go_upto_region 5 with (fail)
    go_wp2_with fail
    go_loop [6, 7] (fun n i => ∃ k : Nat, k ≤ D.size ∧ i = .int .i64 k ∧ n = .int .i64 (valD (D.data.toList.take k) : Int) ∧ ∀ b ∈ D.data.toList.take k, digU b = true) (fun _ i => D.size - (intOf i).toNat)
    case atStart => exact ⟨0, Nat.zero_le _, rfl, rfl, fun b hb => by simp at hb⟩
    case round =>
      obtain ⟨k, hk, rfl, rfl, hall⟩ := hrel
      have hv := valD_lt _ hall (by rw [List.length_take]; omega)
      have HA := Lib.hid hall
      clear hall
      by_cases hlt : k < D.size
      · have hlti : (k : Int) < (D.size : Int) := by omega
        have hsn := take_snocD D k hlt
        have hmem : D[k] ∈ D.data.toList := by rw [← list_at D k hlt]; exact List.getElem_mem _
        obtain ⟨c, hc⟩ : ∃ c, D[k] = c := ⟨_, rfl⟩
        rw [hc] at hsn hmem
        have hDg := fun w => Digit_any c w
        have HM := Lib.hid hmem
        have HSN := Lib.hid hsn
        clear hsn hmem hd0
        cases hdg : digU c
        · rw [hdg] at hDg
          have HDG := Lib.hid hDg
          have HK := Lib.hid (show okD l D.data.toList = false by
            unfold okD
            rw [show D.data.toList.all digU = false from by rw [List.all_eq_false]; exact ⟨c, HM.out, by rw [hdg]; decide⟩]
            simp)
          clear hDg hdg
          go_wp2_with fail
          refine (HDG.out _).mono ?_
          rintro e w' ⟨rfl, rfl⟩
          go_wp2_with fail
          go_ret2
          exact ⟨ret_v5 (by rw [← HR.out, HK.out]; rfl), rfl⟩
        · rw [hdg] at hDg
          have HDG := Lib.hid hDg
          have c1 : 48 ≤ c.toNat ∧ c.toNat ≤ 57 := of_decide_eq_true hdg
          have HX := Lib.hid hdg
          have c2 : (48 : Int) ≤ (c.toNat : Int) := by omega
          have c3 : (c.toNat : Int) ≤ 57 := by omega
          clear hDg hdg
          go_wp2_with fail
          refine (HDG.out _).mono ?_
          rintro e w' ⟨rfl, rfl⟩
          go_wp2_with fail
          go_round
          case rel =>
            refine ⟨k + 1, by omega, by go_num, congrArg (Value.int .i64) ?_, fun b hb => ?_⟩
            · rw [HSN.out, valD_snoc]; omega
            · rw [HSN.out, List.mem_append, List.mem_singleton] at hb
              rcases hb with hb | rfl
              · exact HA.out b hb
              · exact HX.out
          case measure => simp [intOf]; omega
      · have hlti : ¬ (k : Int) < (D.size : Int) := by omega
        have hke : D.data.toList.take k = D.data.toList := List.take_of_length_le (by rw [len_list]; omega)
        have hall := HA.out
        rw [hke] at hall hv
        have HK := Lib.hid (show okD l D.data.toList = true by
          unfold okD
          rw [HG0.out, HF.out, decide_eq_true (by rw [len_list]; omega), List.all_eq_true.2 hall, HDT.out]
          rfl)
        have HKE := Lib.hid hke
        have HAL := Lib.hid hall
        clear hke hall
        obtain ⟨V, hV⟩ : ∃ V, valD (D.data.toList.take k) = V := ⟨_, rfl⟩
        have hV2 : V < 1000000000000000 := by rw [← hV, HKE.out]; exact hv
        rw [hV]
        have HV := Lib.hid hV
        clear hV hv
        go_wp2_with fail
        go_ret2
        exact ⟨ret_v5 (by rw [← HR.out, if_pos HK.out, ← HKE.out, HV.out]; rfl), rfl⟩
set_option maxRecDepth 100000 in
set_option maxHeartbeats 8000000 in
theorem number_plain (s D : ByteArray) (hs : s.size ≤ 1099511627776) (hpos : 0 < s.size) (hD : s = D) (b0 : UInt8) (hb : s[0]'hpos = b0) (hb0 : (b0 == 45) = false) (w : World) :
    Calls Tryz.prog 54 #[.string s] w fun e w' => e = .returned (numV (if okD s.data.toList D.data.toList = true then some (valD D.data.toList : Int) else none)) ∧ w = w' := by
  obtain ⟨l, hl⟩ : ∃ l, s.data.toList = l := ⟨_, rfl⟩
  rw [hl]
  have hne : l ≠ [] := by intro h; have := len_list s; rw [hl, h, List.length_nil] at this; omega
  have z1 : s.toList.isEmpty = false := by rw [ByteArray.toList_eq, hl]; simpa using hne
  have z2 : (!s.toList.isEmpty) = true := by rw [z1]; rfl
  have HL := Lib.hid hl
  obtain ⟨R, hR⟩ : ∃ R, (if okD l D.data.toList = true then some (valD D.data.toList : Int) else none) = R := ⟨_, rfl⟩
  rw [hR]
  have HR := Lib.hid hR
  have q45 := lit45 b0
  rw [hb0] at q45
  subst hD
  have hDs : s.size ≤ s.size := Nat.le_refl _
  clear hl hne hR hb0
  by_cases h0 : s.size = 0
  · omega
  have dpos : 0 < s.size := by omega
  obtain ⟨d0, t0, hd0, hdt⟩ := head_of s dpos
  obtain rfl : d0 = b0 := hd0.symm.trans hb
  have y1 : s.toList.isEmpty = false := by rw [ByteArray.toList_eq, hdt]; rfl
  have HDT := Lib.hid hdt
  clear hdt h0
  by_cases h15 : 15 < s.size
  · have x15 : (15 : Int) < (s.size : Int) := by omega
    have HK := Lib.hid (show okD l s.data.toList = false by unfold okD; rw [decide_eq_false (by rw [len_list]; omega)]; simp)
    go_enter Tryz.func54, Tryz.ntmps54
    go_upto_region 5 with (fail)
    go_wp2_with fail
    go_ret2
    exact ⟨ret_v5 (by rw [← HR.out, HK.out]; rfl), rfl⟩
  have x15 : ¬ (15 : Int) < (s.size : Int) := by omega
  have q48 := lit48 d0
  have HG0 := Lib.hid (show s.data.toList.getD 0 0 = d0 by rw [HDT.out]; rfl)
  have hfirst : (d0 == 48 && !(l == [48])) = true ∨ (d0 == 48 && !(l == [48])) = false := by cases (d0 == 48 && !(l == [48])) <;> simp
  rcases hfirst with hf | hf
  · have HK := Lib.hid (show okD l s.data.toList = false by unfold okD; rw [HG0.out, hf]; simp)
    rw [Bool.and_eq_true] at hf
    obtain ⟨f1, f2⟩ := hf
    rw [f1] at q48
    have y3 : (s.toList == [48]) = false := by rw [ByteArray.toList_eq, HL.out]; simpa using f2
    have y4 : (!(s.toList == [48])) = true := by rw [y3]; rfl
    have y5 : (s.toList != [48]) = true := by unfold bne; rw [y3]; rfl
    clear f1 f2
    go_enter Tryz.func54, Tryz.ntmps54
    go_upto_region 5 with (fail)
    go_wp2_with fail
    go_ret2
    exact ⟨ret_v5 (by rw [← HR.out, HK.out]; rfl), rfl⟩
  have HF := Lib.hid hf
  have hcase : (d0 == 48) = false ∨ ((d0 == 48) = true ∧ (l == [48]) = true) := by
    cases h1 : (d0 == 48)
    · exact .inl rfl
    · rw [h1] at hf; exact .inr ⟨rfl, by simpa using hf⟩
  clear hf
  rcases hcase with h48 | ⟨h48, hl48⟩
  · rw [h48] at q48
    go_enter Tryz.func54, Tryz.ntmps54
    go_upto_region 5 with (fail)
    go_wp2_with fail
    go_loop [6, 7] (fun n i => ∃ k : Nat, k ≤ s.size ∧ i = .int .i64 k ∧ n = .int .i64 (valD (s.data.toList.take k) : Int) ∧ ∀ b ∈ s.data.toList.take k, digU b = true) (fun _ i => s.size - (intOf i).toNat)
    case atStart => exact ⟨0, Nat.zero_le _, rfl, rfl, fun b hb => by simp at hb⟩
    case round =>
      obtain ⟨k, hk, rfl, rfl, hall⟩ := hrel
      have hv := valD_lt _ hall (by rw [List.length_take]; omega)
      have HA := Lib.hid hall
      clear hall
      by_cases hlt : k < s.size
      · have hlti : (k : Int) < (s.size : Int) := by omega
        have hsn := take_snocD s k hlt
        have hmem : s[k] ∈ s.data.toList := by rw [← list_at s k hlt]; exact List.getElem_mem _
        obtain ⟨c, hc⟩ : ∃ c, s[k] = c := ⟨_, rfl⟩
        rw [hc] at hsn hmem
        have hDg := fun w => Digit_any c w
        have HM := Lib.hid hmem
        have HSN := Lib.hid hsn
        clear hsn hmem hd0 hb
        cases hdg : digU c
        · rw [hdg] at hDg
          have HDG := Lib.hid hDg
          have HK := Lib.hid (show okD l s.data.toList = false by
            unfold okD
            rw [show s.data.toList.all digU = false from by rw [List.all_eq_false]; exact ⟨c, HM.out, by rw [hdg]; decide⟩]
            simp)
          clear hDg hdg
          go_wp2_with fail
          refine (HDG.out _).mono ?_
          rintro e w' ⟨rfl, rfl⟩
          go_wp2_with fail
          go_ret2
          exact ⟨ret_v5 (by rw [← HR.out, HK.out]; rfl), rfl⟩
        · rw [hdg] at hDg
          have HDG := Lib.hid hDg
          have c1 : 48 ≤ c.toNat ∧ c.toNat ≤ 57 := of_decide_eq_true hdg
          have HX := Lib.hid hdg
          have c2 : (48 : Int) ≤ (c.toNat : Int) := by omega
          have c3 : (c.toNat : Int) ≤ 57 := by omega
          clear hDg hdg
          go_wp2_with fail
          refine (HDG.out _).mono ?_
          rintro e w' ⟨rfl, rfl⟩
          go_wp2_with fail
          go_round
          case rel =>
            refine ⟨k + 1, by omega, by go_num, congrArg (Value.int .i64) ?_, fun b hb => ?_⟩
            · rw [HSN.out, valD_snoc]; omega
            · rw [HSN.out, List.mem_append, List.mem_singleton] at hb
              rcases hb with hb | rfl
              · exact HA.out b hb
              · exact HX.out
          case measure => simp [intOf]; omega
      · have hlti : ¬ (k : Int) < (s.size : Int) := by omega
        have hke : s.data.toList.take k = s.data.toList := List.take_of_length_le (by rw [len_list]; omega)
        have hall := HA.out
        rw [hke] at hall hv
        have HK := Lib.hid (show okD l s.data.toList = true by
          unfold okD
          rw [HG0.out, HF.out, decide_eq_true (by rw [len_list]; omega), List.all_eq_true.2 hall, HDT.out]
          rfl)
        have HKE := Lib.hid hke
        have HAL := Lib.hid hall
        clear hke hall
        obtain ⟨V, hV⟩ : ∃ V, valD (s.data.toList.take k) = V := ⟨_, rfl⟩
        have hV2 : V < 1000000000000000 := by rw [← hV, HKE.out]; exact hv
        rw [hV]
        have HV := Lib.hid hV
        clear hV hv
        go_wp2_with fail
        go_ret2
        exact ⟨ret_v5 (by rw [← HR.out, if_pos HK.out, ← HKE.out, HV.out]; rfl), rfl⟩
  · rw [h48] at q48
    have y3 : (s.toList == [48]) = true := by rw [ByteArray.toList_eq, HL.out]; exact hl48
    have y4 : (!(s.toList == [48])) = false := by rw [y3]; rfl
    have y5 : (s.toList != [48]) = false := by unfold bne; rw [y3]; rfl
    clear hl48
    go_enter Tryz.func54, Tryz.ntmps54
    go_upto_region 5 with (fail)
    go_wp2_with fail
    go_loop [6, 7] (fun n i => ∃ k : Nat, k ≤ s.size ∧ i = .int .i64 k ∧ n = .int .i64 (valD (s.data.toList.take k) : Int) ∧ ∀ b ∈ s.data.toList.take k, digU b = true) (fun _ i => s.size - (intOf i).toNat)
    case atStart => exact ⟨0, Nat.zero_le _, rfl, rfl, fun b hb => by simp at hb⟩
    case round =>
      obtain ⟨k, hk, rfl, rfl, hall⟩ := hrel
      have hv := valD_lt _ hall (by rw [List.length_take]; omega)
      have HA := Lib.hid hall
      clear hall
      by_cases hlt : k < s.size
      · have hlti : (k : Int) < (s.size : Int) := by omega
        have hsn := take_snocD s k hlt
        have hmem : s[k] ∈ s.data.toList := by rw [← list_at s k hlt]; exact List.getElem_mem _
        obtain ⟨c, hc⟩ : ∃ c, s[k] = c := ⟨_, rfl⟩
        rw [hc] at hsn hmem
        have hDg := fun w => Digit_any c w
        have HM := Lib.hid hmem
        have HSN := Lib.hid hsn
        clear hsn hmem hd0 hb
        cases hdg : digU c
        · rw [hdg] at hDg
          have HDG := Lib.hid hDg
          have HK := Lib.hid (show okD l s.data.toList = false by
            unfold okD
            rw [show s.data.toList.all digU = false from by rw [List.all_eq_false]; exact ⟨c, HM.out, by rw [hdg]; decide⟩]
            simp)
          clear hDg hdg
          go_wp2_with fail
          refine (HDG.out _).mono ?_
          rintro e w' ⟨rfl, rfl⟩
          go_wp2_with fail
          go_ret2
          exact ⟨ret_v5 (by rw [← HR.out, HK.out]; rfl), rfl⟩
        · rw [hdg] at hDg
          have HDG := Lib.hid hDg
          have c1 : 48 ≤ c.toNat ∧ c.toNat ≤ 57 := of_decide_eq_true hdg
          have HX := Lib.hid hdg
          have c2 : (48 : Int) ≤ (c.toNat : Int) := by omega
          have c3 : (c.toNat : Int) ≤ 57 := by omega
          clear hDg hdg
          go_wp2_with fail
          refine (HDG.out _).mono ?_
          rintro e w' ⟨rfl, rfl⟩
          go_wp2_with fail
          go_round
          case rel =>
            refine ⟨k + 1, by omega, by go_num, congrArg (Value.int .i64) ?_, fun b hb => ?_⟩
            · rw [HSN.out, valD_snoc]; omega
            · rw [HSN.out, List.mem_append, List.mem_singleton] at hb
              rcases hb with hb | rfl
              · exact HA.out b hb
              · exact HX.out
          case measure => simp [intOf]; omega
      · have hlti : ¬ (k : Int) < (s.size : Int) := by omega
        have hke : s.data.toList.take k = s.data.toList := List.take_of_length_le (by rw [len_list]; omega)
        have hall := HA.out
        rw [hke] at hall hv
        have HK := Lib.hid (show okD l s.data.toList = true by
          unfold okD
          rw [HG0.out, HF.out, decide_eq_true (by rw [len_list]; omega), List.all_eq_true.2 hall, HDT.out]
          rfl)
        have HKE := Lib.hid hke
        have HAL := Lib.hid hall
        clear hke hall
        obtain ⟨V, hV⟩ : ∃ V, valD (s.data.toList.take k) = V := ⟨_, rfl⟩
        have hV2 : V < 1000000000000000 := by rw [← hV, HKE.out]; exact hv
        rw [hV]
        have HV := Lib.hid hV
        clear hV hv
        go_wp2_with fail
        go_ret2
        exact ⟨ret_v5 (by rw [← HR.out, if_pos HK.out, ← HKE.out, HV.out]; rfl), rfl⟩
theorem number5_any (s : ByteArray) (hs : s.size ≤ 1099511627776) (w : World) : Calls Tryz.prog 54 #[.string s] w fun e w' => e = .returned (numV (numS s.data.toList)) ∧ w = w' := by
  by_cases h0 : s.size = 0
  · have hnil : s.data.toList = [] := List.eq_nil_of_length_eq_zero (by rw [len_list]; exact h0)
    rw [hnil]
    have z1 : s.toList.isEmpty = true := by rw [ByteArray.toList_eq, hnil]; rfl
    have z2 : (!s.toList.isEmpty) = false := by rw [z1]; rfl
    clear hnil h0
    go_enter Tryz.func54, Tryz.ntmps54
    go_wp2_with fail
    go_ret2
    exact ⟨rfl, rfl⟩
  · have hpos : 0 < s.size := by omega
    obtain ⟨b, t, hb, hbt⟩ := head_of s hpos
    unfold numS
    by_cases h45 : b = 45
    · rw [if_pos ⟨by rw [hbt]; exact h45, by rw [hbt]; simp⟩]
      have ht := tail_of s hbt
      have h1 := number_below s _ hs hpos rfl (by rw [hb]; exact h45) w
      rw [ht] at h1
      rw [hbt] at h1 ⊢
      exact h1
    · rw [if_neg (fun h => h45 (by have := h.1; rw [hbt] at this; exact this))]
      exact number_plain s s hs hpos rfl b hb (by simpa using h45) w
end Go.Proofs.YtkliecngkcjieaaGreatDoor
