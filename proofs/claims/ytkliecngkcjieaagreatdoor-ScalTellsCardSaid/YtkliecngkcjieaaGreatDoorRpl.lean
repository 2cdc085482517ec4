/- The reference tells whether a text is right, and whether all its signs are plain; a digit, and whether a byte is among some. Conditions: the text is not too long. -/
import Derived.Test.YtkliecngkcjieaaGreatDoorRsn
import Derived.Lib.SmallJoins
set_option maxRecDepth 100000
namespace Go.Proofs.YtkliecngkcjieaaGreatDoor
open Go.RowKit
open Pl On
namespace On
def plainI (r : Int) : Bool := decide (32 ≤ r ∧ r ≠ 127)
/-- is a text right, all its signs plain -/
def plainS (l : List UInt8) : Bool := if Go.Lib.validD l = true then (runesOf l).all plainI else false
def digU (b : UInt8) : Bool := decide (48 ≤ b.toNat ∧ b.toNat ≤ 57)
def amU (c : UInt8) (l : List UInt8) : Bool := decide (c ∈ l)
end On
set_option maxRecDepth 100000 in
theorem PlainI_any (r : Int) (w : World) : Calls Tryz.prog 57 #[.int .i64 r] w fun e w' => e = .returned (.bool (plainI r)) ∧ w = w' := by
  go_enter Tryz.func57, Tryz.ntmps57
  go_wp2
  all_goals
    go_ret
    refine ⟨ret_b ?_, rfl⟩
    unfold plainI
    rw [Bool.eq_iff_iff]
    simp
    omega
set_option maxRecDepth 100000 in
theorem Digit_any (b : UInt8) (w : World) : Calls Tryz.prog 77 #[.int .u8 (b.toNat : Int)] w fun e w' => e = .returned (.bool (digU b)) ∧ w = w' := by
  go_enter Tryz.func77, Tryz.ntmps77
  go_wp2
  all_goals
    go_ret
    refine ⟨ret_b ?_, rfl⟩
    unfold digU
    rw [Bool.eq_iff_iff]
    simp
    omega
theorem u8_eq (x y : UInt8) : ((x.toNat : Int) == (y.toNat : Int)) = decide (x = y) := by
  rw [Bool.eq_iff_iff, beq_iff_eq, decide_eq_true_iff]
  constructor
  · intro h; exact UInt8.toNat_inj.1 (by omega)
  · rintro rfl; rfl
theorem list_at (s : ByteArray) (k : Nat) (h : k < s.size) : s.data.toList[k]'(by rw [len_list]; exact h) = s[k] := rfl
set_option maxHeartbeats 1000000 in
theorem among_any (c : UInt8) (l : ByteArray) (hl : l.size ≤ 1000) (w : World) :
    Calls Tryz.prog 76 #[.int .u8 (c.toNat : Int), .string l] w fun e w' => e = .returned (.bool (amU c l.data.toList)) ∧ w = w' := by
  go_enter Tryz.func76, Tryz.ntmps76
  go_wp2
  go_loop [5] (fun i => ∃ k : Nat, k ≤ l.size ∧ i = .int .i64 k ∧ ∀ j (hj : j < l.size), j < k → l[j] ≠ c) (fun i => l.size - (intOf i).toNat)
  case atStart => exact ⟨0, Nat.zero_le _, rfl, fun j _ hj => absurd hj (Nat.not_lt_zero _)⟩
  case round =>
    obtain ⟨k, hk, rfl, hne⟩ := hrel
    have HN := Lib.hid hne
    clear hne
    by_cases hlt : k < l.size
    · have hlti : (k : Int) < (l.size : Int) := by omega
      have hbq := u8_eq l[k] c
      by_cases he : l[k] = c
      · rw [decide_eq_true he] at hbq
        have HE := Lib.hid he
        clear he
        go_wp2
        go_ret
        refine ⟨ret_b ?_, rfl⟩
        symm
        exact decide_eq_true (by rw [← HE.out, ← list_at l k hlt]; exact List.getElem_mem _)
      · rw [decide_eq_false he] at hbq
        have HE := Lib.hid he
        clear he
        go_wp2
        go_round
        case rel =>
          refine ⟨k + 1, by omega, by go_num, fun j hj hjk => ?_⟩
          rcases Nat.lt_or_ge j k with h | h
          · exact HN.out j hj h
          · obtain rfl : j = k := by omega
            exact HE.out
        case measure => simp [intOf]; omega
    · go_wp2
      go_ret
      refine ⟨ret_b ?_, rfl⟩
      symm
      refine decide_eq_false fun hm => ?_
      obtain ⟨j, hj, e⟩ := List.getElem_of_mem hm
      rw [len_list] at hj
      exact HN.out j hj (by omega) (by rw [← list_at l j hj]; exact e)
theorem right4_any (s : ByteArray) (hs : s.size ≤ 1099511627776) (w : World) : Calls Tryz.prog 47 #[.string s] w fun e w' => e = .returned (.bool (Go.Lib.validD s.data.toList)) ∧ Below w.heap.size w w' := by
  have h1 := Signs_any s hs w
  have H1 := Lib.hid h1
  cases hv : Go.Lib.validD s.data.toList
  · have HV := Lib.hid hv
    clear h1 hv
    go_enter Tryz.func47, Tryz.ntmps47
    go_wp2_with fail
    refine H1.out.mono ?_
    rintro e w1 ⟨_, h2, hb1⟩
    obtain rfl := h2 HV.out
    have HB1 := Lib.hid hb1
    clear h2 hb1
    go_wp2_with fail
    go_ret
    exact ⟨rfl, HB1.out⟩
  · have HV := Lib.hid hv
    clear h1 hv
    go_enter Tryz.func47, Tryz.ntmps47
    go_wp2_with fail
    refine H1.out.mono ?_
    rintro e w1 ⟨h2, _, hb1⟩
    obtain ⟨v, rfl, _⟩ := h2 HV.out
    have HB1 := Lib.hid hb1
    clear h2 hb1
    go_wp2_with fail
    go_ret
    exact ⟨rfl, HB1.out⟩
theorem runes_len5 : ∀ (n : Nat) (l : List UInt8), l.length ≤ n → (runesOf l).length ≤ l.length
  | 0, l, h => by
    have : l = [] := List.eq_nil_of_length_eq_zero (by omega)
    subst this; simp [runesOf_nil]
  | n + 1, l, h => by
    by_cases hne : l = []
    · subst hne; simp [runesOf_nil]
    · have hw := Go.Lib.decodeL_width l
      have hl : 0 < l.length := List.length_pos_iff.2 hne
      have ih := runes_len5 n (l.drop (Go.Lib.decodeL l).2) (by rw [List.length_drop]; omega)
      rw [runesOf_step l hne, List.length_cons]
      rw [List.length_drop] at ih
      omega
set_option maxHeartbeats 1000000 in
theorem plain5_any (s : ByteArray) (hs : s.size ≤ 1099511627776) (w : World) : Calls Tryz.prog 75 #[.string s] w fun e w' => e = .returned (.bool (plainS s.data.toList)) ∧ Below w.heap.size w w' := by
  have h1 := Signs_any s hs w
  have H1 := Lib.hid h1
  cases hv : Go.Lib.validD s.data.toList
  · have HV := Lib.hid hv
    have hp : plainS s.data.toList = false := by unfold plainS; rw [if_neg (by rw [hv]; decide)]
    rw [hp]
    clear h1 hv hp
    go_enter Tryz.func75, Tryz.ntmps75
    go_wp2_with fail
    refine H1.out.mono ?_
    rintro e w1 ⟨_, h2, hb1⟩
    obtain rfl := h2 HV.out
    have HB1 := Lib.hid hb1
    clear h2 hb1
    go_wp2_with fail
    go_loop [5] (fun i => i = .int .i64 0) (fun i => 0)
    case atStart => rfl
    case round =>
      subst hrel
      go_wp2_with fail
      go_ret
      exact ⟨rfl, HB1.out⟩
  · have HV := Lib.hid hv
    have hp : plainS s.data.toList = (runesOf s.data.toList).all plainI := by unfold plainS; rw [if_pos hv]
    rw [hp]
    obtain ⟨rs, hrs⟩ : ∃ rs, runesOf s.data.toList = rs := ⟨_, rfl⟩
    have hrl := runes_len5 _ s.data.toList (Nat.le_refl _)
    rw [hrs, len_list] at hrl
    rw [hrs]
    have HRS := Lib.hid hrs
    have HRL := Lib.hid (Nat.le_trans hrl hs)
    clear h1 hv hp hrs hrl
    go_enter Tryz.func75, Tryz.ntmps75
    go_wp2_with fail
    refine H1.out.mono ?_
    rintro e w1 ⟨h2, _, hb1⟩
    obtain ⟨v, rfl, ho⟩ := h2 HV.out
    rw [HRS.out] at ho
    have HB1 := Lib.hid hb1
    clear h2 hb1
    rcases Go.Joins.ownsRow_forms ho with ⟨rfl, hn⟩ | ⟨g, c, rfl, _⟩
    · have hnil : rs = [] := List.eq_nil_of_length_eq_zero hn
      subst hnil
      clear ho hn
      go_wp2_with fail
      go_loop [5] (fun i => i = .int .i64 0) (fun i => 0)
      case atStart => rfl
      case round =>
        subst hrel
        go_wp2_with fail
        go_ret
        exact ⟨rfl, HB1.out⟩
    · have HC := Lib.hid (fun j (hj : j < rs.length) => ho.cellAt j (by omega))
      clear ho
      go_wp2_with fail
      go_loop [5] (fun i => ∃ k : Nat, k ≤ rs.length ∧ i = .int .i64 k ∧ ∀ j (hj : j < rs.length), j < k → plainI rs[j] = true) (fun i => rs.length - (intOf i).toNat)
      case atStart => exact ⟨0, Nat.zero_le _, rfl, fun j _ hj => absurd hj (Nat.not_lt_zero _)⟩
      case round =>
        obtain ⟨k, hk, rfl, hne⟩ := hrel
        have HN := Lib.hid hne
        clear hne
        have hkb : (k : Int) ≤ 1099511627776 := by have := HRL.out; omega
        by_cases hlt : k < rs.length
        · have hlti : (k : Int) < (rs.length : Int) := by omega
          have hc := HC.out k hlt
          unfold ints at hc
          rw [List.getElem?_map, List.getElem?_eq_getElem hlt] at hc
          simp only [Option.map_some] at hc
          have hm := List.getElem_mem hlt
          obtain ⟨r, hr⟩ : ∃ r, rs[k] = r := ⟨_, rfl⟩
          rw [hr] at hc hm
          have hP := fun w => PlainI_any r w
          have HR := Lib.hid hr
          have HM := Lib.hid hm
          clear hr hm
          cases hpl : plainI r
          · rw [hpl] at hP
            have HP := Lib.hid hP
            have HPL := Lib.hid hpl
            clear hP hpl
            go_wp2_with fail
            refine (HP.out _).mono ?_
            rintro e w' ⟨rfl, rfl⟩
            go_wp2_with fail
            go_ret
            refine ⟨ret_b ?_, HB1.out⟩
            symm
            rw [List.all_eq_false]
            exact ⟨r, HM.out, by rw [HPL.out]; decide⟩
          · rw [hpl] at hP
            have HP := Lib.hid hP
            have HPL := Lib.hid hpl
            clear hP hpl
            go_wp2_with fail
            refine (HP.out _).mono ?_
            rintro e w' ⟨rfl, rfl⟩
            go_wp2_with fail
            go_round
            case rel =>
              refine ⟨k + 1, by omega, by go_num, fun j hj hjk => ?_⟩
              rcases Nat.lt_or_ge j k with h | h
              · exact HN.out j hj h
              · obtain rfl : j = k := by omega
                rw [HR.out]; exact HPL.out
            case measure => simp [intOf]; omega
        · have hlti : ¬ (k : Int) < (rs.length : Int) := by omega
          go_wp2_with fail
          go_ret
          refine ⟨ret_b ?_, HB1.out⟩
          symm
          rw [List.all_eq_true]
          intro x hx
          obtain ⟨j, hj, e⟩ := List.getElem_of_mem hx
          rw [← e]
          exact HN.out j hj (by omega)
end Go.Proofs.YtkliecngkcjieaaGreatDoor
