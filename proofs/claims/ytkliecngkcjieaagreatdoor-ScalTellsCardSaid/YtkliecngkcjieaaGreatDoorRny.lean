/- The reference's number of some digits at a place, what stands behind a backslash, and a sign, quoted, are told as the document tells them. Conditions: the text is not too long. What the reference reads behind a backslash, and a sign, quoted by it, are as the document tells them. Conditions: the text is not too long. -/
import Derived.Test.YtkliecngkcjieaaGreatDoorRln
import Derived.Test.YtkliecngkcjieaaGreatDoorPu16
import Derived.Test.YtkliecngkcjieaaGreatDoorMta
import Derived.Test.YtkliecngkcjieaaGreatDoorOrdx
import Derived.Test.YtkliecngkcjieaaGreatDoorRrs
import Derived.Test.YtkliecngkcjieaaGreatDoorEsk
import Derived.Test.YtkliecngkcjieaaGreatDoorQte
set_option maxRecDepth 100000
namespace Go.Proofs.YtkliecngkcjieaaGreatDoor
open Go.RowKit
open Pl On Quo
def numI (o : Option Nat) : Int := match o with
  | none => -1
  | some n => n
/-- a digit: the four ways that are asked -/
theorem dg4 (b : UInt8) : (48 ≤ b.toNat ∧ b.toNat ≤ 57 ∧ dig b = b.toNat - 48) ∨ (97 ≤ b.toNat ∧ b.toNat ≤ 102 ∧ dig b = b.toNat - 87) ∨ (65 ≤ b.toNat ∧ b.toNat ≤ 70 ∧ dig b = b.toNat - 55) ∨
    (¬ (48 ≤ b.toNat ∧ b.toNat ≤ 57) ∧ ¬ (97 ≤ b.toNat ∧ b.toNat ≤ 102) ∧ ¬ (65 ≤ b.toNat ∧ b.toNat ≤ 70) ∧ dig b = 16) := by
  unfold dig
  by_cases h1 : 48 ≤ b.toNat ∧ b.toNat ≤ 57
  · rw [if_pos h1]; exact .inl ⟨h1.1, h1.2, rfl⟩
  rw [if_neg h1]
  by_cases h2 : 97 ≤ b.toNat ∧ b.toNat ≤ 102
  · rw [if_pos h2]; exact .inr (.inl ⟨h2.1, h2.2, rfl⟩)
  rw [if_neg h2]
  by_cases h3 : 65 ≤ b.toNat ∧ b.toNat ≤ 70
  · rw [if_pos h3]; exact .inr (.inr (.inl ⟨h3.1, h3.2, rfl⟩))
  rw [if_neg h3]
  exact .inr (.inr (.inr ⟨h1, h2, h3, rfl⟩))
def digsR (s : ByteArray) (a k : Nat) : Option Nat := if s.size < a + k then none else numD ((s.data.toList.drop a).take k)
set_option maxHeartbeats 8000000 in
theorem num79_any (s : ByteArray) (hs : s.size ≤ 1000000) (a k : Nat) (ha : a ≤ 1000010) (hk : k ≤ 4) (w : World) :
    Calls Tryz.prog 79 #[.string s, .int .i64 a, .int .i64 k] w fun e w' => e = .returned (.int .i64 (numI (digsR s a k))) ∧ w = w' := by
  have ha' : (a : Int) ≤ 1000010 := by omega
  have hk' : (k : Int) ≤ 4 := by omega
  have hs' : (s.size : Int) ≤ 1000000 := by omega
  unfold digsR
  by_cases hlt : s.size < a + k
  · rw [if_pos hlt]
    have i1 : (s.size : Int) < (a : Int) + (k : Int) := by omega
    clear hlt
    go_enter Tryz.func79, Tryz.ntmps79
    go_wp2_with fail
    go_ret
    exact ⟨rfl, rfl⟩
  · rw [if_neg hlt]
    have i1 : ¬ (s.size : Int) < (a : Int) + (k : Int) := by omega
    obtain ⟨T, hT⟩ : ∃ T, (s.data.toList.drop a).take k = T := ⟨_, rfl⟩
    have hTl : T.length = k := by rw [← hT, List.length_take, len_drop]; omega
    have hTg : ∀ j (h : a + j < s.size), j < k → T.getD j 0 = s[a + j] := fun j h hj => by
      rw [← hT, List.getD_eq_getElem?_getD, List.getElem?_take_of_lt hj, List.getElem?_drop, List.getElem?_eq_getElem (by rw [len_list]; exact h)]
      rfl
    rw [hT]
    have HT := Lib.hid hTl
    have HG := Lib.hid hTg
    clear hT hTl hTg
    go_enter Tryz.func79, Tryz.ntmps79
    go_wp2_with fail
    go_loopw [7, 8] (fun v i wr => ∃ P N : Nat, a ≤ P ∧ P ≤ a + k ∧ i = .int .i64 P ∧ v = .int .i64 N ∧ numD (T.take (P - a)) = some N ∧ N < 16 ^ (P - a) ∧ w = wr) (fun _ i _ => a + k - (intOf i).toNat)
    case atStart => exact ⟨a, 0, Nat.le_refl _, by omega, rfl, rfl, by simp [numD], by simp, rfl⟩
    case round =>
      obtain ⟨P, N, h1, h2, rfl, rfl, hnum, hN, rfl⟩ := hrel
      have hP' : (P : Int) ≤ 1000014 := by omega
      by_cases hlt2 : P < a + k
      · have i2 : (P : Int) < (a : Int) + (k : Int) := by omega
        have hPs : P < s.size := by omega
        obtain ⟨b, hb⟩ : ∃ b, s[P] = b := ⟨_, rfl⟩
        have hg := HG.out (P - a) (by omega) (by omega)
        have hbb : T.getD (P - a) 0 = b := by
          rw [hg, ← hb]
          congr 1
          omega
        have htk : T.take (P - a + 1) = T.take (P - a) ++ [b] := by
          rw [List.take_add_one, ← hbb, List.getD_eq_getElem?_getD, List.getElem?_eq_getElem (by rw [HT.out]; omega)]
          rfl
        have hns := numD_snoc (T.take (P - a)) b
        rw [hnum] at hns
        simp only at hns
        have hd := dg4 b
        obtain ⟨D, hD⟩ : ∃ D, dig b = D := ⟨_, rfl⟩
        rw [hD] at hns hd
        have hNb : N < 65536 := Nat.lt_of_lt_of_le hN (by
          have : 16 ^ (P - a) ≤ 16 ^ 4 := Nat.pow_le_pow_right (by decide) (by omega)
          simpa using this)
        have hN' : (N : Int) ≤ 70000 := by omega
        have hbl := b.toNat_lt
        have hnext : ∀ D' : Nat, D' = D → D < 16 → numD (T.take (P + 1 - a)) = some (16 * N + D') ∧ 16 * N + D' < 16 ^ (P + 1 - a) := fun D' e hlt => by
          rw [show P + 1 - a = P - a + 1 by omega, htk, hns, if_pos hlt, e]
          refine ⟨rfl, ?_⟩
          rw [Nat.pow_succ]
          omega
        have hbad : ¬ D < 16 → numD T = none := fun h => by
          have h1 := numD_none (T.take (P - a + 1)) (T.drop (P - a + 1)) (by rw [htk, hns, if_neg h])
          rwa [List.take_append_drop] at h1
        have HNX := Lib.hid hnext
        have HBD := Lib.hid hbad
        have HNN := Lib.hid hnum
        clear hnext hbad hg hbb htk hns hnum hD hNb hN
        rcases hd with ⟨d1, d2, d3⟩ | ⟨d1, d2, d3⟩ | ⟨d1, d2, d3⟩ | ⟨d1, d2, d3, d4⟩
        · have x1 : (48 : Int) ≤ (b.toNat : Int) := by omega
          have x2 : (b.toNat : Int) ≤ 57 := by omega
          have n1 := HNX.out (b.toNat - 48) d3.symm (by omega)
          have HN1 := Lib.hid n1
          clear n1 d1 d2 d3
          go_wp2_with fail
          refine ⟨⟨P + 1, 16 * N + (b.toNat - 48), by omega, by omega, by go_num, by congr 1; omega, HN1.out.1, HN1.out.2, trivial⟩, by simp [intOf]; omega⟩
        · have x1 : (97 : Int) ≤ (b.toNat : Int) := by omega
          have x2 : (b.toNat : Int) ≤ 102 := by omega
          have x3 : ¬ (b.toNat : Int) ≤ 57 := by omega
          have x4 : (48 : Int) ≤ (b.toNat : Int) := by omega
          have n1 := HNX.out (b.toNat - 87) d3.symm (by omega)
          have HN1 := Lib.hid n1
          clear n1 d1 d2 d3
          go_wp2_with fail
          refine ⟨⟨P + 1, 16 * N + (b.toNat - 87), by omega, by omega, by go_num, by congr 1; omega, HN1.out.1, HN1.out.2, trivial⟩, by simp [intOf]; omega⟩
        · have x1 : (65 : Int) ≤ (b.toNat : Int) := by omega
          have x2 : (b.toNat : Int) ≤ 70 := by omega
          have x3 : ¬ (b.toNat : Int) ≤ 57 := by omega
          have x4 : (48 : Int) ≤ (b.toNat : Int) := by omega
          have x5 : ¬ (97 : Int) ≤ (b.toNat : Int) := by omega
          have n1 := HNX.out (b.toNat - 55) d3.symm (by omega)
          have HN1 := Lib.hid n1
          clear n1 d1 d2 d3
          go_wp2_with fail
          refine ⟨⟨P + 1, 16 * N + (b.toNat - 55), by omega, by omega, by go_num, by congr 1; omega, HN1.out.1, HN1.out.2, trivial⟩, by simp [intOf]; omega⟩
        · have hnone := HBD.out (by omega)
          have HNO := Lib.hid hnone
          have hside : (¬ (48 : Int) ≤ (b.toNat : Int)) ∨ ((48 : Int) ≤ (b.toNat : Int) ∧ ¬ (b.toNat : Int) ≤ 57 ∧ ¬ (65 : Int) ≤ (b.toNat : Int)) ∨ ((48 : Int) ≤ (b.toNat : Int) ∧ ¬ (b.toNat : Int) ≤ 57 ∧ (65 : Int) ≤ (b.toNat : Int) ∧ ¬ (b.toNat : Int) ≤ 70 ∧ ¬ (97 : Int) ≤ (b.toNat : Int)) ∨
              ((48 : Int) ≤ (b.toNat : Int) ∧ ¬ (b.toNat : Int) ≤ 57 ∧ (65 : Int) ≤ (b.toNat : Int) ∧ ¬ (b.toNat : Int) ≤ 70 ∧ (97 : Int) ≤ (b.toNat : Int) ∧ ¬ (b.toNat : Int) ≤ 102) := by omega
          clear hnone d1 d2 d3 d4
          rcases hside with s1 | ⟨s1, s2, s3⟩ | ⟨s1, s2, s3, s4, s5⟩ | ⟨s1, s2, s3, s4, s5, s6⟩
          · have s7 : ¬ (97 : Int) ≤ (b.toNat : Int) := by omega
            have s8 : ¬ (65 : Int) ≤ (b.toNat : Int) := by omega
            go_wp2_with fail
            go_ret
            exact ⟨by rw [HNO.out]; rfl, rfl⟩
          · have s7 : ¬ (97 : Int) ≤ (b.toNat : Int) := by omega
            go_wp2_with fail
            go_ret
            exact ⟨by rw [HNO.out]; rfl, rfl⟩
          · go_wp2_with fail
            go_ret
            exact ⟨by rw [HNO.out]; rfl, rfl⟩
          · go_wp2_with fail
            go_ret
            exact ⟨by rw [HNO.out]; rfl, rfl⟩
      · have i2 : ¬ (P : Int) < (a : Int) + (k : Int) := by omega
        obtain rfl : P = a + k := by omega
        have hfull : T.take (a + k - a) = T := List.take_of_length_le (by rw [HT.out]; omega)
        rw [hfull] at hnum
        have HNM := Lib.hid hnum
        clear hnum hfull
        go_wp2_with fail
        go_ret
        exact ⟨by rw [HNM.out]; rfl, rfl⟩
end Go.Proofs.YtkliecngkcjieaaGreatDoor

set_option maxRecDepth 100000
namespace Go.Proofs.YtkliecngkcjieaaGreatDoor
open Go.RowKit
open Pl On Quo
theorem encB_enc (n : Nat) (h : signN n) : encB n = Go.Lib.encodeRune (n : Int) := by
  unfold encB Go.Lib.encodeRune
  have key : (encN n).map (fun m : Nat => (m : Int)) = Go.Lib.encodeRuneZ (n : Int) := by
    unfold signN at h
    unfold encN
    by_cases h1 : n < 128
    · rw [if_pos h1, Go.Lib.encodeRuneZ_one (by omega) (by omega)]; rfl
    · rw [if_neg h1]
      by_cases h2 : n < 2048
      · rw [if_pos h2, Go.Lib.encodeRuneZ_two (by omega) (by omega)]; simp
      · rw [if_neg h2]
        by_cases h3 : n < 65536
        · rw [if_pos h3, Go.Lib.encodeRuneZ_three (by omega)]; simp
        · rw [if_neg h3, Go.Lib.encodeRuneZ_four (by omega) (by omega)]; simp
  rw [← key, List.map_map]
  rfl
theorem ok_sign (n : Nat) : okSign n = decide (signN n) := by
  unfold okSign signN
  apply decide_eq_decide.2
  omega
/-- what the reference reads behind a backslash -/
def escP (t : List UInt8) (a : Nat) (e : Ending) : Prop := match escM t with
  | .sgn r k => e = .returned (.tuple #[.string ⟨(Go.Lib.encodeRune r).toArray⟩, .int .i64 ((a + k : Nat) : Int), .bool true])
  | _ => ∃ T m, e = .returned (.tuple #[.string T, .int .i64 m, .bool false])
theorem escP_yes {t : List UInt8} {a : Nat} {e : Ending} {r : Int} {k : Nat} (h : escM t = .sgn r k) (he : e = .returned (.tuple #[.string ⟨(Go.Lib.encodeRune r).toArray⟩, .int .i64 ((a + k : Nat) : Int), .bool true])) : escP t a e := by
  unfold escP; rw [h]; exact he
theorem escP_no {t : List UInt8} {a : Nat} {e : Ending} {er : Int} (h : escM t = .fault er) (T : ByteArray) (m : Int) (he : e = .returned (.tuple #[.string T, .int .i64 m, .bool false])) : escP t a e := by
  unfold escP; rw [h]; exact ⟨T, m, he⟩
theorem Sign_neg (w : World) : Calls Tryz.prog 78 #[.int .i64 (-1)] w fun e w' => e = .returned (.bool false) ∧ w = w' := by
  go_enter Tryz.func78, Tryz.ntmps78
  go_wp2
  go_ret
  exact ⟨rfl, rfl⟩
/-- the digits behind a letter -/
theorem digs_M (s : ByteArray) (a k : Nat) (t : List UInt8) (h : s.data.toList.drop a = t) (ha : a ≤ s.size) : digsR s a k = if t.length < k then none else numD (t.take k) := by
  unfold digsR
  have hl : t.length = s.size - a := by rw [← h, len_drop]
  rw [h]
  by_cases c : s.size < a + k
  · rw [if_pos c, if_pos (by omega)]
  · rw [if_neg c, if_neg (by omega)]
theorem digs_lt {s : ByteArray} {a k n : Nat} (h : digsR s a k = some n) : n < 16 ^ k := by
  unfold digsR at h
  split at h
  · cases h
  · have := numD_lt _ _ h
    rw [List.length_take] at this
    exact Nat.lt_of_lt_of_le this (Nat.pow_le_pow_right (by decide) (Nat.min_le_left _ _))
theorem numM_digs (k : Nat) (t : List UInt8) : numM k t = match (if t.length < k then none else numD (t.take k)) with
    | none => .fault 41
    | some n => if okSign n = true then .sgn n (k + 2) else .fault 41 := by
  unfold numM
  by_cases h : t.length < k
  · rw [if_pos h, if_pos h]
  · rw [if_neg h, if_neg h]
    cases numD (t.take k) <;> rfl
set_option maxHeartbeats 8000000 in
theorem esc_num (s : ByteArray) (hs : s.size ≤ 1000000) (a : Nat) (c : UInt8) (t : List UInt8) (hst : s.data.toList.drop (a + 1) = c :: t) (hc : c = 120 ∨ c = 117) (w : World) :
    Calls Tryz.prog 56 #[.string s, .int .i64 a] w fun e w' => escP (c :: t) a e ∧ Below w.heap.size w w' := by
  have hlen := len_drop s (a + 1)
  rw [hst, List.length_cons] at hlen
  have hlt1 : a + 1 < s.size := by omega
  have hb : s[a + 1]'hlt1 = c := by
    rw [← atD s (a + 1) hlt1]
    have := congrArg (fun l : List UInt8 => l[0]?) hst
    simp only [List.getElem?_drop, Nat.add_zero, List.getElem?_cons_zero] at this
    rw [List.getD_eq_getElem?_getD, this]; rfl
  have ht : s.data.toList.drop (a + 2) = t := by
    rw [show a + 2 = a + 1 + 1 from rfl, ← List.drop_drop, hst]; rfl
  have ha' : (a : Int) ≤ 1000000 := by omega
  have hs' : (s.size : Int) ≤ 1000000 := by omega
  have i1 : ¬ (s.size : Int) ≤ (a : Int) + 1 := by omega
  have hby : ∀ n, n ≤ 65535 → ∀ w, Calls Tryz.prog 70 #[.int .i64 (n : Nat)] w fun e w' => e = .returned (.string ⟨(encB n).toArray⟩) ∧ Below w.heap.size w w' := fun n hn w => Bytes_any n (by omega) w
  rcases hc with rfl | rfl
  · have hn := fun w => num79_any s hs (a + 2) 2 (by omega) (by omega) w
    have hM : escM (120 :: t) = numM 2 t := rfl
    rw [numM_digs, ← digs_M s (a + 2) 2 t ht (by omega)] at hM
    have hlt := fun n h => digs_lt (s := s) (a := a + 2) (k := 2) (n := n) h
    obtain ⟨X, hX⟩ : ∃ X, digsR s (a + 2) 2 = X := ⟨_, rfl⟩
    rw [hX] at hn hM hlt
    have e2 : ((a + 2 : Nat) : Int) = (a : Int) + 2 := by omega
    rw [e2] at hn
    have x : (120 : UInt8).toNat = 120 := rfl
    clear hX ht hst hlen e2
    have HBY := Lib.hid hby
    have HN := Lib.hid hn
    clear hby hn
    cases X with
    | none =>
      have HM := Lib.hid (show escM (120 :: t) = .fault 41 from hM)
      clear hM hlt
      simp only [numI] at HN
      go_enter Tryz.func56, Tryz.ntmps56
      go_wp2_with fail
      refine (HN.out _).mono ?_
      rintro e w1 ⟨rfl, rfl⟩
      go_wp2_with fail
      refine (HBY.out 0 (by omega) _).mono ?_
      rintro e w2 ⟨rfl, hb2⟩
      have HB2 := Lib.hid hb2
      clear hb2
      go_wp2_with fail
      exact bodyPost_ret (v := .tuple #[.string ⟨(encB 0).toArray⟩, .int .i64 ((a : Int) + 4), .bool false]) (by simp [results, Tryz.results56, go_sem]) rfl ⟨escP_no HM.out _ _ rfl, HB2.out⟩
    | some n =>
      have hn1 : n < 256 := hlt n rfl
      have HM := Lib.hid (show escM (120 :: t) = if okSign n = true then .sgn n 4 else .fault 41 from hM)
      clear hM hlt
      simp only [numI] at HN
      have h0 : (0 : Int) ≤ (n : Int) := by omega
      have hsg : signN n := by unfold signN; omega
      have hend : escM (120 :: t) = .sgn n 4 := by rw [HM.out, ok_sign, decide_eq_true hsg]; rfl
      have HEND := Lib.hid hend
      have HEE := Lib.hid (encB_enc n hsg)
      clear hend hsg HM
      go_enter Tryz.func56, Tryz.ntmps56
      go_wp2_with fail
      refine (HN.out _).mono ?_
      rintro e w1 ⟨rfl, rfl⟩
      go_wp2_with fail
      refine (HBY.out n (by omega) _).mono ?_
      rintro e w2 ⟨rfl, hb2⟩
      have HB2 := Lib.hid hb2
      clear hb2
      go_wp2_with fail
      exact bodyPost_ret (v := .tuple #[.string ⟨(encB n).toArray⟩, .int .i64 ((a : Int) + 4), .bool true]) (by simp [results, Tryz.results56, go_sem]) rfl ⟨escP_yes HEND.out (by rw [HEE.out]; rfl), HB2.out⟩
  · have hn := fun w => num79_any s hs (a + 2) 4 (by omega) (by omega) w
    have hM : escM (117 :: t) = numM 4 t := rfl
    rw [numM_digs, ← digs_M s (a + 2) 4 t ht (by omega)] at hM
    have hlt := fun n h => digs_lt (s := s) (a := a + 2) (k := 4) (n := n) h
    obtain ⟨X, hX⟩ : ∃ X, digsR s (a + 2) 4 = X := ⟨_, rfl⟩
    rw [hX] at hn hM hlt
    have e2 : ((a + 2 : Nat) : Int) = (a : Int) + 2 := by omega
    rw [e2] at hn
    have x : (117 : UInt8).toNat = 117 := rfl
    clear hX ht hst hlen e2
    have HBY := Lib.hid hby
    have HN := Lib.hid hn
    clear hby hn
    cases X with
    | none =>
      have HM := Lib.hid (show escM (117 :: t) = .fault 41 from hM)
      clear hM hlt
      simp only [numI] at HN
      go_enter Tryz.func56, Tryz.ntmps56
      go_wp2_with fail
      refine (HN.out _).mono ?_
      rintro e w1 ⟨rfl, rfl⟩
      go_wp2_with fail
      refine (HBY.out 0 (by omega) _).mono ?_
      rintro e w2 ⟨rfl, hb2⟩
      have HB2 := Lib.hid hb2
      clear hb2
      go_wp2_with fail
      refine (Sign_neg _).mono ?_
      rintro e w3 ⟨rfl, rfl⟩
      go_wp2_with fail
      exact bodyPost_ret (v := .tuple #[.string ⟨(encB 0).toArray⟩, .int .i64 ((a : Int) + 6), .bool false]) (by simp [results, Tryz.results56, go_sem]) rfl ⟨escP_no HM.out _ _ rfl, HB2.out⟩
    | some n =>
      have hn1 : n < 65536 := hlt n rfl
      have HM := Lib.hid (show escM (117 :: t) = if okSign n = true then .sgn n 6 else .fault 41 from hM)
      clear hM hlt
      simp only [numI] at HN
      have h0 : (0 : Int) ≤ (n : Int) := by omega
      have hS := fun w => Sign_any n w
      have HS := Lib.hid hS
      have HEE := Lib.hid (fun h => encB_enc n h)
      clear hS
      go_enter Tryz.func56, Tryz.ntmps56
      go_wp2_with fail
      refine (HN.out _).mono ?_
      rintro e w1 ⟨rfl, rfl⟩
      go_wp2_with fail
      refine (HBY.out n (by omega) _).mono ?_
      rintro e w2 ⟨rfl, hb2⟩
      have HB2 := Lib.hid hb2
      clear hb2
      go_wp2_with fail
      refine (HS.out _).mono ?_
      rintro e w3 ⟨rfl, rfl⟩
      by_cases hsg : signN n
      · have hend : escM (117 :: t) = .sgn n 6 := by rw [HM.out, ok_sign, decide_eq_true hsg]; rfl
        rw [decide_eq_true hsg]
        have HEND := Lib.hid hend
        have HE2 := Lib.hid (HEE.out hsg)
        clear hend hsg
        go_wp2_with fail
        exact bodyPost_ret (v := .tuple #[.string ⟨(encB n).toArray⟩, .int .i64 ((a : Int) + 6), .bool true]) (by simp [results, Tryz.results56, go_sem]) rfl ⟨escP_yes HEND.out (by rw [HE2.out]; rfl), HB2.out⟩
      · have hend : escM (117 :: t) = .fault 41 := by rw [HM.out, ok_sign, decide_eq_false hsg]; rfl
        rw [decide_eq_false hsg]
        have HEND := Lib.hid hend
        clear hend hsg
        go_wp2_with fail
        exact bodyPost_ret (v := .tuple #[.string ⟨(encB n).toArray⟩, .int .i64 ((a : Int) + 6), .bool false]) (by simp [results, Tryz.results56, go_sem]) rfl ⟨escP_no HEND.out _ _ rfl, HB2.out⟩
set_option maxHeartbeats 8000000 in
theorem esc56_any (s : ByteArray) (hs : s.size ≤ 1000000) (a : Nat) (ha : a < s.size) (w : World) :
    Calls Tryz.prog 56 #[.string s, .int .i64 a] w fun e w' => escP (s.data.toList.drop (a + 1)) a e ∧ Below w.heap.size w w' := by
  have hlen := len_drop s (a + 1)
  have ha' : (a : Int) ≤ 1000000 := by omega
  have hs' : (s.size : Int) ≤ 1000000 := by omega
  cases hst : s.data.toList.drop (a + 1) with
  | nil =>
    rw [hst, List.length_nil] at hlen
    have i1 : (s.size : Int) ≤ (a : Int) + 1 := by omega
    clear hst hlen
    go_enter Tryz.func56, Tryz.ntmps56
    go_wp2_with fail
    exact bodyPost_ret (v := .tuple #[.string ⟨#[]⟩, .int .i64 0, .bool false]) (by simp [results, Tryz.results56, go_sem]) rfl ⟨escP_no (er := 41) rfl _ _ rfl, Below.refl _ _⟩
  | cons c t =>
    by_cases hc : c = 120 ∨ c = 117
    · exact esc_num s hs a c t hst hc w
    rw [hst, List.length_cons] at hlen
    have hlt1 : a + 1 < s.size := by omega
    have hb : s[a + 1]'hlt1 = c := by
      rw [← atD s (a + 1) hlt1]
      have := congrArg (fun l : List UInt8 => l[0]?) hst
      simp only [List.getElem?_drop, Nat.add_zero, List.getElem?_cons_zero] at this
      rw [List.getD_eq_getElem?_getD, this]; rfl
    have hxx : s.extract (a + 1) (a + 2) = ⟨#[c]⟩ := by
      apply Scs.ba_ext
      have := ext_take s (a + 1) 1
      rw [show a + 1 + 1 = a + 2 from rfl] at this
      rw [this, hst]; rfl
    have i1 : ¬ (s.size : Int) ≤ (a : Int) + 1 := by omega
    have i2 : (a : Int) + 2 ≤ (s.size : Int) := by omega
    clear hst hlen
    by_cases h34 : c = 34
    · subst h34
      have x : (34 : UInt8).toNat = 34 := rfl
      clear hc
      go_enter Tryz.func56, Tryz.ntmps56
      go_wp2_with fail
      exact bodyPost_ret (v := .tuple #[.string ⟨#[34]⟩, .int .i64 ((a : Int) + 2), .bool true]) (by simp [results, Tryz.results56, go_sem]) rfl ⟨escP_yes (r := 34) (k := 2) rfl (by rw [show (Go.Lib.encodeRune 34).toArray = #[34] by decide +kernel]; rfl), Below.refl _ _⟩
    by_cases h92 : c = 92
    · subst h92
      have x : (92 : UInt8).toNat = 92 := rfl
      clear hc
      go_enter Tryz.func56, Tryz.ntmps56
      go_wp2_with fail
      exact bodyPost_ret (v := .tuple #[.string ⟨#[92]⟩, .int .i64 ((a : Int) + 2), .bool true]) (by simp [results, Tryz.results56, go_sem]) rfl ⟨escP_yes (r := 92) (k := 2) rfl (by rw [show (Go.Lib.encodeRune 92).toArray = #[92] by decide +kernel]; rfl), Below.refl _ _⟩
    by_cases h47 : c = 47
    · subst h47
      have x : (47 : UInt8).toNat = 47 := rfl
      clear hc
      go_enter Tryz.func56, Tryz.ntmps56
      go_wp2_with fail
      exact bodyPost_ret (v := .tuple #[.string ⟨#[47]⟩, .int .i64 ((a : Int) + 2), .bool true]) (by simp [results, Tryz.results56, go_sem]) rfl ⟨escP_yes (r := 47) (k := 2) rfl (by rw [show (Go.Lib.encodeRune 47).toArray = #[47] by decide +kernel]; rfl), Below.refl _ _⟩
    by_cases h110 : c = 110
    · subst h110
      have x : (110 : UInt8).toNat = 110 := rfl
      clear hc
      go_enter Tryz.func56, Tryz.ntmps56
      go_wp2_with fail
      exact bodyPost_ret (v := .tuple #[.string ⟨#[10]⟩, .int .i64 ((a : Int) + 2), .bool true]) (by simp [results, Tryz.results56, go_sem]) rfl ⟨escP_yes (r := 10) (k := 2) rfl (by rw [show (Go.Lib.encodeRune 10).toArray = #[10] by decide +kernel]; rfl), Below.refl _ _⟩
    by_cases h116 : c = 116
    · subst h116
      have x : (116 : UInt8).toNat = 116 := rfl
      clear hc
      go_enter Tryz.func56, Tryz.ntmps56
      go_wp2_with fail
      exact bodyPost_ret (v := .tuple #[.string ⟨#[9]⟩, .int .i64 ((a : Int) + 2), .bool true]) (by simp [results, Tryz.results56, go_sem]) rfl ⟨escP_yes (r := 9) (k := 2) rfl (by rw [show (Go.Lib.encodeRune 9).toArray = #[9] by decide +kernel]; rfl), Below.refl _ _⟩
    by_cases h114 : c = 114
    · subst h114
      have x : (114 : UInt8).toNat = 114 := rfl
      clear hc
      go_enter Tryz.func56, Tryz.ntmps56
      go_wp2_with fail
      exact bodyPost_ret (v := .tuple #[.string ⟨#[13]⟩, .int .i64 ((a : Int) + 2), .bool true]) (by simp [results, Tryz.results56, go_sem]) rfl ⟨escP_yes (r := 13) (k := 2) rfl (by rw [show (Go.Lib.encodeRune 13).toArray = #[13] by decide +kernel]; rfl), Below.refl _ _⟩
    by_cases h48 : c = 48
    · subst h48
      have x : (48 : UInt8).toNat = 48 := rfl
      clear hc
      go_enter Tryz.func56, Tryz.ntmps56
      go_wp2_with fail
      exact bodyPost_ret (v := .tuple #[.string ⟨#[0]⟩, .int .i64 ((a : Int) + 2), .bool true]) (by simp [results, Tryz.results56, go_sem]) rfl ⟨escP_yes (r := 0) (k := 2) rfl (by rw [show (Go.Lib.encodeRune 0).toArray = #[0] by decide +kernel]; rfl), Below.refl _ _⟩
    have en : ∀ n : UInt8, c ≠ n → ¬ (c.toNat : Int) = (n.toNat : Int) := fun n hn he => hn (UInt8.toNat_inj.1 (by omega))
    have y1 : ¬ (c.toNat : Int) = 34 := en 34 h34
    have y2 : ¬ (c.toNat : Int) = 92 := en 92 h92
    have y3 : ¬ (c.toNat : Int) = 47 := en 47 h47
    have y4 : ¬ (c.toNat : Int) = 110 := en 110 h110
    have y5 : ¬ (c.toNat : Int) = 116 := en 116 h116
    have y6 : ¬ (c.toNat : Int) = 114 := en 114 h114
    have y7 : ¬ (c.toNat : Int) = 48 := en 48 h48
    have y8 : ¬ (c.toNat : Int) = 120 := en 120 (fun h => hc (.inl h))
    have y9 : ¬ (c.toNat : Int) = 117 := en 117 (fun h => hc (.inr h))
    have hM : escM (c :: t) = .fault 41 := by
      simp only [escM]
      rw [if_neg h110, if_neg h116, if_neg h114, if_neg h48, if_neg (show ¬ (c = 34 ∨ c = 92 ∨ c = 47) from fun h => h.elim h34 (fun h => h.elim h92 h47)), if_neg (fun h => hc (.inl h)), if_neg (fun h => hc (.inr h))]
    have HM := Lib.hid hM
    have z1 : ((c.toNat : Int) == 34) = false := by simp [y1]
    have z2 : ((c.toNat : Int) == 92) = false := by simp [y2]
    have z3 : ((c.toNat : Int) == 47) = false := by simp [y3]
    have z4 : ((c.toNat : Int) == 110) = false := by simp [y4]
    have z5 : ((c.toNat : Int) == 116) = false := by simp [y5]
    have z6 : ((c.toNat : Int) == 114) = false := by simp [y6]
    have z7 : ((c.toNat : Int) == 48) = false := by simp [y7]
    have z8 : ((c.toNat : Int) == 120) = false := by simp [y8]
    have z9 : ((c.toNat : Int) == 117) = false := by simp [y9]
    clear hM en h34 h92 h47 h110 h116 h114 h48 hc y1 y2 y3 y4 y5 y6 y7 y8 y9 hxx
    go_enter Tryz.func56, Tryz.ntmps56
    go_wp2_with fail
    exact bodyPost_ret (v := .tuple #[.string ⟨#[]⟩, .int .i64 0, .bool false]) (by simp [results, Tryz.results56, go_sem]) rfl ⟨escP_no HM.out _ _ rfl, Below.refl _ _⟩
end Go.Proofs.YtkliecngkcjieaaGreatDoor
