/- A sign, quoted by the reference, is as the document tells it. Conditions: the number is a sign's. A text, quoted by the reference, is as the document tells it. Conditions: the text is not too long. -/
import Derived.Test.YtkliecngkcjieaaGreatDoorRny
import Derived.BigQuiet
import Derived.Test.YtkliecngkcjieaaGreatDoorTxt
set_option maxRecDepth 100000
namespace Go.Proofs.YtkliecngkcjieaaGreatDoor
open Go.RowKit
open Pl On Quo
theorem hex_two : ∀ n, n < 128 → (⟨#[92, 120]⟩ : ByteArray) ++ (⟨#[48, 49, 50, 51, 52, 53, 54, 55, 56, 57, 97, 98, 99, 100, 101, 102]⟩ : ByteArray).extract (n / 16) (n / 16 + 1) ++ (⟨#[48, 49, 50, 51, 52, 53, 54, 55, 56, 57, 97, 98, 99, 100, 101, 102]⟩ : ByteArray).extract (n % 16) (n % 16 + 1) = ⟨#[92, 120, hexd (n / 16), hexd (n % 16)]⟩ := by decide +kernel
set_option maxHeartbeats 8000000 in
theorem one49_any (n : Nat) (hn : signN n) (w : World) : Calls Tryz.prog 49 #[.int .i64 (n : Nat)] w fun e w' => e = .returned (.string ⟨(qr (n : Int)).toArray⟩) ∧ Below w.heap.size w w' := by
  have hn1 : n ≤ 1114111 := hn.1
  by_cases h34 : n = 34
  · subst h34
    go_enter Tryz.func49, Tryz.ntmps49
    go_wp2_with fail
    go_ret
    exact ⟨rfl, Below.refl _ _⟩
  by_cases h92 : n = 92
  · subst h92
    go_enter Tryz.func49, Tryz.ntmps49
    go_wp2_with fail
    go_ret
    exact ⟨rfl, Below.refl _ _⟩
  by_cases h10 : n = 10
  · subst h10
    go_enter Tryz.func49, Tryz.ntmps49
    go_wp2_with fail
    go_ret
    exact ⟨rfl, Below.refl _ _⟩
  by_cases h9 : n = 9
  · subst h9
    go_enter Tryz.func49, Tryz.ntmps49
    go_wp2_with fail
    go_ret
    exact ⟨rfl, Below.refl _ _⟩
  by_cases h13 : n = 13
  · subst h13
    go_enter Tryz.func49, Tryz.ntmps49
    go_wp2_with fail
    go_ret
    exact ⟨rfl, Below.refl _ _⟩
  have z1 : ((n : Int) == 34) = false := by simp; omega
  have z2 : ((n : Int) == 92) = false := by simp; omega
  have z3 : ((n : Int) == 10) = false := by simp; omega
  have z4 : ((n : Int) == 9) = false := by simp; omega
  have z5 : ((n : Int) == 13) = false := by simp; omega
  have hP := fun w => PlainS_any n w
  have hl : lookI (n : Int) lettersP = none := by
    simp only [lookI, lettersP]
    rw [if_neg (by omega), if_neg (by omega), if_neg (by omega), if_neg (by omega), if_neg (by omega)]
  have hq : (n : Int) < 128 → qr (n : Int) = if (n : Int) < 32 ∨ (n : Int) = 127 then [92, 120, hexd (n / 16), hexd (n % 16)] else [n.toUInt8] := fun h => by
    rcases look_case (n : Int) (by omega) with ⟨_, h2⟩ | ⟨c, _, h2, _⟩
    · have := h2 h
      simpa using this
    · rw [hl] at h2; cases h2
  by_cases hp : 32 ≤ n ∧ n ≠ 127
  · have he : encB n = qr (n : Int) := by
      rw [encB_enc n hn]
      by_cases h1 : (n : Int) < 128
      · rw [hq h1, if_neg (by omega), enc_low n (by omega)]
      · unfold qr
        rw [if_neg h1]
    rw [decide_eq_true hp] at hP
    have hB := fun w => Bytes_any n hn1 w
    rw [he] at hB
    have HP := Lib.hid hP
    have HB := Lib.hid hB
    clear hP hB he hq hl hp hn h34 h92 h10 h9 h13 hn1
    go_enter Tryz.func49, Tryz.ntmps49
    go_wp2_with fail
    refine (HP.out _).mono ?_
    rintro e w1 ⟨rfl, rfl⟩
    go_wp2_with fail
    refine (HB.out _).mono ?_
    rintro e w2 ⟨rfl, hb2⟩
    have HB2 := Lib.hid hb2
    clear hb2
    go_wp2_with fail
    go_ret
    exact ⟨rfl, HB2.out⟩
  · rw [decide_eq_false hp] at hP
    have hq2 := hq (by omega)
    rw [if_pos (by omega)] at hq2
    rw [hq2]
    have HP := Lib.hid hP
    have b1 : (n : Int) ≤ 127 := by omega
    have q1 : (0 : Int) ≤ (n : Int) / 16 := by omega
    have q2 : (n : Int) / 16 ≤ 7 := by omega
    have q3 : (0 : Int) ≤ (n : Int) % 16 := by omega
    have q4 : (n : Int) % 16 ≤ 15 := by omega
    clear hP hq hq2 hl hn h34 h92 h10 h9 h13 hn1
    go_enter Tryz.func49, Tryz.ntmps49
    go_wp2_with fail
    refine (HP.out _).mono ?_
    rintro e w1 ⟨rfl, rfl⟩
    go_wp2_with fail
    go_quiet (fail)
    rw [hex_two n (by omega)]
    go_wp2
    go_ret
    exact ⟨rfl, ⟨rfl, rfl, rfl, Nat.le_refl _, fun _ _ => rfl⟩⟩
end Go.Proofs.YtkliecngkcjieaaGreatDoor

set_option maxRecDepth 100000
namespace Go.Proofs.YtkliecngkcjieaaGreatDoor
open Go.RowKit
open Pl On Quo Scs
theorem ba_app (a b : ByteArray) : (a ++ b).data.toList = a.data.toList ++ b.data.toList := by
  rw [ByteArray.data_append, Array.toList_append]
theorem runes_sign (l : List UInt8) (hv : Go.Lib.validD l = true) : ∀ n, l.length ≤ n → ∀ x ∈ runesOf l, ∃ m : Nat, x = (m : Int) ∧ signN m
  | 0, h, x, hx => by
    have : l = [] := List.eq_nil_of_length_eq_zero (by omega)
    subst this
    rw [runesOf_nil] at hx; cases hx
  | n + 1, h, x, hx => by
    by_cases hne : l = []
    · subst hne; rw [runesOf_nil] at hx; cases hx
    · have hone := valid_one l hne
      rw [hv] at hone
      by_cases ho : oneP l
      · rw [if_pos ho] at hone
        rw [runes_one l hne ho] at hx
        rcases List.mem_cons.1 hx with rfl | hx
        · exact ⟨_, rfl, ho.2.1⟩
        · have hk := kN_pos (byN l 0)
          have hl : 0 < l.length := List.length_pos_iff.2 hne
          exact runes_sign _ hone.symm n (by rw [List.length_drop]; omega) x hx
      · rw [if_neg ho] at hone; cases hone
set_option maxHeartbeats 8000000 in
theorem Quote31_any (s : ByteArray) (hs : s.size ≤ 1000000) (w : World) : Calls Tryz.prog 31 #[.string s] w fun e w' => e = .returned (.tuple #[.string (quoteT s), .int .i64 (quoteE s)]) ∧ Below w.heap.size w w' := by
  have h1 := Signs_any s (by omega) w
  have H1 := Lib.hid h1
  clear h1
  unfold quoteT quoteE
  cases hv : Go.Lib.validD s.data.toList
  · rw [if_neg (by decide), if_neg (by decide)]
    have HV := Lib.hid hv
    clear hv
    go_enter Tryz.func31, Tryz.ntmps31
    go_wp2_with fail
    refine H1.out.mono ?_
    rintro e w1 ⟨_, h2, hb1⟩
    obtain rfl := h2 HV.out
    have HB1 := Lib.hid hb1
    clear h2 hb1
    go_wp2_with fail
    exact bodyPost_ret (v := .tuple #[.string ⟨#[]⟩, .int .i64 40]) (by simp [results, Tryz.results31, go_sem]) rfl ⟨rfl, HB1.out⟩
  · rw [if_pos rfl, if_pos rfl]
    have hsg := runes_sign s.data.toList hv _ (Nat.le_refl _)
    have hqr := quote_runes' s.data.toList hv
    have hrl := runes_len5 _ s.data.toList (Nat.le_refl _)
    obtain ⟨rs, hrs⟩ : ∃ rs, runesOf s.data.toList = rs := ⟨_, rfl⟩
    rw [hrs] at hsg hqr hrl
    rw [len_list] at hrl
    have hfin : ∀ X : ByteArray, X.data.toList = 34 :: rs.flatMap qr → (X ++ ⟨#[34]⟩) = ⟨(quoteL s.data.toList).toArray⟩ := fun X hX => by
      apply ba_ext
      rw [ba_app, hX, hqr]
      rfl
    have HRS := Lib.hid hrs
    have HSG := Lib.hid hsg
    have HFI := Lib.hid hfin
    have HRL := Lib.hid (Nat.le_trans hrl hs)
    have HV := Lib.hid hv
    clear hv hqr hrl hrs hsg hfin
    go_enter Tryz.func31, Tryz.ntmps31
    go_wp2_with fail
    refine H1.out.mono ?_
    rintro e w1 ⟨h2, _, hb1⟩
    obtain ⟨v, rfl, ho⟩ := h2 HV.out
    rw [HRS.out] at ho
    have HB1 := Lib.hid hb1
    clear h2 hb1
    rcases Go.Joins.ownsRow_forms ho with ⟨rfl, hn⟩ | ⟨g, c, rfl, _⟩
    · have hnil : rs = [] := List.eq_nil_of_length_eq_zero hn
      subst hnil
      have HFN := Lib.hid (HFI.out ⟨#[34]⟩ rfl)
      clear ho hn
      go_wp2_with fail
      go_loop [6, 7] (fun x i => x = .string ⟨#[34]⟩ ∧ i = .int .i64 0) (fun _ i => 0)
      case atStart => exact ⟨rfl, rfl⟩
      case round =>
        obtain ⟨rfl, rfl⟩ := hrel
        go_wp2_with fail
        refine bodyPost_ret (v := .tuple #[.string (⟨#[34]⟩ ++ ⟨#[34]⟩), .int .i64 0]) (by simp [results, Tryz.results31, go_sem]) rfl ⟨?_, HB1.out⟩
        rw [HFN.out]
    · have HC := Lib.hid (fun j (hj : j < rs.length) => ho.cellAt j (by omega))
      have hgl := ho
      clear ho
      go_wp2_with fail
      go_loopw [6, 7] (fun x i wr => ∃ (k : Nat) (X : ByteArray), k ≤ rs.length ∧ i = .int .i64 k ∧ x = .string X ∧ X.data.toList = 34 :: (rs.take k).flatMap qr ∧ Below w1.heap.size w1 wr) (fun _ i _ => rs.length - (intOf i).toNat)
      case atStart => exact ⟨0, ⟨#[34]⟩, Nat.zero_le _, rfl, rfl, rfl, Below.refl _ _⟩
      case round =>
        obtain ⟨k, X, hk, rfl, rfl, hX, hbw⟩ := hrel
        have HXX := Lib.hid hX
        have HBW := Lib.hid hbw
        have hkb : (k : Int) ≤ 1099511627776 := by have := HRL.out; omega
        by_cases hlt : k < rs.length
        · have hlti : (k : Int) < (rs.length : Int) := by omega
          have hc := HC.out k hlt
          unfold ints at hc
          rw [List.getElem?_map, List.getElem?_eq_getElem hlt] at hc
          simp only [Option.map_some] at hc
          have hm := List.getElem_mem hlt
          have htk : (rs.take (k + 1)).flatMap qr = (rs.take k).flatMap qr ++ qr rs[k] := by
            rw [List.take_add_one, List.getElem?_eq_getElem hlt, List.flatMap_append]; simp
          obtain ⟨r, hr⟩ : ∃ r, rs[k] = r := ⟨_, rfl⟩
          rw [hr] at hc hm htk
          obtain ⟨m, rfl, hsm⟩ := HSG.out r hm
          have hc2 := (hbw.cell (p := ⟨g, k, none⟩) (block_lt_of_cell hc)).trans hc
          have hO := fun w => one49_any m hsm w
          have hXs : X.size + (qr (m : Int)).length ≤ 5000000 := by
            have h1 : X.data.toList.length = X.size := by rw [Array.length_toList]; rfl
            have h2 := qr_sum (rs.take k)
            have h3 := (qr_len (m : Int)).2
            have h4 := HRL.out
            rw [hX, List.length_cons] at h1
            rw [List.length_take] at h2
            omega
          have HSZ := Lib.hid hXs
          have HO := Lib.hid hO
          have HTK := Lib.hid htk
          clear hO htk hc hm hr hsm hX hbw hgl hXs
          go_wp2_with fail
          refine (HO.out _).mono ?_
          rintro e w3 ⟨rfl, hb3⟩
          have HB3 := Lib.hid (HBW.out.trans (hb3.mono HBW.out.size))
          clear hb3 hc2
          go_wp2_with fail
          all_goals first
            | (exfalso; have := HSZ.out; omega)
            | (refine ⟨⟨k + 1, X ++ ⟨(qr (m : Int)).toArray⟩, by omega, by go_num, rfl, ?_, HB3.out⟩, by simp [intOf]; omega⟩
               rw [ba_app, HXX.out, HTK.out]
               rfl)
        · have hlti : ¬ (k : Int) < (rs.length : Int) := by omega
          have hfull : rs.take k = rs := List.take_of_length_le (by omega)
          rw [hfull] at hX
          have HFN := Lib.hid (HFI.out X hX)
          have hXs : X.size ≤ 5000000 := by
            have h1 : X.data.toList.length = X.size := by rw [Array.length_toList]; rfl
            have h2 := qr_sum rs
            have h4 := HRL.out
            rw [hX, List.length_cons] at h1
            omega
          have HSZ := Lib.hid hXs
          clear hX hbw hgl hfull hXs
          go_wp2_with fail
          all_goals try (exfalso; have := HSZ.out; omega)
          refine bodyPost_ret (v := .tuple #[.string (X ++ ⟨#[34]⟩), .int .i64 0]) (by simp [results, Tryz.results31, go_sem]) rfl ⟨?_, HB1.out.trans (HBW.out.mono HB1.out.size)⟩
          rw [HFN.out]
end Go.Proofs.YtkliecngkcjieaaGreatDoor
