/- A quoted text, read by the reference, is read as the document tells it. Conditions: the text is not too long. -/
import Derived.Test.YtkliecngkcjieaaGreatDoorRoy
import Derived.Test.YtkliecngkcjieaaGreatDoorRqt
set_option maxRecDepth 100000
namespace Go.Proofs.YtkliecngkcjieaaGreatDoor
open Go.RowKit
open Pl On Quo Scs
theorem one_dec2 (l : List UInt8) (hne : l ≠ []) (hv : Go.Lib.validD l = true) : oneR l = Go.Lib.decodeL l := by
  have h := valid_one l hne
  rw [hv] at h
  by_cases ho : oneP l
  · unfold oneR
    rw [if_pos ho, (one_yes l hne ho).1]
  · rw [if_neg ho] at h; cases h
set_option maxHeartbeats 16000000 in
theorem Read35_any (s : ByteArray) (t : List UInt8) (hst : s.data.toList = 34 :: t) (hs : s.size ≤ 1000000) (w : World) :
    Calls Tryz.prog 35 #[.string s, .int .i64 0] w fun e w' => e = .returned (.tuple #[.string (rdT (qtR s)), .int .i64 (rdN (qtR s)), .int .i64 (rdE (qtR s))]) ∧ Below w.heap.size w w' := by
  have hsz : s.size = t.length + 1 := by rw [← len_list, hst, List.length_cons]
  have hR := right4_any s (by omega) w
  have h0 : 0 < s.size := by omega
  have hb0 : s[0]'h0 = 34 := by
    rw [← atD s 0 h0, hst]; rfl
  have hs' : (s.size : Int) ≤ 1000000 := by omega
  have hs0 : (0 : Int) < (s.size : Int) := by omega
  have x34 : (34 : UInt8).toNat = 34 := rfl
  have hz0 : ¬ s.size = 0 := by omega
  have hz1 : ¬ (s.size : Int) ≤ 0 := by omega
  unfold qtR
  by_cases hv : Go.Lib.validD s.data.toList = true
  · rw [if_pos hv]
    rw [hv] at hR
    have hvt : Go.Lib.validD t = true := by
      rw [hst, Go.Lib.validD_cons 34 t (by decide)] at hv
      exact hv
    have hdt : ∀ b, s.data.toList.drop (b + 1) = t.drop b := fun b => by rw [hst, List.drop_succ_cons]
    rw [hst]
    simp only [List.drop_succ_cons, List.drop_zero]
    have hOne := fun b (h : b + 1 < s.size) w => One_any s (by omega) (b + 1) h w
    have hEsc := fun b (h : b + 1 < s.size) w => esc56_any s hs (b + 1) h w
    have hAt : ∀ b (h : b + 1 < s.size) c u, t.drop b = c :: u → s[b + 1]'h = c := fun b h c u hc => by
      rw [← atD s (b + 1) h]
      have e := hdt b
      rw [hc] at e
      have := congrArg (fun l : List UInt8 => l[0]?) e
      simp only [List.getElem?_drop, Nat.add_zero, List.getElem?_cons_zero] at this
      rw [List.getD_eq_getElem?_getD, this]; rfl
    have hRd : ∀ X : Rd, (X.put [] 1) = X.put [] 1 := fun _ => rfl
    have HR := Lib.hid hR
    have HO := Lib.hid hOne
    have HE := Lib.hid hEsc
    have HA := Lib.hid hAt
    have HDT := Lib.hid hdt
    have HVT := Lib.hid hvt
    have HSZ := Lib.hid hsz
    have HST := Lib.hid hst
    clear hR hOne hEsc hAt hdt hvt hRd hv hst hsz
    go_enter Tryz.func35, Tryz.ntmps35
    go_wp2_with fail
    refine HR.out.mono ?_
    rintro e w1 ⟨rfl, hb1⟩
    have HB1 := Lib.hid hb1
    clear hb1
    go_wp2_with fail
    go_loopw [8, 9] (fun x i wr => ∃ (b : Nat) (X : ByteArray), b ≤ t.length ∧ i = .int .i64 ((b : Int) + 1) ∧ x = .string X ∧ X.size ≤ 4 * b ∧ Go.Lib.validD (t.drop b) = true ∧ readL t = (readL (t.drop b)).put X.data.toList b ∧ Below w1.heap.size w1 wr) (fun _ i _ => s.size - (intOf i).toNat)
    case atStart => exact ⟨0, ⟨#[]⟩, Nat.zero_le _, rfl, rfl, Nat.zero_le _, HVT.out, (put_zero _).symm, Below.refl _ _⟩
    case round =>
      obtain ⟨b, X, hb, rfl, rfl, hXs, hvb, hrd, hbw⟩ := hrel
      have hbi : (b : Int) ≤ 1000000 := by have := HSZ.out; omega
      have HRD := Lib.hid hrd
      have HBW := Lib.hid hbw
      have HXS := Lib.hid hXs
      have hbs : b ≤ 1000000 := by omega
      by_cases hlt : b < t.length
      · have hlts : b + 1 < s.size := by have := HSZ.out; omega
        have hlti : (b : Int) + 1 < (s.size : Int) := by omega
        have hne : t.drop b ≠ [] := by
          intro h
          have := congrArg List.length h
          rw [List.length_drop, List.length_nil] at this
          omega
        obtain ⟨c, u, hcu⟩ : ∃ c u, t.drop b = c :: u := by
          cases hd : t.drop b with
          | nil => exact absurd hd hne
          | cons c u => exact ⟨c, u, rfl⟩
        have hat := HA.out b hlts c u hcu
        have hone := fun w => HO.out b hlts w
        rw [HDT.out b, one_dec2 _ hne hvb] at hone
        have e1 : ((b + 1 : Nat) : Int) = (b : Int) + 1 := by omega
        rw [e1] at hone
        have hlook := look_cases (t.drop b) hne hvb
        have hpl : ∀ c u, t.drop b = c :: u → c ≠ 34 → c ≠ 92 → lookM (t.drop b) = itsM ((Go.Lib.decodeL (t.drop b)).1 : Int) := fun c u hc h34 h92 => by
          unfold lookM
          rw [if_neg (fun h => by
            obtain ⟨b', t', ht', hb'⟩ := decode_low _ hne hvb 34 (by omega) h
            rw [hc] at ht'
            injection ht' with h1 _
            exact h34 (by rw [h1]; exact UInt8.toNat_inj.1 hb')), if_neg (fun h => by
            obtain ⟨b', t', ht', hb'⟩ := decode_low _ hne hvb 92 (by omega) h
            rw [hc] at ht'
            injection ht' with h1 _
            exact h92 (by rw [h1]; exact UInt8.toNat_inj.1 hb'))]
        obtain ⟨n, hn⟩ : ∃ n, (Go.Lib.decodeL (t.drop b)).1 = n := ⟨_, rfl⟩
        obtain ⟨k, hk⟩ : ∃ n, (Go.Lib.decodeL (t.drop b)).2 = n := ⟨_, rfl⟩
        rw [hn, hk] at hone
        have HON := Lib.hid hone
        rcases hlook with ⟨_, u', hu⟩ | ⟨u', hu, hlk, hes⟩ | ⟨u', r, j, hu, hlk, hes, j1, j2, j3⟩ | ⟨hlk, c', u', hu, h34, h92, hp⟩ | ⟨hlk, henc, k1, k2, hall⟩
        · -- the last quote
          rw [hu] at hcu
          injection hcu with hc _
          subst hc
          have hans : rdT ((readL t).put [] 1) = X ∧ rdN ((readL t).put [] 1) = (b : Int) + 1 + 1 ∧ rdE ((readL t).put [] 1) = 0 := by
            rw [hrd, hu, readL_cons, if_pos rfl]
            refine ⟨?_, ?_, rfl⟩
            · apply ba_ext
              simp [Rd.put, rdT]
            · simp only [Rd.put, rdN]
              omega
          have HAN := Lib.hid hans
          clear hone hpl hrd hbw hXs hans hvb hne hu hk hn
          go_wp2_with fail
          refine (HON.out _).mono ?_
          rintro e w3 ⟨rfl, hb3⟩
          have HB3 := Lib.hid (HB1.out.trans ((HBW.out.trans (hb3.mono HBW.out.size)).mono HB1.out.size))
          clear hb3
          go_wp2_with fail
          refine bodyPost_ret (v := .tuple #[.string X, .int .i64 ((b : Int) + 1 + 1), .int .i64 0]) (by simp [results, Tryz.results35, go_sem]) rfl ⟨?_, HB3.out⟩
          rw [HAN.out.1, HAN.out.2.1, HAN.out.2.2]
        · -- a fault behind a backslash
          rw [hu] at hcu
          injection hcu with hc _
          subst hc
          have x92 : (92 : UInt8).toNat = 92 := rfl
          have hans : rdT ((readL t).put [] 1) = ⟨#[]⟩ ∧ rdN ((readL t).put [] 1) = 0 ∧ rdE ((readL t).put [] 1) = 41 := by
            rw [hrd, hu, readL_cons, if_neg (by decide), if_pos rfl, hes]
            exact ⟨rfl, rfl, rfl⟩
          have HAN := Lib.hid hans
          have hE := fun w => HE.out b hlts w
          have hd2 : s.data.toList.drop (b + 1 + 1) = u' := by rw [HDT.out (b + 1), ← List.drop_drop, hu]; rfl
          rw [hd2, e1] at hE
          have hM : escM u' = .fault 41 := by
            rcases escM_cases u' with ⟨h, _⟩ | ⟨r, j, _, h, _⟩
            · exact h
            · rw [hes] at h; cases h
          unfold escP at hE
          rw [hM] at hE
          have HEE := Lib.hid hE
          clear hone hpl hrd hbw hXs hans hvb hne hu hk hn hE hM hd2 hlk hes
          go_wp2_with fail
          refine (HON.out _).mono ?_
          rintro e w3 ⟨rfl, hb3⟩
          have HB3 := Lib.hid (HBW.out.trans (hb3.mono HBW.out.size))
          clear hb3
          go_wp2_with fail
          refine (HEE.out _).mono ?_
          rintro e w4 ⟨⟨T, m, rfl⟩, hb4⟩
          have HB4 := Lib.hid (HB3.out.trans (hb4.mono HB3.out.size))
          clear hb4
          go_wp2_with fail
          refine bodyPost_ret (v := .tuple #[.string ⟨#[]⟩, .int .i64 0, .int .i64 41]) (by simp [results, Tryz.results35, go_sem]) rfl ⟨?_, HB1.out.trans (HB4.out.mono HB1.out.size)⟩
          rw [HAN.out.1, HAN.out.2.1, HAN.out.2.2]
        · -- a sign told behind a backslash
          rw [hu] at hcu
          injection hcu with hc _
          subst hc
          have x92 : (92 : UInt8).toNat = 92 := rfl
          have hE := fun w => HE.out b hlts w
          have hd2 : s.data.toList.drop (b + 1 + 1) = u' := by rw [HDT.out (b + 1), ← List.drop_drop, hu]; rfl
          rw [hd2, e1] at hE
          have hM : escM u' = .sgn r (j + 1) := by
            rcases escM_cases u' with ⟨_, h⟩ | ⟨r2, j', h1, h, _⟩
            · rw [hes] at h; cases h
            · have hl : lookM (92 :: u') = escM u' := by
                unfold lookM
                rw [Go.Lib.decodeL_ascii 92 u' (by decide), if_neg (by decide)]
                exact if_pos rfl
              rw [← hl, ← hu, hlk]
          unfold escP at hE
          rw [hM] at hE
          have hlu : u'.length + 1 = t.length - b := by
            have := congrArg List.length hu
            rw [List.length_drop, List.length_cons] at this
            omega
          have hdn : t.drop (b + (j + 1)) = u'.drop j := by rw [← List.drop_drop, hu, List.drop_succ_cons]
          have hvn : Go.Lib.validD (t.drop (b + (j + 1))) = true := by
            rw [← List.drop_drop]
            refine valid_drop_low _ _ hvb (fun x hx => ?_)
            rw [hu, List.take_succ_cons] at hx
            rcases List.mem_cons.1 hx with rfl | hx
            · decide
            · exact j3 x hx
          have hrn : readL t = (readL (t.drop (b + (j + 1)))).put (X.data.toList ++ Go.Lib.encodeRune r) (b + (j + 1)) := by
            rw [hrd, hu, readL_cons, if_neg (by decide), if_pos rfl, hes, hdn]
            simp only
            rw [put_put]
            congr 1
            omega
          have hel := encode_len r
          have hcast : ((b + 1 + (j + 1) : Nat) : Int) = ((b + (j + 1) : Nat) : Int) + 1 := by omega
          dsimp only at hE
          rw [hcast] at hE
          have HEE := Lib.hid hE
          have HVN := Lib.hid hvn
          have HRN := Lib.hid hrn
          have HEL := Lib.hid hel
          have HCA := Lib.hid hcast
          clear hone hpl hrd hbw hXs hvb hne hu hk hn hE hM hd2 hlk hes hdn hvn hrn j3 hel hcast
          obtain ⟨b', hb'⟩ : ∃ b', b + (j + 1) = b' := ⟨_, rfl⟩
          rw [hb'] at HEE HVN HRN
          go_wp2_with fail
          refine (HON.out _).mono ?_
          rintro e w3 ⟨rfl, hb3⟩
          have HB3 := Lib.hid (HBW.out.trans (hb3.mono HBW.out.size))
          clear hb3
          go_wp2_with fail
          refine (HEE.out _).mono ?_
          rintro e w4 ⟨rfl, hb4⟩
          have HB4 := Lib.hid (HB3.out.trans (hb4.mono HB3.out.size))
          clear hb4
          go_wp2_with fail
          all_goals first
            | (exfalso; have := HXS.out; have := HEL.out; omega)
            | (refine ⟨⟨b', X ++ ⟨(Go.Lib.encodeRune r).toArray⟩, by omega, rfl, rfl, ?_, HVN.out, ?_, HB4.out⟩, by simp [intOf]; omega⟩
               · have h1 := HXS.out
                 have h2 := HEL.out
                 rw [ByteArray.size_append]
                 have h3 : (⟨(Go.Lib.encodeRune r).toArray⟩ : ByteArray).size = (Go.Lib.encodeRune r).length := List.size_toArray
                 omega
               · rw [HRN.out, ba_app])
        · -- a sign that may not stand there
          rw [hu] at hcu
          injection hcu with hc _
          subst hc
          have hl2 := hpl c' u' hu h34 h92
          rw [hlk, hn] at hl2
          have hnp : ¬ (32 ≤ n ∧ n ≠ 127) := fun h => by
            unfold itsM at hl2
            rw [if_pos (by omega)] at hl2
            cases hl2
          have hP := fun w => PlainS_any n w
          rw [decide_eq_false hnp] at hP
          have y1 : ¬ (c'.toNat : Int) = 34 := fun h => h34 (UInt8.toNat_inj.1 (by show c'.toNat = 34; omega))
          have y2 : ¬ (c'.toNat : Int) = 92 := fun h => h92 (UInt8.toNat_inj.1 (by show c'.toNat = 92; omega))
          have z1 : ((c'.toNat : Int) == 34) = false := by simp [y1]
          have z2 : ((c'.toNat : Int) == 92) = false := by simp [y2]
          have hans : rdT ((readL t).put [] 1) = ⟨#[]⟩ ∧ rdN ((readL t).put [] 1) = 0 ∧ rdE ((readL t).put [] 1) = 42 := by
            rw [hrd, hu, readL_cons, if_neg h34, if_neg h92, if_neg (by simp [hp])]
            exact ⟨rfl, rfl, rfl⟩
          have HAN := Lib.hid hans
          have HP := Lib.hid hP
          clear hone hpl hrd hbw hXs hans hvb hne hu hk hn hlk hl2 hnp hP y1 y2 h34 h92 hp
          go_wp2_with fail
          refine (HON.out _).mono ?_
          rintro e w3 ⟨rfl, hb3⟩
          have HB3 := Lib.hid (HBW.out.trans (hb3.mono HBW.out.size))
          clear hb3
          go_wp2_with fail
          refine (HP.out _).mono ?_
          rintro e w4 ⟨rfl, rfl⟩
          go_wp2_with fail
          refine bodyPost_ret (v := .tuple #[.string ⟨#[]⟩, .int .i64 0, .int .i64 42]) (by simp [results, Tryz.results35, go_sem]) rfl ⟨?_, HB1.out.trans (HB3.out.mono HB1.out.size)⟩
          rw [HAN.out.1, HAN.out.2.1, HAN.out.2.2]
        · -- a sign that stands for itself
          rw [hn, hk] at hlk
          rw [hk] at henc k1 k2 hall
          have hdl : (t.drop b).length = t.length - b := List.length_drop
          have hct : c ∈ (t.drop b).take k := by
            rw [hcu]
            cases k with
            | zero => omega
            | succ k => rw [List.take_succ_cons]; exact List.mem_cons_self
          obtain ⟨h34, h92, _⟩ := hall c hct
          have hl2 := hpl c u hcu h34 h92
          rw [hlk, hn] at hl2
          have hnp : 32 ≤ n ∧ n ≠ 127 := by
            unfold itsM at hl2
            split at hl2
            · omega
            · cases hl2
          have hP := fun w => PlainS_any n w
          rw [decide_eq_true hnp] at hP
          have y1 : ¬ (c.toNat : Int) = 34 := fun h => h34 (UInt8.toNat_inj.1 (by show c.toNat = 34; omega))
          have y2 : ¬ (c.toNat : Int) = 92 := fun h => h92 (UInt8.toNat_inj.1 (by show c.toNat = 92; omega))
          have z1 : ((c.toNat : Int) == 34) = false := by simp [y1]
          have z2 : ((c.toNat : Int) == 92) = false := by simp [y2]
          have hvn : Go.Lib.validD (t.drop (b + k)) = true := by
            rw [← List.drop_drop, ← hk]; exact (valid_head _ hne hvb).2
          have hrn : readL t = (readL (t.drop (b + k))).put (X.data.toList ++ (t.drop b).take k) (b + k) := by
            have hsp : t.drop b = (t.drop b).take k ++ t.drop (b + k) := by rw [← List.drop_drop, List.take_append_drop]
            have hlen : ((t.drop b).take k).length = k := by rw [List.length_take]; omega
            rw [hrd]
            conv => lhs; rw [hsp, readL_plain _ _ hall, put_put, hlen]
            congr 1
            omega
          have hxl : (s.extract (b + 1) (b + 1 + k)).data.toList = (t.drop b).take k := by rw [ext_take, HDT.out b]
          have hxs : (s.extract (b + 1) (b + 1 + k)).size = k := by
            have := len_list (s.extract (b + 1) (b + 1 + k))
            rw [hxl, List.length_take] at this
            omega
          have hk4 : k ≤ 4 := by
            have := encode_len (Go.Lib.decodeL (t.drop b)).1
            rw [henc, List.length_take] at this
            omega
          have i9 : (b : Int) + 1 + (k : Int) ≤ (s.size : Int) := by have := HSZ.out; omega
          have HP := Lib.hid hP
          have HVN := Lib.hid hvn
          have HRN := Lib.hid hrn
          have HXL := Lib.hid hxl
          have HXZ := Lib.hid hxs
          have hki : (k : Int) ≤ 4 := by omega
          have hbk : b + k ≤ t.length := by omega
          clear hone hpl hrd hbw hXs hvb hne hk hn hlk hl2 hnp hP y1 y2 h34 h92 henc hall hvn hrn hxl hxs hct hcu hdl
          go_wp2_with fail
          refine (HON.out _).mono ?_
          rintro e w3 ⟨rfl, hb3⟩
          have HB3 := Lib.hid (HBW.out.trans (hb3.mono HBW.out.size))
          clear hb3
          go_wp2_with fail
          refine (HP.out _).mono ?_
          rintro e w4 ⟨rfl, rfl⟩
          go_wp2_with fail
          all_goals first
            | (exfalso; have := HXS.out; have := HXZ.out; omega)
            | (refine ⟨⟨b + k, X ++ s.extract (b + 1) (b + 1 + k), by omega, by congr 1; omega, rfl, ?_, HVN.out, ?_, HB3.out⟩, by simp [intOf]; omega⟩
               · have h1 := HXS.out
                 have h2 := HXZ.out
                 rw [ByteArray.size_append]
                 omega
               · rw [HRN.out, ba_app, HXL.out])
      · have hbl : b = t.length := by omega
        subst hbl
        have hlti : ¬ (t.length : Int) + 1 < (s.size : Int) := by have := HSZ.out; omega
        have hans : rdT ((readL t).put [] 1) = ⟨#[]⟩ ∧ rdN ((readL t).put [] 1) = 0 ∧ rdE ((readL t).put [] 1) = 42 := by
          rw [hrd, List.drop_length]
          exact ⟨rfl, rfl, rfl⟩
        have HAN := Lib.hid hans
        clear hrd hbw hXs hans hvb
        go_wp2_with fail
        refine bodyPost_ret (v := .tuple #[.string ⟨#[]⟩, .int .i64 0, .int .i64 42]) (by simp [results, Tryz.results35, go_sem]) rfl ⟨?_, HB1.out.trans (HBW.out.mono HB1.out.size)⟩
        rw [HAN.out.1, HAN.out.2.1, HAN.out.2.2]
  · rw [if_neg hv]
    rw [Bool.not_eq_true] at hv
    rw [hv] at hR
    have HR := Lib.hid hR
    clear hR hv
    go_enter Tryz.func35, Tryz.ntmps35
    go_wp2_with fail
    refine HR.out.mono ?_
    rintro e w1 ⟨rfl, hb1⟩
    have HB1 := Lib.hid hb1
    clear hb1
    go_wp2_with fail
    exact bodyPost_ret (v := .tuple #[.string ⟨#[]⟩, .int .i64 0, .int .i64 40]) (by simp [results, Tryz.results35, go_sem]) rfl ⟨rfl, HB1.out⟩
end Go.Proofs.YtkliecngkcjieaaGreatDoor
