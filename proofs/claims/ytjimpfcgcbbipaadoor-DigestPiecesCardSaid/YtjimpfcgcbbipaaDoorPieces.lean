/- It makes no difference in which pieces a message is written, nor whether sums are asked for between, for every text and numbers. Conditions: the laid variables, as the statement lists them. -/
import Derived.Test.YtjimpfcgcbbipaaDoorEndsW
import Derived.OpenShut
import Derived.ChangeSlices
import Derived.Carry
import Derived.Shelf.Abstract
import Derived.Shelf.RegionOpen
import Derived.Deep.DeepCutAuto
import Derived.Laws.IdiomStrings
namespace Go.Proofs.YtjimpfcgcbbipaaDoor
open Go.ChangeShapes Go.WideShapes Go.ChangeAt Go.RowKit Go.Shelf
open Go.ChangeMaps (open_string shut_string)
open Rd Dg Box
theorem dig_size (m : List UInt8) : (dig m).size = 32 := by
  unfold dig
  show (List.toArray _).size = 32
  simp [by_length]
theorem take_ext (S : ByteArray) (t r : Nat) : S.data.toList.take t ++ (S.extract t (t + r)).data.toList = S.data.toList.take (t + r) := by
  rw [ByteArray.data_extract, Array.toList_extract, List.extract_eq_take_drop, List.take_add, Nat.add_sub_cancel_left]
theorem take_rest (S : ByteArray) (t : Nat) (h : t ≤ S.size) : S.data.toList.take t ++ (S.extract t S.size).data.toList = S.data.toList := by
  have e := take_ext S t (S.size - t)
  rw [show t + (S.size - t) = S.size by omega] at e
  rw [e, List.take_of_length_le (by rw [Array.length_toList]; exact Nat.le_refl _)]
set_option maxRecDepth 100000 in
set_option maxHeartbeats 4000000 in
theorem walkPieces (s : ByteArray) (a : Option Addr) (len cap : Nat) (Z : Nat → Int) (B : Nat) (w : World) (E : Env B w)
    (hV : ∀ i, i < len → ∃ g o, a = some ⟨g, o, none⟩ ∧ g < w.heap.size ∧ w.cell? ⟨g, o + i, none⟩ = some (.int .i64 (Z i))) :
    Calls Tryd.prog 5 #[.string s, .slice a len cap] w fun e w' => e = .returned (.bool true) ∧ Below w.heap.size w w' := by
  have HE0 := Lib.hid E
  have hBw := E.bw
  obtain ⟨S, hS⟩ : ∃ S, cutB s = S := ⟨_, rfl⟩
  have hSs : S.size ≤ 300 := by rw [← hS]; exact cutB_size s
  have hcS := fun w => cut_any s w
  rw [hS] at hcS
  have HC := Lib.hid hcS
  have hSl : S.data.toList.length ≤ 300 := by rw [Array.length_toList]; exact hSs
  obtain ⟨q, hq⟩ : ∃ q, dig S.data.toList = q := ⟨_, rfl⟩
  have hs1 := fun w E => Sum_ok S (by omega) B w E
  rw [hq] at hs1
  have HS1 := Lib.hid hs1
  have HQ := Lib.hid hq
  have HV := Lib.hid hV
  have hlen2 : (S.data.toList.length : Int) = (S.size : Int) := by rw [Array.length_toList]; rfl
  clear E hS hcS hq hs1 hV
  go_enter Tryd.func5, Tryd.ntmps5
  go_wp2_with fail
  refine (shown_any B _ HE0.out).mono ?_
  rintro e w1 ⟨rfl, hb1⟩
  have hz1 := hb1.size
  have HB1 := Lib.hid hb1
  have HE1 := Lib.hid (HE0.out.below' hb1)
  clear hb1
  go_wp2_with fail
  refine (HC.out _).mono ?_
  rintro e w' ⟨rfl, rfl⟩
  go_wp2_with fail
  refine (New_any _).mono ?_
  rintro e w2 ⟨rfl, hh2, hb2⟩
  have hz2 := hb2.size
  have hl2 := hh2.lt
  have HB2 := Lib.hid (HB1.out.trans (hb2.mono (by have := HB1.out.size; omega)))
  have HE2 := Lib.hid (HE1.out.below' hb2)
  have HH0_2 := Lib.hid hh2
  clear hh2 hb2
  go_wp2_with fail
  go_loopw [7, 8] (fun x i wr => ∃ k t : Nat, k ≤ 20 ∧ t ≤ S.size ∧ x = .int .i64 (t : Int) ∧ i = .int .i64 (k : Int) ∧ Holds w1.heap.size 65 (S.data.toList.take t) wr ∧ Below w.heap.size w wr) (fun _ i _ => 20 - (intOf i).toNat)
  case atStart => exact ⟨0, 0, by omega, by omega, rfl, rfl, by simpa using HH0_2.out, HB2.out⟩
  case round =>
    obtain ⟨k, t, hk, ht, rfl, rfl, hhr, hbr⟩ := hrel
    have hzr := hbr.size
    have hlr := hhr.lt
    have HHr := Lib.hid hhr
    have HBr := Lib.hid hbr
    have HEr := Lib.hid (HE0.out.below' hbr)
    clear hhr hbr
    by_cases hlt : k < len
    · by_cases hlt2 : k < 20
      · have i1 : (k : Int) < (len : Int) := by omega
        have i2 : (k : Int) < 20 := by omega
        obtain ⟨g, o, rfl, hg, hcell⟩ := HV.out k hlt
        have hx := (HBr.out.cell (p := ⟨g, o + k, none⟩) hg).trans hcell
        obtain ⟨z, hz⟩ : ∃ z, Z k = z := ⟨_, rfl⟩
        rw [hz] at hx
        clear hz hcell
        go_upto_region 8 with fail
        go_cut [9] (fun p wx => ∃ r : Nat, p = .int .i64 (r : Int) ∧ t + r ≤ S.size ∧ wr = wx)
        case first =>
          have e2 : IntKind.i64.wrap ((S.size : Int) - (t : Int)) = (S.size : Int) - (t : Int) := by rw [IntWalk.i64_left]; unfold wrap64; omega
          go_wp2
          all_goals go_meet
          all_goals (first
            | exact ⟨0, rfl, by omega, rfl⟩
            | exact ⟨S.size - t, congrArg (Value.int .i64) (by omega), by omega, rfl⟩
            | exact ⟨z.toNat, congrArg (Value.int .i64) (by omega), by omega, rfl⟩)
        case rest =>
          obtain ⟨r, rfl, hr, rfl⟩ := hcut
          have i3 : (t : Int) + (r : Int) ≤ (S.size : Int) := by omega
          have k1 : ((t : Int) + (r : Int)).toNat = t + r := by omega
          have e1 : IntKind.i64.wrap ((t : Int) + (r : Int)) = (t : Int) + (r : Int) := by rw [IntWalk.i64_left]; unfold wrap64; omega
          obtain ⟨Q, hQ⟩ : ∃ Q, S.extract t (t + r) = Q := ⟨_, rfl⟩
          have hm := take_ext S t r
          rw [hQ] at hm
          have HM := Lib.hid hm
          have hQs : (S.data.toList.take t).length + Q.size ≤ 100000 := by
            have h := congrArg List.length hm
            rw [List.length_append] at h
            have h2 : (S.data.toList.take (t + r)).length ≤ S.data.toList.length := by rw [List.length_take]; omega
            have e : Q.data.toList.length = Q.size := by rw [Array.length_toList]; rfl
            omega
          clear hm hx
          go_wp2_with fail
          refine (Write_ok w1.heap.size 65 (S.data.toList.take t) Q hQs B _ HEr.out (by omega) HHr.out).mono ?_
          rintro e w50 ⟨rfl, hh50, hg50⟩
          have hz50 := hg50.size
          have HB50 := Lib.hid (HBr.out.trans (below_of_grown hg50 (show w.heap.size ≤ w1.heap.size by omega) (by have := HBr.out.size; omega)))
          have HE50 := Lib.hid (HEr.out.on (show B ≤ w1.heap.size by omega) hg50)
          rw [HM.out] at hh50
          have HH50 := Lib.hid hh50
          clear hh50 hg50
          go_wp2_with fail
          have hC := hsum_any (w1.heap.size) 65 (S.data.toList.take (t + r)) (by rw [List.length_take]; omega) B w50 HE50.out (by omega) HH50.out
          obtain ⟨qq, hqq⟩ : ∃ q, dig (S.data.toList.take (t + r)) = q := ⟨_, rfl⟩
          have hqs : (qq.size : Int) = 32 := by rw [← hqq, dig_size]; rfl
          rw [hqq] at hC
          clear hqq
          refine (hC).mono ?_
          rintro e w51 ⟨rfl, hh51, hg51⟩
          have hz51 := hg51.size
          have HB51 := Lib.hid (HB50.out.trans (below_of_grown hg51 (show w.heap.size ≤ w1.heap.size by omega) (by have := HB50.out.size; omega)))
          have HE51 := Lib.hid (HE50.out.on (show B ≤ w1.heap.size by omega) hg51)
          have HH51 := Lib.hid hh51
          clear hh51 hg51
          clear hC
          go_wp2
          go_roundw
          case rel => exact ⟨k + 1, t + r, by omega, hr, by go_num, by go_num, HH51.out, HB51.out⟩
          case measure => simp [intOf]; omega
      · have i1 : (k : Int) < (len : Int) := by omega
        have i2 : ¬ (k : Int) < 20 := by omega
        obtain ⟨Q, hQ⟩ : ∃ Q, S.extract t S.size = Q := ⟨_, rfl⟩
        have hm := take_rest S t ht
        rw [hQ] at hm
        have HM := Lib.hid hm
        have hQs : (S.data.toList.take t).length + Q.size ≤ 100000 := by
          have h := congrArg List.length hm
          rw [List.length_append] at h
          have e : Q.data.toList.length = Q.size := by rw [Array.length_toList]; rfl
          omega
        clear hm
        go_wp2_with fail
        refine (Write_ok w1.heap.size 65 (S.data.toList.take t) Q hQs B _ HEr.out (by omega) HHr.out).mono ?_
        rintro e w50 ⟨rfl, hh50, hg50⟩
        have hz50 := hg50.size
        have HB50 := Lib.hid (HBr.out.trans (below_of_grown hg50 (show w.heap.size ≤ w1.heap.size by omega) (by have := HBr.out.size; omega)))
        have HE50 := Lib.hid (HEr.out.on (show B ≤ w1.heap.size by omega) hg50)
        rw [HM.out] at hh50
        have HH50 := Lib.hid hh50
        clear hh50 hg50
        go_wp2_with fail
        refine (HS1.out _ HE50.out).mono ?_
        rintro e w51 ⟨rfl, hb51⟩
        have hz51 := hb51.size
        have HB51 := Lib.hid (HB50.out.trans (hb51.mono (by have := HB50.out.size; omega)))
        have HE51 := Lib.hid (HE50.out.below' hb51)
        have HH51 := Lib.hid (HH50.out.kept (hb51.block (w1.heap.size) HH50.out.lt))
        clear hb51
        go_wp2_with fail
        have hC := hsum_any (w1.heap.size) 65 (S.data.toList) (by omega) B w51 HE51.out (by omega) HH51.out
        rw [HQ.out] at hC
        refine (hC).mono ?_
        rintro e w52 ⟨rfl, hh52, hg52⟩
        have hz52 := hg52.size
        have HB52 := Lib.hid (HB51.out.trans (below_of_grown hg52 (show w.heap.size ≤ w1.heap.size by omega) (by have := HB51.out.size; omega)))
        have HE52 := Lib.hid (HE51.out.on (show B ≤ w1.heap.size by omega) hg52)
        have HH52 := Lib.hid hh52
        clear hh52 hg52
        clear hC
        go_wp2_with fail
        refine (Len_any (w1.heap.size) 65 (S.data.toList) _ HH52.out).mono ?_
        rintro e w' ⟨rfl, rfl⟩
        go_wp2
        go_ret
        exact ⟨rfl, HB52.out⟩
    · have i1 : ¬ (k : Int) < (len : Int) := by omega
      obtain ⟨Q, hQ⟩ : ∃ Q, S.extract t S.size = Q := ⟨_, rfl⟩
      have hm := take_rest S t ht
      rw [hQ] at hm
      have HM := Lib.hid hm
      have hQs : (S.data.toList.take t).length + Q.size ≤ 100000 := by
        have h := congrArg List.length hm
        rw [List.length_append] at h
        have e : Q.data.toList.length = Q.size := by rw [Array.length_toList]; rfl
        omega
      clear hm
      go_wp2_with fail
      refine (Write_ok w1.heap.size 65 (S.data.toList.take t) Q hQs B _ HEr.out (by omega) HHr.out).mono ?_
      rintro e w50 ⟨rfl, hh50, hg50⟩
      have hz50 := hg50.size
      have HB50 := Lib.hid (HBr.out.trans (below_of_grown hg50 (show w.heap.size ≤ w1.heap.size by omega) (by have := HBr.out.size; omega)))
      have HE50 := Lib.hid (HEr.out.on (show B ≤ w1.heap.size by omega) hg50)
      rw [HM.out] at hh50
      have HH50 := Lib.hid hh50
      clear hh50 hg50
      go_wp2_with fail
      refine (HS1.out _ HE50.out).mono ?_
      rintro e w51 ⟨rfl, hb51⟩
      have hz51 := hb51.size
      have HB51 := Lib.hid (HB50.out.trans (hb51.mono (by have := HB50.out.size; omega)))
      have HE51 := Lib.hid (HE50.out.below' hb51)
      have HH51 := Lib.hid (HH50.out.kept (hb51.block (w1.heap.size) HH50.out.lt))
      clear hb51
      go_wp2_with fail
      have hC := hsum_any (w1.heap.size) 65 (S.data.toList) (by omega) B w51 HE51.out (by omega) HH51.out
      rw [HQ.out] at hC
      refine (hC).mono ?_
      rintro e w52 ⟨rfl, hh52, hg52⟩
      have hz52 := hg52.size
      have HB52 := Lib.hid (HB51.out.trans (below_of_grown hg52 (show w.heap.size ≤ w1.heap.size by omega) (by have := HB51.out.size; omega)))
      have HE52 := Lib.hid (HE51.out.on (show B ≤ w1.heap.size by omega) hg52)
      have HH52 := Lib.hid hh52
      clear hh52 hg52
      clear hC
      go_wp2_with fail
      refine (Len_any (w1.heap.size) 65 (S.data.toList) _ HH52.out).mono ?_
      rintro e w' ⟨rfl, rfl⟩
      go_wp2
      go_ret
      exact ⟨rfl, HB52.out⟩
theorem laidOut' : laidOutB Tryd.prog = true := by kernel_rfl
theorem ints_arg {H : Type} {enc : TypeId × Value → H} {W : World} {a0 : Option Addr} {len cap : Nat} {d0 : DataW H} {p : List MemPlace}
    (h0 : DataW.Trod enc Tryd.prog W 0 (fun _ => true) true 42 (.slice a0 len cap) d0 p) :
    ∃ Z : Nat → Int, ∀ i, i < len → ∃ g o, a0 = some ⟨g, o, none⟩ ∧ g < W.heap.size ∧ W.cell? ⟨g, o + i, none⟩ = some (.int .i64 (Z i)) := by
  obtain ⟨fuel, hf⟩ := h0
  rcases open_ints Tryd.underlying42 Tryd.underlying3 cells3 hf with ⟨hcs, _⟩ | ⟨a, len', cap', zs, hcs, _, hl, _, hz, _, hcell, _⟩
  · simp [Value.cells] at hcs
    obtain ⟨rfl, rfl, rfl⟩ := hcs
    exact ⟨fun _ => 0, fun i hi => by omega⟩
  · simp [Value.cells] at hcs
    obtain ⟨rfl, rfl, rfl⟩ := hcs
    simp only [if_true] at hz
    refine ⟨fun i => zs.getD i 0, fun i hi => ?_⟩
    obtain ⟨g, o, rfl, hc⟩ := ints_at hcell (by omega)
    have hci := hc i (by omega)
    exact ⟨g, o, rfl, block_lt_of_cell hci, hci⟩
theorem walkDigestPieces (s : ByteArray) (a : Option Addr) (len cap : Nat) (Z : Nat → Int) (w : World) (hE : ∃ B, Env B w)
    (hV : ∀ i, i < len → ∃ g o, a = some ⟨g, o, none⟩ ∧ g < w.heap.size ∧ w.cell? ⟨g, o + i, none⟩ = some (.int .i64 (Z i))) :
    Calls Tryd.prog 5 #[.string s, .slice a len cap] w fun e w' => e = .returned (.bool true) ∧ Below w.heap.size w w' := by
  obtain ⟨B, E⟩ := hE
  exact walkPieces s a len cap Z B w E hV

set_option maxRecDepth 100000 in
theorem contractDigestPieces (H : Type) (enc : TypeId × Value → H) (W : World) (base : Nat) (args : Array Value) (ds gs : List (DataW H)) (before : List MemPlace)
    (hval : ∀ (j : Nat) t v, Tryd.f5.params[j]? = some t → args[j]? = some v → Value.okWide Tryd.prog W .any base t v)
    (hW : DataW.Whole enc Tryd.prog Tryd.f5.params.toList Rows.digestPiecesSpec.vars false W args.toList ds gs before) (hL : laidMetH Tryd.prog laid5 W) :
    Calls Tryd.prog 5 args W fun e W' => ∃ v, e = .returned v ∧ Rows.digestPiecesSpec.post enc Tryd.prog Tryd.f5 false true false false W args v W' := by
  have hW' := hW
  obtain ⟨p, q, hA0, hV, rfl, hfz, hnd⟩ := hW
  have hA : DataW.TrodAll enc Tryd.prog W 0 (fun _ => true) true Tryd.f5.params.toList args.toList ds p := hA0
  rw [Tryd.params5] at hA hval
  obtain ⟨v0, vs0, d0, ds0, p0, q0, hargs, rfl, rfl, h0, r0⟩ := trodAll_cons hA
  obtain ⟨v1, vs1, d1, ds1, p1, q1, rfl, rfl, rfl, h1, r1⟩ := trodAll_cons r0
  obtain ⟨rfl, rfl, rfl⟩ := trodAll_nil r1
  obtain rfl : args = #[v0, v1] := by cases args; simp_all
  obtain ⟨rfl, rfl⟩ := trodVars_none hV
  obtain ⟨s, rfl, rfl, rfl, w0⟩ := open_string Tryd.underlying9 (hval 0 9 v0 rfl rfl) h0
  obtain ⟨a1, len1, cap1, rfl⟩ := okWide_slice Tryd.underlying42 (hval 1 42 v1 rfl rfl)
  have hlt1 : ∀ x ∈ p1, x.block < W.heap.size := fun x hx => by simpa using hW'.lt x (by simp [hx])
  obtain ⟨Z1, hV1⟩ := ints_arg h1
  clear hA0
  simp only [List.append_nil] at hW'
  refine (walkDigestPieces s a1 len1 cap1 Z1 W (env_of hL) hV1).mono fun e W' ⟨he, hg⟩ => ?_
  subst he
  refine ⟨_, rfl, _, _, _, [], [] ++ (p1 ++ []), [], hW', ?_, ?_, rfl, hg.frame _, fun h => by cases h⟩
  · exact trodAll_cons_mk (shut_bool Tryd.underlying4 _) trodAll_mk0
  · exact (trodAll_cons_mk (shut_string Tryd.underlying9 w0) (trodAll_cons_mk (Below.trod laidOut' (by kernel_rfl) (of_decide_eq_true (by kernel_rfl)) h1 hg hlt1) trodAll_mk0))

set_option maxRecDepth 100000 in
theorem liftedDigestPieces (os : Os) (started : os.Started) (H : Type) (enc : TypeId × Value → H) :
    ReturnsInHanded {} Tryd.checked os 5 .any (fun w args => (Rows.digestPiecesSpec.pre enc Tryd.prog Tryd.f5 [] false w args ∧ laidMetH Tryd.prog laid5 w) ∧ sizedMet enc Tryd.prog Tryd.f5 (OpenSpec.ofChange Rows.digestPiecesSpec) false w args)
      (Rows.digestPiecesSpec.post enc Tryd.prog Tryd.f5 false true false false) := by
  refine returnsInHanded_of_change_and (C := Tryd.checked) (X := fun w _ => laidMetH Tryd.prog laid5 w) (fun _ _ _ hh h => h.of_heap hh) own started (by kernel_rfl) Tryd.func5
    (ChangeSpec.witness_shaped (enc := enc) (C := Tryd.checked) (os := os) (X := fun w _ => laidMetH Tryd.prog laid5 w) false (World.doorLaid Tryd.prog 102 os) #[.string .empty, .slice none 0 0] 8 rfl (World.shaped_of_RefB (by kernel_rfl) (by kernel_rfl)) (by kernel_rfl) (by kernel_rfl) (by kernel_rfl) (door_met os _)) ?_
  intro W base args ds gs before hval hW _ _ hL _
  exact contractDigestPieces H enc W base args ds gs before hval hW hL
theorem digestPieces_said : Rows.DigestPiecesSaid :=
  OpenClaim.holds_of_wide 5 Tryd.f5 rfl rfl rfl rfl rfl rfl rfl ⟨rfl, rfl, rfl, rfl, rfl⟩ rfl rfl rfl rfl rfl (by kernel_rfl) Tryd.func5 (by kernel_rfl)
    (of_decide_eq_true (by kernel_rfl)) (by unfold Func.isWrapper; first | (rw [if_pos (by decide +kernel)]; kernel_rfl) | (rw [if_neg (by decide +kernel)]; exact ⟨rfl, rfl⟩))
    (fun os started H enc _ => liftedDigestPieces os started H enc)
/-- THE TIED CARD. -/
theorem digestPieces_card : Rows.DigestPiecesCardSaid :=
  Claim7.holds_tied_plain_at .later [] _ _ _ _ digestPieces_said (fun _ h => by cases h) (by kernel_rfl) (fun _ h => by cases h) digestPieces_row_tie rfl ⟨rfl, rfl⟩ (by kernel_rfl) rfl
    (fun f fn hf hfn => by
      obtain rfl : f = 5 := Option.some.inj ((show Tryd.prog.funcNamed "sigillary/sigillarylaw02.DigestPieces" = some 5 by kernel_rfl).symm.trans hf) |>.symm
      obtain rfl : fn = Tryd.f5 := (Option.some.inj (Tryd.func5.symm.trans hfn)).symm
      exact ⟨by kernel_rfl, fun j t ht => by
        rw [Tryd.params5] at ht
        have hm : t ∈ [9, 42] := by simpa using Array.mem_of_getElem? ht
        have hall : ([9, 42].all fun u => !Tryd.prog.wantsStandIn u) = true := by kernel_rfl
        exact (show Tryd.prog.wantsStandIn t = false by simpa using List.all_eq_true.1 hall t hm)⟩)
    (by kernel_rfl)
end Go.Proofs.YtjimpfcgcbbipaaDoor
