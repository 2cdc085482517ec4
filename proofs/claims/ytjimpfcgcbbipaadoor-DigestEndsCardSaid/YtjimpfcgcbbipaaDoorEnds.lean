/- An end has nine to seventy-two bytes, with its message a multiple of sixty-four, and no message with its end is the end of another one with its, for every two texts. Conditions: the laid variables, as the statement lists them. -/
import Derived.Test.YtjimpfcgcbbipaaDoorEndsW
namespace Go.Proofs.YtjimpfcgcbbipaaDoor
open Go.ChangeShapes Go.WideShapes Go.ChangeAt Go.RowKit Go.Shelf
open Go.ChangeMaps (open_string shut_string)
open Rd Dg Box
set_option maxRecDepth 100000 in
set_option maxHeartbeats 2000000 in
theorem walkEnds (s t : ByteArray) (B : Nat) (w : World) (E : Env B w) :
    Calls Tryd.prog 7 #[.string s, .string t] w fun e w' => e = .returned (.bool true) ∧ Below w.heap.size w w' := by
  have HE := Lib.hid E
  obtain ⟨S, hS⟩ : ∃ S, cutB s = S := ⟨_, rfl⟩
  obtain ⟨T, hT⟩ : ∃ T, cutB t = T := ⟨_, rfl⟩
  have hSs : S.size ≤ 300 := by rw [← hS]; exact cutB_size s
  have hTs : T.size ≤ 300 := by rw [← hT]; exact cutB_size t
  have hc1 := fun w => cut_any s w
  have hc2 := fun w => cut_any t w
  rw [hS] at hc1
  rw [hT] at hc2
  obtain ⟨P, hP⟩ : ∃ Q : ByteArray, (⟨(endL S.size).toArray⟩ : ByteArray) = Q := ⟨_, rfl⟩
  obtain ⟨Q, hQ⟩ : ∃ Q : ByteArray, (⟨(endL T.size).toArray⟩ : ByteArray) = Q := ⟨_, rfl⟩
  have he1 := fun w => End_ok S.size (by omega) w
  have he2 := fun w => End_ok T.size (by omega) w
  rw [hP] at he1
  rw [hQ] at he2
  have hPs : P.size = (endL S.size).length := by rw [← hP]; rfl
  obtain ⟨hP9, hP72⟩ : 9 ≤ P.size ∧ P.size ≤ 72 := by rw [hPs]; exact endL_bounds _
  have hQ72 : Q.size ≤ 72 := by
    have h : Q.size = (endL T.size).length := by rw [← hQ]; rfl
    rw [h]; exact (endL_bounds _).2
  obtain ⟨X, hX⟩ : ∃ X : ByteArray, S ++ P = X := ⟨_, rfl⟩
  obtain ⟨Y, hY⟩ : ∃ Y : ByteArray, T ++ Q = Y := ⟨_, rfl⟩
  have hXl : X.data.toList = S.data.toList ++ endL S.data.toList.length := by rw [← hX, ByteArray.data_append, Array.toList_append, ← hP]; rfl
  have hYl : Y.data.toList = T.data.toList ++ endL T.data.toList.length := by rw [← hY, ByteArray.data_append, Array.toList_append, ← hQ]; rfl
  have hXs : X.size = S.size + P.size := by rw [← hX]; exact ByteArray.size_append
  have hX64 : (X.size : Int) % 64 = 0 := by
    have h := endL_whole S.size
    rw [← hPs] at h
    omega
  have hX372 : X.size ≤ 372 := by omega
  have hY372 : Y.size ≤ 372 := by rw [← hY, ByteArray.size_append]; omega
  have HC1 := Lib.hid hc1
  have HC2 := Lib.hid hc2
  have HE1 := Lib.hid he1
  have HE2 := Lib.hid he2
  have HX := Lib.hid hX
  have HY := Lib.hid hY
  have HXL := Lib.hid hXl
  have HYL := Lib.hid hYl
  clear E hS hT hc1 hc2 he1 he2 hX hY hXl hYl hP hQ hPs hXs
  go_enter Tryd.func7, Tryd.ntmps7
  go_wp2_with fail
  refine (shown_any B _ HE.out).mono ?_
  rintro e w1 ⟨rfl, hb1⟩
  have HB1 := Lib.hid hb1
  have hz1 := hb1.size
  clear hb1
  go_wp2_with fail
  refine (HC1.out _).mono ?_
  rintro e w2 ⟨rfl, rfl⟩
  go_wp2_with fail
  refine (HC2.out _).mono ?_
  rintro e w2 ⟨rfl, rfl⟩
  go_wp2_with fail
  refine (HE1.out _).mono ?_
  rintro e w2 ⟨rfl, hb2⟩
  have HB2 := Lib.hid (HB1.out.trans (hb2.mono (by omega)))
  have hz2 := hb2.size
  clear hb2
  go_wp2_with fail
  refine (HE2.out _).mono ?_
  rintro e w3 ⟨rfl, hb3⟩
  have HB3 := Lib.hid (HB2.out.trans (hb3.mono (by omega)))
  clear hb3
  go_upto_region 8 with fail
  rw [HX.out, HY.out]
  by_cases hle : X.size ≤ Y.size
  · have hlei : (X.size : Int) ≤ (Y.size : Int) := by omega
    obtain ⟨k, hk⟩ : ∃ k, Y.size - X.size = k := ⟨_, rfl⟩
    have hki : (Y.size : Int) - (X.size : Int) = (k : Int) := by omega
    have hkY : (k : Int) ≤ (Y.size : Int) := by omega
    obtain ⟨Z, hZ⟩ : ∃ Z, Y.extract k Y.size = Z := ⟨_, rfl⟩
    have hiff : (Z.toList == X.toList) = (S.toList == T.toList) := by
      rw [Bool.eq_iff_iff, beq_iff_eq, beq_iff_eq, ByteArray.toList_eq, ByteArray.toList_eq, ByteArray.toList_eq, ByteArray.toList_eq]
      have hZl : Z.data.toList = Y.data.toList.drop (Y.data.toList.length - X.data.toList.length) := by
        have hy : Y.data.toList.length = Y.size := by rw [Array.length_toList]; rfl
        have hx : X.data.toList.length = X.size := by rw [Array.length_toList]; rfl
        rw [hy, hx, hk, ← hZ, ByteArray.data_extract, Array.toList_extract, List.extract_eq_take_drop]
        exact List.take_of_length_le (by rw [List.length_drop, hy]; omega)
      have hSl : S.data.toList.length ≤ 300 := by rw [Array.length_toList]; exact hSs
      have hTl : T.data.toList.length ≤ 300 := by rw [Array.length_toList]; exact hTs
      have hle' : X.data.toList.length ≤ Y.data.toList.length := by rw [Array.length_toList, Array.length_toList]; exact hle
      rw [hZl]
      constructor
      · intro h
        rw [HXL.out, HYL.out] at h hle'
        exact ends_iff _ _ hSl hTl hle' h
      · intro h
        rw [HXL.out, HYL.out, h]
        simp
    go_wp2
    go_ret
    exact ⟨rfl, HB3.out⟩
  · have hlei : ¬ (X.size : Int) ≤ (Y.size : Int) := by omega
    have hne : (S.toList == T.toList) = false := by
      rw [beq_eq_false_iff_ne]
      intro h
      rw [ByteArray.toList_eq, ByteArray.toList_eq] at h
      have e : X.data.toList = Y.data.toList := by rw [HXL.out, HYL.out, h]
      have e2 := congrArg List.length e
      rw [Array.length_toList, Array.length_toList] at e2
      exact hle (Nat.le_of_eq e2)
    go_wp2
    go_ret
    exact ⟨rfl, HB3.out⟩
theorem walkDigestEnds (s t : ByteArray) (w : World) (hE : ∃ B, Env B w) :
    Calls Tryd.prog 7 #[.string s, .string t] w fun e w' => e = .returned (.bool true) ∧ Below w.heap.size w w' := by
  obtain ⟨B, E⟩ := hE
  exact walkEnds s t B w E

set_option maxRecDepth 100000 in
theorem contractDigestEnds (H : Type) (enc : TypeId × Value → H) (W : World) (base : Nat) (args : Array Value) (ds gs : List (DataW H)) (before : List MemPlace)
    (hval : ∀ (j : Nat) t v, Tryd.f7.params[j]? = some t → args[j]? = some v → Value.okWide Tryd.prog W .any base t v)
    (hW : DataW.Whole enc Tryd.prog Tryd.f7.params.toList Rows.digestEndsSpec.vars false W args.toList ds gs before) (hL : laidMetH Tryd.prog laid5 W) :
    Calls Tryd.prog 7 args W fun e W' => ∃ v, e = .returned v ∧ Rows.digestEndsSpec.post enc Tryd.prog Tryd.f7 false true false false W args v W' := by
  have hW' := hW
  obtain ⟨p, q, hA0, hV, rfl, hfz, hnd⟩ := hW
  have hA : DataW.TrodAll enc Tryd.prog W 0 (fun _ => true) true Tryd.f7.params.toList args.toList ds p := hA0
  rw [Tryd.params7] at hA hval
  obtain ⟨v0, vs0, d0, ds0, p0, q0, hargs, rfl, rfl, h0, r0⟩ := trodAll_cons hA
  obtain ⟨v1, vs1, d1, ds1, p1, q1, rfl, rfl, rfl, h1, r1⟩ := trodAll_cons r0
  obtain ⟨rfl, rfl, rfl⟩ := trodAll_nil r1
  obtain rfl : args = #[v0, v1] := by cases args; simp_all
  obtain ⟨rfl, rfl⟩ := trodVars_none hV
  obtain ⟨s, rfl, rfl, rfl, w0⟩ := open_string Tryd.underlying9 (hval 0 9 v0 rfl rfl) h0
  obtain ⟨t, rfl, rfl, rfl, w1⟩ := open_string Tryd.underlying9 (hval 1 9 v1 rfl rfl) h1
  clear hA0
  simp only [List.append_nil] at hW'
  refine (walkDigestEnds s t W (env_of hL)).mono fun e W' ⟨he, hg⟩ => ?_
  subst he
  refine ⟨_, rfl, _, _, _, [], [], [], hW', ?_, ?_, rfl, hg.frame _, fun h => by cases h⟩
  · exact trodAll_cons_mk (shut_bool Tryd.underlying4 _) trodAll_mk0
  · exact (trodAll_cons_mk (shut_string Tryd.underlying9 w0) (trodAll_cons_mk (shut_string Tryd.underlying9 w1) trodAll_mk0))

set_option maxRecDepth 100000 in
theorem liftedDigestEnds (os : Os) (started : os.Started) (H : Type) (enc : TypeId × Value → H) :
    ReturnsInHanded {} Tryd.checked os 7 .any (fun w args => (Rows.digestEndsSpec.pre enc Tryd.prog Tryd.f7 [] false w args ∧ laidMetH Tryd.prog laid5 w) ∧ sizedMet enc Tryd.prog Tryd.f7 (OpenSpec.ofChange Rows.digestEndsSpec) false w args)
      (Rows.digestEndsSpec.post enc Tryd.prog Tryd.f7 false true false false) := by
  refine returnsInHanded_of_change_and (C := Tryd.checked) (X := fun w _ => laidMetH Tryd.prog laid5 w) (fun _ _ _ hh h => h.of_heap hh) own started (by kernel_rfl) Tryd.func7
    (ChangeSpec.witness_shaped (enc := enc) (C := Tryd.checked) (os := os) (X := fun w _ => laidMetH Tryd.prog laid5 w) false (World.doorLaid Tryd.prog 102 os) #[.string .empty, .string .empty] 8 rfl (World.shaped_of_RefB (by kernel_rfl) (by kernel_rfl)) (by kernel_rfl) (by kernel_rfl) (by kernel_rfl) (door_met os _)) ?_
  intro W base args ds gs before hval hW _ _ hL _
  exact contractDigestEnds H enc W base args ds gs before hval hW hL
theorem digestEnds_said : Rows.DigestEndsSaid :=
  OpenClaim.holds_of_wide 7 Tryd.f7 rfl rfl rfl rfl rfl rfl rfl ⟨rfl, rfl, rfl, rfl, rfl⟩ rfl rfl rfl rfl rfl (by kernel_rfl) Tryd.func7 (by kernel_rfl)
    (of_decide_eq_true (by kernel_rfl)) (by unfold Func.isWrapper; first | (rw [if_pos (by decide +kernel)]; kernel_rfl) | (rw [if_neg (by decide +kernel)]; exact ⟨rfl, rfl⟩))
    (fun os started H enc _ => liftedDigestEnds os started H enc)
/-- THE TIED CARD. -/
theorem digestEnds_card : Rows.DigestEndsCardSaid :=
  Claim7.holds_tied_plain_at .later [] _ _ _ _ digestEnds_said (fun _ h => by cases h) (by kernel_rfl) (fun _ h => by cases h) digestEnds_row_tie rfl ⟨rfl, rfl⟩ (by kernel_rfl) rfl
    (fun f fn hf hfn => by
      obtain rfl : f = 7 := Option.some.inj ((show Tryd.prog.funcNamed "sigillary/sigillarylaw02.DigestEnds" = some 7 by kernel_rfl).symm.trans hf) |>.symm
      obtain rfl : fn = Tryd.f7 := (Option.some.inj (Tryd.func7.symm.trans hfn)).symm
      exact ⟨by kernel_rfl, fun j t ht => by
        rw [Tryd.params7] at ht
        have hm : t ∈ [9, 9] := by simpa using Array.mem_of_getElem? ht
        have hall : ([9, 9].all fun u => !Tryd.prog.wantsStandIn u) = true := by kernel_rfl
        exact (show Tryd.prog.wantsStandIn t = false by simpa using List.all_eq_true.1 hall t hm)⟩)
    (by kernel_rfl)
end Go.Proofs.YtjimpfcgcbbipaaDoor
