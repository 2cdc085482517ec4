/- A text without the signs of flows may stand in a flow just if it may elsewhere; one with a blank ahead, or behind, may nowhere: for every text. Conditions: the laid variables, as the statement lists them. -/
import Derived.Test.YtimbidbpfdaocaaDoorDoor
namespace Go.Proofs.YtimbidbpfdaocaaDoor
open Go.ChangeShapes Go.WideShapes Go.ChangeAt Go.RowKit Go.Shelf
open Go.ChangeMaps (open_string shut_string)
open Pl Seqo

theorem app_data (a b : ByteArray) : (a ++ b).data.toList = a.data.toList ++ b.data.toList := by
  rw [ByteArray.data_append, Array.toList_append]
theorem no_flow (S : ByteArray) (h : ∀ j (hj : j < S.size), inB S[j] [44, 91, 93, 123, 125] = false) : anyFlow S.data.toList = false := by
  unfold anyFlow
  rw [List.any_eq_false]
  intro x hx
  obtain ⟨b, hb, rfl⟩ := List.mem_map.1 hx
  obtain ⟨j, hj, e⟩ := List.getElem_of_mem hb
  rw [size_list] at hj
  have h2 := h j hj
  rw [← get_list S j hj, e] at h2
  have h3 := of_decide_eq_false h2
  rw [Bool.not_eq_true]
  refine decide_eq_false fun hm => h3 ?_
  simp only [flows, List.mem_cons, List.not_mem_nil, or_false] at hm
  simp only [List.mem_cons, List.not_mem_nil, or_false]
  have e2 : ∀ n : UInt8, (b.toNat : Int) = (n.toNat : Int) → b = n := fun n h => UInt8.toNat_inj.1 (by omega)
  rcases hm with h | h | h | h | h
  · exact .inl (e2 44 h)
  · exact .inr (.inl (e2 91 h))
  · exact .inr (.inr (.inl (e2 93 h)))
  · exact .inr (.inr (.inr (.inl (e2 123 h))))
  · exact .inr (.inr (.inr (.inr (e2 125 h))))
theorem some_flow (S : ByteArray) (j : Nat) (hj : j < S.size) (h : inB S[j] [44, 91, 93, 123, 125] = true) : mayR true S.data.toList = false := by
  have h2 : anyFlow S.data.toList = true := by
    unfold anyFlow
    rw [List.any_eq_true]
    refine ⟨(S[j].toNat : Int), List.mem_map.2 ⟨S[j], by rw [← get_list S j hj]; exact List.getElem_mem _, rfl⟩, ?_⟩
    have h3 := of_decide_eq_true h
    refine decide_eq_true ?_
    simp only [List.mem_cons, List.not_mem_nil, or_false] at h3
    simp only [flows, List.mem_cons, List.not_mem_nil, or_false]
    rcases h3 with h | h | h | h | h <;> rw [h] <;> simp
  rw [may_flow, h2, Bool.not_true, Bool.and_false]
set_option maxRecDepth 100000 in
set_option maxHeartbeats 4000000 in
theorem walkFlows (S s : ByteArray) (hSs : S.size ≤ 100) (hc1 : ∀ w, Calls Tryd.prog 9 #[.string s] w fun e w' => e = .returned (.string S) ∧ w = w') (w : World) (E : Env w) :
    Calls Tryd.prog 7 #[.string s] w fun e w' => e = .returned (.bool true) ∧ Below w.heap.size w w' := by
  have HE0 := Lib.hid E
  have HC1 := Lib.hid hc1
  clear E hc1
  go_enter Tryd.func7, Tryd.ntmps7
  go_wp2_with fail
  refine (shown_any _ HE0.out).mono ?_
  rintro e w1 ⟨rfl, hb1⟩
  have HB1 := Lib.hid hb1
  have HE1 := Lib.hid (HE0.out.below hb1)
  clear hb1
  go_wp2_with fail
  refine (HC1.out _).mono ?_
  rintro e w' ⟨rfl, rfl⟩
  go_wp2_with fail
  go_loop [4] (fun i => ∃ k : Nat, k ≤ S.size ∧ i = .int .i64 k ∧ ∀ j (hj : j < S.size), j < k → inB S[j] [44, 91, 93, 123, 125] = false) (fun i => S.size - (intOf i).toNat)
  case atStart => exact ⟨0, Nat.zero_le _, rfl, fun j _ hj => absurd hj (Nat.not_lt_zero _)⟩
  case round =>
    obtain ⟨k, hk, rfl, hne⟩ := hrel
    have HN := Lib.hid hne
    clear hne
    by_cases hlt : k < S.size
    · have hlti : (k : Int) < (S.size : Int) := by omega
      have hA := fun w => Among_any S[k] ⟨#[44, 91, 93, 123, 125]⟩ (by decide) w
      cases hin : inB S[k] [44, 91, 93, 123, 125]
      · simp only [hin] at hA
        have HA := Lib.hid hA
        have HI := Lib.hid hin
        clear hA hin
        go_wp2_with fail
        refine (HA.out _).mono ?_
        rintro e w' ⟨rfl, rfl⟩
        go_wp2_with fail
        go_round
        case rel =>
          refine ⟨k + 1, by omega, by go_num, fun j hj hjk => ?_⟩
          rcases Nat.lt_or_ge j k with h | h
          · exact HN.out j hj h
          · obtain rfl : j = k := by omega
            exact HI.out
        case measure => simp [intOf]; omega
      · simp only [hin] at hA
        have HA := Lib.hid hA
        have hM := fun w E => May_any S (by omega) true w E
        rw [some_flow S k hlt hin] at hM
        have HM := Lib.hid hM
        clear hA hin hM
        go_wp2_with fail
        refine (HA.out _).mono ?_
        rintro e w' ⟨rfl, rfl⟩
        go_wp2_with fail
        refine (HM.out _ HE1.out).mono ?_
        rintro e w2 ⟨rfl, hb2⟩
        have HB2 := Lib.hid (HB1.out.trans (hb2.mono HB1.out.size))
        clear hb2
        go_wp2_with fail
        go_ret
        exact ⟨rfl, HB2.out⟩
    · obtain rfl : k = S.size := by omega
      have hno := no_flow S (fun j hj => HN.out j hj hj)
      have hfl : mayR true S.data.toList = mayR false S.data.toList := by rw [may_flow, hno, Bool.not_false, Bool.and_true]
      obtain ⟨P1, hP1⟩ : ∃ P, (⟨#[32]⟩ : ByteArray) ++ S = P := ⟨_, rfl⟩
      obtain ⟨P2, hP2⟩ : ∃ P, S ++ (⟨#[32]⟩ : ByteArray) = P := ⟨_, rfl⟩
      obtain ⟨P3, hP3⟩ : ∃ P, S ++ (⟨#[58]⟩ : ByteArray) = P := ⟨_, rfl⟩
      obtain ⟨P4, hP4⟩ : ∃ P, S ++ (⟨#[32, 35]⟩ : ByteArray) = P := ⟨_, rfl⟩
      have z1 : P1.size ≤ 1099511627776 := by rw [← hP1, ByteArray.size_append, show (⟨#[32]⟩ : ByteArray).size = 1 from rfl]; omega
      have z2 : P2.size ≤ 1099511627776 := by rw [← hP2, ByteArray.size_append, show (⟨#[32]⟩ : ByteArray).size = 1 from rfl]; omega
      have z3 : P3.size ≤ 1099511627776 := by rw [← hP3, ByteArray.size_append, show (⟨#[58]⟩ : ByteArray).size = 1 from rfl]; omega
      have z4 : P4.size ≤ 1099511627776 := by rw [← hP4, ByteArray.size_append, show (⟨#[32, 35]⟩ : ByteArray).size = 2 from rfl]; omega
      have m0 := fun w E => May_any S (by omega) true w E
      have m00 := fun w E => May_any S (by omega) false w E
      have m1 := fun w E => May_any P1 z1 false w E
      have m2 := fun w E => May_any P2 z2 true w E
      have m3 := fun w E => May_any P3 z3 false w E
      have m4 := fun w E => May_any P4 z4 true w E
      rw [hfl] at m0
      rw [show mayR false P1.data.toList = false by rw [← hP1, app_data]; exact may_blank false _] at m1
      rw [show mayR true P2.data.toList = false by rw [← hP2, app_data]; exact may_blank2 true _] at m2
      rw [show mayR false P3.data.toList = false by rw [← hP3, app_data]; exact may_colon false _] at m3
      rw [show mayR true P4.data.toList = false by rw [← hP4, app_data]; exact may_note true _] at m4
      obtain ⟨M, hMM⟩ : ∃ M, mayR false S.data.toList = M := ⟨_, rfl⟩
      rw [hMM] at m0 m00
      have x1 : ¬ 9223372036854775807 < 1 + S.size := by omega
      have x2 : ¬ 9223372036854775807 < S.size + 1 := by omega
      have x3 : ¬ 9223372036854775807 < S.size + 2 := by omega
      have HM0 := Lib.hid m0
      have HM00 := Lib.hid m00
      have HM1 := Lib.hid m1
      have HM2 := Lib.hid m2
      have HM3 := Lib.hid m3
      have HM4 := Lib.hid m4
      have HP1 := Lib.hid hP1
      have HP2 := Lib.hid hP2
      have HP3 := Lib.hid hP3
      have HP4 := Lib.hid hP4
      clear m0 m00 m1 m2 m3 m4 hno hfl hMM hP1 hP2 hP3 hP4 z1 z2 z3 z4
      go_wp2_with fail
      refine (HM0.out _ HE1.out).mono ?_
      rintro e w2 ⟨rfl, hb2⟩
      have HB2 := Lib.hid (HB1.out.trans (hb2.mono HB1.out.size))
      have HE2 := Lib.hid (HE1.out.below hb2)
      clear hb2
      go_wp2_with fail
      refine (HM00.out _ HE2.out).mono ?_
      rintro e w3 ⟨rfl, hb3⟩
      have HB3 := Lib.hid (HB2.out.trans (hb3.mono HB2.out.size))
      have HE3 := Lib.hid (HE2.out.below hb3)
      clear hb3
      go_wp2_with fail
      rw [HP1.out]
      refine (HM1.out _ HE3.out).mono ?_
      rintro e w4 ⟨rfl, hb4⟩
      have HB4 := Lib.hid (HB3.out.trans (hb4.mono HB3.out.size))
      have HE4 := Lib.hid (HE3.out.below hb4)
      clear hb4
      go_wp2_with fail
      rw [HP2.out]
      refine (HM2.out _ HE4.out).mono ?_
      rintro e w5 ⟨rfl, hb5⟩
      have HB5 := Lib.hid (HB4.out.trans (hb5.mono HB4.out.size))
      have HE5 := Lib.hid (HE4.out.below hb5)
      clear hb5
      go_wp2_with fail
      rw [HP3.out]
      refine (HM3.out _ HE5.out).mono ?_
      rintro e w6 ⟨rfl, hb6⟩
      have HB6 := Lib.hid (HB5.out.trans (hb6.mono HB5.out.size))
      have HE6 := Lib.hid (HE5.out.below hb6)
      clear hb6
      go_wp2_with fail
      rw [HP4.out]
      refine (HM4.out _ HE6.out).mono ?_
      rintro e w7 ⟨rfl, hb7⟩
      have HB7 := Lib.hid (HB6.out.trans (hb7.mono HB6.out.size))
      have HE7 := Lib.hid (HE6.out.below hb7)
      clear hb7
      go_wp2_with fail
      go_ret
      exact ⟨rfl, HB7.out⟩
theorem walkPlainFlows (s : ByteArray) (w : World) (E : Env w) : Calls Tryd.prog 7 #[.string s] w fun e w' => e = .returned (.bool true) ∧ Below w.heap.size w w' :=
  walkFlows (cutT s) s (cutT_size s) (fun w => cut_any s w) w E

set_option maxRecDepth 100000 in
theorem contractPlainFlows (H : Type) (enc : TypeId × Value → H) (W : World) (base : Nat) (args : Array Value) (ds gs : List (DataW H)) (before : List MemPlace)
    (hval : ∀ (j : Nat) t v, Tryd.f7.params[j]? = some t → args[j]? = some v → Value.okWide Tryd.prog W .any base t v)
    (hW : DataW.Whole enc Tryd.prog Tryd.f7.params.toList Rows.plainFlowsSpec.vars false W args.toList ds gs before) (hL : laidMetH Tryd.prog laid7 W) :
    Calls Tryd.prog 7 args W fun e W' => ∃ v, e = .returned v ∧ Rows.plainFlowsSpec.post enc Tryd.prog Tryd.f7 false true false false W args v W' := by
  have hW' := hW
  obtain ⟨p, q, hA0, hV, rfl, hfz, hnd⟩ := hW
  have hA : DataW.TrodAll enc Tryd.prog W 0 (fun _ => true) true Tryd.f7.params.toList args.toList ds p := hA0
  rw [Tryd.params7] at hA hval
  obtain ⟨v0, vs0, d0, ds0, p0, q0, hargs, rfl, rfl, h0, r0⟩ := trodAll_cons hA
  obtain ⟨rfl, rfl, rfl⟩ := trodAll_nil r0
  obtain rfl : args = #[v0] := by cases args; simp_all
  obtain ⟨rfl, rfl⟩ := trodVars_none hV
  obtain ⟨s, rfl, rfl, rfl, w0⟩ := open_string Tryd.underlying9 (hval 0 9 v0 rfl rfl) h0
  clear hA0
  simp only [List.append_nil] at hW'
  refine (walkPlainFlows s W (env_of hL)).mono fun e W' ⟨he, hg⟩ => ?_
  subst he
  refine ⟨_, rfl, _, _, _, [], [], [], hW', ?_, ?_, rfl, hg.frame _, fun h => by cases h⟩
  · exact trodAll_cons_mk (shut_bool Tryd.underlying4 _) trodAll_mk0
  · exact (trodAll_cons_mk (shut_string Tryd.underlying9 w0) trodAll_mk0)

set_option maxRecDepth 100000 in
theorem liftedPlainFlows (os : Os) (started : os.Started) (H : Type) (enc : TypeId × Value → H) :
    ReturnsInHanded {} Tryd.checked os 7 .any (fun w args => (Rows.plainFlowsSpec.pre enc Tryd.prog Tryd.f7 [] false w args ∧ laidMetH Tryd.prog laid7 w) ∧ sizedMet enc Tryd.prog Tryd.f7 (OpenSpec.ofChange Rows.plainFlowsSpec) false w args)
      (Rows.plainFlowsSpec.post enc Tryd.prog Tryd.f7 false true false false) := by
  refine returnsInHanded_of_change_and (C := Tryd.checked) (X := fun w _ => laidMetH Tryd.prog laid7 w) (fun _ _ _ hh h => h.of_heap hh) own started (by kernel_rfl) Tryd.func7
    (ChangeSpec.witness_shaped (enc := enc) (C := Tryd.checked) (os := os) (X := fun w _ => laidMetH Tryd.prog laid7 w) false (World.laidAll Tryd.prog os laid7) #[.string .empty] 8 (World.laidAll_os _ _ _) (door_shaped os) (by kernel_rfl) (by kernel_rfl) (by kernel_rfl) (door_met os _)) ?_
  intro W base args ds gs before hval hW _ _ hL _
  exact contractPlainFlows H enc W base args ds gs before hval hW hL
theorem plainFlows_said : Rows.PlainFlowsSaid :=
  OpenClaim.holds_of_wide 7 Tryd.f7 rfl rfl rfl rfl rfl rfl rfl ⟨rfl, rfl, rfl, rfl, rfl⟩ rfl rfl rfl rfl rfl (by kernel_rfl) Tryd.func7 (by kernel_rfl)
    (of_decide_eq_true (by kernel_rfl)) (by unfold Func.isWrapper; first | (rw [if_pos (by decide +kernel)]; kernel_rfl) | (rw [if_neg (by decide +kernel)]; exact ⟨rfl, rfl⟩))
    (fun os started H enc _ => liftedPlainFlows os started H enc)
/-- THE TIED CARD. -/
theorem plainFlows_card : Rows.PlainFlowsCardSaid :=
  Claim7.holds_tied_plain_at .later [] _ _ _ _ plainFlows_said (fun _ h => by cases h) (by kernel_rfl) (fun _ h => by cases h) plainFlows_row_tie rfl ⟨rfl, rfl⟩ (by kernel_rfl) rfl
    (fun f fn hf hfn => by
      obtain rfl : f = 7 := Option.some.inj ((show Tryd.prog.funcNamed "sigillary/sigillarylaw05.PlainFlows" = some 7 by kernel_rfl).symm.trans hf) |>.symm
      obtain rfl : fn = Tryd.f7 := (Option.some.inj (Tryd.func7.symm.trans hfn)).symm
      exact ⟨by kernel_rfl, fun j t ht => by
        rw [Tryd.params7] at ht
        have hm : t ∈ [9] := by simpa using Array.mem_of_getElem? ht
        have hall : ([9].all fun u => !Tryd.prog.wantsStandIn u) = true := by kernel_rfl
        exact (show Tryd.prog.wantsStandIn t = false by simpa using List.all_eq_true.1 hall t hm)⟩)
    (by kernel_rfl)
end Go.Proofs.YtimbidbpfdaocaaDoor
