/- A text that may stand plain, with a letter ahead of it that makes it no word, is itself: for every text. Conditions: the laid variables, as the statement lists them. -/
import Derived.Test.YtimbidbpfdaocaaDoorDoor
namespace Go.Proofs.YtimbidbpfdaocaaDoor
open Go.ChangeShapes Go.WideShapes Go.ChangeAt Go.RowKit Go.Shelf
open Go.ChangeMaps (open_string shut_string)
open Pl Seqo

theorem app_data2 (a b : ByteArray) : (a ++ b).data.toList = a.data.toList ++ b.data.toList := by
  rw [ByteArray.data_append, Array.toList_append]
theorem val_letter (l : List UInt8) : valOf (81 :: l) = .text := by
  have h1 : lookW (81 :: l) wordsW = none := by
    simp [lookW, wordsW]
  have h2 : looksR (81 :: l) = false := by
    have e : behindS (81 :: l) = 81 :: l := by
      unfold behindS
      rw [dropIf_cons, if_neg (by decide), dropIf_cons, if_neg (by decide)]
    unfold looksR
    rw [e, if_neg (by simp), runesOf_cons 81 l (by decide)]
    show (allF rulesN (-1) 81 _ && _) = false
    rw [allF_false (fs := rulesN) (f := rDigit) (by simp [rulesN]) rfl, Bool.false_and]
  unfold valOf
  rw [h1]
  simp only [h2, Bool.false_eq_true, if_false]
theorem res_letter (S P : ByteArray) (hP : (⟨#[81]⟩ : ByteArray) ++ S = P) (hm : mayR false S.data.toList = true) : mayR false P.data.toList = true ∧ resolveR P = ⟨3, 0, P, 0⟩ := by
  have e : P.data.toList = 81 :: S.data.toList := by rw [← hP, app_data2]; rfl
  have h := may_letter _ hm
  refine ⟨by rw [e]; exact h, ?_⟩
  unfold resolveR
  rw [if_neg (fun hh => by have := hh.2; rw [e, h] at this; cases this), e, val_letter]
  rfl
theorem read_bad (S : ByteArray) (flow : Bool) (hm : mayR flow S.data.toList = false) : readR S flow = ⟨0, 0, ⟨#[]⟩, 51⟩ := by
  unfold readR; rw [if_pos hm]
set_option maxRecDepth 100000 in
set_option maxHeartbeats 4000000 in
theorem walkWords1 (S s : ByteArray) (hSs : S.size ≤ 100) (hc1 : ∀ w, Calls Tryd.prog 9 #[.string s] w fun e w' => e = .returned (.string S) ∧ w = w') (w : World) (E : Env w) (hm : mayR false S.data.toList = false) :
    Calls Tryd.prog 6 #[.string s] w fun e w' => e = .returned (.bool true) ∧ Below w.heap.size w w' := by
  have HE0 := Lib.hid E
  have HC1 := Lib.hid hc1
  have hM := fun w E => May_any S (by omega) false w E
  have hR := fun w E => Read_any S (by omega) false w E
  rw [hm] at hM
  rw [read_bad S false hm] at hR
  have HM := Lib.hid hM
  have HR := Lib.hid hR
  clear E hc1 hM hR hm
  go_enter Tryd.func6, Tryd.ntmps6
  go_wp2_with fail
  refine (shown_any _ HE0.out).mono ?_
  rintro e w1 ⟨rfl, hb1⟩
  have HB1 := Lib.hid hb1
  have HE1 := Lib.hid (HE0.out.below hb1)
  clear hb1
  go_wp2_with fail
  refine (HC1.out _).mono ?_
  rintro e w' ⟨rfl, rfl⟩
  go_wp2_with fail
  refine (HM.out _ HE1.out).mono ?_
  rintro e w2 ⟨rfl, hb2⟩
  have HB2 := Lib.hid (HB1.out.trans (hb2.mono HB1.out.size))
  have HE2 := Lib.hid (HE1.out.below hb2)
  clear hb2
  go_wp2_with fail
  refine (HR.out _ HE2.out).mono ?_
  rintro e w3 ⟨rfl, hb3⟩
  have HB3 := Lib.hid (HB2.out.trans (hb3.mono HB2.out.size))
  clear hb3
  unfold Res.val
  go_wp2_with fail
  go_ret
  exact ⟨rfl, HB3.out.alloc HB3.out.size _⟩
set_option maxRecDepth 100000 in
set_option maxHeartbeats 4000000 in
theorem walkWords2 (S s : ByteArray) (hSs : S.size ≤ 100) (hc1 : ∀ w, Calls Tryd.prog 9 #[.string s] w fun e w' => e = .returned (.string S) ∧ w = w') (w : World) (E : Env w) (hm : mayR false S.data.toList = true) :
    Calls Tryd.prog 6 #[.string s] w fun e w' => e = .returned (.bool true) ∧ Below w.heap.size w w' := by
  have HE0 := Lib.hid E
  have HC1 := Lib.hid hc1
  obtain ⟨P, hP⟩ : ∃ P, (⟨#[81]⟩ : ByteArray) ++ S = P := ⟨_, rfl⟩
  have z1 : P.size ≤ 1099511627776 := by rw [← hP, ByteArray.size_append, show (⟨#[81]⟩ : ByteArray).size = 1 from rfl]; omega
  obtain ⟨hm2, hr2⟩ := res_letter S P hP hm
  have hM := fun w E => May_any S (by omega) false w E
  have hM2 := fun w E => May_any P z1 false w E
  have hR := fun w E => Resolve_any P z1 w E
  rw [hm] at hM
  rw [hm2] at hM2
  rw [hr2] at hR
  have HM := Lib.hid hM
  have HM2 := Lib.hid hM2
  have HR := Lib.hid hR
  have HP := Lib.hid hP
  have x1 : ¬ 9223372036854775807 < 1 + S.size := by omega
  clear E hc1 hM hM2 hR hm hm2 hr2 hP
  go_enter Tryd.func6, Tryd.ntmps6
  go_wp2_with fail
  refine (shown_any _ HE0.out).mono ?_
  rintro e w1 ⟨rfl, hb1⟩
  have HB1 := Lib.hid hb1
  have HE1 := Lib.hid (HE0.out.below hb1)
  clear hb1
  go_wp2_with fail
  refine (HC1.out _).mono ?_
  rintro e w' ⟨rfl, rfl⟩
  go_wp2_with fail
  refine (HM.out _ HE1.out).mono ?_
  rintro e w2 ⟨rfl, hb2⟩
  have HB2 := Lib.hid (HB1.out.trans (hb2.mono HB1.out.size))
  have HE2 := Lib.hid (HE1.out.below hb2)
  clear hb2
  go_wp2_with fail
  rw [HP.out]
  refine (HR.out _ HE2.out).mono ?_
  rintro e w3 ⟨rfl, hb3⟩
  have HB3 := Lib.hid (HB2.out.trans (hb3.mono HB2.out.size))
  have HE3 := Lib.hid (HE2.out.below hb3)
  clear hb3
  unfold Res.val
  go_upto_region 7 with (fail)
  obtain ⟨u3, hu3⟩ : ∃ u, w3.alloc (.cells #[.int .i64 3, .int .i64 0, .string P] 23) = u := ⟨_, rfl⟩
  rw [hu3]
  have hx3 : u3.heap[w3.heap.size]? = some (.cells #[.int .i64 3, .int .i64 0, .string P] 23 (0, 0)) := by rw [← hu3]; exact heap_alloc_new w3 _
  have hb3 : Below w3.heap.size w3 u3 := by rw [← hu3]; exact (Below.refl _ _).alloc (Nat.le_refl _) _
  have HX3 := Lib.hid hx3
  have HBU := Lib.hid (HB3.out.trans (hb3.mono HB3.out.size))
  have HEU := Lib.hid (HE3.out.below hb3)
  clear hu3 hx3 hb3
  go_wp2_with fail
  rw [HP.out]
  refine (HM2.out _ HEU.out).mono ?_
  rintro e w4 ⟨rfl, hb4⟩
  have hx4 := (hb4.block _ (Array.getElem?_eq_some_iff.1 HX3.out).1).trans HX3.out
  have c0 := cell_of_row _ _ 0 _ _ _ hx4
  have c1 := cell_of_row _ _ 1 _ _ _ hx4
  have c2 := cell_of_row _ _ 2 _ _ _ hx4
  simp at c0 c1 c2
  have HB4 := Lib.hid (HBU.out.trans (hb4.mono HBU.out.size))
  clear hb4 hx4
  have q := eq_sc
  have q2 := equal_sc
  have qg := guard_sc
  have s1 : sameB 3 0 P 3 0 P = true := by simp [sameB]
  have hp := HP.out
  go_wp2_with fail
  go_ret
  exact ⟨rfl, HB4.out⟩
theorem walkPlainWords (s : ByteArray) (w : World) (E : Env w) : Calls Tryd.prog 6 #[.string s] w fun e w' => e = .returned (.bool true) ∧ Below w.heap.size w w' := by
  cases hm : mayR false (cutT s).data.toList
  · exact walkWords1 (cutT s) s (cutT_size s) (fun w => cut_any s w) w E hm
  · exact walkWords2 (cutT s) s (cutT_size s) (fun w => cut_any s w) w E hm

set_option maxRecDepth 100000 in
theorem contractPlainWords (H : Type) (enc : TypeId × Value → H) (W : World) (base : Nat) (args : Array Value) (ds gs : List (DataW H)) (before : List MemPlace)
    (hval : ∀ (j : Nat) t v, Tryd.f6.params[j]? = some t → args[j]? = some v → Value.okWide Tryd.prog W .any base t v)
    (hW : DataW.Whole enc Tryd.prog Tryd.f6.params.toList Rows.plainWordsSpec.vars false W args.toList ds gs before) (hL : laidMetH Tryd.prog laid7 W) :
    Calls Tryd.prog 6 args W fun e W' => ∃ v, e = .returned v ∧ Rows.plainWordsSpec.post enc Tryd.prog Tryd.f6 false true false false W args v W' := by
  have hW' := hW
  obtain ⟨p, q, hA0, hV, rfl, hfz, hnd⟩ := hW
  have hA : DataW.TrodAll enc Tryd.prog W 0 (fun _ => true) true Tryd.f6.params.toList args.toList ds p := hA0
  rw [Tryd.params6] at hA hval
  obtain ⟨v0, vs0, d0, ds0, p0, q0, hargs, rfl, rfl, h0, r0⟩ := trodAll_cons hA
  obtain ⟨rfl, rfl, rfl⟩ := trodAll_nil r0
  obtain rfl : args = #[v0] := by cases args; simp_all
  obtain ⟨rfl, rfl⟩ := trodVars_none hV
  obtain ⟨s, rfl, rfl, rfl, w0⟩ := open_string Tryd.underlying9 (hval 0 9 v0 rfl rfl) h0
  clear hA0
  simp only [List.append_nil] at hW'
  refine (walkPlainWords s W (env_of hL)).mono fun e W' ⟨he, hg⟩ => ?_
  subst he
  refine ⟨_, rfl, _, _, _, [], [], [], hW', ?_, ?_, rfl, hg.frame _, fun h => by cases h⟩
  · exact trodAll_cons_mk (shut_bool Tryd.underlying4 _) trodAll_mk0
  · exact (trodAll_cons_mk (shut_string Tryd.underlying9 w0) trodAll_mk0)

set_option maxRecDepth 100000 in
theorem liftedPlainWords (os : Os) (started : os.Started) (H : Type) (enc : TypeId × Value → H) :
    ReturnsInHanded {} Tryd.checked os 6 .any (fun w args => (Rows.plainWordsSpec.pre enc Tryd.prog Tryd.f6 [] false w args ∧ laidMetH Tryd.prog laid7 w) ∧ sizedMet enc Tryd.prog Tryd.f6 (OpenSpec.ofChange Rows.plainWordsSpec) false w args)
      (Rows.plainWordsSpec.post enc Tryd.prog Tryd.f6 false true false false) := by
  refine returnsInHanded_of_change_and (C := Tryd.checked) (X := fun w _ => laidMetH Tryd.prog laid7 w) (fun _ _ _ hh h => h.of_heap hh) own started (by kernel_rfl) Tryd.func6
    (ChangeSpec.witness_shaped (enc := enc) (C := Tryd.checked) (os := os) (X := fun w _ => laidMetH Tryd.prog laid7 w) false (World.laidAll Tryd.prog os laid7) #[.string .empty] 8 (World.laidAll_os _ _ _) (door_shaped os) (by kernel_rfl) (by kernel_rfl) (by kernel_rfl) (door_met os _)) ?_
  intro W base args ds gs before hval hW _ _ hL _
  exact contractPlainWords H enc W base args ds gs before hval hW hL
theorem plainWords_said : Rows.PlainWordsSaid :=
  OpenClaim.holds_of_wide 6 Tryd.f6 rfl rfl rfl rfl rfl rfl rfl ⟨rfl, rfl, rfl, rfl, rfl⟩ rfl rfl rfl rfl rfl (by kernel_rfl) Tryd.func6 (by kernel_rfl)
    (of_decide_eq_true (by kernel_rfl)) (by unfold Func.isWrapper; first | (rw [if_pos (by decide +kernel)]; kernel_rfl) | (rw [if_neg (by decide +kernel)]; exact ⟨rfl, rfl⟩))
    (fun os started H enc _ => liftedPlainWords os started H enc)
/-- THE TIED CARD. -/
theorem plainWords_card : Rows.PlainWordsCardSaid :=
  Claim7.holds_tied_plain_at .later [] _ _ _ _ plainWords_said (fun _ h => by cases h) (by kernel_rfl) (fun _ h => by cases h) plainWords_row_tie rfl ⟨rfl, rfl⟩ (by kernel_rfl) rfl
    (fun f fn hf hfn => by
      obtain rfl : f = 6 := Option.some.inj ((show Tryd.prog.funcNamed "sigillary/sigillarylaw05.PlainWords" = some 6 by kernel_rfl).symm.trans hf) |>.symm
      obtain rfl : fn = Tryd.f6 := (Option.some.inj (Tryd.func6.symm.trans hfn)).symm
      exact ⟨by kernel_rfl, fun j t ht => by
        rw [Tryd.params6] at ht
        have hm : t ∈ [9] := by simpa using Array.mem_of_getElem? ht
        have hall : ([9].all fun u => !Tryd.prog.wantsStandIn u) = true := by kernel_rfl
        exact (show Tryd.prog.wantsStandIn t = false by simpa using List.all_eq_true.1 hall t hm)⟩)
    (by kernel_rfl)
end Go.Proofs.YtimbidbpfdaocaaDoor
