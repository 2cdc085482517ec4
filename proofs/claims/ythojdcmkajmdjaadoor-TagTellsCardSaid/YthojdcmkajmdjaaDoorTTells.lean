/- Tags, digits, texts of digits, and which texts are the same, are told as the document says, for every two texts. Conditions: the laid variables, as the statement lists them. -/
import Derived.Test.YthojdcmkajmdjaaDoorDoor6
import Derived.Test.YthojdcmkajmdjaaDoorRefO
import Derived.Test.YthojdcmkajmdjaaDoorRefZ
import Derived.Deep.RegionHeld
import Derived.Deep.RegionWith
import Derived.BigQuiet
import Derived.Deep.QuietTactic
import Derived.Deep.DeepCutAuto
namespace Go.Proofs.YthojdcmkajmdjaaDoor
open Go.ChangeShapes Go.WideShapes Go.ChangeAt Go.RowKit Go.Shelf
open Go.ChangeMaps (open_string shut_string)
open Rd Dg Hx Box Seqs
/-- what the two calls answer, as a pair -/
theorem un_pair (l : List UInt8) : ∃ (u : ByteArray) (v : Int), (match unL l with | some o => Value.tuple #[.string ⟨o.toArray⟩, .int .i64 0] | none => .tuple #[.string ⟨#[]⟩, .int .i64 30]) = .tuple #[.string u, .int .i64 v] ∧ unA (unL l) = .tuple #[.string u, .int .i64 v] := by
  cases h : unL l with
  | none => exact ⟨⟨#[]⟩, 30, rfl, rfl⟩
  | some o => exact ⟨⟨o.toArray⟩, 0, rfl, rfl⟩
set_option maxRecDepth 100000 in
set_option maxHeartbeats 2000000 in
theorem walkTells1 (A D : ByteArray) (hAs : A.size ≤ 200) (hDs : D.size ≤ 200) (hne : A ≠ D) (a b : ByteArray) (hc1 : ∀ w, Calls Tryd.prog 11 #[.string a] w fun e w' => e = .returned (.string A) ∧ w = w') (hc2 : ∀ w, Calls Tryd.prog 11 #[.string b] w fun e w' => e = .returned (.string D) ∧ w = w') (B : Nat) (w : World) (E : Env B w) (T : Tab w) :
    Calls Tryd.prog 3 #[.string a, .string b] w fun e w' => e = .returned (.bool true) ∧ Below w.heap.size w w' := by
  have HE0 := Lib.hid E
  have HT0 := Lib.hid T
  have hBw := T.1
  have HC1 := Lib.hid hc1
  have HC2 := Lib.hid hc2
  have hO := fun w E => Of_ok A D (by omega) (by omega) B w E
  have hR := fun w E => RefOf_ok A D hAs hDs w E
  obtain ⟨q, hq⟩ : ∃ q, hmac A D = q := ⟨_, rfl⟩
  rw [hq] at hO hR
  have hX := fun w => Hex_ok A (by omega) w
  have hY := fun w => RefHex_ok A (by omega) w
  obtain ⟨X, hXX⟩ : ∃ X : ByteArray, (⟨(hexL A.data.toList).toArray⟩ : ByteArray) = X := ⟨_, rfl⟩
  rw [hXX] at hX hY
  have hV := fun w => RefUnhex_ok A (by omega) w
  obtain ⟨u, v, hu1, hu2⟩ := un_pair A.data.toList
  rw [hu2] at hV
  have hU : ∀ w, Calls Tryd.prog 14 #[.string A] w fun e w' => e = .returned (.tuple #[.string u, .int .i64 v]) ∧ Below w.heap.size w w' := fun w => by
    rw [← hu1]
    exact Unhex_ok A (by omega) w
  have hQ := fun w => Equal_ok A D (by omega) (by omega) w
  rw [decide_eq_false hne] at hQ
  have hbt : (A.toList == D.toList) = false := beq_eq_false_iff_ne.2 fun h => hne (ByteArray.ext (Array.toList_inj.1 (by rw [← ByteArray.toList_eq, ← ByteArray.toList_eq]; exact h)))
  have HO := Lib.hid hO
  have HR := Lib.hid hR
  have HX := Lib.hid hX
  have HY := Lib.hid hY
  have HU := Lib.hid hU
  have HV := Lib.hid hV
  have HQ := Lib.hid hQ
  clear E T hc1 hc2 hO hR hq hX hY hXX hU hV hu1 hu2 hQ
  go_enter Tryd.func3, Tryd.ntmps3
  go_wp2_with fail
  refine (shown3_any B _ HE0.out).mono ?_
  rintro e w1 ⟨rfl, hb1⟩
  have hz1 := hb1.size
  have HB1 := Lib.hid hb1
  have HE1 := Lib.hid (HE0.out.below' hb1)
  have HT1 := Lib.hid (HT0.out.below hb1 (by omega))
  clear hb1
  go_wp2_with fail
  refine (HC1.out _).mono ?_
  rintro e w' ⟨rfl, rfl⟩
  go_wp2_with fail
  refine (HC2.out _).mono ?_
  rintro e w' ⟨rfl, rfl⟩
  go_wp2_with fail
  refine (HO.out _ HE1.out).mono ?_
  rintro e w2 ⟨rfl, hb2⟩
  have hz2 := hb2.size
  have HB2 := Lib.hid (HB1.out.trans (hb2.mono (by have := HB1.out.size; omega)))
  have HE2 := Lib.hid (HE1.out.below' hb2)
  have HT2 := Lib.hid (HT1.out.below hb2 (by omega))
  clear hb2
  go_wp2_with fail
  refine (HR.out _ HT2.out).mono ?_
  rintro e w3 ⟨rfl, hb3⟩
  have hz3 := hb3.size
  have HB3 := Lib.hid (HB2.out.trans (hb3.mono (by have := HB2.out.size; omega)))
  have HE3 := Lib.hid (HE2.out.below' hb3)
  have HT3 := Lib.hid (HT2.out.below hb3 (by omega))
  clear hb3
  go_wp2_with fail
  refine (HU.out _).mono ?_
  rintro e w4 ⟨rfl, hb4⟩
  have hz4 := hb4.size
  have HB4 := Lib.hid (HB3.out.trans (hb4.mono (by have := HB3.out.size; omega)))
  have HE4 := Lib.hid (HE3.out.below' hb4)
  have HT4 := Lib.hid (HT3.out.below hb4 (by omega))
  clear hb4
  go_wp2_with fail
  refine (HV.out _).mono ?_
  rintro e w5 ⟨rfl, hb5⟩
  have hz5 := hb5.size
  have HB5 := Lib.hid (HB4.out.trans (hb5.mono (by have := HB4.out.size; omega)))
  have HE5 := Lib.hid (HE4.out.below' hb5)
  have HT5 := Lib.hid (HT4.out.below hb5 (by omega))
  clear hb5
  go_wp2_with fail
  refine (HX.out _).mono ?_
  rintro e w6 ⟨rfl, hb6⟩
  have hz6 := hb6.size
  have HB6 := Lib.hid (HB5.out.trans (hb6.mono (by have := HB5.out.size; omega)))
  clear hb6
  go_wp2_with fail
  refine (HY.out _).mono ?_
  rintro e w7 ⟨rfl, hb7⟩
  have hz7 := hb7.size
  have HB7 := Lib.hid (HB6.out.trans (hb7.mono (by have := HB6.out.size; omega)))
  clear hb7
  go_wp2_with fail
  refine (HQ.out _).mono ?_
  rintro e w8 ⟨rfl, hb8⟩
  have hz8 := hb8.size
  have HB8 := Lib.hid (HB7.out.trans (hb8.mono (by have := HB7.out.size; omega)))
  clear hb8
  go_wp2
  go_ret
  exact ⟨rfl, HB8.out⟩
set_option maxRecDepth 100000 in
set_option maxHeartbeats 2000000 in
theorem walkTells2 (A D : ByteArray) (hAs : A.size ≤ 200) (hDs : D.size ≤ 200) (hne : A = D) (a b : ByteArray) (hc1 : ∀ w, Calls Tryd.prog 11 #[.string a] w fun e w' => e = .returned (.string A) ∧ w = w') (hc2 : ∀ w, Calls Tryd.prog 11 #[.string b] w fun e w' => e = .returned (.string D) ∧ w = w') (B : Nat) (w : World) (E : Env B w) (T : Tab w) :
    Calls Tryd.prog 3 #[.string a, .string b] w fun e w' => e = .returned (.bool true) ∧ Below w.heap.size w w' := by
  have HE0 := Lib.hid E
  have HT0 := Lib.hid T
  have hBw := T.1
  have HC1 := Lib.hid hc1
  have HC2 := Lib.hid hc2
  have hO := fun w E => Of_ok A D (by omega) (by omega) B w E
  have hR := fun w E => RefOf_ok A D hAs hDs w E
  obtain ⟨q, hq⟩ : ∃ q, hmac A D = q := ⟨_, rfl⟩
  rw [hq] at hO hR
  have hX := fun w => Hex_ok A (by omega) w
  have hY := fun w => RefHex_ok A (by omega) w
  obtain ⟨X, hXX⟩ : ∃ X : ByteArray, (⟨(hexL A.data.toList).toArray⟩ : ByteArray) = X := ⟨_, rfl⟩
  rw [hXX] at hX hY
  have hV := fun w => RefUnhex_ok A (by omega) w
  obtain ⟨u, v, hu1, hu2⟩ := un_pair A.data.toList
  rw [hu2] at hV
  have hU : ∀ w, Calls Tryd.prog 14 #[.string A] w fun e w' => e = .returned (.tuple #[.string u, .int .i64 v]) ∧ Below w.heap.size w w' := fun w => by
    rw [← hu1]
    exact Unhex_ok A (by omega) w
  have hQ := fun w => Equal_ok A D (by omega) (by omega) w
  rw [decide_eq_true hne] at hQ
  subst hne
  have HO := Lib.hid hO
  have HR := Lib.hid hR
  have HX := Lib.hid hX
  have HY := Lib.hid hY
  have HU := Lib.hid hU
  have HV := Lib.hid hV
  have HQ := Lib.hid hQ
  clear E T hc1 hc2 hO hR hq hX hY hXX hU hV hu1 hu2 hQ
  go_enter Tryd.func3, Tryd.ntmps3
  go_wp2_with fail
  refine (shown3_any B _ HE0.out).mono ?_
  rintro e w1 ⟨rfl, hb1⟩
  have hz1 := hb1.size
  have HB1 := Lib.hid hb1
  have HE1 := Lib.hid (HE0.out.below' hb1)
  have HT1 := Lib.hid (HT0.out.below hb1 (by omega))
  clear hb1
  go_wp2_with fail
  refine (HC1.out _).mono ?_
  rintro e w' ⟨rfl, rfl⟩
  go_wp2_with fail
  refine (HC2.out _).mono ?_
  rintro e w' ⟨rfl, rfl⟩
  go_wp2_with fail
  refine (HO.out _ HE1.out).mono ?_
  rintro e w2 ⟨rfl, hb2⟩
  have hz2 := hb2.size
  have HB2 := Lib.hid (HB1.out.trans (hb2.mono (by have := HB1.out.size; omega)))
  have HE2 := Lib.hid (HE1.out.below' hb2)
  have HT2 := Lib.hid (HT1.out.below hb2 (by omega))
  clear hb2
  go_wp2_with fail
  refine (HR.out _ HT2.out).mono ?_
  rintro e w3 ⟨rfl, hb3⟩
  have hz3 := hb3.size
  have HB3 := Lib.hid (HB2.out.trans (hb3.mono (by have := HB2.out.size; omega)))
  have HE3 := Lib.hid (HE2.out.below' hb3)
  have HT3 := Lib.hid (HT2.out.below hb3 (by omega))
  clear hb3
  go_wp2_with fail
  refine (HU.out _).mono ?_
  rintro e w4 ⟨rfl, hb4⟩
  have hz4 := hb4.size
  have HB4 := Lib.hid (HB3.out.trans (hb4.mono (by have := HB3.out.size; omega)))
  have HE4 := Lib.hid (HE3.out.below' hb4)
  have HT4 := Lib.hid (HT3.out.below hb4 (by omega))
  clear hb4
  go_wp2_with fail
  refine (HV.out _).mono ?_
  rintro e w5 ⟨rfl, hb5⟩
  have hz5 := hb5.size
  have HB5 := Lib.hid (HB4.out.trans (hb5.mono (by have := HB4.out.size; omega)))
  have HE5 := Lib.hid (HE4.out.below' hb5)
  have HT5 := Lib.hid (HT4.out.below hb5 (by omega))
  clear hb5
  go_wp2_with fail
  refine (HX.out _).mono ?_
  rintro e w6 ⟨rfl, hb6⟩
  have hz6 := hb6.size
  have HB6 := Lib.hid (HB5.out.trans (hb6.mono (by have := HB5.out.size; omega)))
  clear hb6
  go_wp2_with fail
  refine (HY.out _).mono ?_
  rintro e w7 ⟨rfl, hb7⟩
  have hz7 := hb7.size
  have HB7 := Lib.hid (HB6.out.trans (hb7.mono (by have := HB6.out.size; omega)))
  clear hb7
  go_wp2_with fail
  refine (HQ.out _).mono ?_
  rintro e w8 ⟨rfl, hb8⟩
  have hz8 := hb8.size
  have HB8 := Lib.hid (HB7.out.trans (hb8.mono (by have := HB7.out.size; omega)))
  clear hb8
  go_wp2
  go_ret
  exact ⟨rfl, HB8.out⟩
set_option maxRecDepth 100000 in
set_option maxHeartbeats 4000000 in
theorem walkTells (a : ByteArray) (b : ByteArray) (B : Nat) (w : World) (E : Env B w) (T : Tab w) :
    Calls Tryd.prog 3 #[.string a, .string b] w fun e w' => e = .returned (.bool true) ∧ Below w.heap.size w w' := by
  obtain ⟨A, hA⟩ : ∃ A, cutT a = A := ⟨_, rfl⟩
  obtain ⟨D, hD⟩ : ∃ D, cutT b = D := ⟨_, rfl⟩
  have hAs : A.size ≤ 200 := by rw [← hA]; exact cutT_size a
  have hDs : D.size ≤ 200 := by rw [← hD]; exact cutT_size b
  have hc1 := fun w => cut3_any a w
  have hc2 := fun w => cut3_any b w
  rw [hA] at hc1
  rw [hD] at hc2
  by_cases hne : A = D
  · exact walkTells2 A D hAs hDs hne a b hc1 hc2 B w E T
  · exact walkTells1 A D hAs hDs hne a b hc1 hc2 B w E T
theorem walkTagTells (a : ByteArray) (b : ByteArray) (w : World) (hE : (∃ B, Env B w) ∧ Tab w) :
    Calls Tryd.prog 3 #[.string a, .string b] w fun e w' => e = .returned (.bool true) ∧ Below w.heap.size w w' := by
  obtain ⟨⟨B, E⟩, T⟩ := hE
  exact walkTells a b B w E T

set_option maxRecDepth 100000 in
theorem contractTagTells (H : Type) (enc : TypeId × Value → H) (W : World) (base : Nat) (args : Array Value) (ds gs : List (DataW H)) (before : List MemPlace)
    (hval : ∀ (j : Nat) t v, Tryd.f3.params[j]? = some t → args[j]? = some v → Value.okWide Tryd.prog W .any base t v)
    (hW : DataW.Whole enc Tryd.prog Tryd.f3.params.toList Rows.tagTellsSpec.vars false W args.toList ds gs before) (hL : laidMetH Tryd.prog laid6 W) :
    Calls Tryd.prog 3 args W fun e W' => ∃ v, e = .returned v ∧ Rows.tagTellsSpec.post enc Tryd.prog Tryd.f3 false true false false W args v W' := by
  have hW' := hW
  obtain ⟨p, q, hA0, hV, rfl, hfz, hnd⟩ := hW
  have hA : DataW.TrodAll enc Tryd.prog W 0 (fun _ => true) true Tryd.f3.params.toList args.toList ds p := hA0
  rw [Tryd.params3] at hA hval
  obtain ⟨v0, vs0, d0, ds0, p0, q0, hargs, rfl, rfl, h0, r0⟩ := trodAll_cons hA
  obtain ⟨v1, vs1, d1, ds1, p1, q1, rfl, rfl, rfl, h1, r1⟩ := trodAll_cons r0
  obtain ⟨rfl, rfl, rfl⟩ := trodAll_nil r1
  obtain rfl : args = #[v0, v1] := by cases args; simp_all
  obtain ⟨rfl, rfl⟩ := trodVars_none hV
  obtain ⟨a, rfl, rfl, rfl, w0⟩ := open_string Tryd.underlying9 (hval 0 9 v0 rfl rfl) h0
  obtain ⟨b, rfl, rfl, rfl, w1⟩ := open_string Tryd.underlying9 (hval 1 9 v1 rfl rfl) h1
  clear hA0
  simp only [List.append_nil] at hW'
  refine (walkTagTells a b W (env6_of hL)).mono fun e W' ⟨he, hg⟩ => ?_
  subst he
  refine ⟨_, rfl, _, _, _, [], [], [], hW', ?_, ?_, rfl, hg.frame _, fun h => by cases h⟩
  · exact trodAll_cons_mk (shut_bool Tryd.underlying4 _) trodAll_mk0
  · exact (trodAll_cons_mk (shut_string Tryd.underlying9 w0) (trodAll_cons_mk (shut_string Tryd.underlying9 w1) trodAll_mk0))

set_option maxRecDepth 100000 in
theorem liftedTagTells (os : Os) (started : os.Started) (H : Type) (enc : TypeId × Value → H) :
    ReturnsInHanded {} Tryd.checked os 3 .any (fun w args => (Rows.tagTellsSpec.pre enc Tryd.prog Tryd.f3 [] false w args ∧ laidMetH Tryd.prog laid6 w) ∧ sizedMet enc Tryd.prog Tryd.f3 (OpenSpec.ofChange Rows.tagTellsSpec) false w args)
      (Rows.tagTellsSpec.post enc Tryd.prog Tryd.f3 false true false false) := by
  refine returnsInHanded_of_change_and (C := Tryd.checked) (X := fun w _ => laidMetH Tryd.prog laid6 w) (fun _ _ _ hh h => h.of_heap hh) own started (by kernel_rfl) Tryd.func3
    (ChangeSpec.witness_shaped (enc := enc) (C := Tryd.checked) (os := os) (X := fun w _ => laidMetH Tryd.prog laid6 w) false (World.doorLaid Tryd.prog 102 os) #[.string .empty, .string .empty] 8 rfl (World.shaped_of_RefB (by kernel_rfl) (by kernel_rfl)) (by kernel_rfl) (by kernel_rfl) (by kernel_rfl) (door_met6 os _)) ?_
  intro W base args ds gs before hval hW _ _ hL _
  exact contractTagTells H enc W base args ds gs before hval hW hL
theorem tagTells_said : Rows.TagTellsSaid :=
  OpenClaim.holds_of_wide 3 Tryd.f3 rfl rfl rfl rfl rfl rfl rfl ⟨rfl, rfl, rfl, rfl, rfl⟩ rfl rfl rfl rfl rfl (by kernel_rfl) Tryd.func3 (by kernel_rfl)
    (of_decide_eq_true (by kernel_rfl)) (by unfold Func.isWrapper; first | (rw [if_pos (by decide +kernel)]; kernel_rfl) | (rw [if_neg (by decide +kernel)]; exact ⟨rfl, rfl⟩))
    (fun os started H enc _ => liftedTagTells os started H enc)
/-- THE TIED CARD. -/
theorem tagTells_card : Rows.TagTellsCardSaid :=
  Claim7.holds_tied_plain_at .later [] _ _ _ _ tagTells_said (fun _ h => by cases h) (by kernel_rfl) (fun _ h => by cases h) tagTells_row_tie rfl ⟨rfl, rfl⟩ (by kernel_rfl) rfl
    (fun f fn hf hfn => by
      obtain rfl : f = 3 := Option.some.inj ((show Tryd.prog.funcNamed "sigillary/sigillarylaw03.TagTells" = some 3 by kernel_rfl).symm.trans hf) |>.symm
      obtain rfl : fn = Tryd.f3 := (Option.some.inj (Tryd.func3.symm.trans hfn)).symm
      exact ⟨by kernel_rfl, fun j t ht => by
        rw [Tryd.params3] at ht
        have hm : t ∈ [9, 9] := by simpa using Array.mem_of_getElem? ht
        have hall : ([9, 9].all fun u => !Tryd.prog.wantsStandIn u) = true := by kernel_rfl
        exact (show Tryd.prog.wantsStandIn t = false by simpa using List.all_eq_true.1 hall t hm)⟩)
    (by kernel_rfl)
end Go.Proofs.YthojdcmkajmdjaaDoor
