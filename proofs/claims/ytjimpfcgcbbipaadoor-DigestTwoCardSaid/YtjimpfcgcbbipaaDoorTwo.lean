/- Two hashers do not know of each other, whatever is written to each by turns, for every four texts. Conditions: the laid variables, as the statement lists them. -/
import Derived.Test.YtjimpfcgcbbipaaDoorEndsW
namespace Go.Proofs.YtjimpfcgcbbipaaDoor
open Go.ChangeShapes Go.WideShapes Go.ChangeAt Go.RowKit Go.Shelf
open Go.ChangeMaps (open_string shut_string)
open Rd Dg Box
set_option maxRecDepth 100000 in
set_option maxHeartbeats 2000000 in
theorem walkTwo (a b c d : ByteArray) (B : Nat) (w : World) (E : Env B w) :
    Calls Tryd.prog 9 #[.string a, .string b, .string c, .string d] w fun e w' => e = .returned (.bool true) ∧ Below w.heap.size w w' := by
  have HE0 := Lib.hid E
  have hBw := E.bw
  obtain ⟨A', hA⟩ : ∃ S, cutB a = S := ⟨_, rfl⟩
  have hAs : A'.size ≤ 300 := by rw [← hA]; exact cutB_size a
  have hcA := fun w => cut_any a w
  rw [hA] at hcA
  have HCA := Lib.hid hcA
  have hAl : A'.data.toList.length ≤ 300 := by rw [Array.length_toList]; exact hAs
  clear hA hcA
  obtain ⟨B', hB⟩ : ∃ S, cutB b = S := ⟨_, rfl⟩
  have hBs : B'.size ≤ 300 := by rw [← hB]; exact cutB_size b
  have hcB := fun w => cut_any b w
  rw [hB] at hcB
  have HCB := Lib.hid hcB
  have hBl : B'.data.toList.length ≤ 300 := by rw [Array.length_toList]; exact hBs
  clear hB hcB
  obtain ⟨C', hC⟩ : ∃ S, cutB c = S := ⟨_, rfl⟩
  have hCs : C'.size ≤ 300 := by rw [← hC]; exact cutB_size c
  have hcC := fun w => cut_any c w
  rw [hC] at hcC
  have HCC := Lib.hid hcC
  have hCl : C'.data.toList.length ≤ 300 := by rw [Array.length_toList]; exact hCs
  clear hC hcC
  obtain ⟨D', hD⟩ : ∃ S, cutB d = S := ⟨_, rfl⟩
  have hDs : D'.size ≤ 300 := by rw [← hD]; exact cutB_size d
  have hcD := fun w => cut_any d w
  rw [hD] at hcD
  have HCD := Lib.hid hcD
  have hDl : D'.data.toList.length ≤ 300 := by rw [Array.length_toList]; exact hDs
  clear hD hcD
  obtain ⟨q1, hq1⟩ : ∃ q, dig (A'.data.toList ++ C'.data.toList) = q := ⟨_, rfl⟩
  obtain ⟨q2, hq2⟩ : ∃ q, dig (B'.data.toList ++ D'.data.toList) = q := ⟨_, rfl⟩
  have hs1 := fun w E => Sum_ok (A' ++ C') (by rw [ByteArray.size_append]; omega) B w E
  have hs2 := fun w E => Sum_ok (B' ++ D') (by rw [ByteArray.size_append]; omega) B w E
  rw [ByteArray.data_append, Array.toList_append, hq1] at hs1
  rw [ByteArray.data_append, Array.toList_append, hq2] at hs2
  have HS1 := Lib.hid hs1
  have HS2 := Lib.hid hs2
  have HQ1 := Lib.hid hq1
  have HQ2 := Lib.hid hq2
  clear E hs1 hs2 hq1 hq2
  go_enter Tryd.func9, Tryd.ntmps9
  go_wp2_with fail
  refine (shown_any B _ HE0.out).mono ?_
  rintro e w1 ⟨rfl, hb1⟩
  have hz1 := hb1.size
  have HB1 := Lib.hid hb1
  have HE1 := Lib.hid (HE0.out.below' hb1)
  clear hb1
  go_wp2_with fail
  refine (HCA.out _).mono ?_
  rintro e w' ⟨rfl, rfl⟩
  go_wp2_with fail
  refine (HCB.out _).mono ?_
  rintro e w' ⟨rfl, rfl⟩
  go_wp2_with fail
  refine (HCC.out _).mono ?_
  rintro e w' ⟨rfl, rfl⟩
  go_wp2_with fail
  refine (HCD.out _).mono ?_
  rintro e w' ⟨rfl, rfl⟩
  go_wp2_with fail
  refine (New_any _).mono ?_
  rintro e w2 ⟨rfl, hh2, hb2⟩
  have hz2 := hb2.size
  have hl2 := hh2.lt
  have HB2 := Lib.hid (HB1.out.trans (hb2.mono (by have := HB1.out.size; omega)))
  have HE2 := Lib.hid (HE1.out.below' hb2)
  have HH0_2 := Lib.hid hh2
  clear hh2 hb2
  go_wp2_with fail
  refine (New_any _).mono ?_
  rintro e w3 ⟨rfl, hh3, hb3⟩
  have hz3 := hb3.size
  have hl3 := hh3.lt
  have HB3 := Lib.hid (HB2.out.trans (hb3.mono (by have := HB2.out.size; omega)))
  have HE3 := Lib.hid (HE2.out.below' hb3)
  have HH0_3 := Lib.hid (HH0_2.out.kept (hb3.block (w1.heap.size) HH0_2.out.lt))
  have HH1_3 := Lib.hid hh3
  clear hh3 hb3
  go_wp2_with fail
  refine (Write_ok (w1.heap.size) 65 ([]) A' (by simp; omega) B _ HE3.out (by omega) HH0_3.out).mono ?_
  rintro e w4 ⟨rfl, hh4, hg4⟩
  have hz4 := hg4.size
  have HB4 := Lib.hid (HB3.out.trans (below_of_grown hg4 (show w.heap.size ≤ w1.heap.size by omega) (by have := HB3.out.size; omega)))
  have HE4 := Lib.hid (HE3.out.on (show B ≤ w1.heap.size by omega) hg4)
  have HH0_4 : Hid (Holds (w1.heap.size) 65 (A'.data.toList) w4) := Lib.hid hh4
  have HH1_4 := Lib.hid (HH1_3.out.kept (hg4.block (w2.heap.size) HH1_3.out.lt (by simp; omega)))
  clear hh4 hg4
  go_wp2_with fail
  refine (Write_ok (w2.heap.size) 65 ([]) B' (by simp; omega) B _ HE4.out (by omega) HH1_4.out).mono ?_
  rintro e w5 ⟨rfl, hh5, hg5⟩
  have hz5 := hg5.size
  have HB5 := Lib.hid (HB4.out.trans (below_of_grown hg5 (show w.heap.size ≤ w2.heap.size by omega) (by have := HB4.out.size; omega)))
  have HE5 := Lib.hid (HE4.out.on (show B ≤ w2.heap.size by omega) hg5)
  have HH0_5 := Lib.hid (HH0_4.out.kept (hg5.block (w1.heap.size) HH0_4.out.lt (by simp; omega)))
  have HH1_5 : Hid (Holds (w2.heap.size) 65 (B'.data.toList) w5) := Lib.hid hh5
  clear hh5 hg5
  go_wp2_with fail
  refine (Write_ok (w1.heap.size) 65 (A'.data.toList) C' (by omega) B _ HE5.out (by omega) HH0_5.out).mono ?_
  rintro e w6 ⟨rfl, hh6, hg6⟩
  have hz6 := hg6.size
  have HB6 := Lib.hid (HB5.out.trans (below_of_grown hg6 (show w.heap.size ≤ w1.heap.size by omega) (by have := HB5.out.size; omega)))
  have HE6 := Lib.hid (HE5.out.on (show B ≤ w1.heap.size by omega) hg6)
  have HH0_6 : Hid (Holds (w1.heap.size) 65 (A'.data.toList ++ C'.data.toList) w6) := Lib.hid hh6
  have HH1_6 := Lib.hid (HH1_5.out.kept (hg6.block (w2.heap.size) HH1_5.out.lt (by simp; omega)))
  clear hh6 hg6
  go_wp2_with fail
  refine (Write_ok (w2.heap.size) 65 (B'.data.toList) D' (by omega) B _ HE6.out (by omega) HH1_6.out).mono ?_
  rintro e w7 ⟨rfl, hh7, hg7⟩
  have hz7 := hg7.size
  have HB7 := Lib.hid (HB6.out.trans (below_of_grown hg7 (show w.heap.size ≤ w2.heap.size by omega) (by have := HB6.out.size; omega)))
  have HE7 := Lib.hid (HE6.out.on (show B ≤ w2.heap.size by omega) hg7)
  have HH0_7 := Lib.hid (HH0_6.out.kept (hg7.block (w1.heap.size) HH0_6.out.lt (by simp; omega)))
  have HH1_7 : Hid (Holds (w2.heap.size) 65 (B'.data.toList ++ D'.data.toList) w7) := Lib.hid hh7
  clear hh7 hg7
  go_wp2_with fail
  refine (HS1.out _ HE7.out).mono ?_
  rintro e w8 ⟨rfl, hb8⟩
  have hz8 := hb8.size
  have HB8 := Lib.hid (HB7.out.trans (hb8.mono (by have := HB7.out.size; omega)))
  have HE8 := Lib.hid (HE7.out.below' hb8)
  have HH0_8 := Lib.hid (HH0_7.out.kept (hb8.block (w1.heap.size) HH0_7.out.lt))
  have HH1_8 := Lib.hid (HH1_7.out.kept (hb8.block (w2.heap.size) HH1_7.out.lt))
  clear hb8
  go_wp2_with fail
  refine (HS2.out _ HE8.out).mono ?_
  rintro e w9 ⟨rfl, hb9⟩
  have hz9 := hb9.size
  have HB9 := Lib.hid (HB8.out.trans (hb9.mono (by have := HB8.out.size; omega)))
  have HE9 := Lib.hid (HE8.out.below' hb9)
  have HH0_9 := Lib.hid (HH0_8.out.kept (hb9.block (w1.heap.size) HH0_8.out.lt))
  have HH1_9 := Lib.hid (HH1_8.out.kept (hb9.block (w2.heap.size) HH1_8.out.lt))
  clear hb9
  go_wp2_with fail
  have hC10 := hsum_any (w1.heap.size) 65 (A'.data.toList ++ C'.data.toList) (by rw [List.length_append]; omega) B w9 HE9.out (by omega) HH0_9.out
  rw [HQ1.out] at hC10
  refine (hC10).mono ?_
  rintro e w10 ⟨rfl, hh10, hg10⟩
  have hz10 := hg10.size
  have HB10 := Lib.hid (HB9.out.trans (below_of_grown hg10 (show w.heap.size ≤ w1.heap.size by omega) (by have := HB9.out.size; omega)))
  have HE10 := Lib.hid (HE9.out.on (show B ≤ w1.heap.size by omega) hg10)
  have HH0_10 : Hid (Holds (w1.heap.size) 65 (A'.data.toList ++ C'.data.toList) w10) := Lib.hid hh10
  have HH1_10 := Lib.hid (HH1_9.out.kept (hg10.block (w2.heap.size) HH1_9.out.lt (by simp; omega)))
  clear hh10 hg10
  clear hC10
  go_wp2_with fail
  have hC11 := hsum_any (w2.heap.size) 65 (B'.data.toList ++ D'.data.toList) (by rw [List.length_append]; omega) B w10 HE10.out (by omega) HH1_10.out
  rw [HQ2.out] at hC11
  refine (hC11).mono ?_
  rintro e w11 ⟨rfl, hh11, hg11⟩
  have hz11 := hg11.size
  have HB11 := Lib.hid (HB10.out.trans (below_of_grown hg11 (show w.heap.size ≤ w2.heap.size by omega) (by have := HB10.out.size; omega)))
  have HE11 := Lib.hid (HE10.out.on (show B ≤ w2.heap.size by omega) hg11)
  have HH0_11 := Lib.hid (HH0_10.out.kept (hg11.block (w1.heap.size) HH0_10.out.lt (by simp; omega)))
  have HH1_11 : Hid (Holds (w2.heap.size) 65 (B'.data.toList ++ D'.data.toList) w11) := Lib.hid hh11
  clear hh11 hg11
  clear hC11
  go_wp2
  go_ret
  exact ⟨rfl, HB11.out⟩
theorem walkDigestTwo (a b c d : ByteArray) (w : World) (hE : ∃ B, Env B w) :
    Calls Tryd.prog 9 #[.string a, .string b, .string c, .string d] w fun e w' => e = .returned (.bool true) ∧ Below w.heap.size w w' := by
  obtain ⟨B, E⟩ := hE
  exact walkTwo a b c d B w E

set_option maxRecDepth 100000 in
theorem contractDigestTwo (H : Type) (enc : TypeId × Value → H) (W : World) (base : Nat) (args : Array Value) (ds gs : List (DataW H)) (before : List MemPlace)
    (hval : ∀ (j : Nat) t v, Tryd.f9.params[j]? = some t → args[j]? = some v → Value.okWide Tryd.prog W .any base t v)
    (hW : DataW.Whole enc Tryd.prog Tryd.f9.params.toList Rows.digestTwoSpec.vars false W args.toList ds gs before) (hL : laidMetH Tryd.prog laid5 W) :
    Calls Tryd.prog 9 args W fun e W' => ∃ v, e = .returned v ∧ Rows.digestTwoSpec.post enc Tryd.prog Tryd.f9 false true false false W args v W' := by
  have hW' := hW
  obtain ⟨p, q, hA0, hV, rfl, hfz, hnd⟩ := hW
  have hA : DataW.TrodAll enc Tryd.prog W 0 (fun _ => true) true Tryd.f9.params.toList args.toList ds p := hA0
  rw [Tryd.params9] at hA hval
  obtain ⟨v0, vs0, d0, ds0, p0, q0, hargs, rfl, rfl, h0, r0⟩ := trodAll_cons hA
  obtain ⟨v1, vs1, d1, ds1, p1, q1, rfl, rfl, rfl, h1, r1⟩ := trodAll_cons r0
  obtain ⟨v2, vs2, d2, ds2, p2, q2, rfl, rfl, rfl, h2, r2⟩ := trodAll_cons r1
  obtain ⟨v3, vs3, d3, ds3, p3, q3, rfl, rfl, rfl, h3, r3⟩ := trodAll_cons r2
  obtain ⟨rfl, rfl, rfl⟩ := trodAll_nil r3
  obtain rfl : args = #[v0, v1, v2, v3] := by cases args; simp_all
  obtain ⟨rfl, rfl⟩ := trodVars_none hV
  obtain ⟨a, rfl, rfl, rfl, w0⟩ := open_string Tryd.underlying9 (hval 0 9 v0 rfl rfl) h0
  obtain ⟨b, rfl, rfl, rfl, w1⟩ := open_string Tryd.underlying9 (hval 1 9 v1 rfl rfl) h1
  obtain ⟨c, rfl, rfl, rfl, w2⟩ := open_string Tryd.underlying9 (hval 2 9 v2 rfl rfl) h2
  obtain ⟨d, rfl, rfl, rfl, w3⟩ := open_string Tryd.underlying9 (hval 3 9 v3 rfl rfl) h3
  clear hA0
  simp only [List.append_nil] at hW'
  refine (walkDigestTwo a b c d W (env_of hL)).mono fun e W' ⟨he, hg⟩ => ?_
  subst he
  refine ⟨_, rfl, _, _, _, [], [], [], hW', ?_, ?_, rfl, hg.frame _, fun h => by cases h⟩
  · exact trodAll_cons_mk (shut_bool Tryd.underlying4 _) trodAll_mk0
  · exact (trodAll_cons_mk (shut_string Tryd.underlying9 w0) (trodAll_cons_mk (shut_string Tryd.underlying9 w1) (trodAll_cons_mk (shut_string Tryd.underlying9 w2) (trodAll_cons_mk (shut_string Tryd.underlying9 w3) trodAll_mk0))))

set_option maxRecDepth 100000 in
theorem liftedDigestTwo (os : Os) (started : os.Started) (H : Type) (enc : TypeId × Value → H) :
    ReturnsInHanded {} Tryd.checked os 9 .any (fun w args => (Rows.digestTwoSpec.pre enc Tryd.prog Tryd.f9 [] false w args ∧ laidMetH Tryd.prog laid5 w) ∧ sizedMet enc Tryd.prog Tryd.f9 (OpenSpec.ofChange Rows.digestTwoSpec) false w args)
      (Rows.digestTwoSpec.post enc Tryd.prog Tryd.f9 false true false false) := by
  refine returnsInHanded_of_change_and (C := Tryd.checked) (X := fun w _ => laidMetH Tryd.prog laid5 w) (fun _ _ _ hh h => h.of_heap hh) own started (by kernel_rfl) Tryd.func9
    (ChangeSpec.witness_shaped (enc := enc) (C := Tryd.checked) (os := os) (X := fun w _ => laidMetH Tryd.prog laid5 w) false (World.doorLaid Tryd.prog 102 os) #[.string .empty, .string .empty, .string .empty, .string .empty] 8 rfl (World.shaped_of_RefB (by kernel_rfl) (by kernel_rfl)) (by kernel_rfl) (by kernel_rfl) (by kernel_rfl) (door_met os _)) ?_
  intro W base args ds gs before hval hW _ _ hL _
  exact contractDigestTwo H enc W base args ds gs before hval hW hL
theorem digestTwo_said : Rows.DigestTwoSaid :=
  OpenClaim.holds_of_wide 9 Tryd.f9 rfl rfl rfl rfl rfl rfl rfl ⟨rfl, rfl, rfl, rfl, rfl⟩ rfl rfl rfl rfl rfl (by kernel_rfl) Tryd.func9 (by kernel_rfl)
    (of_decide_eq_true (by kernel_rfl)) (by unfold Func.isWrapper; first | (rw [if_pos (by decide +kernel)]; kernel_rfl) | (rw [if_neg (by decide +kernel)]; exact ⟨rfl, rfl⟩))
    (fun os started H enc _ => liftedDigestTwo os started H enc)
/-- THE TIED CARD. -/
theorem digestTwo_card : Rows.DigestTwoCardSaid :=
  Claim7.holds_tied_plain_at .later [] _ _ _ _ digestTwo_said (fun _ h => by cases h) (by kernel_rfl) (fun _ h => by cases h) digestTwo_row_tie rfl ⟨rfl, rfl⟩ (by kernel_rfl) rfl
    (fun f fn hf hfn => by
      obtain rfl : f = 9 := Option.some.inj ((show Tryd.prog.funcNamed "sigillary/sigillarylaw02.DigestTwo" = some 9 by kernel_rfl).symm.trans hf) |>.symm
      obtain rfl : fn = Tryd.f9 := (Option.some.inj (Tryd.func9.symm.trans hfn)).symm
      exact ⟨by kernel_rfl, fun j t ht => by
        rw [Tryd.params9] at ht
        have hm : t ∈ [9, 9, 9, 9] := by simpa using Array.mem_of_getElem? ht
        have hall : ([9, 9, 9, 9].all fun u => !Tryd.prog.wantsStandIn u) = true := by kernel_rfl
        exact (show Tryd.prog.wantsStandIn t = false by simpa using List.all_eq_true.1 hall t hm)⟩)
    (by kernel_rfl)
end Go.Proofs.YtjimpfcgcbbipaaDoor
