/- A hasher that forgot what it has tells what a new one tells, and what is too long is not written, for every two texts. Conditions: the laid variables, as the statement lists them. -/
import Derived.Test.YtjimpfcgcbbipaaDoorEndsW
import Derived.Test.YtjimpfcgcbbipaaDoorLong
namespace Go.Proofs.YtjimpfcgcbbipaaDoor
open Go.ChangeShapes Go.WideShapes Go.ChangeAt Go.RowKit Go.Shelf
open Go.ChangeMaps (open_string shut_string)
open Rd Dg Box
set_option maxRecDepth 100000 in
set_option maxHeartbeats 2000000 in
theorem walkResets (s t : ByteArray) (B : Nat) (w : World) (E : Env B w) :
    Calls Tryd.prog 8 #[.string s, .string t] w fun e w' => e = .returned (.bool true) ∧ Below w.heap.size w w' := by
  have HE0 := Lib.hid E
  have hBw := E.bw
  obtain ⟨A', hA⟩ : ∃ S, cutB s = S := ⟨_, rfl⟩
  have hAs : A'.size ≤ 300 := by rw [← hA]; exact cutB_size s
  have hcA := fun w => cut_any s w
  rw [hA] at hcA
  have HCA := Lib.hid hcA
  have hAl : A'.data.toList.length ≤ 300 := by rw [Array.length_toList]; exact hAs
  clear hA hcA
  obtain ⟨C', hC⟩ : ∃ S, cutB t = S := ⟨_, rfl⟩
  have hCs : C'.size ≤ 300 := by rw [← hC]; exact cutB_size t
  have hcC := fun w => cut_any t w
  rw [hC] at hcC
  have HCC := Lib.hid hcC
  have hCl : C'.data.toList.length ≤ 300 := by rw [Array.length_toList]; exact hCs
  clear hC hcC
  obtain ⟨q1, hq1⟩ : ∃ q, dig A'.data.toList = q := ⟨_, rfl⟩
  obtain ⟨q2, hq2⟩ : ∃ q, dig C'.data.toList = q := ⟨_, rfl⟩
  have hs1 := fun w E => Sum_ok A' (by omega) B w E
  have hs2 := fun w E => Sum_ok C' (by omega) B w E
  rw [hq1] at hs1
  rw [hq2] at hs2
  have HS1 := Lib.hid hs1
  have HS2 := Lib.hid hs2
  have HQ1 := Lib.hid hq1
  have HQ2 := Lib.hid hq2
  have hlen2 : (C'.data.toList.length : Int) = (C'.size : Int) := by rw [Array.length_toList]; rfl
  clear E hs1 hs2 hq1 hq2
  go_enter Tryd.func8, Tryd.ntmps8
  go_wp2_with fail
  refine (shown_any B _ HE0.out).mono ?_
  rintro e w1 ⟨rfl, hb1⟩
  have hz1 := hb1.size
  have HB1 := Lib.hid hb1
  have HE1 := Lib.hid (HE0.out.below' hb1)
  clear hb1
  go_wp2_with fail
  refine (HCA.out _).mono ?_
  rintro e w' ⟨rfl, rfl⟩
  go_wp2_with fail
  refine (HCC.out _).mono ?_
  rintro e w' ⟨rfl, rfl⟩
  go_wp2_with fail
  refine (New_any _).mono ?_
  rintro e w2 ⟨rfl, hh2, hb2⟩
  have hz2 := hb2.size
  have hl2 := hh2.lt
  have HB2 := Lib.hid (HB1.out.trans (hb2.mono (by have := HB1.out.size; omega)))
  have HE2 := Lib.hid (HE1.out.below' hb2)
  have HH0_2 := Lib.hid hh2
  clear hh2 hb2
  go_wp2_with fail
  refine (Write_ok (w1.heap.size) 65 ([]) A' (by simp; omega) B _ HE2.out (by omega) HH0_2.out).mono ?_
  rintro e w3 ⟨rfl, hh3, hg3⟩
  have hz3 := hg3.size
  have HB3 := Lib.hid (HB2.out.trans (below_of_grown hg3 (show w.heap.size ≤ w1.heap.size by omega) (by have := HB2.out.size; omega)))
  have HE3 := Lib.hid (HE2.out.on (show B ≤ w1.heap.size by omega) hg3)
  have HH0_3 : Hid (Holds (w1.heap.size) 65 (A'.data.toList) w3) := Lib.hid hh3
  clear hh3 hg3
  go_wp2_with fail
  refine (long_any _).mono ?_
  rintro e w4 ⟨L, rfl, hL, hb4⟩
  have hz4 := hb4.size
  have HB4 := Lib.hid (HB3.out.trans (hb4.mono (by have := HB3.out.size; omega)))
  have HE4 := Lib.hid (HE3.out.below' hb4)
  have HH0_4 := Lib.hid (HH0_3.out.kept (hb4.block (w1.heap.size) HH0_3.out.lt))
  have hLg : 100000 < A'.data.toList.length + L.size := by omega
  clear hb4 hL
  go_wp2_with fail
  refine (Write_long (w1.heap.size) 65 (A'.data.toList) L (by omega) (hLg) B _ HE4.out HH0_4.out).mono ?_
  rintro e w5 ⟨rfl, hh5, hg5⟩
  have hz5 := hg5.size
  have HB5 := Lib.hid (HB4.out.trans (below_of_grown hg5 (show w.heap.size ≤ w1.heap.size by omega) (by have := HB4.out.size; omega)))
  have HE5 := Lib.hid (HE4.out.on (show B ≤ w1.heap.size by omega) hg5)
  have HH0_5 : Hid (Holds (w1.heap.size) 65 (A'.data.toList) w5) := Lib.hid hh5
  clear hh5 hg5
  go_wp2_with fail
  have hC6 := hsum_any (w1.heap.size) 65 (A'.data.toList) (by omega) B w5 HE5.out (by omega) HH0_5.out
  rw [HQ1.out] at hC6
  refine (hC6).mono ?_
  rintro e w6 ⟨rfl, hh6, hg6⟩
  have hz6 := hg6.size
  have HB6 := Lib.hid (HB5.out.trans (below_of_grown hg6 (show w.heap.size ≤ w1.heap.size by omega) (by have := HB5.out.size; omega)))
  have HE6 := Lib.hid (HE5.out.on (show B ≤ w1.heap.size by omega) hg6)
  have HH0_6 : Hid (Holds (w1.heap.size) 65 (A'.data.toList) w6) := Lib.hid hh6
  clear hh6 hg6
  clear hC6
  go_wp2_with fail
  refine (Reset_any (w1.heap.size) 65 (A'.data.toList) _ HH0_6.out).mono ?_
  rintro e w7 ⟨rfl, hh7, hg7⟩
  have hz7 := hg7.size
  have HB7 := Lib.hid (HB6.out.trans (below_of_grown hg7 (show w.heap.size ≤ w1.heap.size by omega) (by have := HB6.out.size; omega)))
  have HE7 := Lib.hid (HE6.out.on (show B ≤ w1.heap.size by omega) hg7)
  have HH0_7 : Hid (Holds (w1.heap.size) 65 ([]) w7) := Lib.hid hh7
  clear hh7 hg7
  go_wp2_with fail
  refine (Len_any (w1.heap.size) 65 ([]) _ HH0_7.out).mono ?_
  rintro e w' ⟨rfl, rfl⟩
  go_wp2_with fail
  refine (Write_ok (w1.heap.size) 65 ([]) C' (by simp; omega) B _ HE7.out (by omega) HH0_7.out).mono ?_
  rintro e w8 ⟨rfl, hh8, hg8⟩
  have hz8 := hg8.size
  have HB8 := Lib.hid (HB7.out.trans (below_of_grown hg8 (show w.heap.size ≤ w1.heap.size by omega) (by have := HB7.out.size; omega)))
  have HE8 := Lib.hid (HE7.out.on (show B ≤ w1.heap.size by omega) hg8)
  have HH0_8 : Hid (Holds (w1.heap.size) 65 (C'.data.toList) w8) := Lib.hid hh8
  clear hh8 hg8
  go_wp2_with fail
  refine (HS1.out _ HE8.out).mono ?_
  rintro e w9 ⟨rfl, hb9⟩
  have hz9 := hb9.size
  have HB9 := Lib.hid (HB8.out.trans (hb9.mono (by have := HB8.out.size; omega)))
  have HE9 := Lib.hid (HE8.out.below' hb9)
  have HH0_9 := Lib.hid (HH0_8.out.kept (hb9.block (w1.heap.size) HH0_8.out.lt))
  clear hb9
  go_wp2_with fail
  refine (HS2.out _ HE9.out).mono ?_
  rintro e w10 ⟨rfl, hb10⟩
  have hz10 := hb10.size
  have HB10 := Lib.hid (HB9.out.trans (hb10.mono (by have := HB9.out.size; omega)))
  have HE10 := Lib.hid (HE9.out.below' hb10)
  have HH0_10 := Lib.hid (HH0_9.out.kept (hb10.block (w1.heap.size) HH0_9.out.lt))
  clear hb10
  go_wp2_with fail
  have hC11 := hsum_any (w1.heap.size) 65 (C'.data.toList) (by omega) B w10 HE10.out (by omega) HH0_10.out
  rw [HQ2.out] at hC11
  refine (hC11).mono ?_
  rintro e w11 ⟨rfl, hh11, hg11⟩
  have hz11 := hg11.size
  have HB11 := Lib.hid (HB10.out.trans (below_of_grown hg11 (show w.heap.size ≤ w1.heap.size by omega) (by have := HB10.out.size; omega)))
  have HE11 := Lib.hid (HE10.out.on (show B ≤ w1.heap.size by omega) hg11)
  have HH0_11 : Hid (Holds (w1.heap.size) 65 (C'.data.toList) w11) := Lib.hid hh11
  clear hh11 hg11
  clear hC11
  go_wp2_with fail
  refine (Len_any (w1.heap.size) 65 (C'.data.toList) _ HH0_11.out).mono ?_
  rintro e w' ⟨rfl, rfl⟩
  go_wp2
  go_ret
  exact ⟨rfl, HB11.out⟩
theorem walkDigestResets (s t : ByteArray) (w : World) (hE : ∃ B, Env B w) :
    Calls Tryd.prog 8 #[.string s, .string t] w fun e w' => e = .returned (.bool true) ∧ Below w.heap.size w w' := by
  obtain ⟨B, E⟩ := hE
  exact walkResets s t B w E

set_option maxRecDepth 100000 in
theorem contractDigestResets (H : Type) (enc : TypeId × Value → H) (W : World) (base : Nat) (args : Array Value) (ds gs : List (DataW H)) (before : List MemPlace)
    (hval : ∀ (j : Nat) t v, Tryd.f8.params[j]? = some t → args[j]? = some v → Value.okWide Tryd.prog W .any base t v)
    (hW : DataW.Whole enc Tryd.prog Tryd.f8.params.toList Rows.digestResetsSpec.vars false W args.toList ds gs before) (hL : laidMetH Tryd.prog laid5 W) :
    Calls Tryd.prog 8 args W fun e W' => ∃ v, e = .returned v ∧ Rows.digestResetsSpec.post enc Tryd.prog Tryd.f8 false true false false W args v W' := by
  have hW' := hW
  obtain ⟨p, q, hA0, hV, rfl, hfz, hnd⟩ := hW
  have hA : DataW.TrodAll enc Tryd.prog W 0 (fun _ => true) true Tryd.f8.params.toList args.toList ds p := hA0
  rw [Tryd.params8] at hA hval
  obtain ⟨v0, vs0, d0, ds0, p0, q0, hargs, rfl, rfl, h0, r0⟩ := trodAll_cons hA
  obtain ⟨v1, vs1, d1, ds1, p1, q1, rfl, rfl, rfl, h1, r1⟩ := trodAll_cons r0
  obtain ⟨rfl, rfl, rfl⟩ := trodAll_nil r1
  obtain rfl : args = #[v0, v1] := by cases args; simp_all
  obtain ⟨rfl, rfl⟩ := trodVars_none hV
  obtain ⟨s, rfl, rfl, rfl, w0⟩ := open_string Tryd.underlying9 (hval 0 9 v0 rfl rfl) h0
  obtain ⟨t, rfl, rfl, rfl, w1⟩ := open_string Tryd.underlying9 (hval 1 9 v1 rfl rfl) h1
  clear hA0
  simp only [List.append_nil] at hW'
  refine (walkDigestResets s t W (env_of hL)).mono fun e W' ⟨he, hg⟩ => ?_
  subst he
  refine ⟨_, rfl, _, _, _, [], [], [], hW', ?_, ?_, rfl, hg.frame _, fun h => by cases h⟩
  · exact trodAll_cons_mk (shut_bool Tryd.underlying4 _) trodAll_mk0
  · exact (trodAll_cons_mk (shut_string Tryd.underlying9 w0) (trodAll_cons_mk (shut_string Tryd.underlying9 w1) trodAll_mk0))

set_option maxRecDepth 100000 in
theorem liftedDigestResets (os : Os) (started : os.Started) (H : Type) (enc : TypeId × Value → H) :
    ReturnsInHanded {} Tryd.checked os 8 .any (fun w args => (Rows.digestResetsSpec.pre enc Tryd.prog Tryd.f8 [] false w args ∧ laidMetH Tryd.prog laid5 w) ∧ sizedMet enc Tryd.prog Tryd.f8 (OpenSpec.ofChange Rows.digestResetsSpec) false w args)
      (Rows.digestResetsSpec.post enc Tryd.prog Tryd.f8 false true false false) := by
  refine returnsInHanded_of_change_and (C := Tryd.checked) (X := fun w _ => laidMetH Tryd.prog laid5 w) (fun _ _ _ hh h => h.of_heap hh) own started (by kernel_rfl) Tryd.func8
    (ChangeSpec.witness_shaped (enc := enc) (C := Tryd.checked) (os := os) (X := fun w _ => laidMetH Tryd.prog laid5 w) false (World.doorLaid Tryd.prog 102 os) #[.string .empty, .string .empty] 8 rfl (World.shaped_of_RefB (by kernel_rfl) (by kernel_rfl)) (by kernel_rfl) (by kernel_rfl) (by kernel_rfl) (door_met os _)) ?_
  intro W base args ds gs before hval hW _ _ hL _
  exact contractDigestResets H enc W base args ds gs before hval hW hL
theorem digestResets_said : Rows.DigestResetsSaid :=
  OpenClaim.holds_of_wide 8 Tryd.f8 rfl rfl rfl rfl rfl rfl rfl ⟨rfl, rfl, rfl, rfl, rfl⟩ rfl rfl rfl rfl rfl (by kernel_rfl) Tryd.func8 (by kernel_rfl)
    (of_decide_eq_true (by kernel_rfl)) (by unfold Func.isWrapper; first | (rw [if_pos (by decide +kernel)]; kernel_rfl) | (rw [if_neg (by decide +kernel)]; exact ⟨rfl, rfl⟩))
    (fun os started H enc _ => liftedDigestResets os started H enc)
/-- THE TIED CARD. -/
theorem digestResets_card : Rows.DigestResetsCardSaid :=
  Claim7.holds_tied_plain_at .later [] _ _ _ _ digestResets_said (fun _ h => by cases h) (by kernel_rfl) (fun _ h => by cases h) digestResets_row_tie rfl ⟨rfl, rfl⟩ (by kernel_rfl) rfl
    (fun f fn hf hfn => by
      obtain rfl : f = 8 := Option.some.inj ((show Tryd.prog.funcNamed "sigillary/sigillarylaw02.DigestResets" = some 8 by kernel_rfl).symm.trans hf) |>.symm
      obtain rfl : fn = Tryd.f8 := (Option.some.inj (Tryd.func8.symm.trans hfn)).symm
      exact ⟨by kernel_rfl, fun j t ht => by
        rw [Tryd.params8] at ht
        have hm : t ∈ [9, 9] := by simpa using Array.mem_of_getElem? ht
        have hall : ([9, 9].all fun u => !Tryd.prog.wantsStandIn u) = true := by kernel_rfl
        exact (show Tryd.prog.wantsStandIn t = false by simpa using List.all_eq_true.1 hall t hm)⟩)
    (by kernel_rfl)
end Go.Proofs.YtjimpfcgcbbipaaDoor
