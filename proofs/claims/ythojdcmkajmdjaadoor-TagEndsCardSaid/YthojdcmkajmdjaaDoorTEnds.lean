/- A tag has thirty-two bytes; a key, or a text, that is too long has none. Conditions: the laid variables, as the statement lists them. -/
import Derived.Test.YthojdcmkajmdjaaDoorDoor2
namespace Go.Proofs.YthojdcmkajmdjaaDoor
open Go.ChangeShapes Go.WideShapes Go.ChangeAt Go.RowKit Go.Shelf
open Go.ChangeMaps (open_string shut_string)
open Rd Dg Hx Box Seqs
theorem noughts (n : Nat) (hn : n ≤ 1000000) (w : World) : ∃ (Z : Array Value) (L : ByteArray), L.size = n ∧ (Instr.makeSlice 29 (.int .i64 (n : Int)) (.int .i64 (n : Int))).run Tryd.prog w = .ok (.slice (some ⟨w.heap.size, 0, none⟩) n n) (w.alloc (.cells Z 5)) ∧
    (convert 29 9 (.slice (some ⟨w.heap.size, 0, none⟩) n n)).run Tryd.prog (w.alloc (.cells Z 5)) = .ok (.string L) (w.alloc (.cells Z 5)) := by
  obtain ⟨i0, hi, hz0, hz1, hz2⟩ := info_parts info5b
  have hmk := run_make (P := Tryd.prog) w 29 5 i0 (.int .u8 0) Tryd.underlying29 hi hz0 .i64 .i64 (n : Int) (n : Int) (by omega) (by omega) (by rw [hz2]; omega) (by omega)
  rw [hz1, Int.toNat_natCast, Nat.mul_one] at hmk
  obtain ⟨Z, hZ⟩ : ∃ Z, madeCells (Value.int .u8 0).cells n = Z := ⟨_, rfl⟩
  rw [hZ] at hmk
  have hZl : Z.toList = List.replicate n (Value.int .u8 0) := by rw [← hZ]; exact made_u8 n
  have hcv := run_convert_bytes_back (P := Tryd.prog) (w.alloc (.cells Z 5)) 29 9 5 ⟨w.heap.size, 0, none⟩ n (List.replicate n 0) Tryd.underlying29 Tryd.underlying5 Tryd.underlying9 (fun j hj => by
    rw [List.length_replicate] at hj
    rw [addr_add, Nat.zero_add, cell_of_row _ _ _ _ _ _ (heap_alloc_new w _), ← Array.getElem?_toList, hZl, List.getElem?_replicate_of_lt hj]
    simp)
  rw [List.length_replicate] at hcv
  exact ⟨Z, _, by rw [sz_of, List.length_replicate], hmk, hcv⟩
set_option maxRecDepth 100000 in
set_option maxHeartbeats 4000000 in
theorem walkEnds (s : ByteArray) (key : Bool) (B : Nat) (w : World) (E : Env B w) :
    Calls Tryd.prog 6 #[.string s, .bool key] w fun e w' => e = .returned (.bool true) ∧ Below w.heap.size w w' := by
  have HE0 := Lib.hid E
  clear E
  obtain ⟨S, hS⟩ : ∃ S, cutT s = S := ⟨_, rfl⟩
  have hSs : S.size ≤ 200 := by rw [← hS]; exact cutT_size s
  have hc1 := fun w => cut3_any s w
  rw [hS] at hc1
  have hms := hmac_size S S
  have hO := fun w E => Of_ok S S (by omega) (by omega) B w E
  obtain ⟨q, hq⟩ : ∃ q, hmac S S = q := ⟨_, rfl⟩
  rw [hq] at hO hms
  have hmi : (q.size : Int) = 32 := by omega
  have HC1 := Lib.hid hc1
  have HO := Lib.hid hO
  clear hS hc1 hO hq hms
  go_enter Tryd.func6, Tryd.ntmps6
  go_wp2_with fail
  refine (shown3_any B _ HE0.out).mono ?_
  rintro e w1 ⟨rfl, hb1⟩
  have hz1 := hb1.size
  have HB1 := Lib.hid hb1
  have HE1 := Lib.hid (HE0.out.below' hb1)
  clear hb1
  go_wp2_with fail
  refine (HC1.out _).mono ?_
  rintro e w' ⟨rfl, rfl⟩
  go_wp2_with fail
  refine (HO.out _ HE1.out).mono ?_
  rintro e w2 ⟨rfl, hb2⟩
  have hz2 := hb2.size
  have HB2 := Lib.hid (HB1.out.trans (hb2.mono (by have := HB1.out.size; omega)))
  have HE2 := Lib.hid (HE1.out.below' hb2)
  clear hb2
  obtain ⟨Z3, L3, hL3, hmk3, hcv3⟩ := noughts 99937 (by omega) w2
  obtain ⟨w3, hw3⟩ : ∃ w3, w2.alloc (.cells Z3 5) = w3 := ⟨_, rfl⟩
  have hb3 : Below w2.heap.size w2 w3 := by rw [← hw3]; exact (Below.refl _ w2).alloc (Nat.le_refl _) _
  have hz3 := hb3.size
  have HB3 := Lib.hid (HB2.out.trans (hb3.mono (by have := HB2.out.size; omega)))
  have HE3 := Lib.hid (HE2.out.below' hb3)
  rw [hw3] at hmk3 hcv3
  have hmk3' : (Instr.makeSlice 29 (.int .i64 99937) (.int .i64 99937)).run Tryd.prog w2 = .ok (.slice (some ⟨w2.heap.size, 0, none⟩) 99937 99937) w3 := hmk3
  have hcv3' : (convert 29 9 (.slice (some ⟨w2.heap.size, 0, none⟩) 99937 99937)).run Tryd.prog w3 = .ok (.string L3) w3 := hcv3
  obtain ⟨Z4, L4, hL4, hmk4, hcv4⟩ := noughts 100001 (by omega) w3
  obtain ⟨w4, hw4⟩ : ∃ w4, w3.alloc (.cells Z4 5) = w4 := ⟨_, rfl⟩
  have hb4 : Below w3.heap.size w3 w4 := by rw [← hw4]; exact (Below.refl _ w3).alloc (Nat.le_refl _) _
  have hz4 := hb4.size
  have HB4 := Lib.hid (HB3.out.trans (hb4.mono (by have := HB3.out.size; omega)))
  have HE4 := Lib.hid (HE3.out.below' hb4)
  rw [hw4] at hmk4 hcv4
  have hmk4' : (Instr.makeSlice 29 (.int .i64 100001) (.int .i64 100001)).run Tryd.prog w3 = .ok (.slice (some ⟨w3.heap.size, 0, none⟩) 100001 100001) w4 := hmk4
  have hcv4' : (convert 29 9 (.slice (some ⟨w3.heap.size, 0, none⟩) 100001 100001)).run Tryd.prog w4 = .ok (.string L4) w4 := hcv4
  have hl1 := Of_long L4 S (by omega) B w4 HE4.out
  have hl2 := Of_long S L3 (by omega) B w4 HE4.out
  have H1 := Lib.hid hl1
  have H2 := Lib.hid hl2
  clear hb3 hb4 hmk3 hcv3 hmk4 hcv4 hw3 hw4 hl1 hl2 hL3 hL4
  cases key
  · go_wp2_with fail
    refine (H2.out).mono ?_
    rintro e w5 ⟨rfl, hb5⟩
    have hz5 := hb5.size
    have HB5 := Lib.hid (HB4.out.trans (hb5.mono (by have := HB4.out.size; omega)))
    clear hb5
    go_wp2
    go_ret
    exact ⟨rfl, HB5.out⟩
  · go_wp2_with fail
    refine (H1.out).mono ?_
    rintro e w5 ⟨rfl, hb5⟩
    have hz5 := hb5.size
    have HB5 := Lib.hid (HB4.out.trans (hb5.mono (by have := HB4.out.size; omega)))
    clear hb5
    go_wp2
    go_ret
    exact ⟨rfl, HB5.out⟩
theorem walkTagEnds (s : ByteArray) (key : Bool) (w : World) (hE : ∃ B, Env B w) :
    Calls Tryd.prog 6 #[.string s, .bool key] w fun e w' => e = .returned (.bool true) ∧ Below w.heap.size w w' := by
  obtain ⟨B, E⟩ := hE
  exact walkEnds s key B w E

set_option maxRecDepth 100000 in
theorem contractTagEnds (H : Type) (enc : TypeId × Value → H) (W : World) (base : Nat) (args : Array Value) (ds gs : List (DataW H)) (before : List MemPlace)
    (hval : ∀ (j : Nat) t v, Tryd.f6.params[j]? = some t → args[j]? = some v → Value.okWide Tryd.prog W .any base t v)
    (hW : DataW.Whole enc Tryd.prog Tryd.f6.params.toList Rows.tagEndsSpec.vars false W args.toList ds gs before) (hL : laidMetH Tryd.prog laid5 W) :
    Calls Tryd.prog 6 args W fun e W' => ∃ v, e = .returned v ∧ Rows.tagEndsSpec.post enc Tryd.prog Tryd.f6 false true false false W args v W' := by
  have hW' := hW
  obtain ⟨p, q, hA0, hV, rfl, hfz, hnd⟩ := hW
  have hA : DataW.TrodAll enc Tryd.prog W 0 (fun _ => true) true Tryd.f6.params.toList args.toList ds p := hA0
  rw [Tryd.params6] at hA hval
  obtain ⟨v0, vs0, d0, ds0, p0, q0, hargs, rfl, rfl, h0, r0⟩ := trodAll_cons hA
  obtain ⟨v1, vs1, d1, ds1, p1, q1, rfl, rfl, rfl, h1, r1⟩ := trodAll_cons r0
  obtain ⟨rfl, rfl, rfl⟩ := trodAll_nil r1
  obtain rfl : args = #[v0, v1] := by cases args; simp_all
  obtain ⟨rfl, rfl⟩ := trodVars_none hV
  obtain ⟨s, rfl, rfl, rfl, w0⟩ := open_string Tryd.underlying9 (hval 0 9 v0 rfl rfl) h0
  obtain ⟨key, rfl, rfl, rfl⟩ := open_bool Tryd.underlying4 (hval 1 4 v1 rfl rfl) h1
  clear hA0
  simp only [List.append_nil] at hW'
  refine (walkTagEnds s key W (env_of hL)).mono fun e W' ⟨he, hg⟩ => ?_
  subst he
  refine ⟨_, rfl, _, _, _, [], [], [], hW', ?_, ?_, rfl, hg.frame _, fun h => by cases h⟩
  · exact trodAll_cons_mk (shut_bool Tryd.underlying4 _) trodAll_mk0
  · exact (trodAll_cons_mk (shut_string Tryd.underlying9 w0) (trodAll_cons_mk (shut_bool Tryd.underlying4 _) trodAll_mk0))

set_option maxRecDepth 100000 in
theorem liftedTagEnds (os : Os) (started : os.Started) (H : Type) (enc : TypeId × Value → H) :
    ReturnsInHanded {} Tryd.checked os 6 .any (fun w args => (Rows.tagEndsSpec.pre enc Tryd.prog Tryd.f6 [] false w args ∧ laidMetH Tryd.prog laid5 w) ∧ sizedMet enc Tryd.prog Tryd.f6 (OpenSpec.ofChange Rows.tagEndsSpec) false w args)
      (Rows.tagEndsSpec.post enc Tryd.prog Tryd.f6 false true false false) := by
  refine returnsInHanded_of_change_and (C := Tryd.checked) (X := fun w _ => laidMetH Tryd.prog laid5 w) (fun _ _ _ hh h => h.of_heap hh) own started (by kernel_rfl) Tryd.func6
    (ChangeSpec.witness_shaped (enc := enc) (C := Tryd.checked) (os := os) (X := fun w _ => laidMetH Tryd.prog laid5 w) false (World.doorLaid Tryd.prog 102 os) #[.string .empty, .bool false] 8 rfl (World.shaped_of_RefB (by kernel_rfl) (by kernel_rfl)) (by kernel_rfl) (by kernel_rfl) (by kernel_rfl) (door_met os _)) ?_
  intro W base args ds gs before hval hW _ _ hL _
  exact contractTagEnds H enc W base args ds gs before hval hW hL
theorem tagEnds_said : Rows.TagEndsSaid :=
  OpenClaim.holds_of_wide 6 Tryd.f6 rfl rfl rfl rfl rfl rfl rfl ⟨rfl, rfl, rfl, rfl, rfl⟩ rfl rfl rfl rfl rfl (by kernel_rfl) Tryd.func6 (by kernel_rfl)
    (of_decide_eq_true (by kernel_rfl)) (by unfold Func.isWrapper; first | (rw [if_pos (by decide +kernel)]; kernel_rfl) | (rw [if_neg (by decide +kernel)]; exact ⟨rfl, rfl⟩))
    (fun os started H enc _ => liftedTagEnds os started H enc)
/-- THE TIED CARD. -/
theorem tagEnds_card : Rows.TagEndsCardSaid :=
  Claim7.holds_tied_plain_at .later [] _ _ _ _ tagEnds_said (fun _ h => by cases h) (by kernel_rfl) (fun _ h => by cases h) tagEnds_row_tie rfl ⟨rfl, rfl⟩ (by kernel_rfl) rfl
    (fun f fn hf hfn => by
      obtain rfl : f = 6 := Option.some.inj ((show Tryd.prog.funcNamed "sigillary/sigillarylaw03.TagEnds" = some 6 by kernel_rfl).symm.trans hf) |>.symm
      obtain rfl : fn = Tryd.f6 := (Option.some.inj (Tryd.func6.symm.trans hfn)).symm
      exact ⟨by kernel_rfl, fun j t ht => by
        rw [Tryd.params6] at ht
        have hm : t ∈ [9, 4] := by simpa using Array.mem_of_getElem? ht
        have hall : ([9, 4].all fun u => !Tryd.prog.wantsStandIn u) = true := by kernel_rfl
        exact (show Tryd.prog.wantsStandIn t = false by simpa using List.all_eq_true.1 hall t hm)⟩)
    (by kernel_rfl)
end Go.Proofs.YthojdcmkajmdjaaDoor
