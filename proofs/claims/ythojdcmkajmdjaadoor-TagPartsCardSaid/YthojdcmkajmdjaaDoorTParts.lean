/- A tag is the sum of the key, mixed one way, and of the sum of the key, mixed the other way, and the text. Conditions: the laid variables, as the statement lists them. -/
import Derived.Test.YthojdcmkajmdjaaDoorDoor2
import Derived.Test.YthojdcmkajmdjaaDoorCv1
import Derived.Test.YthojdcmkajmdjaaDoorHmk
import Derived.Deep.RegionHeld
import Derived.Deep.RegionWith
import Derived.BigQuiet
import Derived.Deep.QuietTactic
import Derived.Deep.DeepCutAuto
namespace Go.Proofs.YthojdcmkajmdjaaDoor
open Go.ChangeShapes Go.WideShapes Go.ChangeAt Go.RowKit Go.Shelf
open Go.ChangeMaps (open_string shut_string)
open Rd Dg Hx Box Seqs
/-- a text's first sixty-four bytes -/
def cutK (s : ByteArray) : ByteArray := if 64 < s.size then s.extract 0 64 else s
theorem cutK_size (s : ByteArray) : (cutK s).size ≤ 64 := by
  unfold cutK
  split
  · simp [ByteArray.size_extract]; omega
  · omega
theorem mixsum (K S A D d1 : ByteArray) (hK : K.size ≤ 64) (hA : mixT K 54 64 = A) (hD : mixT K 92 64 = D) (h1 : dig (A ++ S).data.toList = d1) : dig (D ++ d1).data.toList = hmac K S := by
  rw [hmac_key K S hK, ← mixL_all, ← mixL_all, ← mixT_list, ← mixT_list, hA, hD, ByteArray.data_append, Array.toList_append]
  rw [ByteArray.data_append, Array.toList_append] at h1
  rw [h1]
set_option maxRecDepth 100000 in
set_option maxHeartbeats 2000000 in
theorem walkParts1 (K S : ByteArray) (hKs : K.size ≤ 64) (hSs : S.size ≤ 200) (key s : ByteArray) (hcK : cutK key = K) (hc2 : ∀ w, Calls Tryd.prog 11 #[.string s] w fun e w' => e = .returned (.string S) ∧ w = w') (B : Nat) (w : World) (E : Env B w) :
    Calls Tryd.prog 7 #[.string key, .string s] w fun e w' => e = .returned (.bool true) ∧ Below w.heap.size w w' := by
  have HE0 := Lib.hid E
  have HC2 := Lib.hid hc2
  obtain ⟨A0, hA0⟩ : ∃ A, mixT K 54 64 = A := ⟨_, rfl⟩
  obtain ⟨D0, hD0⟩ : ∃ D, mixT K 92 64 = D := ⟨_, rfl⟩
  have sA : A0.size = 64 := by rw [← hA0, mixT_size]
  have sD : D0.size = 64 := by rw [← hD0, mixT_size]
  obtain ⟨X, hX⟩ : ∃ X, A0 ++ S = X := ⟨_, rfl⟩
  have sX : X.size = 64 + S.size := by rw [← hX, ByteArray.size_append, sA]
  have hS1 := fun w E => Sum_ok X (by omega) B w E
  obtain ⟨d1, hd1⟩ : ∃ d, dig X.data.toList = d := ⟨_, rfl⟩
  have sd1 : d1.size = 32 := by rw [← hd1]; exact dig_size _
  obtain ⟨Y, hY⟩ : ∃ Y, D0 ++ d1 = Y := ⟨_, rfl⟩
  have sY : Y.size = 96 := by rw [← hY, ByteArray.size_append, sD, sd1]
  have hS2 := fun w E => Sum_ok Y (by omega) B w E
  have hq := mixsum K S A0 D0 d1 hKs hA0 hD0 (by rw [hX]; exact hd1)
  rw [hY] at hq
  have hO := fun w E => Of_ok K S (by omega) (by omega) B w E
  rw [hd1] at hS1
  rw [hq] at hS2
  obtain ⟨q, hqq⟩ : ∃ q, hmac K S = q := ⟨_, rfl⟩
  rw [hqq] at hS2 hO
  have HS1 := Lib.hid hS1
  have HS2 := Lib.hid hS2
  have HO := Lib.hid hO
  have HX := Lib.hid hX
  have HY := Lib.hid hY
  have HA0 := Lib.hid hA0
  have HD0 := Lib.hid hD0
  have HCK := Lib.hid hcK
  have hw1 : ¬ 9223372036854775807 < A0.size + S.size := by omega
  have hw2 : ¬ 9223372036854775807 < D0.size + d1.size := by omega
  clear E hc2 hS1 hS2 hO hX hY hA0 hD0 hq hqq hd1 hcK
  go_enter Tryd.func7, Tryd.ntmps7
  go_wp2_with fail
  refine (shown3_any B _ HE0.out).mono ?_
  rintro e w1 ⟨rfl, hb1⟩
  have hz1 := hb1.size
  have HB1 := Lib.hid hb1
  clear hb1
  go_upto_region 2 with fail
  go_cut [0] (fun v wx => v = .string K ∧ w1 = wx)
  case first =>
    go_wp2_with fail
    · go_meet
      exact ⟨by rw [← HCK.out, show cutK key = key.extract 0 64 by unfold cutK; rw [if_pos (by omega)]], rfl⟩
    · go_meet
      exact ⟨by rw [← HCK.out, show cutK key = key by unfold cutK; rw [if_neg (by omega)]], rfl⟩
  case rest =>
    obtain ⟨rfl, rfl⟩ := hcut
    go_wp2_with fail
    refine (HC2.out _).mono ?_
    rintro e w' ⟨rfl, rfl⟩
    go_wp2_with fail
    go_loopw [6, 7, 8] (fun a b i wr => ∃ t : Nat, t ≤ 64 ∧ i = .int .i64 (t : Int) ∧ a = .string (mixT K 54 t) ∧ b = .string (mixT K 92 t) ∧ Below w.heap.size w wr) (fun _ _ i _ => 64 - (intOf i).toNat)
    case atStart => exact ⟨0, by omega, rfl, rfl, rfl, HB1.out⟩
    case round =>
    obtain ⟨t, ht, rfl, rfl, rfl, hbr⟩ := hrel
    have HBR := Lib.hid hbr
    clear hbr
    by_cases hlt : t < 64
    · have i0 : (t : Int) < 64 := by omega
      have s1 := mixT_size K 54 t
      have s2 := mixT_size K 92 t
      have c1 := mixT_succ K 54 t
      have c2 := mixT_succ K 92 t
      obtain ⟨A', hA'⟩ : ∃ A', mixT K 54 (t + 1) = A' := ⟨_, rfl⟩
      obtain ⟨D', hD'⟩ : ∃ D', mixT K 92 (t + 1) = D' := ⟨_, rfl⟩
      obtain ⟨A, hA⟩ : ∃ A, mixT K 54 t = A := ⟨_, rfl⟩
      obtain ⟨D, hD⟩ : ∃ D, mixT K 92 t = D := ⟨_, rfl⟩
      rw [hA, hA'] at c1
      rw [hD, hD'] at c2
      rw [hA] at s1
      rw [hD] at s2
      rw [hA, hD]
      have HA1 := Lib.hid hA'
      have HD1 := Lib.hid hD'
      have m1 : ¬ 9223372036854775807 < A.size + 1 := by omega
      have m2 : ¬ 9223372036854775807 < D.size + 1 := by omega
      clear hA hD hA' hD' s1 s2
      by_cases hk : t < K.size
      · have hbt := bt_in K t hk
        have hki : (t : Int) < (K.size : Int) := by omega
        obtain ⟨b, hb⟩ : ∃ b, K[t] = b := ⟨_, rfl⟩
        rw [hbt, hb] at c1 c2
        have x1 : bits .xor .u8 (b.toNat : Int) 54 = ((b ^^^ 54).toNat : Int) := bits8_xor b 54
        have x2 : bits .xor .u8 (b.toNat : Int) 92 = ((b ^^^ 92).toNat : Int) := bits8_xor b 92
        obtain ⟨y, hy⟩ : ∃ y, b ^^^ 54 = y := ⟨_, rfl⟩
        obtain ⟨z, hz⟩ : ∃ z, b ^^^ 92 = z := ⟨_, rfl⟩
        rw [hy] at x1 c1
        rw [hz] at x2 c2
        have hcv := cv1
        have hcv2 := cv1 (wr.alloc (.cells #[.int .u8 (y.toNat : Int)] 5)) z
        rw [show (wr.alloc (.cells #[.int .u8 (y.toNat : Int)] 5)).heap.size = wr.heap.size + 1 by simp] at hcv2
        clear hbt
        have C1 := Lib.hid c1
        have C2 := Lib.hid c2
        clear c1 c2
        go_wp2
        all_goals
          go_roundw
          case rel =>
            exact ⟨t + 1, by omega, by go_num, by rw [C1.out, HA1.out], by rw [C2.out, HD1.out], (HBR.out.alloc HBR.out.size _).alloc (by have := HBR.out.size; simp; omega) _⟩
          case measure => simp [intOf]; omega
      · have hbt := bt_out K t hk
        have hki : ¬ (t : Int) < (K.size : Int) := by omega
        rw [hbt] at c1 c2
        have c1 : A ++ (⟨#[54]⟩ : ByteArray) = A' := c1
        have c2 : D ++ (⟨#[92]⟩ : ByteArray) = D' := c2
        have x1 : bits .xor .u8 0 54 = 54 := by decide
        have x2 : bits .xor .u8 0 92 = 92 := by decide
        have hcv : ∀ w : World, (convert 29 9 (.slice (some ⟨w.heap.size, 0, none⟩) 1 1)).run Tryd.prog (w.alloc (.cells #[.int .u8 54] 5)) = .ok (.string ⟨#[54]⟩) (w.alloc (.cells #[.int .u8 54] 5)) := fun w => cv1 w 54
        have hcv2 : (convert 29 9 (.slice (some ⟨(wr.alloc (.cells #[.int .u8 54] 5)).heap.size, 0, none⟩) 1 1)).run Tryd.prog ((wr.alloc (.cells #[.int .u8 54] 5)).alloc (.cells #[.int .u8 92] 5)) = .ok (.string ⟨#[92]⟩) ((wr.alloc (.cells #[.int .u8 54] 5)).alloc (.cells #[.int .u8 92] 5)) := cv1 _ 92
        rw [show (wr.alloc (.cells #[.int .u8 54] 5)).heap.size = wr.heap.size + 1 by simp] at hcv2
        clear hbt
        have C1 := Lib.hid c1
        have C2 := Lib.hid c2
        clear c1 c2
        go_wp2
        all_goals
          go_roundw
          case rel =>
            exact ⟨t + 1, by omega, by go_num, by rw [C1.out, HA1.out], by rw [C2.out, HD1.out], (HBR.out.alloc HBR.out.size _).alloc (by have := HBR.out.size; simp; omega) _⟩
          case measure => simp [intOf]; omega
    · obtain rfl : t = 64 := by omega
      rw [HA0.out, HD0.out]
      have HER := Lib.hid (HE0.out.below' HBR.out)
      go_wp2_with fail
      rw [HX.out]
      refine (HS1.out _ HER.out).mono ?_
      rintro e w3 ⟨rfl, hb3⟩
      have hz3 := hb3.size
      have HB3 := Lib.hid (HBR.out.trans (hb3.mono HBR.out.size))
      have HE3 := Lib.hid (HER.out.below' hb3)
      clear hb3
      go_wp2_with fail
      rw [HY.out]
      refine (HS2.out _ HE3.out).mono ?_
      rintro e w4 ⟨rfl, hb4⟩
      have hz4 := hb4.size
      have HB4 := Lib.hid (HB3.out.trans (hb4.mono HB3.out.size))
      have HE4 := Lib.hid (HE3.out.below' hb4)
      clear hb4
      go_wp2_with fail
      refine (HO.out _ HE4.out).mono ?_
      rintro e w5 ⟨rfl, hb5⟩
      have HB5 := Lib.hid (HB4.out.trans (hb5.mono HB4.out.size))
      clear hb5
      go_wp2
      go_ret
      exact ⟨rfl, HB5.out⟩
set_option maxRecDepth 100000 in
set_option maxHeartbeats 4000000 in
theorem walkParts (key : ByteArray) (s : ByteArray) (B : Nat) (w : World) (E : Env B w) :
    Calls Tryd.prog 7 #[.string key, .string s] w fun e w' => e = .returned (.bool true) ∧ Below w.heap.size w w' := by
  obtain ⟨K, hK⟩ : ∃ K, cutK key = K := ⟨_, rfl⟩
  obtain ⟨S, hS⟩ : ∃ S, cutT s = S := ⟨_, rfl⟩
  have hKs : K.size ≤ 64 := by rw [← hK]; exact cutK_size key
  have hSs : S.size ≤ 200 := by rw [← hS]; exact cutT_size s
  have hc2 := fun w => cut3_any s w
  rw [hS] at hc2
  exact walkParts1 K S hKs hSs key s hK hc2 B w E
theorem walkTagParts (key : ByteArray) (s : ByteArray) (w : World) (hE : ∃ B, Env B w) :
    Calls Tryd.prog 7 #[.string key, .string s] w fun e w' => e = .returned (.bool true) ∧ Below w.heap.size w w' := by
  obtain ⟨B, E⟩ := hE
  exact walkParts key s B w E

set_option maxRecDepth 100000 in
theorem contractTagParts (H : Type) (enc : TypeId × Value → H) (W : World) (base : Nat) (args : Array Value) (ds gs : List (DataW H)) (before : List MemPlace)
    (hval : ∀ (j : Nat) t v, Tryd.f7.params[j]? = some t → args[j]? = some v → Value.okWide Tryd.prog W .any base t v)
    (hW : DataW.Whole enc Tryd.prog Tryd.f7.params.toList Rows.tagPartsSpec.vars false W args.toList ds gs before) (hL : laidMetH Tryd.prog laid5 W) :
    Calls Tryd.prog 7 args W fun e W' => ∃ v, e = .returned v ∧ Rows.tagPartsSpec.post enc Tryd.prog Tryd.f7 false true false false W args v W' := by
  have hW' := hW
  obtain ⟨p, q, hA0, hV, rfl, hfz, hnd⟩ := hW
  have hA : DataW.TrodAll enc Tryd.prog W 0 (fun _ => true) true Tryd.f7.params.toList args.toList ds p := hA0
  rw [Tryd.params7] at hA hval
  obtain ⟨v0, vs0, d0, ds0, p0, q0, hargs, rfl, rfl, h0, r0⟩ := trodAll_cons hA
  obtain ⟨v1, vs1, d1, ds1, p1, q1, rfl, rfl, rfl, h1, r1⟩ := trodAll_cons r0
  obtain ⟨rfl, rfl, rfl⟩ := trodAll_nil r1
  obtain rfl : args = #[v0, v1] := by cases args; simp_all
  obtain ⟨rfl, rfl⟩ := trodVars_none hV
  obtain ⟨key, rfl, rfl, rfl, w0⟩ := open_string Tryd.underlying9 (hval 0 9 v0 rfl rfl) h0
  obtain ⟨s, rfl, rfl, rfl, w1⟩ := open_string Tryd.underlying9 (hval 1 9 v1 rfl rfl) h1
  clear hA0
  simp only [List.append_nil] at hW'
  refine (walkTagParts key s W (env_of hL)).mono fun e W' ⟨he, hg⟩ => ?_
  subst he
  refine ⟨_, rfl, _, _, _, [], [], [], hW', ?_, ?_, rfl, hg.frame _, fun h => by cases h⟩
  · exact trodAll_cons_mk (shut_bool Tryd.underlying4 _) trodAll_mk0
  · exact (trodAll_cons_mk (shut_string Tryd.underlying9 w0) (trodAll_cons_mk (shut_string Tryd.underlying9 w1) trodAll_mk0))

set_option maxRecDepth 100000 in
theorem liftedTagParts (os : Os) (started : os.Started) (H : Type) (enc : TypeId × Value → H) :
    ReturnsInHanded {} Tryd.checked os 7 .any (fun w args => (Rows.tagPartsSpec.pre enc Tryd.prog Tryd.f7 [] false w args ∧ laidMetH Tryd.prog laid5 w) ∧ sizedMet enc Tryd.prog Tryd.f7 (OpenSpec.ofChange Rows.tagPartsSpec) false w args)
      (Rows.tagPartsSpec.post enc Tryd.prog Tryd.f7 false true false false) := by
  refine returnsInHanded_of_change_and (C := Tryd.checked) (X := fun w _ => laidMetH Tryd.prog laid5 w) (fun _ _ _ hh h => h.of_heap hh) own started (by kernel_rfl) Tryd.func7
    (ChangeSpec.witness_shaped (enc := enc) (C := Tryd.checked) (os := os) (X := fun w _ => laidMetH Tryd.prog laid5 w) false (World.doorLaid Tryd.prog 102 os) #[.string .empty, .string .empty] 8 rfl (World.shaped_of_RefB (by kernel_rfl) (by kernel_rfl)) (by kernel_rfl) (by kernel_rfl) (by kernel_rfl) (door_met os _)) ?_
  intro W base args ds gs before hval hW _ _ hL _
  exact contractTagParts H enc W base args ds gs before hval hW hL
theorem tagParts_said : Rows.TagPartsSaid :=
  OpenClaim.holds_of_wide 7 Tryd.f7 rfl rfl rfl rfl rfl rfl rfl ⟨rfl, rfl, rfl, rfl, rfl⟩ rfl rfl rfl rfl rfl (by kernel_rfl) Tryd.func7 (by kernel_rfl)
    (of_decide_eq_true (by kernel_rfl)) (by unfold Func.isWrapper; first | (rw [if_pos (by decide +kernel)]; kernel_rfl) | (rw [if_neg (by decide +kernel)]; exact ⟨rfl, rfl⟩))
    (fun os started H enc _ => liftedTagParts os started H enc)
/-- THE TIED CARD. -/
theorem tagParts_card : Rows.TagPartsCardSaid :=
  Claim7.holds_tied_plain_at .later [] _ _ _ _ tagParts_said (fun _ h => by cases h) (by kernel_rfl) (fun _ h => by cases h) tagParts_row_tie rfl ⟨rfl, rfl⟩ (by kernel_rfl) rfl
    (fun f fn hf hfn => by
      obtain rfl : f = 7 := Option.some.inj ((show Tryd.prog.funcNamed "sigillary/sigillarylaw03.TagParts" = some 7 by kernel_rfl).symm.trans hf) |>.symm
      obtain rfl : fn = Tryd.f7 := (Option.some.inj (Tryd.func7.symm.trans hfn)).symm
      exact ⟨by kernel_rfl, fun j t ht => by
        rw [Tryd.params7] at ht
        have hm : t ∈ [9, 9] := by simpa using Array.mem_of_getElem? ht
        have hall : ([9, 9].all fun u => !Tryd.prog.wantsStandIn u) = true := by kernel_rfl
        exact (show Tryd.prog.wantsStandIn t = false by simpa using List.all_eq_true.1 hall t hm)⟩)
    (by kernel_rfl)
end Go.Proofs.YthojdcmkajmdjaaDoor
