/- Texts are told to be the same just if they are, wherever they differ, for every text, place and byte. Conditions: the laid variables, as the statement lists them. -/
import Derived.Test.YthojdcmkajmdjaaDoorDoor2
import Derived.Test.YthojdcmkajmdjaaDoorCv1
import Derived.Deep.RegionHeld
import Derived.Deep.RegionWith
import Derived.BigQuiet
import Derived.Deep.QuietTactic
import Derived.Deep.DeepCutAuto
namespace Go.Proofs.YthojdcmkajmdjaaDoor
open Go.ChangeShapes Go.WideShapes Go.ChangeAt Go.RowKit Go.Shelf
open Go.ChangeMaps (open_string shut_string)
open Rd Dg Hx Box Seqs
theorem hid_drew {B : Nat} {w w' : World} (h : Hid (Below B w w')) : Hid (Below B w w'.drew) := Lib.hid h.out.drew
theorem i8 (b : Int) : ∃ x : UInt8, (0 ≤ b → b ≤ 255 → b = (x.toNat : Int)) := ⟨UInt8.ofNat b.toNat, fun h1 h2 => by simp; omega⟩
theorem app_ne (S : ByteArray) : S ≠ S ++ (⟨#[0]⟩ : ByteArray) ∧ (⟨#[0]⟩ : ByteArray) ++ S ≠ S := by
  refine ⟨fun h => ?_, fun h => ?_⟩
  · have e := congrArg ByteArray.size h
    rw [ByteArray.size_append, show (⟨#[0]⟩ : ByteArray).size = 1 from rfl] at e
    omega
  · have e := congrArg ByteArray.size h
    rw [ByteArray.size_append, show (⟨#[0]⟩ : ByteArray).size = 1 from rfl] at e
    omega
set_option maxRecDepth 100000 in
set_option maxHeartbeats 1000000 in
theorem walkEqual1 (S : ByteArray) (hSs : S.size ≤ 200) (at' b : Int) (hcond : at' < 0 ∨ (S.size : Int) ≤ at' ∨ b < 0 ∨ 255 < b) (s : ByteArray) (hc1 : ∀ w, Calls Tryd.prog 11 #[.string s] w fun e w' => e = .returned (.string S) ∧ w = w') (B : Nat) (w : World) (E : Env B w) :
    Calls Tryd.prog 9 #[.string s, .int .i64 at', .int .i64 b] w fun e w' => e = .returned (.bool true) ∧ Below w.heap.size w w' := by
  have HE0 := Lib.hid E
  have HC1 := Lib.hid hc1
  obtain ⟨n1, n2⟩ := app_ne S
  have hQ1 := fun w => Equal_ok S S (by omega) (by omega) w
  obtain ⟨X, hX⟩ : ∃ X, S ++ (⟨#[0]⟩ : ByteArray) = X := ⟨_, rfl⟩
  obtain ⟨Y, hY⟩ : ∃ Y, (⟨#[0]⟩ : ByteArray) ++ S = Y := ⟨_, rfl⟩
  have hXs : X.size ≤ 1000000 := by rw [← hX, ByteArray.size_append, show (⟨#[0]⟩ : ByteArray).size = 1 from rfl]; omega
  have hYs : Y.size ≤ 1000000 := by rw [← hY, ByteArray.size_append, show (⟨#[0]⟩ : ByteArray).size = 1 from rfl]; omega
  rw [hX] at n1
  rw [hY] at n2
  have hQ2 := fun w => Equal_ok S X (by omega) hXs w
  have hQ3 := fun w => Equal_ok Y S hYs (by omega) w
  rw [decide_eq_true rfl] at hQ1
  rw [decide_eq_false n1] at hQ2
  rw [decide_eq_false n2] at hQ3
  have HQ1 := Lib.hid hQ1
  have HQ2 := Lib.hid hQ2
  have HQ3 := Lib.hid hQ3
  have HCN := Lib.hid hcond
  clear E hc1 hQ1 hQ2 hQ3 n1 n2 hXs hYs hcond
  go_enter Tryd.func9, Tryd.ntmps9
  go_wp2_with fail
  refine (shown3_any B _ HE0.out).mono ?_
  rintro e w1 ⟨rfl, hb1⟩
  have hz1 := hb1.size
  have HB1 := Lib.hid hb1
  clear hb1
  go_wp2_with fail
  refine (HC1.out _).mono ?_
  rintro e w' ⟨rfl, rfl⟩
  have hx1 : ¬ 9223372036854775807 < S.size + 1 := by omega
  have hx2 : ¬ 9223372036854775807 < 1 + S.size := by omega
  go_wp2_with fail
  all_goals first
    | (exfalso; have := HCN.out; omega)
    | skip
  all_goals
    refine (HQ1.out _).mono ?_
    rintro e w2 ⟨rfl, hb2⟩
    have hz2 := hb2.size
    have HB2 := Lib.hid (HB1.out.trans (hb2.mono (by omega)))
    clear hb2
    go_wp2_with fail
    try rw [hX]
    refine (HQ2.out _).mono ?_
    rintro e w3 ⟨rfl, hb3⟩
    have hz3 := hb3.size
    have HB3 := Lib.hid (HB2.out.trans (hb3.mono (by omega)))
    clear hb3
    go_wp2_with fail
    try rw [hY]
    refine (HQ3.out _).mono ?_
    rintro e w4 ⟨rfl, hb4⟩
    have hz4 := hb4.size
    have HB4 := Lib.hid (HB3.out.trans (hb4.mono (by omega)))
    clear hb4
    go_wp2
    go_ret
    exact ⟨rfl, HB4.out⟩
set_option maxRecDepth 100000 in
set_option maxHeartbeats 1000000 in
theorem walkEqual2 (S : ByteArray) (hSs : S.size ≤ 200) (n : Nat) (x : UInt8) (hn : n < S.size) (s : ByteArray) (hc1 : ∀ w, Calls Tryd.prog 11 #[.string s] w fun e w' => e = .returned (.string S) ∧ w = w') (B : Nat) (w : World) (E : Env B w) :
    Calls Tryd.prog 9 #[.string s, .int .i64 (n : Int), .int .i64 (x.toNat : Int)] w fun e w' => e = .returned (.bool true) ∧ Below w.heap.size w w' := by
  have HE0 := Lib.hid E
  have HC1 := Lib.hid hc1
  have hm := x.toNat_lt
  have hni : ¬ (S.size : Int) ≤ (n : Int) := by omega
  have hmi : ¬ (255 : Int) < (x.toNat : Int) := by omega
  have h1 : (n : Int) + 1 ≤ (S.size : Int) := by omega
  have h2 : (n : Int) ≤ (S.size : Int) := by omega
  have h3 : ((n : Int) + 1).toNat = n + 1 := by omega
  clear E hc1
  go_enter Tryd.func9, Tryd.ntmps9
  go_wp2_with fail
  refine (shown3_any B _ HE0.out).mono ?_
  rintro e w1 ⟨rfl, hb1⟩
  have hz1 := hb1.size
  have HB1 := Lib.hid hb1
  clear hb1
  go_wp2_with fail
  refine (HC1.out _).mono ?_
  rintro e w' ⟨rfl, rfl⟩
  go_wp2_with fail
  have hcv := cv1
  have hcvd := cv1d
  have hw8 := wrap8 x
  have e1 : IntKind.i64.wrap ((n : Int) + 1) = (n : Int) + 1 := by rw [IntWalk.i64_left]; unfold wrap64; omega
  have hn0 : ¬ (n : Int) < 0 := by omega
  have hx0 : ¬ (x.toNat : Int) < 0 := by omega
  go_cut [8] (fun v wx => v = .string (setB S n x) ∧ Below w1.heap.size w1 wx)
  case first =>
    go_region_held (fun _ => True) (trivial) (first | fail)
    all_goals (go_wp2_with fail; go_meet; exact ⟨rfl, ((Below.refl _ w1).alloc (Nat.le_refl _) _).drew⟩)
  case rest =>
    obtain ⟨rfl, hbc⟩ := hcut
    obtain ⟨T, hT⟩ : ∃ T, setB S n x = T := ⟨_, rfl⟩
    have hTs : T.size = S.size := by rw [← hT]; exact setB_size S n x hn
    have hST := setB_eq S n x hn
    rw [hT] at hST
    rw [hT]
    have hq1 : ∀ X Y W, (X = S ∧ Y = T ∨ X = T ∧ Y = S) → Hid (Below w.heap.size w W) → Calls Tryd.prog 18 #[.string X, .string Y] W fun e W' => e = .returned (.bool (decide (S = T))) ∧ Hid (Below w.heap.size w W') := by
      rintro X Y W (⟨rfl, rfl⟩ | ⟨rfl, rfl⟩) h
      · exact (Equal_ok X Y (by omega) (by omega) W).mono fun e W' ⟨h1, h2⟩ => ⟨h1, Lib.hid (h.out.trans (h2.mono h.out.size))⟩
      · exact (Equal_ok X Y (by omega) (by omega) W).mono fun e W' ⟨h1, h2⟩ => ⟨by rw [h1, decide_eq_decide.2 (show X = Y ↔ Y = X from eq_comm)], Lib.hid (h.out.trans (h2.mono h.out.size))⟩
    have HBC := Lib.hid (show Below w.heap.size w wc from HB1.out.trans (hbc.mono (by omega)))
    have hbt := bt_in S n hn
    obtain ⟨y, hy⟩ : ∃ y, S[n] = y := ⟨_, rfl⟩
    rw [hbt, hy] at hST
    clear hT hTs hbc HB1 hbt hcv hcvd
    by_cases hyx : y = x
    · subst hyx
      rw [decide_eq_true (hST.2 rfl)] at hq1
      have HQ1 := Lib.hid hq1
      clear hq1 hST
      go_wp2_with fail
      go_region_held (fun _ => True) (trivial) (first | (refine (HQ1.out _ _ _ (by first | exact .inl ⟨rfl, rfl⟩ | exact .inr ⟨rfl, rfl⟩) (by first | assumption | exact hid_drew (by assumption))).mono ?_; rintro e wq ⟨rfl, hbq⟩))
      all_goals
        go_wp2
        go_ret
        exact ⟨rfl, by first | exact (hbq : Hid _).out | exact (hid_drew hbq).out⟩
    · have hne : ((y.toNat : Int) == (x.toNat : Int)) = false := beq_eq_false_iff_ne.2 fun h => hyx (UInt8.toNat_inj.1 (by omega))
      rw [decide_eq_false (fun h => hyx (hST.1 h))] at hq1
      have HQ1 := Lib.hid hq1
      clear hq1 hST hyx
      go_wp2_with fail
      go_region_held (fun _ => True) (trivial) (first | (refine (HQ1.out _ _ _ (by first | exact .inl ⟨rfl, rfl⟩ | exact .inr ⟨rfl, rfl⟩) (by first | assumption | exact hid_drew (by assumption))).mono ?_; rintro e wq ⟨rfl, hbq⟩))
      all_goals
        go_wp2
        go_ret
        exact ⟨rfl, by first | exact (hbq : Hid _).out | exact (hid_drew hbq).out⟩
set_option maxRecDepth 100000 in
set_option maxHeartbeats 4000000 in
theorem walkEqual (s : ByteArray) (at' : Int) (b : Int) (B : Nat) (w : World) (E : Env B w) :
    Calls Tryd.prog 9 #[.string s, .int .i64 at', .int .i64 b] w fun e w' => e = .returned (.bool true) ∧ Below w.heap.size w w' := by
  obtain ⟨S, hS⟩ : ∃ S, cutT s = S := ⟨_, rfl⟩
  have hSs : S.size ≤ 200 := by rw [← hS]; exact cutT_size s
  have hc1 := fun w => cut3_any s w
  rw [hS] at hc1
  by_cases hcond : at' < 0 ∨ (S.size : Int) ≤ at' ∨ b < 0 ∨ 255 < b
  · exact walkEqual1 S hSs at' b hcond s hc1 B w E
  · obtain ⟨x, hx⟩ := i8 b
    obtain ⟨n, hn⟩ : ∃ n : Nat, at' = (n : Int) := ⟨at'.toNat, by omega⟩
    have hb : b = (x.toNat : Int) := hx (by omega) (by omega)
    rw [hn, hb]
    exact walkEqual2 S hSs n x (by omega) s hc1 B w E
theorem walkTagEqual (s : ByteArray) (at' : Int) (b : Int) (w : World) (hE : ∃ B, Env B w) :
    Calls Tryd.prog 9 #[.string s, .int .i64 at', .int .i64 b] w fun e w' => e = .returned (.bool true) ∧ Below w.heap.size w w' := by
  obtain ⟨B, E⟩ := hE
  exact walkEqual s at' b B w E

set_option maxRecDepth 100000 in
theorem contractTagEqual (H : Type) (enc : TypeId × Value → H) (W : World) (base : Nat) (args : Array Value) (ds gs : List (DataW H)) (before : List MemPlace)
    (hval : ∀ (j : Nat) t v, Tryd.f9.params[j]? = some t → args[j]? = some v → Value.okWide Tryd.prog W .any base t v)
    (hW : DataW.Whole enc Tryd.prog Tryd.f9.params.toList Rows.tagEqualSpec.vars false W args.toList ds gs before) (hL : laidMetH Tryd.prog laid5 W) :
    Calls Tryd.prog 9 args W fun e W' => ∃ v, e = .returned v ∧ Rows.tagEqualSpec.post enc Tryd.prog Tryd.f9 false true false false W args v W' := by
  have hW' := hW
  obtain ⟨p, q, hA0, hV, rfl, hfz, hnd⟩ := hW
  have hA : DataW.TrodAll enc Tryd.prog W 0 (fun _ => true) true Tryd.f9.params.toList args.toList ds p := hA0
  rw [Tryd.params9] at hA hval
  obtain ⟨v0, vs0, d0, ds0, p0, q0, hargs, rfl, rfl, h0, r0⟩ := trodAll_cons hA
  obtain ⟨v1, vs1, d1, ds1, p1, q1, rfl, rfl, rfl, h1, r1⟩ := trodAll_cons r0
  obtain ⟨v2, vs2, d2, ds2, p2, q2, rfl, rfl, rfl, h2, r2⟩ := trodAll_cons r1
  obtain ⟨rfl, rfl, rfl⟩ := trodAll_nil r2
  obtain rfl : args = #[v0, v1, v2] := by cases args; simp_all
  obtain ⟨rfl, rfl⟩ := trodVars_none hV
  obtain ⟨s, rfl, rfl, rfl, w0⟩ := open_string Tryd.underlying9 (hval 0 9 v0 rfl rfl) h0
  obtain ⟨at', rfl, rfl, rfl, w1⟩ := open_int Tryd.underlying3 (hval 1 3 v1 rfl rfl) h1
  obtain ⟨b, rfl, rfl, rfl, w2⟩ := open_int Tryd.underlying3 (hval 2 3 v2 rfl rfl) h2
  clear hA0
  simp only [List.append_nil] at hW'
  refine (walkTagEqual s at' b W (env_of hL)).mono fun e W' ⟨he, hg⟩ => ?_
  subst he
  refine ⟨_, rfl, _, _, _, [], [], [], hW', ?_, ?_, rfl, hg.frame _, fun h => by cases h⟩
  · exact trodAll_cons_mk (shut_bool Tryd.underlying4 _) trodAll_mk0
  · exact (trodAll_cons_mk (shut_string Tryd.underlying9 w0) (trodAll_cons_mk (shut_int Tryd.underlying3 w1) (trodAll_cons_mk (shut_int Tryd.underlying3 w2) trodAll_mk0)))

set_option maxRecDepth 100000 in
theorem liftedTagEqual (os : Os) (started : os.Started) (H : Type) (enc : TypeId × Value → H) :
    ReturnsInHanded {} Tryd.checked os 9 .any (fun w args => (Rows.tagEqualSpec.pre enc Tryd.prog Tryd.f9 [] false w args ∧ laidMetH Tryd.prog laid5 w) ∧ sizedMet enc Tryd.prog Tryd.f9 (OpenSpec.ofChange Rows.tagEqualSpec) false w args)
      (Rows.tagEqualSpec.post enc Tryd.prog Tryd.f9 false true false false) := by
  refine returnsInHanded_of_change_and (C := Tryd.checked) (X := fun w _ => laidMetH Tryd.prog laid5 w) (fun _ _ _ hh h => h.of_heap hh) own started (by kernel_rfl) Tryd.func9
    (ChangeSpec.witness_shaped (enc := enc) (C := Tryd.checked) (os := os) (X := fun w _ => laidMetH Tryd.prog laid5 w) false (World.doorLaid Tryd.prog 102 os) #[.string .empty, .int .i64 0, .int .i64 0] 8 rfl (World.shaped_of_RefB (by kernel_rfl) (by kernel_rfl)) (by kernel_rfl) (by kernel_rfl) (by kernel_rfl) (door_met os _)) ?_
  intro W base args ds gs before hval hW _ _ hL _
  exact contractTagEqual H enc W base args ds gs before hval hW hL
theorem tagEqual_said : Rows.TagEqualSaid :=
  OpenClaim.holds_of_wide 9 Tryd.f9 rfl rfl rfl rfl rfl rfl rfl ⟨rfl, rfl, rfl, rfl, rfl⟩ rfl rfl rfl rfl rfl (by kernel_rfl) Tryd.func9 (by kernel_rfl)
    (of_decide_eq_true (by kernel_rfl)) (by unfold Func.isWrapper; first | (rw [if_pos (by decide +kernel)]; kernel_rfl) | (rw [if_neg (by decide +kernel)]; exact ⟨rfl, rfl⟩))
    (fun os started H enc _ => liftedTagEqual os started H enc)
/-- THE TIED CARD. -/
theorem tagEqual_card : Rows.TagEqualCardSaid :=
  Claim7.holds_tied_plain_at .later [] _ _ _ _ tagEqual_said (fun _ h => by cases h) (by kernel_rfl) (fun _ h => by cases h) tagEqual_row_tie rfl ⟨rfl, rfl⟩ (by kernel_rfl) rfl
    (fun f fn hf hfn => by
      obtain rfl : f = 9 := Option.some.inj ((show Tryd.prog.funcNamed "sigillary/sigillarylaw03.TagEqual" = some 9 by kernel_rfl).symm.trans hf) |>.symm
      obtain rfl : fn = Tryd.f9 := (Option.some.inj (Tryd.func9.symm.trans hfn)).symm
      exact ⟨by kernel_rfl, fun j t ht => by
        rw [Tryd.params9] at ht
        have hm : t ∈ [9, 3, 3] := by simpa using Array.mem_of_getElem? ht
        have hall : ([9, 3, 3].all fun u => !Tryd.prog.wantsStandIn u) = true := by kernel_rfl
        exact (show Tryd.prog.wantsStandIn t = false by simpa using List.all_eq_true.1 hall t hm)⟩)
    (by kernel_rfl)
end Go.Proofs.YthojdcmkajmdjaaDoor
