/- What a round makes are words, six of which are those of before: the statement RoundsWords holds for every state and every two numbers. Conditions: those of the statement alone. -/
import Derived.Test.YtlnhngefhcilfaaDoorDoor
import Derived.Test.YtlnhngefhcilfaaDoorShown
import Derived.Test.YtlnhngefhcilfaaDoorLawLib
import Derived.Test.YtlnhngefhcilfaaDoorTell
import Derived.Deep.QuietTactic
import Derived.BigQuiet
import Derived.WalkKit
import Derived.WalkLawsBesides
import Derived.WalkSpells
import Derived.Outline
import Derived.Lib.Hide
namespace Go.Proofs.YtlnhngefhcilfaaDoor
open Go.ChangeShapes Go.WideShapes Go.ChangeAt Go.RowKit
open Go.ChangeMaps (open_string shut_string)
open Rd

set_option maxRecDepth 100000 in
set_option maxHeartbeats 1000000 in
theorem walkWordsErr (x0 x1 x2 x3 x4 x5 x6 x7 i x : Int) (a b : ByteArray) (f g : Int) (h1 : Tells13 x0 x1 x2 x3 x4 x5 x6 x7 i x 0 0 0 0 0 0 0 0 11) (h2 : Tells17 x0 x1 x2 x3 x4 x5 x6 x7 a f) (h3 : Tells17 0 0 0 0 0 0 0 0 b g) (hc : f = 11 ∨ (f = 0 ∧ i < 0) ∨ (f = 0 ∧ ¬ i < 0 ∧ 63 < i) ∨ (f = 0 ∧ ¬ i < 0 ∧ ¬ 63 < i ∧ x < 0) ∨ (f = 0 ∧ ¬ i < 0 ∧ ¬ 63 < i ∧ ¬ x < 0 ∧ 4294967295 < x)) (w : World) {a0 a1 : Addr} {B : Nat} (E : Env a0 a1 B w) :
    Calls Tryd.prog 5 #[.agg #[.int .i64 x0, .int .i64 x1, .int .i64 x2, .int .i64 x3, .int .i64 x4, .int .i64 x5, .int .i64 x6, .int .i64 x7], .int .i64 i, .int .i64 x] w fun e w' => e = .returned (.bool true) ∧ Below w.heap.size w w' := by
  have HE := Lib.hid E
  have H1 := Lib.hid h1
  have H2 := Lib.hid h2
  have H3 := Lib.hid h3
  have HC := Lib.hid hc
  clear E h1 h2 h3 hc
  go_enter Tryd.func5, Tryd.ntmps5
  go_wp2_with fail
  refine (shown_any _ (HE.out.below' ((Below.refl _ _).alloc (Nat.le_refl _) _))).mono ?_
  rintro e w1 ⟨rfl, hb1⟩
  have hz1 := hb1.size
  simp only [World.size_alloc] at hz1
  have hbx := (hb1.block w.heap.size (by simp)).trans (heap_alloc_new w _)
  obtain ⟨⟨c0, c1, c2, c3, c4, c5, c6, c7⟩, _⟩ := eight hbx
  have HB1 := Lib.hid (((Below.refl _ w).alloc (Nat.le_refl _) _).trans (hb1.mono (by simp)))
  have HX := Lib.hid hbx
  clear hb1 hbx
  go_wp2_with fail
  refine (H1.out _ ⟨_, _, _, HE.out.below' HB1.out⟩).mono ?_
  rintro e w2 ⟨rfl, hb2⟩
  have hz2 := hb2.size
  have hbx2 := (hb2.block w.heap.size (by omega)).trans HX.out
  have HB2 := Lib.hid (HB1.out.trans (hb2.mono (by omega)))
  have HX2 := Lib.hid hbx2
  clear c0 c1 c2 c3 c4 c5 c6 c7
  obtain ⟨⟨c0, c1, c2, c3, c4, c5, c6, c7⟩, _⟩ := eight hbx2
  have hl2 : w.heap.size < w2.heap.size := by omega
  clear hb2 hbx2
  go_wp2_with fail
  refine (H2.out _ ⟨_, _, _, (HE.out.below' HB2.out).below' ((Below.refl _ _).alloc (Nat.le_refl _) _)⟩).mono ?_
  rintro e w3 ⟨rfl, hb3⟩
  have hz3 := hb3.size
  simp only [World.size_alloc] at hz3
  have ht3 := (hb3.block w2.heap.size (by simp)).trans (heap_alloc_new w2 _)
  have hs3 := ((hb3.block w.heap.size (by simp; omega)).trans (Below.heap_alloc _ _ _ (by omega))).trans HX2.out
  have HB3 := Lib.hid ((HB2.out.alloc (by omega) _).trans (hb3.mono (by simp; omega)))
  have HT3 := Lib.hid ht3
  have HS3 := Lib.hid hs3
  clear hb3 c0 c1 c2 c3 c4 c5 c6 c7
  obtain ⟨⟨c0, c1, c2, c3, c4, c5, c6, c7⟩, _⟩ := eight ht3
  clear ht3 hs3
  go_wp2_with fail
  refine (H3.out _ ⟨_, _, _, HE.out.below' HB3.out⟩).mono ?_
  rintro e w4 ⟨rfl, hb4⟩
  have hz4 := hb4.size
  have ht4 := (hb4.block w2.heap.size (by omega)).trans HT3.out
  have hs4 := (hb4.block w.heap.size (by omega)).trans HS3.out
  have HB4 := Lib.hid (HB3.out.trans (hb4.mono (by omega)))
  clear c0 c1 c2 c3 c4 c5 c6 c7
  obtain ⟨⟨c0, c1, c2, c3, c4, c5, c6, c7⟩, _⟩ := eight ht4
  obtain ⟨⟨d0, d1, d2, d3, d4, d5, d6, d7⟩, _⟩ := eight hs4
  clear hb4 ht4 hs4
  have h8 := eq8 0 0 0 0 0 0 0 0 0 0 0 0 0 0 0 0 w4
  rcases HC.out with rfl | ⟨rfl, hi⟩ | ⟨rfl, hn, hi⟩ | ⟨rfl, hn, hi, hj⟩ | ⟨rfl, hn, hi, hj, hk⟩
  · go_wp2
    go_ret
    exact ⟨rfl, HB4.out⟩
  · go_wp2
    go_ret
    exact ⟨rfl, HB4.out⟩
  · go_wp2
    go_ret
    exact ⟨rfl, HB4.out⟩
  · go_wp2
    go_ret
    exact ⟨rfl, HB4.out⟩
  · go_wp2
    go_ret
    exact ⟨rfl, HB4.out⟩

set_option maxRecDepth 100000 in
set_option maxHeartbeats 1000000 in
theorem walkWordsOk (x0 x1 x2 x3 x4 x5 x6 x7 i x : Int) (t0 t4 : Int) (a b : ByteArray) (f g : Int) (h1 : Tells13 x0 x1 x2 x3 x4 x5 x6 x7 i x t0 x0 x1 x2 t4 x4 x5 x6 0) (h2 : Tells17 x0 x1 x2 x3 x4 x5 x6 x7 a f) (h3 : Tells17 t0 x0 x1 x2 t4 x4 x5 x6 b g) (hc : f = 0 ∧ g = 0) (w : World) {a0 a1 : Addr} {B : Nat} (E : Env a0 a1 B w) :
    Calls Tryd.prog 5 #[.agg #[.int .i64 x0, .int .i64 x1, .int .i64 x2, .int .i64 x3, .int .i64 x4, .int .i64 x5, .int .i64 x6, .int .i64 x7], .int .i64 i, .int .i64 x] w fun e w' => e = .returned (.bool true) ∧ Below w.heap.size w w' := by
  have HE := Lib.hid E
  have H1 := Lib.hid h1
  have H2 := Lib.hid h2
  have H3 := Lib.hid h3
  have HC := Lib.hid hc
  clear E h1 h2 h3 hc
  go_enter Tryd.func5, Tryd.ntmps5
  go_wp2_with fail
  refine (shown_any _ (HE.out.below' ((Below.refl _ _).alloc (Nat.le_refl _) _))).mono ?_
  rintro e w1 ⟨rfl, hb1⟩
  have hz1 := hb1.size
  simp only [World.size_alloc] at hz1
  have hbx := (hb1.block w.heap.size (by simp)).trans (heap_alloc_new w _)
  obtain ⟨⟨c0, c1, c2, c3, c4, c5, c6, c7⟩, _⟩ := eight hbx
  have HB1 := Lib.hid (((Below.refl _ w).alloc (Nat.le_refl _) _).trans (hb1.mono (by simp)))
  have HX := Lib.hid hbx
  clear hb1 hbx
  go_wp2_with fail
  refine (H1.out _ ⟨_, _, _, HE.out.below' HB1.out⟩).mono ?_
  rintro e w2 ⟨rfl, hb2⟩
  have hz2 := hb2.size
  have hbx2 := (hb2.block w.heap.size (by omega)).trans HX.out
  have HB2 := Lib.hid (HB1.out.trans (hb2.mono (by omega)))
  have HX2 := Lib.hid hbx2
  clear c0 c1 c2 c3 c4 c5 c6 c7
  obtain ⟨⟨c0, c1, c2, c3, c4, c5, c6, c7⟩, _⟩ := eight hbx2
  have hl2 : w.heap.size < w2.heap.size := by omega
  clear hb2 hbx2
  go_wp2_with fail
  refine (H2.out _ ⟨_, _, _, (HE.out.below' HB2.out).below' ((Below.refl _ _).alloc (Nat.le_refl _) _)⟩).mono ?_
  rintro e w3 ⟨rfl, hb3⟩
  have hz3 := hb3.size
  simp only [World.size_alloc] at hz3
  have ht3 := (hb3.block w2.heap.size (by simp)).trans (heap_alloc_new w2 _)
  have hs3 := ((hb3.block w.heap.size (by simp; omega)).trans (Below.heap_alloc _ _ _ (by omega))).trans HX2.out
  have HB3 := Lib.hid ((HB2.out.alloc (by omega) _).trans (hb3.mono (by simp; omega)))
  have HT3 := Lib.hid ht3
  have HS3 := Lib.hid hs3
  clear hb3 c0 c1 c2 c3 c4 c5 c6 c7
  obtain ⟨⟨c0, c1, c2, c3, c4, c5, c6, c7⟩, _⟩ := eight ht3
  clear ht3 hs3
  go_wp2_with fail
  refine (H3.out _ ⟨_, _, _, HE.out.below' HB3.out⟩).mono ?_
  rintro e w4 ⟨rfl, hb4⟩
  have hz4 := hb4.size
  have ht4 := (hb4.block w2.heap.size (by omega)).trans HT3.out
  have hs4 := (hb4.block w.heap.size (by omega)).trans HS3.out
  have HB4 := Lib.hid (HB3.out.trans (hb4.mono (by omega)))
  clear c0 c1 c2 c3 c4 c5 c6 c7
  obtain ⟨⟨c0, c1, c2, c3, c4, c5, c6, c7⟩, _⟩ := eight ht4
  obtain ⟨⟨d0, d1, d2, d3, d4, d5, d6, d7⟩, _⟩ := eight hs4
  clear hb4 ht4 hs4
  obtain ⟨rfl, rfl⟩ := HC.out
  go_wp2
  go_ret
  exact ⟨rfl, HB4.out⟩

theorem zero17 : Tells17 0 0 0 0 0 0 0 0 ⟨(St.by ⟨0, 0, 0, 0, 0, 0, 0, 0⟩ 8).toArray⟩ 0 := fun w _ => Bytes_ok ⟨0, 0, 0, 0, 0, 0, 0, 0⟩ w
theorem walkRoundsWords (x0 x1 x2 x3 x4 x5 x6 x7 i x : Int) (w : World) (hE : ∃ a0 a1 B, Env a0 a1 B w) :
    Calls Tryd.prog 5 #[.agg #[.int .i64 x0, .int .i64 x1, .int .i64 x2, .int .i64 x3, .int .i64 x4, .int .i64 x5, .int .i64 x6, .int .i64 x7], .int .i64 i, .int .i64 x] w fun e w' => e = .returned (.bool true) ∧ Below w.heap.size w w' := by
  obtain ⟨a0, a1, B, E⟩ := hE
  rcases words_or x0 x1 x2 x3 x4 x5 x6 x7 with ⟨s, rfl, rfl, rfl, rfl, rfl, rfl, rfl, rfl⟩ | hn
  · have hs : Tells17 (U s.a) (U s.b) (U s.c) (U s.d) (U s.e) (U s.f) (U s.g) (U s.h) _ 0 := fun w _ => Bytes_ok s w
    by_cases hi : 0 ≤ i ∧ i < 64
    · rcases word_or x with ⟨b, rfl⟩ | hx
      · have h3 : Tells17 (U (s.step i.toNat b).a) (U s.a) (U s.b) (U s.c) (U (s.step i.toNat b).e) (U s.e) (U s.f) (U s.g) _ 0 := fun w _ => Bytes_ok (s.step i.toNat b) w
        exact walkWordsOk (U s.a) (U s.b) (U s.c) (U s.d) (U s.e) (U s.f) (U s.g) (U s.h) i (U b) _ _ _ _ _ _ (tells_ok s i hi b) hs h3 ⟨rfl, rfl⟩ w E
      · exact walkWordsErr (U s.a) (U s.b) (U s.c) (U s.d) (U s.e) (U s.f) (U s.g) (U s.h) i x _ _ _ _ (tells_bad s i x (by omega)) hs zero17 (by omega) w E
    · exact walkWordsErr (U s.a) (U s.b) (U s.c) (U s.d) (U s.e) (U s.f) (U s.g) (U s.h) i x _ _ _ _ (tells_bad s i x (by omega)) hs zero17 (by omega) w E
  · exact walkWordsErr x0 x1 x2 x3 x4 x5 x6 x7 i x _ _ _ _ (fun w ⟨_, _, _, E⟩ => Round_badState x0 x1 x2 x3 x4 x5 x6 x7 hn i x w E) (fun w ⟨_, _, _, E⟩ => Bytes_bad x0 x1 x2 x3 x4 x5 x6 x7 hn w E) zero17 (Or.inl rfl) w E

set_option maxRecDepth 100000 in
theorem contractRoundsWords (H : Type) (enc : TypeId × Value → H) (W : World) (base : Nat) (args : Array Value) (ds gs : List (DataW H)) (before : List MemPlace)
    (hval : ∀ (j : Nat) t v, Tryd.f5.params[j]? = some t → args[j]? = some v → Value.okWide Tryd.prog W .any base t v)
    (hW : DataW.Whole enc Tryd.prog Tryd.f5.params.toList Rows.roundsWordsSpec.vars false W args.toList ds gs before) (hL : laidMetH Tryd.prog laid3 W) :
    Calls Tryd.prog 5 args W fun e W' => ∃ v, e = .returned v ∧ Rows.roundsWordsSpec.post enc Tryd.prog Tryd.f5 false true false false W args v W' := by
  have hW' := hW
  obtain ⟨p, q, hA0, hV, rfl, hfz, hnd⟩ := hW
  have hA : DataW.TrodAll enc Tryd.prog W 0 (fun _ => true) true Tryd.f5.params.toList args.toList ds p := hA0
  rw [Tryd.params5] at hA hval
  obtain ⟨v0, vs0, d0, ds0, p0, q0, hargs, rfl, rfl, h0, r0⟩ := trodAll_cons hA
  obtain ⟨v1, vs1, d1, ds1, p1, q1, rfl, rfl, rfl, h1, r1⟩ := trodAll_cons r0
  obtain ⟨v2, vs2, d2, ds2, p2, q2, rfl, rfl, rfl, h2, r2⟩ := trodAll_cons r1
  obtain ⟨rfl, rfl, rfl⟩ := trodAll_nil r2
  obtain rfl : args = #[v0, v1, v2] := by cases args; simp_all
  obtain ⟨rfl, rfl⟩ := trodVars_none hV
  obtain ⟨x0, x1, x2, x3, x4, x5, x6, x7, rfl, rfl, rfl, w0⟩ := open_state (hval 0 23 v0 rfl rfl) h0
  obtain ⟨i, rfl, rfl, rfl, w1⟩ := open_int Tryd.underlying3 (hval 1 3 v1 rfl rfl) h1
  obtain ⟨x, rfl, rfl, rfl, w2⟩ := open_int Tryd.underlying3 (hval 2 3 v2 rfl rfl) h2
  clear hA0
  simp only [List.append_nil] at hW'
  refine (walkRoundsWords x0 x1 x2 x3 x4 x5 x6 x7 i x W (env_of hL)).mono fun e W' ⟨he, hg⟩ => ?_
  subst he
  refine ⟨_, rfl, _, _, _, [], [], [], hW', ?_, ?_, rfl, hg.frame _, fun h => by cases h⟩
  · exact trodAll_cons_mk (shut_bool Tryd.underlying4 _) trodAll_mk0
  · exact (trodAll_cons_mk (shut_state w0) (trodAll_cons_mk (shut_int Tryd.underlying3 w1) (trodAll_cons_mk (shut_int Tryd.underlying3 w2) trodAll_mk0)))

set_option maxRecDepth 100000 in
theorem liftedRoundsWords (os : Os) (started : os.Started) (H : Type) (enc : TypeId × Value → H) :
    ReturnsInHanded {} Tryd.checked os 5 .any (fun w args => (Rows.roundsWordsSpec.pre enc Tryd.prog Tryd.f5 [] false w args ∧ laidMetH Tryd.prog laid3 w) ∧ sizedMet enc Tryd.prog Tryd.f5 (OpenSpec.ofChange Rows.roundsWordsSpec) false w args)
      (Rows.roundsWordsSpec.post enc Tryd.prog Tryd.f5 false true false false) := by
  refine returnsInHanded_of_change_and (C := Tryd.checked) (X := fun w _ => laidMetH Tryd.prog laid3 w) (fun _ _ _ hh h => h.of_heap hh) own started (by kernel_rfl) Tryd.func5
    (ChangeSpec.witness_shaped (enc := enc) (C := Tryd.checked) (os := os) (X := fun w _ => laidMetH Tryd.prog laid3 w) false (World.doorLaid Tryd.prog 57 os) #[.agg #[.int .i64 0, .int .i64 0, .int .i64 0, .int .i64 0, .int .i64 0, .int .i64 0, .int .i64 0, .int .i64 0], .int .i64 0, .int .i64 0] 8 rfl (World.shaped_of_RefB (by kernel_rfl) (by kernel_rfl)) (by kernel_rfl) (by kernel_rfl) (by kernel_rfl) (door_met os _)) ?_
  intro W base args ds gs before hval hW _ _ hL _
  exact contractRoundsWords H enc W base args ds gs before hval hW hL
theorem roundsWords_said : Rows.RoundsWordsSaid :=
  OpenClaim.holds_of_wide 5 Tryd.f5 rfl rfl rfl rfl rfl rfl rfl ⟨rfl, rfl, rfl, rfl, rfl⟩ rfl rfl rfl rfl rfl (by kernel_rfl) Tryd.func5 (by kernel_rfl)
    (of_decide_eq_true (by kernel_rfl)) (by unfold Func.isWrapper; first | (rw [if_pos (by decide +kernel)]; kernel_rfl) | (rw [if_neg (by decide +kernel)]; exact ⟨rfl, rfl⟩))
    (fun os started H enc _ => liftedRoundsWords os started H enc)
/-- THE TIED CARD. -/
theorem roundsWords_card : Rows.RoundsWordsCardSaid :=
  Claim7.holds_tied_plain_at .later [] _ _ _ _ roundsWords_said (fun _ h => by cases h) (by kernel_rfl) (fun _ h => by cases h) roundsWords_row_tie rfl ⟨rfl, rfl⟩ (by kernel_rfl) rfl
    (fun f fn hf hfn => by
      obtain rfl : f = 5 := Option.some.inj ((show Tryd.prog.funcNamed "sigillary/sigillarylaw01.RoundsWords" = some 5 by kernel_rfl).symm.trans hf) |>.symm
      obtain rfl : fn = Tryd.f5 := (Option.some.inj (Tryd.func5.symm.trans hfn)).symm
      exact ⟨by kernel_rfl, fun j t ht => by
        rw [Tryd.params5] at ht
        have hm : t ∈ [23, 3, 3] := by simpa using Array.mem_of_getElem? ht
        have hall : ([23, 3, 3].all fun u => !Tryd.prog.wantsStandIn u) = true := by kernel_rfl
        exact (show Tryd.prog.wantsStandIn t = false by simpa using List.all_eq_true.1 hall t hm)⟩)
    (by kernel_rfl)
end Go.Proofs.YtlnhngefhcilfaaDoor
