/- A word that is given to a round is added to two words of what it makes: the statement RoundsBack holds for every state and every two numbers. Conditions: those of the statement alone. -/
import Derived.Test.YtlnhngefhcilfaaDoorDoor
import Derived.Test.YtlnhngefhcilfaaDoorShown
import Derived.Test.YtlnhngefhcilfaaDoorLawLib
import Derived.Test.YtlnhngefhcilfaaDoorTell
import Derived.Deep.QuietTactic
import Derived.BigQuiet
import Derived.WalkKit
import Derived.WalkLawsBesides
import Derived.WalkSpells
import Derived.Outline
import Derived.Lib.Hide
namespace Go.Proofs.YtlnhngefhcilfaaDoor
open Go.ChangeShapes Go.WideShapes Go.ChangeAt Go.RowKit
open Go.ChangeMaps (open_string shut_string)
open Rd

theorem sub_wrap (b x : BitVec 32) : (wrap64 (wrap64 (U (b + x) - U b) + 4294967296)).tmod 4294967296 = U x := by
  have h := sub_word b x
  have h1 := U_nonneg b; have h2 := U_lt b; have h3 := U_nonneg (b + x); have h4 := U_lt (b + x)
  rw [show wrap64 (U (b + x) - U b) = U (b + x) - U b by unfold wrap64; omega]
  rw [show wrap64 (U (b + x) - U b + 4294967296) = U (b + x) - U b + 4294967296 by unfold wrap64; omega]
  rw [Int.tmod_eq_emod_of_nonneg (by omega)]
  exact h
theorem step_a (s : St) (i : Nat) (x : BitVec 32) : (s.step i x).a = (s.step i 0#32).a + x := by
  simp only [St.step, T1]
  simp only [BitVec.add_zero]
  ac_rfl
theorem step_e (s : St) (i : Nat) (x : BitVec 32) : (s.step i x).e = (s.step i 0#32).e + x := by
  simp only [St.step, T1]
  simp only [BitVec.add_zero]
  ac_rfl
set_option maxRecDepth 100000 in
set_option maxHeartbeats 1000000 in
theorem walkBackErr (x0 x1 x2 x3 x4 x5 x6 x7 i x : Int) (u0 u1 u2 u3 u4 u5 u6 u7 f : Int) (h1 : Tells13 x0 x1 x2 x3 x4 x5 x6 x7 i x 0 0 0 0 0 0 0 0 11) (h2 : Tells13 x0 x1 x2 x3 x4 x5 x6 x7 i 0 u0 u1 u2 u3 u4 u5 u6 u7 f) (hf : f = 0 ∨ f = 11) (w : World) {a0 a1 : Addr} {B : Nat} (E : Env a0 a1 B w) :
    Calls Tryd.prog 6 #[.agg #[.int .i64 x0, .int .i64 x1, .int .i64 x2, .int .i64 x3, .int .i64 x4, .int .i64 x5, .int .i64 x6, .int .i64 x7], .int .i64 i, .int .i64 x] w fun e w' => e = .returned (.bool true) ∧ Below w.heap.size w w' := by
  have HE := Lib.hid E
  have H1 := Lib.hid h1
  have H2 := Lib.hid h2
  have HF := Lib.hid hf
  clear E h1 h2 hf
  go_enter Tryd.func6, Tryd.ntmps6
  go_wp2_with fail
  refine (shown_any _ (HE.out.below' ((Below.refl _ _).alloc (Nat.le_refl _) _))).mono ?_
  rintro e w1 ⟨rfl, hb1⟩
  have hz1 := hb1.size
  simp only [World.size_alloc] at hz1
  have hbx := (hb1.block w.heap.size (by simp)).trans (heap_alloc_new w _)
  obtain ⟨⟨c0, c1, c2, c3, c4, c5, c6, c7⟩, _⟩ := eight hbx
  have HB1 := Lib.hid (((Below.refl _ w).alloc (Nat.le_refl _) _).trans (hb1.mono (by simp)))
  have HX := Lib.hid hbx
  clear hb1 hbx
  go_wp2_with fail
  refine (H1.out _ ⟨_, _, _, HE.out.below' HB1.out⟩).mono ?_
  rintro e w2 ⟨rfl, hb2⟩
  have hz2 := hb2.size
  have hbx2 := (hb2.block w.heap.size (by omega)).trans HX.out
  have HB2 := Lib.hid (HB1.out.trans (hb2.mono (by omega)))
  have HX2 := Lib.hid hbx2
  clear c0 c1 c2 c3 c4 c5 c6 c7
  obtain ⟨⟨c0, c1, c2, c3, c4, c5, c6, c7⟩, _⟩ := eight hbx2
  have hl2 : w.heap.size < w2.heap.size := by omega
  clear hb2 hbx2
  go_wp2_with fail
  refine (H2.out _ ⟨_, _, _, (HE.out.below' HB2.out).below' ((Below.refl _ _).alloc (Nat.le_refl _) _)⟩).mono ?_
  rintro e w3 ⟨rfl, hb3⟩
  have hz3 := hb3.size
  simp only [World.size_alloc] at hz3
  have HB3 := Lib.hid ((HB2.out.alloc (by omega) _).trans (hb3.mono (by simp; omega)))
  clear hb3 c0 c1 c2 c3 c4 c5 c6 c7
  rcases HF.out with rfl | rfl
  · go_wp2
    go_ret
    exact ⟨rfl, HB3.out.alloc (by omega) _⟩
  · go_wp2
    go_ret
    exact ⟨rfl, HB3.out.alloc (by omega) _⟩
set_option maxRecDepth 100000 in
set_option maxHeartbeats 1000000 in
theorem walkBackOk (x0 x1 x2 x3 x4 x5 x6 x7 i x : Int) (t0 t1 t2 t3 t4 t5 t6 t7 u0 u1 u2 u3 u4 u5 u6 u7 : Int) (h1 : Tells13 x0 x1 x2 x3 x4 x5 x6 x7 i x t0 t1 t2 t3 t4 t5 t6 t7 0) (h2 : Tells13 x0 x1 x2 x3 x4 x5 x6 x7 i 0 u0 u1 u2 u3 u4 u5 u6 u7 0) (hm : (wrap64 (wrap64 (t0 - u0) + 4294967296)).tmod 4294967296 = x) (ho : (wrap64 (wrap64 (t4 - u4) + 4294967296)).tmod 4294967296 = x) (w : World) {a0 a1 : Addr} {B : Nat} (E : Env a0 a1 B w) :
    Calls Tryd.prog 6 #[.agg #[.int .i64 x0, .int .i64 x1, .int .i64 x2, .int .i64 x3, .int .i64 x4, .int .i64 x5, .int .i64 x6, .int .i64 x7], .int .i64 i, .int .i64 x] w fun e w' => e = .returned (.bool true) ∧ Below w.heap.size w w' := by
  have HE := Lib.hid E
  have H1 := Lib.hid h1
  have H2 := Lib.hid h2
  have HM := Lib.hid hm
  have HO := Lib.hid ho
  clear E h1 h2 hm ho
  go_enter Tryd.func6, Tryd.ntmps6
  go_wp2_with fail
  refine (shown_any _ (HE.out.below' ((Below.refl _ _).alloc (Nat.le_refl _) _))).mono ?_
  rintro e w1 ⟨rfl, hb1⟩
  have hz1 := hb1.size
  simp only [World.size_alloc] at hz1
  have hbx := (hb1.block w.heap.size (by simp)).trans (heap_alloc_new w _)
  obtain ⟨⟨c0, c1, c2, c3, c4, c5, c6, c7⟩, _⟩ := eight hbx
  have HB1 := Lib.hid (((Below.refl _ w).alloc (Nat.le_refl _) _).trans (hb1.mono (by simp)))
  have HX := Lib.hid hbx
  clear hb1 hbx
  go_wp2_with fail
  refine (H1.out _ ⟨_, _, _, HE.out.below' HB1.out⟩).mono ?_
  rintro e w2 ⟨rfl, hb2⟩
  have hz2 := hb2.size
  have hbx2 := (hb2.block w.heap.size (by omega)).trans HX.out
  have HB2 := Lib.hid (HB1.out.trans (hb2.mono (by omega)))
  have HX2 := Lib.hid hbx2
  clear c0 c1 c2 c3 c4 c5 c6 c7
  obtain ⟨⟨c0, c1, c2, c3, c4, c5, c6, c7⟩, _⟩ := eight hbx2
  have hl2 : w.heap.size < w2.heap.size := by omega
  clear hb2 hbx2
  go_wp2_with fail
  refine (H2.out _ ⟨_, _, _, (HE.out.below' HB2.out).below' ((Below.refl _ _).alloc (Nat.le_refl _) _)⟩).mono ?_
  rintro e w3 ⟨rfl, hb3⟩
  have hz3 := hb3.size
  simp only [World.size_alloc] at hz3
  have hbt := (hb3.block w2.heap.size (by simp)).trans (heap_alloc_new w2 _)
  have HB3 := Lib.hid ((HB2.out.alloc (by omega) _).trans (hb3.mono (by simp; omega)))
  clear hb3 c0 c1 c2 c3 c4 c5 c6 c7
  obtain ⟨⟨c0, c1, c2, c3, c4, c5, c6, c7⟩, _⟩ := eight hbt
  have hl3 : w2.heap.size < w3.heap.size := by omega
  clear hbt
  have hm := HM.out
  have ho := HO.out
  go_wp2
  go_ret
  exact ⟨rfl, HB3.out.alloc (by omega) _⟩

theorem walkRoundsBack (x0 x1 x2 x3 x4 x5 x6 x7 i x : Int) (w : World) (hE : ∃ a0 a1 B, Env a0 a1 B w) :
    Calls Tryd.prog 6 #[.agg #[.int .i64 x0, .int .i64 x1, .int .i64 x2, .int .i64 x3, .int .i64 x4, .int .i64 x5, .int .i64 x6, .int .i64 x7], .int .i64 i, .int .i64 x] w fun e w' => e = .returned (.bool true) ∧ Below w.heap.size w w' := by
  obtain ⟨a0, a1, B, E⟩ := hE
  rcases words_or x0 x1 x2 x3 x4 x5 x6 x7 with ⟨s, rfl, rfl, rfl, rfl, rfl, rfl, rfl, rfl⟩ | hn
  · by_cases hi : 0 ≤ i ∧ i < 64
    · rcases word_or x with ⟨b, rfl⟩ | hx
      · have h0 : Tells13 (U s.a) (U s.b) (U s.c) (U s.d) (U s.e) (U s.f) (U s.g) (U s.h) i 0 (U (s.step i.toNat 0#32).a) (U (s.step i.toNat 0#32).b) (U (s.step i.toNat 0#32).c) (U (s.step i.toNat 0#32).d) (U (s.step i.toNat 0#32).e) (U (s.step i.toNat 0#32).f) (U (s.step i.toNat 0#32).g) (U (s.step i.toNat 0#32).h) 0 := tells_ok s i hi 0#32
        refine walkBackOk _ _ _ _ _ _ _ _ _ _ _ _ _ _ _ _ _ _ _ _ _ _ _ _ _ _ (tells_ok s i hi b) h0 ?_ ?_ w E
        · rw [step_a]; exact sub_wrap _ _
        · rw [step_e]; exact sub_wrap _ _
      · have h0 : Tells13 (U s.a) (U s.b) (U s.c) (U s.d) (U s.e) (U s.f) (U s.g) (U s.h) i 0 (U (s.step i.toNat 0#32).a) (U (s.step i.toNat 0#32).b) (U (s.step i.toNat 0#32).c) (U (s.step i.toNat 0#32).d) (U (s.step i.toNat 0#32).e) (U (s.step i.toNat 0#32).f) (U (s.step i.toNat 0#32).g) (U (s.step i.toNat 0#32).h) 0 := tells_ok s i hi 0#32
        exact walkBackErr _ _ _ _ _ _ _ _ _ _ _ _ _ _ _ _ _ _ _ (tells_bad s i x (by omega)) h0 (Or.inl rfl) w E
    · exact walkBackErr _ _ _ _ _ _ _ _ _ _ _ _ _ _ _ _ _ _ _ (tells_bad s i x (by omega)) (tells_bad s i 0 (by omega)) (Or.inr rfl) w E
  · exact walkBackErr _ _ _ _ _ _ _ _ _ _ _ _ _ _ _ _ _ _ _ (fun w ⟨_, _, _, E⟩ => Round_badState x0 x1 x2 x3 x4 x5 x6 x7 hn i x w E) (fun w ⟨_, _, _, E⟩ => Round_badState x0 x1 x2 x3 x4 x5 x6 x7 hn i 0 w E) (Or.inr rfl) w E

set_option maxRecDepth 100000 in
theorem contractRoundsBack (H : Type) (enc : TypeId × Value → H) (W : World) (base : Nat) (args : Array Value) (ds gs : List (DataW H)) (before : List MemPlace)
    (hval : ∀ (j : Nat) t v, Tryd.f6.params[j]? = some t → args[j]? = some v → Value.okWide Tryd.prog W .any base t v)
    (hW : DataW.Whole enc Tryd.prog Tryd.f6.params.toList Rows.roundsBackSpec.vars false W args.toList ds gs before) (hL : laidMetH Tryd.prog laid3 W) :
    Calls Tryd.prog 6 args W fun e W' => ∃ v, e = .returned v ∧ Rows.roundsBackSpec.post enc Tryd.prog Tryd.f6 false true false false W args v W' := by
  have hW' := hW
  obtain ⟨p, q, hA0, hV, rfl, hfz, hnd⟩ := hW
  have hA : DataW.TrodAll enc Tryd.prog W 0 (fun _ => true) true Tryd.f6.params.toList args.toList ds p := hA0
  rw [Tryd.params6] at hA hval
  obtain ⟨v0, vs0, d0, ds0, p0, q0, hargs, rfl, rfl, h0, r0⟩ := trodAll_cons hA
  obtain ⟨v1, vs1, d1, ds1, p1, q1, rfl, rfl, rfl, h1, r1⟩ := trodAll_cons r0
  obtain ⟨v2, vs2, d2, ds2, p2, q2, rfl, rfl, rfl, h2, r2⟩ := trodAll_cons r1
  obtain ⟨rfl, rfl, rfl⟩ := trodAll_nil r2
  obtain rfl : args = #[v0, v1, v2] := by cases args; simp_all
  obtain ⟨rfl, rfl⟩ := trodVars_none hV
  obtain ⟨x0, x1, x2, x3, x4, x5, x6, x7, rfl, rfl, rfl, w0⟩ := open_state (hval 0 23 v0 rfl rfl) h0
  obtain ⟨i, rfl, rfl, rfl, w1⟩ := open_int Tryd.underlying3 (hval 1 3 v1 rfl rfl) h1
  obtain ⟨x, rfl, rfl, rfl, w2⟩ := open_int Tryd.underlying3 (hval 2 3 v2 rfl rfl) h2
  clear hA0
  simp only [List.append_nil] at hW'
  refine (walkRoundsBack x0 x1 x2 x3 x4 x5 x6 x7 i x W (env_of hL)).mono fun e W' ⟨he, hg⟩ => ?_
  subst he
  refine ⟨_, rfl, _, _, _, [], [], [], hW', ?_, ?_, rfl, hg.frame _, fun h => by cases h⟩
  · exact trodAll_cons_mk (shut_bool Tryd.underlying4 _) trodAll_mk0
  · exact (trodAll_cons_mk (shut_state w0) (trodAll_cons_mk (shut_int Tryd.underlying3 w1) (trodAll_cons_mk (shut_int Tryd.underlying3 w2) trodAll_mk0)))

set_option maxRecDepth 100000 in
theorem liftedRoundsBack (os : Os) (started : os.Started) (H : Type) (enc : TypeId × Value → H) :
    ReturnsInHanded {} Tryd.checked os 6 .any (fun w args => (Rows.roundsBackSpec.pre enc Tryd.prog Tryd.f6 [] false w args ∧ laidMetH Tryd.prog laid3 w) ∧ sizedMet enc Tryd.prog Tryd.f6 (OpenSpec.ofChange Rows.roundsBackSpec) false w args)
      (Rows.roundsBackSpec.post enc Tryd.prog Tryd.f6 false true false false) := by
  refine returnsInHanded_of_change_and (C := Tryd.checked) (X := fun w _ => laidMetH Tryd.prog laid3 w) (fun _ _ _ hh h => h.of_heap hh) own started (by kernel_rfl) Tryd.func6
    (ChangeSpec.witness_shaped (enc := enc) (C := Tryd.checked) (os := os) (X := fun w _ => laidMetH Tryd.prog laid3 w) false (World.doorLaid Tryd.prog 57 os) #[.agg #[.int .i64 0, .int .i64 0, .int .i64 0, .int .i64 0, .int .i64 0, .int .i64 0, .int .i64 0, .int .i64 0], .int .i64 0, .int .i64 0] 8 rfl (World.shaped_of_RefB (by kernel_rfl) (by kernel_rfl)) (by kernel_rfl) (by kernel_rfl) (by kernel_rfl) (door_met os _)) ?_
  intro W base args ds gs before hval hW _ _ hL _
  exact contractRoundsBack H enc W base args ds gs before hval hW hL
theorem roundsBack_said : Rows.RoundsBackSaid :=
  OpenClaim.holds_of_wide 6 Tryd.f6 rfl rfl rfl rfl rfl rfl rfl ⟨rfl, rfl, rfl, rfl, rfl⟩ rfl rfl rfl rfl rfl (by kernel_rfl) Tryd.func6 (by kernel_rfl)
    (of_decide_eq_true (by kernel_rfl)) (by unfold Func.isWrapper; first | (rw [if_pos (by decide +kernel)]; kernel_rfl) | (rw [if_neg (by decide +kernel)]; exact ⟨rfl, rfl⟩))
    (fun os started H enc _ => liftedRoundsBack os started H enc)
/-- THE TIED CARD. -/
theorem roundsBack_card : Rows.RoundsBackCardSaid :=
  Claim7.holds_tied_plain_at .later [] _ _ _ _ roundsBack_said (fun _ h => by cases h) (by kernel_rfl) (fun _ h => by cases h) roundsBack_row_tie rfl ⟨rfl, rfl⟩ (by kernel_rfl) rfl
    (fun f fn hf hfn => by
      obtain rfl : f = 6 := Option.some.inj ((show Tryd.prog.funcNamed "sigillary/sigillarylaw01.RoundsBack" = some 6 by kernel_rfl).symm.trans hf) |>.symm
      obtain rfl : fn = Tryd.f6 := (Option.some.inj (Tryd.func6.symm.trans hfn)).symm
      exact ⟨by kernel_rfl, fun j t ht => by
        rw [Tryd.params6] at ht
        have hm : t ∈ [23, 3, 3] := by simpa using Array.mem_of_getElem? ht
        have hall : ([23, 3, 3].all fun u => !Tryd.prog.wantsStandIn u) = true := by kernel_rfl
        exact (show Tryd.prog.wantsStandIn t = false by simpa using List.all_eq_true.1 hall t hm)⟩)
    (by kernel_rfl)
end Go.Proofs.YtlnhngefhcilfaaDoor
