/- Two states of words have the same bytes just if they are the same: the statement RoundsApart holds for every two states. Conditions: those of the statement alone. -/
import Derived.Test.YtlnhngefhcilfaaDoorDoor
import Derived.Test.YtlnhngefhcilfaaDoorShown
import Derived.Test.YtlnhngefhcilfaaDoorLawLib
import Derived.Test.YtlnhngefhcilfaaDoorTell
import Derived.Deep.QuietTactic
import Derived.BigQuiet
import Derived.WalkKit
import Derived.WalkLawsBesides
import Derived.WalkSpells
import Derived.Outline
import Derived.Lib.Hide
namespace Go.Proofs.YtlnhngefhcilfaaDoor
open Go.ChangeShapes Go.WideShapes Go.ChangeAt Go.RowKit
open Go.ChangeMaps (open_string shut_string)
open Rd

set_option maxRecDepth 100000 in
set_option maxHeartbeats 1000000 in
theorem walkApartErr (x0 x1 x2 x3 x4 x5 x6 x7 y0 y1 y2 y3 y4 y5 y6 y7 : Int) (a b : ByteArray) (e f : Int) (h1 : Tells17 x0 x1 x2 x3 x4 x5 x6 x7 a e) (h2 : Tells17 y0 y1 y2 y3 y4 y5 y6 y7 b f) (hc : (e = 11 ∧ a = ⟨#[]⟩ ∧ f = 11 ∧ b = ⟨#[]⟩) ∨ (e = 11 ∧ a = ⟨#[]⟩ ∧ f = 0) ∨ (e = 0 ∧ f = 11 ∧ b = ⟨#[]⟩)) (w : World) {a0 a1 : Addr} {B : Nat} (E : Env a0 a1 B w) :
    Calls Tryd.prog 8 #[.agg #[.int .i64 x0, .int .i64 x1, .int .i64 x2, .int .i64 x3, .int .i64 x4, .int .i64 x5, .int .i64 x6, .int .i64 x7], .agg #[.int .i64 y0, .int .i64 y1, .int .i64 y2, .int .i64 y3, .int .i64 y4, .int .i64 y5, .int .i64 y6, .int .i64 y7]] w fun e w' => e = .returned (.bool true) ∧ Below w.heap.size w w' := by
  have HE := Lib.hid E
  have H1 := Lib.hid h1
  have H2 := Lib.hid h2
  have HC := Lib.hid hc
  clear E h1 h2 hc
  go_enter Tryd.func8, Tryd.ntmps8
  go_wp2_with fail
  refine (shown_any _ (HE.out.below' (((Below.refl _ w).alloc (Nat.le_refl _) _).alloc (by simp) _))).mono ?_
  rintro e w1 ⟨rfl, hb1⟩
  have hz1 := hb1.size
  simp only [World.size_alloc] at hz1
  have hs1 := (hb1.block w.heap.size (by simp; omega)).trans ((Below.heap_alloc _ _ _ (by simp)).trans (heap_alloc_new w _))
  have ht1 := (hb1.block (w.heap.size + 1) (by simp)).trans (by have h := heap_alloc_new (w.alloc (.cells #[.int .i64 x0, .int .i64 x1, .int .i64 x2, .int .i64 x3, .int .i64 x4, .int .i64 x5, .int .i64 x6, .int .i64 x7] 23)) (.cells #[.int .i64 y0, .int .i64 y1, .int .i64 y2, .int .i64 y3, .int .i64 y4, .int .i64 y5, .int .i64 y6, .int .i64 y7] 23); simp only [World.size_alloc] at h; exact h)
  have HS1 := Lib.hid hs1
  have HT1 := Lib.hid ht1
  have HB1 := Lib.hid ((((Below.refl _ w).alloc (Nat.le_refl _) _).alloc (by simp) _).trans (hb1.mono (by simp; omega)))
  obtain ⟨⟨c0, c1, c2, c3, c4, c5, c6, c7⟩, _⟩ := eight hs1
  clear hb1 hs1 ht1
  go_wp2_with fail
  refine (H1.out _ ⟨_, _, _, HE.out.below' HB1.out⟩).mono ?_
  rintro e w2 ⟨rfl, hb2⟩
  have hz2 := hb2.size
  have HB2 := Lib.hid (HB1.out.trans (hb2.mono HB1.out.size))
  have hs2 := (hb2.block w.heap.size (by omega)).trans HS1.out
  have ht2 := (hb2.block (w.heap.size + 1) (by omega)).trans HT1.out
  have HS2 := Lib.hid hs2
  have HT2 := Lib.hid ht2
  clear c0 c1 c2 c3 c4 c5 c6 c7
  obtain ⟨⟨c0, c1, c2, c3, c4, c5, c6, c7⟩, _⟩ := eight ht2
  clear hb2 hs2 ht2
  go_wp2_with fail
  refine (H2.out _ ⟨_, _, _, HE.out.below' HB2.out⟩).mono ?_
  rintro e w3 ⟨rfl, hb3⟩
  have HB3 := Lib.hid (HB2.out.trans (hb3.mono HB2.out.size))
  clear hb3
  rcases HC.out with ⟨rfl, rfl, rfl, rfl⟩ | ⟨rfl, rfl, rfl⟩ | ⟨rfl, rfl, rfl⟩
  · go_wp2
    go_ret
    exact ⟨rfl, HB3.out⟩
  · go_wp2
    go_ret
    exact ⟨rfl, HB3.out⟩
  · go_wp2
    go_ret
    exact ⟨rfl, HB3.out⟩
set_option maxRecDepth 100000 in
set_option maxHeartbeats 1000000 in
theorem walkApartOk (x0 x1 x2 x3 x4 x5 x6 x7 y0 y1 y2 y3 y4 y5 y6 y7 : Int) (a b : ByteArray) (h1 : Tells17 x0 x1 x2 x3 x4 x5 x6 x7 a 0) (h2 : Tells17 y0 y1 y2 y3 y4 y5 y6 y7 b 0) (hs : a.size = 32) (hc : (a.toList == b.toList) = (x0 == y0 && (x1 == y1 && (x2 == y2 && (x3 == y3 && (x4 == y4 && (x5 == y5 && (x6 == y6 && (x7 == y7))))))))) (w : World) {a0 a1 : Addr} {B : Nat} (E : Env a0 a1 B w) :
    Calls Tryd.prog 8 #[.agg #[.int .i64 x0, .int .i64 x1, .int .i64 x2, .int .i64 x3, .int .i64 x4, .int .i64 x5, .int .i64 x6, .int .i64 x7], .agg #[.int .i64 y0, .int .i64 y1, .int .i64 y2, .int .i64 y3, .int .i64 y4, .int .i64 y5, .int .i64 y6, .int .i64 y7]] w fun e w' => e = .returned (.bool true) ∧ Below w.heap.size w w' := by
  have HE := Lib.hid E
  have H1 := Lib.hid h1
  have H2 := Lib.hid h2
  have HC := Lib.hid hc
  have HS := Lib.hid hs
  clear E h1 h2 hc hs
  go_enter Tryd.func8, Tryd.ntmps8
  go_wp2_with fail
  refine (shown_any _ (HE.out.below' (((Below.refl _ w).alloc (Nat.le_refl _) _).alloc (by simp) _))).mono ?_
  rintro e w1 ⟨rfl, hb1⟩
  have hz1 := hb1.size
  simp only [World.size_alloc] at hz1
  have hs1 := (hb1.block w.heap.size (by simp; omega)).trans ((Below.heap_alloc _ _ _ (by simp)).trans (heap_alloc_new w _))
  have ht1 := (hb1.block (w.heap.size + 1) (by simp)).trans (by have h := heap_alloc_new (w.alloc (.cells #[.int .i64 x0, .int .i64 x1, .int .i64 x2, .int .i64 x3, .int .i64 x4, .int .i64 x5, .int .i64 x6, .int .i64 x7] 23)) (.cells #[.int .i64 y0, .int .i64 y1, .int .i64 y2, .int .i64 y3, .int .i64 y4, .int .i64 y5, .int .i64 y6, .int .i64 y7] 23); simp only [World.size_alloc] at h; exact h)
  have HS1 := Lib.hid hs1
  have HT1 := Lib.hid ht1
  have HB1 := Lib.hid ((((Below.refl _ w).alloc (Nat.le_refl _) _).alloc (by simp) _).trans (hb1.mono (by simp; omega)))
  obtain ⟨⟨c0, c1, c2, c3, c4, c5, c6, c7⟩, _⟩ := eight hs1
  clear hb1 hs1 ht1
  go_wp2_with fail
  refine (H1.out _ ⟨_, _, _, HE.out.below' HB1.out⟩).mono ?_
  rintro e w2 ⟨rfl, hb2⟩
  have hz2 := hb2.size
  have HB2 := Lib.hid (HB1.out.trans (hb2.mono HB1.out.size))
  have hs2 := (hb2.block w.heap.size (by omega)).trans HS1.out
  have ht2 := (hb2.block (w.heap.size + 1) (by omega)).trans HT1.out
  have HS2 := Lib.hid hs2
  have HT2 := Lib.hid ht2
  clear c0 c1 c2 c3 c4 c5 c6 c7
  obtain ⟨⟨c0, c1, c2, c3, c4, c5, c6, c7⟩, _⟩ := eight ht2
  clear hb2 hs2 ht2
  go_wp2_with fail
  refine (H2.out _ ⟨_, _, _, HE.out.below' HB2.out⟩).mono ?_
  rintro e w3 ⟨rfl, hb3⟩
  have hz3 := hb3.size
  have HB3 := Lib.hid (HB2.out.trans (hb3.mono HB2.out.size))
  have hs3 := (hb3.block w.heap.size (by omega)).trans HS2.out
  have ht3 := (hb3.block (w.heap.size + 1) (by omega)).trans HT2.out
  clear c0 c1 c2 c3 c4 c5 c6 c7
  obtain ⟨⟨c0, c1, c2, c3, c4, c5, c6, c7⟩, _⟩ := eight hs3
  obtain ⟨⟨d0, d1, d2, d3, d4, d5, d6, d7⟩, _⟩ := eight ht3
  clear hb3 hs3 ht3
  have h8 := eq8 x0 x1 x2 x3 x4 x5 x6 x7 y0 y1 y2 y3 y4 y5 y6 y7 w3
  have hs := HS.out
  go_wp2
  go_ret
  exact ⟨by show Ending.returned (Value.bool ((a.toList == b.toList) == (x0 == y0 && (x1 == y1 && (x2 == y2 && (x3 == y3 && (x4 == y4 && (x5 == y5 && (x6 == y6 && (x7 == y7)))))))))) = _; rw [HC.out, beq_self_eq_true], HB3.out⟩
theorem by_size (s : St) : (⟨(St.by s 8).toArray⟩ : ByteArray).size = 32 := by
  show (St.by s 8).toArray.size = 32
  simp [by_length]
theorem by4_inj (x y : BitVec 32) (h : by4 x = by4 y) : x = y := by
  simp only [by4, List.cons.injEq, and_true] at h
  obtain ⟨h0, h1, h2, h3⟩ := h
  apply BitVec.eq_of_toNat_eq
  have e0 := congrArg UInt8.toNat h0; have e1 := congrArg UInt8.toNat h1; have e2 := congrArg UInt8.toNat h2; have e3 := congrArg UInt8.toNat h3
  have hx := x.isLt; have hy := y.isLt
  simp [lo8] at e0 e1 e2 e3
  omega
theorem by_step (s t : St) (k : Nat) (h : St.by s (k + 1) = St.by t (k + 1)) : St.by s k = St.by t k ∧ s.w k = t.w k := by
  have h' := List.append_inj' (show St.by s k ++ by4 (s.w k) = St.by t k ++ by4 (t.w k) from h) rfl
  exact ⟨h'.1, by4_inj _ _ h'.2⟩
theorem by_eq (s t : St) : ((⟨(St.by s 8).toArray⟩ : ByteArray).toList == (⟨(St.by t 8).toArray⟩ : ByteArray).toList) = (U s.a == U t.a && (U s.b == U t.b && (U s.c == U t.c && (U s.d == U t.d && (U s.e == U t.e && (U s.f == U t.f && (U s.g == U t.g && (U s.h == U t.h)))))))) := by
  rw [ByteArray.toList_eq, ByteArray.toList_eq]
  show (St.by s 8 == St.by t 8) = _
  rw [Bool.eq_iff_iff]
  simp only [beq_iff_eq, Bool.and_eq_true]
  constructor
  · intro h
    have h7 := by_step s t 7 h
    have h6 := by_step s t 6 h7.1
    have h5 := by_step s t 5 h6.1
    have h4 := by_step s t 4 h5.1
    have h3 := by_step s t 3 h4.1
    have h2 := by_step s t 2 h3.1
    have h1 := by_step s t 1 h2.1
    have h0 := by_step s t 0 h1.1
    exact ⟨congrArg U h0.2, congrArg U h1.2, congrArg U h2.2, congrArg U h3.2, congrArg U h4.2, congrArg U h5.2, congrArg U h6.2, congrArg U h7.2⟩
  · rintro ⟨h0, h1, h2, h3, h4, h5, h6, h7⟩
    have e0 := U_inj h0; have e1 := U_inj h1; have e2 := U_inj h2; have e3 := U_inj h3
    have e4 := U_inj h4; have e5 := U_inj h5; have e6 := U_inj h6; have e7 := U_inj h7
    simp only [St.by, St.w, e0, e1, e2, e3, e4, e5, e6, e7]
theorem walkRoundsApart (x0 x1 x2 x3 x4 x5 x6 x7 y0 y1 y2 y3 y4 y5 y6 y7 : Int) (w : World) (hE : ∃ a0 a1 B, Env a0 a1 B w) :
    Calls Tryd.prog 8 #[.agg #[.int .i64 x0, .int .i64 x1, .int .i64 x2, .int .i64 x3, .int .i64 x4, .int .i64 x5, .int .i64 x6, .int .i64 x7], .agg #[.int .i64 y0, .int .i64 y1, .int .i64 y2, .int .i64 y3, .int .i64 y4, .int .i64 y5, .int .i64 y6, .int .i64 y7]] w fun e w' => e = .returned (.bool true) ∧ Below w.heap.size w w' := by
  obtain ⟨a0, a1, B, E⟩ := hE
  rcases words_or x0 x1 x2 x3 x4 x5 x6 x7 with ⟨s, rfl, rfl, rfl, rfl, rfl, rfl, rfl, rfl⟩ | hn
  · rcases words_or y0 y1 y2 y3 y4 y5 y6 y7 with ⟨t, rfl, rfl, rfl, rfl, rfl, rfl, rfl, rfl⟩ | hm
    · refine walkApartOk (U s.a) (U s.b) (U s.c) (U s.d) (U s.e) (U s.f) (U s.g) (U s.h) (U t.a) (U t.b) (U t.c) (U t.d) (U t.e) (U t.f) (U t.g) (U t.h) _ _ (fun w _ => Bytes_ok s w) (fun w _ => Bytes_ok t w) (by_size s) (by_eq s t) w E
    · exact walkApartErr (U s.a) (U s.b) (U s.c) (U s.d) (U s.e) (U s.f) (U s.g) (U s.h) y0 y1 y2 y3 y4 y5 y6 y7 _ _ 0 11 (fun w _ => Bytes_ok s w) (fun w ⟨_, _, _, E⟩ => Bytes_bad y0 y1 y2 y3 y4 y5 y6 y7 hm w E) (Or.inr (Or.inr ⟨rfl, rfl, rfl⟩)) w E
  · rcases words_or y0 y1 y2 y3 y4 y5 y6 y7 with ⟨t, rfl, rfl, rfl, rfl, rfl, rfl, rfl, rfl⟩ | hm
    · exact walkApartErr x0 x1 x2 x3 x4 x5 x6 x7 (U t.a) (U t.b) (U t.c) (U t.d) (U t.e) (U t.f) (U t.g) (U t.h) _ _ 11 0 (fun w ⟨_, _, _, E⟩ => Bytes_bad x0 x1 x2 x3 x4 x5 x6 x7 hn w E) (fun w _ => Bytes_ok t w) (Or.inr (Or.inl ⟨rfl, rfl, rfl⟩)) w E
    · exact walkApartErr x0 x1 x2 x3 x4 x5 x6 x7 y0 y1 y2 y3 y4 y5 y6 y7 _ _ 11 11 (fun w ⟨_, _, _, E⟩ => Bytes_bad x0 x1 x2 x3 x4 x5 x6 x7 hn w E) (fun w ⟨_, _, _, E⟩ => Bytes_bad y0 y1 y2 y3 y4 y5 y6 y7 hm w E) (Or.inl ⟨rfl, rfl, rfl, rfl⟩) w E

set_option maxRecDepth 100000 in
theorem contractRoundsApart (H : Type) (enc : TypeId × Value → H) (W : World) (base : Nat) (args : Array Value) (ds gs : List (DataW H)) (before : List MemPlace)
    (hval : ∀ (j : Nat) t v, Tryd.f8.params[j]? = some t → args[j]? = some v → Value.okWide Tryd.prog W .any base t v)
    (hW : DataW.Whole enc Tryd.prog Tryd.f8.params.toList Rows.roundsApartSpec.vars false W args.toList ds gs before) (hL : laidMetH Tryd.prog laid3 W) :
    Calls Tryd.prog 8 args W fun e W' => ∃ v, e = .returned v ∧ Rows.roundsApartSpec.post enc Tryd.prog Tryd.f8 false true false false W args v W' := by
  have hW' := hW
  obtain ⟨p, q, hA0, hV, rfl, hfz, hnd⟩ := hW
  have hA : DataW.TrodAll enc Tryd.prog W 0 (fun _ => true) true Tryd.f8.params.toList args.toList ds p := hA0
  rw [Tryd.params8] at hA hval
  obtain ⟨v0, vs0, d0, ds0, p0, q0, hargs, rfl, rfl, h0, r0⟩ := trodAll_cons hA
  obtain ⟨v1, vs1, d1, ds1, p1, q1, rfl, rfl, rfl, h1, r1⟩ := trodAll_cons r0
  obtain ⟨rfl, rfl, rfl⟩ := trodAll_nil r1
  obtain rfl : args = #[v0, v1] := by cases args; simp_all
  obtain ⟨rfl, rfl⟩ := trodVars_none hV
  obtain ⟨x0, x1, x2, x3, x4, x5, x6, x7, rfl, rfl, rfl, w0⟩ := open_state (hval 0 23 v0 rfl rfl) h0
  obtain ⟨y0, y1, y2, y3, y4, y5, y6, y7, rfl, rfl, rfl, w1⟩ := open_state (hval 1 23 v1 rfl rfl) h1
  clear hA0
  simp only [List.append_nil] at hW'
  refine (walkRoundsApart x0 x1 x2 x3 x4 x5 x6 x7 y0 y1 y2 y3 y4 y5 y6 y7 W (env_of hL)).mono fun e W' ⟨he, hg⟩ => ?_
  subst he
  refine ⟨_, rfl, _, _, _, [], [], [], hW', ?_, ?_, rfl, hg.frame _, fun h => by cases h⟩
  · exact trodAll_cons_mk (shut_bool Tryd.underlying4 _) trodAll_mk0
  · exact (trodAll_cons_mk (shut_state w0) (trodAll_cons_mk (shut_state w1) trodAll_mk0))

set_option maxRecDepth 100000 in
theorem liftedRoundsApart (os : Os) (started : os.Started) (H : Type) (enc : TypeId × Value → H) :
    ReturnsInHanded {} Tryd.checked os 8 .any (fun w args => (Rows.roundsApartSpec.pre enc Tryd.prog Tryd.f8 [] false w args ∧ laidMetH Tryd.prog laid3 w) ∧ sizedMet enc Tryd.prog Tryd.f8 (OpenSpec.ofChange Rows.roundsApartSpec) false w args)
      (Rows.roundsApartSpec.post enc Tryd.prog Tryd.f8 false true false false) := by
  refine returnsInHanded_of_change_and (C := Tryd.checked) (X := fun w _ => laidMetH Tryd.prog laid3 w) (fun _ _ _ hh h => h.of_heap hh) own started (by kernel_rfl) Tryd.func8
    (ChangeSpec.witness_shaped (enc := enc) (C := Tryd.checked) (os := os) (X := fun w _ => laidMetH Tryd.prog laid3 w) false (World.doorLaid Tryd.prog 57 os) #[.agg #[.int .i64 0, .int .i64 0, .int .i64 0, .int .i64 0, .int .i64 0, .int .i64 0, .int .i64 0, .int .i64 0], .agg #[.int .i64 0, .int .i64 0, .int .i64 0, .int .i64 0, .int .i64 0, .int .i64 0, .int .i64 0, .int .i64 0]] 8 rfl (World.shaped_of_RefB (by kernel_rfl) (by kernel_rfl)) (by kernel_rfl) (by kernel_rfl) (by kernel_rfl) (door_met os _)) ?_
  intro W base args ds gs before hval hW _ _ hL _
  exact contractRoundsApart H enc W base args ds gs before hval hW hL
theorem roundsApart_said : Rows.RoundsApartSaid :=
  OpenClaim.holds_of_wide 8 Tryd.f8 rfl rfl rfl rfl rfl rfl rfl ⟨rfl, rfl, rfl, rfl, rfl⟩ rfl rfl rfl rfl rfl (by kernel_rfl) Tryd.func8 (by kernel_rfl)
    (of_decide_eq_true (by kernel_rfl)) (by unfold Func.isWrapper; first | (rw [if_pos (by decide +kernel)]; kernel_rfl) | (rw [if_neg (by decide +kernel)]; exact ⟨rfl, rfl⟩))
    (fun os started H enc _ => liftedRoundsApart os started H enc)
/-- THE TIED CARD. -/
theorem roundsApart_card : Rows.RoundsApartCardSaid :=
  Claim7.holds_tied_plain_at .later [] _ _ _ _ roundsApart_said (fun _ h => by cases h) (by kernel_rfl) (fun _ h => by cases h) roundsApart_row_tie rfl ⟨rfl, rfl⟩ (by kernel_rfl) rfl
    (fun f fn hf hfn => by
      obtain rfl : f = 8 := Option.some.inj ((show Tryd.prog.funcNamed "sigillary/sigillarylaw01.RoundsApart" = some 8 by kernel_rfl).symm.trans hf) |>.symm
      obtain rfl : fn = Tryd.f8 := (Option.some.inj (Tryd.func8.symm.trans hfn)).symm
      exact ⟨by kernel_rfl, fun j t ht => by
        rw [Tryd.params8] at ht
        have hm : t ∈ [23, 23] := by simpa using Array.mem_of_getElem? ht
        have hall : ([23, 23].all fun u => !Tryd.prog.wantsStandIn u) = true := by kernel_rfl
        exact (show Tryd.prog.wantsStandIn t = false by simpa using List.all_eq_true.1 hall t hm)⟩)
    (by kernel_rfl)
end Go.Proofs.YtlnhngefhcilfaaDoor
