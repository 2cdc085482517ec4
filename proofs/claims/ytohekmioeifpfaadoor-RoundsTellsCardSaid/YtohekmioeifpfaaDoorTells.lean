/- The first state, a block's schedule, a state with a round, with a block, its bytes are the document's, for every state, text and two numbers. Conditions: the laid variables, as the statement lists them. -/
import Derived.Test.YtohekmioeifpfaaDoorDoor
import Derived.Test.YtohekmioeifpfaaDoorShown
import Derived.Test.YtohekmioeifpfaaDoorLawLib
import Derived.Test.YtohekmioeifpfaaDoorTell
import Derived.Test.YtohekmioeifpfaaDoorCut
import Derived.Test.YtohekmioeifpfaaDoorWhole
import Derived.Test.YtohekmioeifpfaaDoorPartsLib
import Derived.Test.YtohekmioeifpfaaDoorRefA
import Derived.Test.YtohekmioeifpfaaDoorRefB
import Derived.Test.YtohekmioeifpfaaDoorRefC
import Derived.Deep.RegionHeld3
import Derived.Test.YtohekmioeifpfaaDoorRefE
import Derived.Test.YtohekmioeifpfaaDoorRefF
import Derived.Test.YtohekmioeifpfaaDoorRefG
import Derived.Test.YtohekmioeifpfaaDoorRefH
import Derived.Test.YtohekmioeifpfaaDoorRefD
import Derived.Test.YtohekmioeifpfaaDoorTellsW
import Derived.StillTailTactics
import Derived.Deep.RegionHeld
import Derived.Deep.RegionWith
import Derived.Deep.DrawnRows
import Derived.Deep.DeepCutAuto
import Derived.Deep.QuietTactic
import Derived.BigQuiet
import Derived.WalkKit
import Derived.WalkLawsBesides
import Derived.WalkSpells
import Derived.Outline
import Derived.Lib.Hide
namespace Go.Proofs.YtohekmioeifpfaaDoor
open Go.ChangeShapes Go.WideShapes Go.ChangeAt Go.RowKit
open Go.ChangeMaps (open_string shut_string)
open Rd
attribute [local go_sem ↓] Go.wp_at_zero Go.wp_at_succ
set_option maxRecDepth 100000 in
set_option maxHeartbeats 1000000 in
theorem Compress16_badState (x0 x1 x2 x3 x4 x5 x6 x7 : Int) (hn : (U (BitVec.ofInt 32 x0) == x0 && (U (BitVec.ofInt 32 x1) == x1 && (U (BitVec.ofInt 32 x2) == x2 && (U (BitVec.ofInt 32 x3) == x3 && (U (BitVec.ofInt 32 x4) == x4 && (U (BitVec.ofInt 32 x5) == x5 && (U (BitVec.ofInt 32 x6) == x6 && (U (BitVec.ofInt 32 x7) == x7)))))))) = false) (b : ByteArray) (w : World) :
    Calls Tryd.prog 16 #[.agg #[.int .i64 x0, .int .i64 x1, .int .i64 x2, .int .i64 x3, .int .i64 x4, .int .i64 x5, .int .i64 x6, .int .i64 x7], .string b] w fun e w' => e = .returned (.tuple #[.agg #[.int .i64 0, .int .i64 0, .int .i64 0, .int .i64 0, .int .i64 0, .int .i64 0, .int .i64 0, .int .i64 0], .int .i64 11]) ∧ Below w.heap.size w w' := by
  go_enter Tryd.func16, Tryd.ntmps16
  go_wp2_with fail
  refine (words_bad x0 x1 x2 x3 x4 x5 x6 x7 hn _).mono ?_
  rintro e w1 ⟨rfl, hb1⟩
  have hz1 := hb1.size
  simp only [World.size_alloc] at hz1
  have hry := (hb1.block (w.heap.size + 1) (by simp)).trans (by have h := heap_alloc_new (w.alloc (.cells #[.int .i64 x0, .int .i64 x1, .int .i64 x2, .int .i64 x3, .int .i64 x4, .int .i64 x5, .int .i64 x6, .int .i64 x7] 23)) (.cells #[.int .i64 0, .int .i64 0, .int .i64 0, .int .i64 0, .int .i64 0, .int .i64 0, .int .i64 0, .int .i64 0] 23); simp only [World.size_alloc] at h; exact h)
  have HB1 := Lib.hid ((((Below.refl _ w).alloc (Nat.le_refl _) _).alloc (by simp) _).trans (hb1.mono (by simp; omega)))
  have HRY := Lib.hid hry
  clear hb1 hry
  have hry1 := HRY.out
  obtain ⟨⟨d0, d1, d2, d3, d4, d5, d6, d7⟩, ⟨f0, f1, f2, f3, f4, f5, f6, f7⟩⟩ := eight hry1
  clear hry1
  go_wp2
  refine bodyPost_ret (v := .tuple #[.agg #[.int .i64 0, .int .i64 0, .int .i64 0, .int .i64 0, .int .i64 0, .int .i64 0, .int .i64 0, .int .i64 0], .int .i64 11]) ?_ rfl ⟨rfl, below8 HB1.out (w.heap.size + 1) (by omega) _ _ _ _ _ _ _ _⟩
  simp [results, Tryd.results16, go_sem, d0, d1, d2, d3, d4, d5, d6, d7]
set_option maxRecDepth 100000 in
set_option maxHeartbeats 1000000 in
theorem Compress16_badBlock (s : St) (b : ByteArray) (hs : b.size ≠ 64) (w : World) :
    Calls Tryd.prog 16 #[.agg #[.int .i64 (U s.a), .int .i64 (U s.b), .int .i64 (U s.c), .int .i64 (U s.d), .int .i64 (U s.e), .int .i64 (U s.f), .int .i64 (U s.g), .int .i64 (U s.h)], .string b] w fun e w' => e = .returned (.tuple #[.agg #[.int .i64 0, .int .i64 0, .int .i64 0, .int .i64 0, .int .i64 0, .int .i64 0, .int .i64 0, .int .i64 0], .int .i64 10]) ∧ Below w.heap.size w w' := by
  go_enter Tryd.func16, Tryd.ntmps16
  go_wp2_with fail
  refine (words_ok s _).mono ?_
  rintro e w1 ⟨rfl, hb1⟩
  have hz1 := hb1.size
  simp only [World.size_alloc] at hz1
  have hry := (hb1.block (w.heap.size + 1) (by simp)).trans (by have h := heap_alloc_new (w.alloc (.cells #[.int .i64 (U s.a), .int .i64 (U s.b), .int .i64 (U s.c), .int .i64 (U s.d), .int .i64 (U s.e), .int .i64 (U s.f), .int .i64 (U s.g), .int .i64 (U s.h)] 23)) (.cells #[.int .i64 0, .int .i64 0, .int .i64 0, .int .i64 0, .int .i64 0, .int .i64 0, .int .i64 0, .int .i64 0] 23); simp only [World.size_alloc] at h; exact h)
  have HB1 := Lib.hid ((((Below.refl _ w).alloc (Nat.le_refl _) _).alloc (by simp) _).trans (hb1.mono (by simp; omega)))
  have HRY := Lib.hid hry
  clear hb1 hry
  go_wp2_with fail
  refine (Schedule12_bad b hs _).mono ?_
  rintro e w2 ⟨rfl, hb2⟩
  have hz2 := hb2.size
  have hry2 := (hb2.block (w.heap.size + 1) (by omega)).trans HRY.out
  have HB2 := Lib.hid (HB1.out.trans (hb2.mono (by omega)))
  obtain ⟨⟨d0, d1, d2, d3, d4, d5, d6, d7⟩, ⟨f0, f1, f2, f3, f4, f5, f6, f7⟩⟩ := eight hry2
  clear hb2 hry2
  go_wp2
  refine bodyPost_ret (v := .tuple #[.agg #[.int .i64 0, .int .i64 0, .int .i64 0, .int .i64 0, .int .i64 0, .int .i64 0, .int .i64 0, .int .i64 0], .int .i64 10]) ?_ rfl ⟨rfl, below8 HB2.out (w.heap.size + 1) (by omega) _ _ _ _ _ _ _ _⟩
  simp [results, Tryd.results16, go_sem, d0, d1, d2, d3, d4, d5, d6, d7]
theorem env4_of {W : World} (h : laidMetH Tryd.prog laid4 W) : E4 W := by
  rw [MakeChecks.laidMetH_plain _ _ _ (by kernel_rfl)] at h
  have h4 : laidMet Tryd.prog (("sigillary/sigillaryref01.k", Lib.tabData .i64 KZ) :: ("sigillary/rounds.constants", Rows.laid_sigillary_rounds_constants) :: [("sigillary/rounds.errBlock", Rows.laid_sigillary_rounds_errBlock), ("sigillary/rounds.errWord", Rows.laid_sigillary_rounds_errWord)]) W := h
  have ht : Lib.TabIs Tryd.prog W "sigillary/sigillaryref01.k" .i64 KZ := Lib.tabIs_of_head gK tK Tryd.underlying61 Tryd.underlying3 cells3 cells61 h4
  have h3 : laidMetH Tryd.prog laid3 W := by
    rw [MakeChecks.laidMetH_plain _ _ _ (by kernel_rfl)]
    exact h4.tail
  have hk : ∀ i, i < 64 → W.cell? ⟨0, i, none⟩ = some (.int .i64 (U (K i))) := fun i hi => by
    rw [ht.cell gK i (by exact hi), ← K_at ⟨i, hi⟩]
  exact ⟨env_of h3, block_lt_of_cell (hk 0 (by decide)), hk⟩
/-- the door's own heap meets the list -/
theorem door_met4 (os : Os) (args : Array Value) : laidMetH Tryd.prog laid4 ((World.doorLaid Tryd.prog 57 os).forCall (fun _ _ => 0) ⟨#[], args, []⟩).memory :=
  laidMetH_of_parts3 (fuel := 8) (laidMet_of_run' 8 (by kernel_rfl) (by kernel_rfl)) (by kernel_rfl) (by kernel_rfl)
theorem walkRoundsTells (x0 x1 x2 x3 x4 x5 x6 x7 : Int) (b : ByteArray) (i x : Int) (w : World) (E : E4 w) :
    Calls Tryd.prog 3 #[.agg #[.int .i64 x0, .int .i64 x1, .int .i64 x2, .int .i64 x3, .int .i64 x4, .int .i64 x5, .int .i64 x6, .int .i64 x7], .string b, .int .i64 i, .int .i64 x] w fun e w' => e = .returned (.bool true) ∧ Below w.heap.size w w' := by
  rcases words_or x0 x1 x2 x3 x4 x5 x6 x7 with ⟨s, rfl, rfl, rfl, rfl, rfl, rfl, rfl, rfl⟩ | hn
  · have h17 : T17 (U s.a) (U s.b) (U s.c) (U s.d) (U s.e) (U s.f) (U s.g) (U s.h) ⟨(St.by s 8).toArray⟩ 0 := fun w _ => Bytes_ok s w
    have h18 : T18 (U s.a) (U s.b) (U s.c) (U s.d) (U s.e) (U s.f) (U s.g) (U s.h) ⟨(St.by s 8).toArray⟩ 0 := fun w _ => Bytes18_ok s w
    have hr : ∃ t0 t1 t2 t3 t4 t5 t6 t7 e, T13 (U s.a) (U s.b) (U s.c) (U s.d) (U s.e) (U s.f) (U s.g) (U s.h) i x t0 t1 t2 t3 t4 t5 t6 t7 e ∧ T14 (U s.a) (U s.b) (U s.c) (U s.d) (U s.e) (U s.f) (U s.g) (U s.h) i x t0 t1 t2 t3 t4 t5 t6 t7 e := by
      by_cases hc : 0 ≤ i ∧ i < 64 ∧ 0 ≤ x ∧ x ≤ 4294967295
      · obtain ⟨hi0, hi1, hx⟩ := hc
        rcases word_or x with ⟨c, rfl⟩ | h
        · have hi : (i.toNat : Int) = i := Int.toNat_of_nonneg hi0
          refine ⟨U (s.step i.toNat c).a, U (s.step i.toNat c).b, U (s.step i.toNat c).c, U (s.step i.toNat c).d, U (s.step i.toNat c).e, U (s.step i.toNat c).f, U (s.step i.toNat c).g, U (s.step i.toNat c).h, 0, ?_, ?_⟩
          · rintro w ⟨⟨a0, a1, B, E⟩, _⟩
            have h := Round_ok s i.toNat (by omega) c w E
            rw [hi] at h
            exact h
          · rintro w ⟨_, h0, hk⟩
            have h := Round14_ok s i.toNat (by omega) c w h0 (hk _ (by omega))
            rw [hi] at h
            exact h
        · exact absurd hx h
      · refine ⟨0, 0, 0, 0, 0, 0, 0, 0, 11, ?_, ?_⟩
        · rintro w ⟨⟨a0, a1, B, E⟩, _⟩
          exact Round_badRound s i x hc w E
        · intro w _
          exact Round14_badRound s i x (by omega) w
    obtain ⟨t0, t1, t2, t3, t4, t5, t6, t7, e, h13, h14⟩ := hr
    by_cases hs : (cutB b).size = 64
    · refine walkTellsOk _ _ _ _ _ _ _ _ b i x t0 t1 t2 t3 t4 t5 t6 t7 e (U (St.comp (Wd (mw (cutB b))) s).a) (U (St.comp (Wd (mw (cutB b))) s).b) (U (St.comp (Wd (mw (cutB b))) s).c) (U (St.comp (Wd (mw (cutB b))) s).d) (U (St.comp (Wd (mw (cutB b))) s).e) (U (St.comp (Wd (mw (cutB b))) s).f) (U (St.comp (Wd (mw (cutB b))) s).g) (U (St.comp (Wd (mw (cutB b))) s).h) 0 _ 0 hs h13 h14 ?_ ?_ h17 h18 w E
      · rintro w ⟨⟨a0, a1, B, E⟩, _⟩
        exact Compress_ok s (cutB b) hs w E
      · rintro w ⟨_, h0, hk⟩
        exact Compress16_ok s (cutB b) (fun w => Schedule12_ok (cutB b) hs w) w h0 hk
    · refine walkTellsBad _ _ _ _ _ _ _ _ b i x t0 t1 t2 t3 t4 t5 t6 t7 e 0 0 0 0 0 0 0 0 10 _ 0 hs h13 h14 ?_ ?_ h17 h18 w E
      · rintro w ⟨⟨a0, a1, B, E⟩, _⟩
        exact Compress_badBlock s (cutB b) hs w E
      · intro w _
        exact Compress16_badBlock s (cutB b) hs w
  · have h17 : T17 x0 x1 x2 x3 x4 x5 x6 x7 ⟨#[]⟩ 11 := by
      rintro w ⟨⟨a0, a1, B, E⟩, _⟩
      exact Bytes_bad _ _ _ _ _ _ _ _ hn w E
    have h18 : T18 x0 x1 x2 x3 x4 x5 x6 x7 ⟨#[]⟩ 11 := fun w _ => Bytes18_bad _ _ _ _ _ _ _ _ hn w
    have h13 : T13 x0 x1 x2 x3 x4 x5 x6 x7 i x 0 0 0 0 0 0 0 0 11 := by
      rintro w ⟨⟨a0, a1, B, E⟩, _⟩
      exact Round_badState _ _ _ _ _ _ _ _ hn i x w E
    have h14 : T14 x0 x1 x2 x3 x4 x5 x6 x7 i x 0 0 0 0 0 0 0 0 11 := fun w _ => Round14_badState _ _ _ _ _ _ _ _ i x hn w
    have h15 : T15 x0 x1 x2 x3 x4 x5 x6 x7 (cutB b) 0 0 0 0 0 0 0 0 11 := by
      rintro w ⟨⟨a0, a1, B, E⟩, _⟩
      exact Compress_badState _ _ _ _ _ _ _ _ hn (cutB b) w E
    have h16 : T16 x0 x1 x2 x3 x4 x5 x6 x7 (cutB b) 0 0 0 0 0 0 0 0 11 := fun w _ => Compress16_badState _ _ _ _ _ _ _ _ hn (cutB b) w
    by_cases hs : (cutB b).size = 64
    · exact walkTellsOk _ _ _ _ _ _ _ _ b i x 0 0 0 0 0 0 0 0 11 0 0 0 0 0 0 0 0 11 _ 11 hs h13 h14 h15 h16 h17 h18 w E
    · exact walkTellsBad _ _ _ _ _ _ _ _ b i x 0 0 0 0 0 0 0 0 11 0 0 0 0 0 0 0 0 11 _ 11 hs h13 h14 h15 h16 h17 h18 w E

set_option maxRecDepth 100000 in
theorem contractRoundsTells (H : Type) (enc : TypeId × Value → H) (W : World) (base : Nat) (args : Array Value) (ds gs : List (DataW H)) (before : List MemPlace)
    (hval : ∀ (j : Nat) t v, Tryd.f3.params[j]? = some t → args[j]? = some v → Value.okWide Tryd.prog W .any base t v)
    (hW : DataW.Whole enc Tryd.prog Tryd.f3.params.toList Rows.roundsTellsSpec.vars false W args.toList ds gs before) (hL : laidMetH Tryd.prog laid4 W) :
    Calls Tryd.prog 3 args W fun e W' => ∃ v, e = .returned v ∧ Rows.roundsTellsSpec.post enc Tryd.prog Tryd.f3 false true false false W args v W' := by
  have hW' := hW
  obtain ⟨p, q, hA0, hV, rfl, hfz, hnd⟩ := hW
  have hA : DataW.TrodAll enc Tryd.prog W 0 (fun _ => true) true Tryd.f3.params.toList args.toList ds p := hA0
  rw [Tryd.params3] at hA hval
  obtain ⟨v0, vs0, d0, ds0, p0, q0, hargs, rfl, rfl, h0, r0⟩ := trodAll_cons hA
  obtain ⟨v1, vs1, d1, ds1, p1, q1, rfl, rfl, rfl, h1, r1⟩ := trodAll_cons r0
  obtain ⟨v2, vs2, d2, ds2, p2, q2, rfl, rfl, rfl, h2, r2⟩ := trodAll_cons r1
  obtain ⟨v3, vs3, d3, ds3, p3, q3, rfl, rfl, rfl, h3, r3⟩ := trodAll_cons r2
  obtain ⟨rfl, rfl, rfl⟩ := trodAll_nil r3
  obtain rfl : args = #[v0, v1, v2, v3] := by cases args; simp_all
  obtain ⟨rfl, rfl⟩ := trodVars_none hV
  obtain ⟨x0, x1, x2, x3, x4, x5, x6, x7, rfl, rfl, rfl, w0⟩ := open_state (hval 0 23 v0 rfl rfl) h0
  obtain ⟨b, rfl, rfl, rfl, w1⟩ := open_string Tryd.underlying9 (hval 1 9 v1 rfl rfl) h1
  obtain ⟨i, rfl, rfl, rfl, w2⟩ := open_int Tryd.underlying3 (hval 2 3 v2 rfl rfl) h2
  obtain ⟨x, rfl, rfl, rfl, w3⟩ := open_int Tryd.underlying3 (hval 3 3 v3 rfl rfl) h3
  clear hA0
  simp only [List.append_nil] at hW'
  refine (walkRoundsTells x0 x1 x2 x3 x4 x5 x6 x7 b i x W (env4_of hL)).mono fun e W' ⟨he, hg⟩ => ?_
  subst he
  refine ⟨_, rfl, _, _, _, [], [], [], hW', ?_, ?_, rfl, hg.frame _, fun h => by cases h⟩
  · exact trodAll_cons_mk (shut_bool Tryd.underlying4 _) trodAll_mk0
  · exact (trodAll_cons_mk (shut_state w0) (trodAll_cons_mk (shut_string Tryd.underlying9 w1) (trodAll_cons_mk (shut_int Tryd.underlying3 w2) (trodAll_cons_mk (shut_int Tryd.underlying3 w3) trodAll_mk0))))

set_option maxRecDepth 100000 in
theorem liftedRoundsTells (os : Os) (started : os.Started) (H : Type) (enc : TypeId × Value → H) :
    ReturnsInHanded {} Tryd.checked os 3 .any (fun w args => (Rows.roundsTellsSpec.pre enc Tryd.prog Tryd.f3 [] false w args ∧ laidMetH Tryd.prog laid4 w) ∧ sizedMet enc Tryd.prog Tryd.f3 (OpenSpec.ofChange Rows.roundsTellsSpec) false w args)
      (Rows.roundsTellsSpec.post enc Tryd.prog Tryd.f3 false true false false) := by
  refine returnsInHanded_of_change_and (C := Tryd.checked) (X := fun w _ => laidMetH Tryd.prog laid4 w) (fun _ _ _ hh h => h.of_heap hh) own started (by kernel_rfl) Tryd.func3
    (ChangeSpec.witness_shaped (enc := enc) (C := Tryd.checked) (os := os) (X := fun w _ => laidMetH Tryd.prog laid4 w) false (World.doorLaid Tryd.prog 57 os) #[.agg #[.int .i64 0, .int .i64 0, .int .i64 0, .int .i64 0, .int .i64 0, .int .i64 0, .int .i64 0, .int .i64 0], .string .empty, .int .i64 0, .int .i64 0] 8 rfl (World.shaped_of_RefB (by kernel_rfl) (by kernel_rfl)) (by kernel_rfl) (by kernel_rfl) (by kernel_rfl) (door_met4 os _)) ?_
  intro W base args ds gs before hval hW _ _ hL _
  exact contractRoundsTells H enc W base args ds gs before hval hW hL
theorem roundsTells_said : Rows.RoundsTellsSaid :=
  OpenClaim.holds_of_wide 3 Tryd.f3 rfl rfl rfl rfl rfl rfl rfl ⟨rfl, rfl, rfl, rfl, rfl⟩ rfl rfl rfl rfl rfl (by kernel_rfl) Tryd.func3 (by kernel_rfl)
    (of_decide_eq_true (by kernel_rfl)) (by unfold Func.isWrapper; first | (rw [if_pos (by decide +kernel)]; kernel_rfl) | (rw [if_neg (by decide +kernel)]; exact ⟨rfl, rfl⟩))
    (fun os started H enc _ => liftedRoundsTells os started H enc)
/-- THE TIED CARD. -/
theorem roundsTells_card : Rows.RoundsTellsCardSaid :=
  Claim7.holds_tied_plain_at .later [] _ _ _ _ roundsTells_said (fun _ h => by cases h) (by kernel_rfl) (fun _ h => by cases h) roundsTells_row_tie rfl ⟨rfl, rfl⟩ (by kernel_rfl) rfl
    (fun f fn hf hfn => by
      obtain rfl : f = 3 := Option.some.inj ((show Tryd.prog.funcNamed "sigillary/sigillarylaw01.RoundsTells" = some 3 by kernel_rfl).symm.trans hf) |>.symm
      obtain rfl : fn = Tryd.f3 := (Option.some.inj (Tryd.func3.symm.trans hfn)).symm
      exact ⟨by kernel_rfl, fun j t ht => by
        rw [Tryd.params3] at ht
        have hm : t ∈ [23, 9, 3, 3] := by simpa using Array.mem_of_getElem? ht
        have hall : ([23, 9, 3, 3].all fun u => !Tryd.prog.wantsStandIn u) = true := by kernel_rfl
        exact (show Tryd.prog.wantsStandIn t = false by simpa using List.all_eq_true.1 hall t hm)⟩)
    (by kernel_rfl)
end Go.Proofs.YtohekmioeifpfaaDoor
