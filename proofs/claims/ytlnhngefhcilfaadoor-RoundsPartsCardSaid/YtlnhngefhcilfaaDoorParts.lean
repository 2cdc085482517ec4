/- A state with a block is what its rounds make of it, added to it: the statement RoundsParts holds for every state and text. Conditions: those of the statement alone. -/
import Derived.Test.YtlnhngefhcilfaaDoorDoor
import Derived.Test.YtlnhngefhcilfaaDoorShown
import Derived.Test.YtlnhngefhcilfaaDoorLawLib
import Derived.Test.YtlnhngefhcilfaaDoorTell
import Derived.Test.YtlnhngefhcilfaaDoorCut
import Derived.Test.YtlnhngefhcilfaaDoorPartsLib
import Derived.StillTailTactics
import Derived.Deep.RegionHeld
import Derived.Deep.RegionWith
import Derived.Deep.DrawnRows
import Derived.Deep.DeepCutAuto
import Derived.Deep.QuietTactic
import Derived.BigQuiet
import Derived.WalkKit
import Derived.WalkLawsBesides
import Derived.WalkSpells
import Derived.Outline
import Derived.Lib.Hide
namespace Go.Proofs.YtlnhngefhcilfaaDoor
open Go.ChangeShapes Go.WideShapes Go.ChangeAt Go.RowKit
open Go.ChangeMaps (open_string shut_string)
open Rd
attribute [local go_sem ↓] Go.wp_at_zero Go.wp_at_succ
set_option maxRecDepth 100000 in
set_option maxHeartbeats 1000000 in
theorem walkPartsOk (s : St) (b : ByteArray) (hs : (cutB b).size = 64) (w : World) {a0 a1 : Addr} {B : Nat} (E : Env a0 a1 B w) :
    Calls Tryd.prog 4 #[.agg #[.int .i64 (U s.a), .int .i64 (U s.b), .int .i64 (U s.c), .int .i64 (U s.d), .int .i64 (U s.e), .int .i64 (U s.f), .int .i64 (U s.g), .int .i64 (U s.h)], .string b] w fun e w' => e = .returned (.bool true) ∧ Below w.heap.size w w' := by
  have HE := Lib.hid E
  have H1 := Lib.hid (show Tells15 (U s.a) (U s.b) (U s.c) (U s.d) (U s.e) (U s.f) (U s.g) (U s.h) (cutB b) (U (St.comp (Wd (mw (cutB b))) s).a) (U (St.comp (Wd (mw (cutB b))) s).b) (U (St.comp (Wd (mw (cutB b))) s).c) (U (St.comp (Wd (mw (cutB b))) s).d) (U (St.comp (Wd (mw (cutB b))) s).e) (U (St.comp (Wd (mw (cutB b))) s).f) (U (St.comp (Wd (mw (cutB b))) s).g) (U (St.comp (Wd (mw (cutB b))) s).h) 0 from fun w ⟨_, _, _, E⟩ => Compress_ok s (cutB b) hs w E)
  have H3 := Lib.hid (show Tells17 (U s.a) (U s.b) (U s.c) (U s.d) (U s.e) (U s.f) (U s.g) (U s.h) _ 0 from fun w _ => Bytes_ok s w)
  have HS := Lib.hid hs
  clear E hs
  go_enter Tryd.func4, Tryd.ntmps4
  go_wp2_with fail
  refine (shown_any _ (HE.out.below' ((Below.refl _ _).alloc (Nat.le_refl _) _))).mono ?_
  rintro e w1 ⟨rfl, hb1⟩
  have hz1 := hb1.size
  simp only [World.size_alloc] at hz1
  have hbx := (hb1.block w.heap.size (by simp)).trans (heap_alloc_new w _)
  obtain ⟨⟨c0, c1, c2, c3, c4, c5, c6, c7⟩, _⟩ := eight hbx
  have HB1 := Lib.hid (((Below.refl _ w).alloc (Nat.le_refl _) _).trans (hb1.mono (by simp)))
  have HX := Lib.hid hbx
  clear hb1 hbx
  go_wp2_with fail
  refine (cut_any b _).mono ?_
  rintro e wc ⟨rfl, rfl⟩
  go_wp2_with fail
  refine (H1.out _ ⟨_, _, _, HE.out.below' HB1.out⟩).mono ?_
  rintro e w2 ⟨rfl, hb2⟩
  have hz2 := hb2.size
  have hbx2 := (hb2.block w.heap.size (by omega)).trans HX.out
  have HB2 := Lib.hid (HB1.out.trans (hb2.mono (by omega)))
  have HX2 := Lib.hid hbx2
  clear c0 c1 c2 c3 c4 c5 c6 c7
  obtain ⟨⟨c0, c1, c2, c3, c4, c5, c6, c7⟩, _⟩ := eight hbx2
  have hl2 : w.heap.size < w2.heap.size := by omega
  clear hb2 hbx2
  go_wp2_with fail
  refine (Schedule_ok (cutB b) HS.out _).mono ?_
  rintro en w3 ⟨G, rfl, hG1, hG2, hcs, hb3⟩
  simp only [World.size_alloc] at hG1
  have hz3 := hb3.size
  simp only [World.size_alloc] at hz3
  have ht3 := (hb3.block w2.heap.size (by simp)).trans (heap_alloc_new w2 _)
  have hs3 := ((hb3.block w.heap.size (by simp; omega)).trans (Below.heap_alloc _ _ _ (by omega))).trans HX2.out
  have HB3 := Lib.hid ((HB2.out.alloc (by omega) _).trans (hb3.mono (by simp; omega)))
  have HT3 := Lib.hid ht3
  have HS3 := Lib.hid hs3
  have HG3 := Lib.hid hcs
  clear hb3 hcs c0 c1 c2 c3 c4 c5 c6 c7
  obtain ⟨⟨c0, c1, c2, c3, c4, c5, c6, c7⟩, _⟩ := eight hs3
  clear ht3 hs3
  go_wp2_with fail
  refine (H3.out _ ⟨_, _, _, HE.out.below' HB3.out⟩).mono ?_
  rintro en w4 ⟨rfl, hb4⟩
  have hz4 := hb4.size
  have ht4 := (hb4.block w2.heap.size (by omega)).trans HT3.out
  have hs4 := (hb4.block w.heap.size (by omega)).trans HS3.out
  have HB4 := Lib.hid (HB3.out.trans (hb4.mono (by omega)))
  have HG4 := Lib.hid (fun j (hj : j < 64) => (hb4.cell (p := ⟨G, j, none⟩) (show G < w3.heap.size from hG2)).trans (HG3.out j hj))
  have hG4 : G < w4.heap.size := by omega
  have HT4 := Lib.hid ht4
  have HS4 := Lib.hid hs4
  clear c0 c1 c2 c3 c4 c5 c6 c7
  obtain ⟨⟨c0, c1, c2, c3, c4, c5, c6, c7⟩, _⟩ := eight hs4
  clear hb4 ht4 hs4
  go_wp2_with fail
  have HE4 := Lib.hid (HE.out.below' HB4.out)
  clear c0 c1 c2 c3 c4 c5 c6 c7
  go_loopw [13] (fun i wr => ∃ k : Nat, k ≤ 64 ∧ i = .int .i64 k ∧ wr.heap[w4.heap.size]? = some (.cells #[.int .i64 (U (St.go (Wd (mw (cutB b))) s k).a), .int .i64 (U (St.go (Wd (mw (cutB b))) s k).b), .int .i64 (U (St.go (Wd (mw (cutB b))) s k).c), .int .i64 (U (St.go (Wd (mw (cutB b))) s k).d), .int .i64 (U (St.go (Wd (mw (cutB b))) s k).e), .int .i64 (U (St.go (Wd (mw (cutB b))) s k).f), .int .i64 (U (St.go (Wd (mw (cutB b))) s k).g), .int .i64 (U (St.go (Wd (mw (cutB b))) s k).h)] 23 (0, 0)) ∧ Below w4.heap.size w4 wr) (fun i _ => 64 - (intOf i).toNat)
  case atStart => exact ⟨0, by omega, rfl, heap_alloc_new w4 _, (Below.refl _ _).alloc (Nat.le_refl _) _⟩
  case round =>
    obtain ⟨k, hk, rfl, hxr, hbr⟩ := hrel
    obtain ⟨t, ht⟩ : ∃ t, St.go (Wd (mw (cutB b))) s k = t := ⟨_, rfl⟩
    rw [ht] at hxr
    have hlx : w4.heap.size < wr.heap.size := (Array.getElem?_eq_some_iff.1 hxr).1
    have HT := Lib.hid ht
    have HXR := Lib.hid hxr
    have HBR := Lib.hid hbr
    have HER := Lib.hid (HE4.out.below' hbr)
    obtain ⟨⟨c0, c1, c2, c3, c4, c5, c6, c7⟩, ⟨f0, f1, f2, f3, f4, f5, f6, f7⟩⟩ := eight hxr
    by_cases hlt : k < 64
    · have hg := (hbr.cell (p := ⟨G, k, none⟩) hG4).trans (HG4.out k hlt)
      have hlg : G < wr.heap.size := by omega
      have i1 : (k : Int) < 64 := by omega
      clear ht hxr hbr
      go_wp2_with fail
      go_cut [14, 15] (fun p e wx => ∃ g, p = .pointer (some ⟨g, 0, none⟩) ∧ e = .int .i64 0 ∧ wx.cell? ⟨g, 0, none⟩ = some (.int .i64 (U (t.step k (Wd (mw (cutB b)) k)).a)) ∧ wx.cell? ⟨g, 1, none⟩ = some (.int .i64 (U (t.step k (Wd (mw (cutB b)) k)).b)) ∧ wx.cell? ⟨g, 2, none⟩ = some (.int .i64 (U (t.step k (Wd (mw (cutB b)) k)).c)) ∧ wx.cell? ⟨g, 3, none⟩ = some (.int .i64 (U (t.step k (Wd (mw (cutB b)) k)).d)) ∧ wx.cell? ⟨g, 4, none⟩ = some (.int .i64 (U (t.step k (Wd (mw (cutB b)) k)).e)) ∧ wx.cell? ⟨g, 5, none⟩ = some (.int .i64 (U (t.step k (Wd (mw (cutB b)) k)).f)) ∧ wx.cell? ⟨g, 6, none⟩ = some (.int .i64 (U (t.step k (Wd (mw (cutB b)) k)).g)) ∧ wx.cell? ⟨g, 7, none⟩ = some (.int .i64 (U (t.step k (Wd (mw (cutB b)) k)).h)) ∧ Below wr.heap.size wr wx)
      case first =>
        go_region_with (first
          | (go_at_call 13; refine (Round_ok t k hlt (Wd (mw (cutB b)) k) _ (a0 := a0) (a1 := a1) (B := B) ?_).mono ?_; (refine HER.out.below ?_; refine Below.mono ?_ HER.out.bw; (repeat (first | (with_reducible exact Below.refl _ _) | (with_reducible refine Below.alloc ?_ (by first | omega | (simp; done) | (simp; omega)) _) | (with_reducible refine Below.setCell ?_ (by first | omega | (simp; done) | (simp; omega)) _) | (with_reducible refine Below.drew ?_)))); rintro e w5 ⟨rfl, hb5⟩; obtain ⟨hc5, hf5⟩ := bcell hb5; have hz5 := hb5.size; simp at hz5; have HB5 := Lib.hid hb5; clear hb5))
        all_goals (go_wp2_with fail; go_meet)
        all_goals refine ⟨_, rfl, rfl, ?_, ?_, ?_, ?_, ?_, ?_, ?_, ?_, ?_⟩
        all_goals (first | (go_simp; done) | ((repeat (first | (with_reducible exact Below.refl _ _) | (with_reducible refine Below.alloc ?_ (by first | omega | (simp; done) | (simp; omega)) _) | (with_reducible refine Below.setCell ?_ (by first | omega | (simp; done) | (simp; omega)) _) | (with_reducible refine Below.drew ?_) | (refine Below.trans ?_ (HB5.out.mono (by first | omega | (simp; done) | (simp; omega)))))); done) | (obtain ⟨⟨q0, q1, q2, q3, q4, q5, q6, q7⟩, _⟩ := eight ((HB5.out.block wr.heap.size (by simp)).trans (heap_alloc_new wr _)); go_simp; done))
      case rest =>
        obtain ⟨g, rfl, rfl, d0, d1, d2, d3, d4, d5, d6, d7, hbw⟩ := hcut
        have hxw := (hbw.block w4.heap.size hlx).trans HXR.out
        clear c0 c1 c2 c3 c4 c5 c6 c7 f0 f1 f2 f3 f4 f5 f6 f7 hg
        obtain ⟨⟨c0, c1, c2, c3, c4, c5, c6, c7⟩, ⟨f0, f1, f2, f3, f4, f5, f6, f7⟩⟩ := eight hxw
        have HXW := Lib.hid hxw
        have HBW := Lib.hid hbw
        clear hxw hbw
        go_wp2
        go_roundw
        case rel =>
          refine ⟨k + 1, by omega, by go_num, ?_, ?_⟩
          · have e := stored8 _ w4.heap.size _ _ _ _ _ _ _ _ (.int .i64 (U (t.step k (Wd (mw (cutB b)) k)).a)) (.int .i64 (U (t.step k (Wd (mw (cutB b)) k)).b)) (.int .i64 (U (t.step k (Wd (mw (cutB b)) k)).c)) (.int .i64 (U (t.step k (Wd (mw (cutB b)) k)).d)) (.int .i64 (U (t.step k (Wd (mw (cutB b)) k)).e)) (.int .i64 (U (t.step k (Wd (mw (cutB b)) k)).f)) (.int .i64 (U (t.step k (Wd (mw (cutB b)) k)).g)) (.int .i64 (U (t.step k (Wd (mw (cutB b)) k)).h)) HXW.out
            rw [show St.go (Wd (mw (cutB b))) s (k + 1) = t.step k (Wd (mw (cutB b)) k) by rw [← HT.out]; rfl]
            exact e
          · exact below8 (HBR.out.trans (HBW.out.mono (by omega))) w4.heap.size (Nat.le_refl _) _ _ _ _ _ _ _ _
        case measure => simp [intOf]; omega
    · have hk64 : k = 64 := by omega
      have i64n : ¬ (k : Int) < 64 := by omega
      clear ht hxr hbr c0 c1 c2 c3 c4 c5 c6 c7 f0 f1 f2 f3 f4 f5 f6 f7
      go_wp2_with fail
      go_loopw [16] (fun i wq => ∃ m : Nat, m ≤ 8 ∧ i = .int .i64 m ∧ wq.heap[w4.heap.size]? = some (.cells (mixA t s m) 23 (0, 0)) ∧ Below w4.heap.size w4 wq) (fun i _ => 8 - (intOf i).toNat)
      case atStart => exact ⟨0, by omega, rfl, HXR.out, HBR.out⟩
      case round =>
        obtain ⟨m, hm, rfl, hxq, hbq⟩ := hrel
        have hsq := (hbq.block w.heap.size (by omega)).trans HS4.out
        have htq := (hbq.block w2.heap.size (by omega)).trans HT4.out
        have HXQ := Lib.hid hxq
        have HBQ := Lib.hid hbq
        by_cases hlt : m < 8
        · have hx : wr.cell? ⟨w4.heap.size, m, none⟩ = some (.int .i64 (U (t.w m))) := (cell_of_row wr w4.heap.size m _ _ _ hxq).trans (mixA_get t s m hlt)
          have hy : wr.cell? ⟨w.heap.size, m, none⟩ = some (.int .i64 (U (s.w m))) := (cell_of_row wr w.heap.size m _ _ _ hsq).trans (stA_get s m hlt)
          have hf : wr.frozen? ⟨w4.heap.size, m, none⟩ = false := frozen_of_row wr w4.heap.size m _ _ hxq
          have i1 : (m : Int) < 8 := by omega
          have hadd := add_wrap (t.w m) (s.w m)
          clear hxq hbq hsq htq
          go_wp2_with fail
          go_still_tail 9, (by kernel_rfl)
          change wpList _ _ _ _ _ wr.drew
          have hxd : wr.drew.cell? ⟨w4.heap.size, m, none⟩ = some (.int .i64 (U (t.w m))) := hx
          have hfd : wr.drew.frozen? ⟨w4.heap.size, m, none⟩ = false := hf
          go_wp2
          go_roundw
          case rel =>
            refine ⟨m + 1, by omega, by go_num, ?_, (HBQ.out.setCell (p := ⟨w4.heap.size, m, none⟩) (Nat.le_refl _) _).drew⟩
            have e := heap_setCell_same wr w4.heap.size m _ _ (.int .i64 (U ((t.add s).w m))) HXQ.out
            rw [mixA_set t s m hlt, add_w t s m hlt] at e
            exact e
          case measure => simp [intOf]; omega
        · obtain rfl : m = 8 := by omega
          rw [mixA_all] at hxq
          obtain ⟨⟨c0, c1, c2, c3, c4, c5, c6, c7⟩, _⟩ := eight hxq
          obtain ⟨⟨d0, d1, d2, d3, d4, d5, d6, d7⟩, _⟩ := eight htq
          have hcomp : St.comp (Wd (mw (cutB b))) s = t.add s := by rw [← HT.out, hk64]; rfl
          rw [hcomp] at d0 d1 d2 d3 d4 d5 d6 d7
          have h8 := eq8 (U (t.add s).a) (U (t.add s).b) (U (t.add s).c) (U (t.add s).d) (U (t.add s).e) (U (t.add s).f) (U (t.add s).g) (U (t.add s).h) (U (t.add s).a) (U (t.add s).b) (U (t.add s).c) (U (t.add s).d) (U (t.add s).e) (U (t.add s).f) (U (t.add s).g) (U (t.add s).h) wr
          simp only [beq_self_eq_true, Bool.and_self] at h8
          clear hxq hbq hsq htq
          go_wp2
          go_ret
          exact ⟨rfl, HB4.out.trans (HBQ.out.mono (by omega))⟩
theorem walkRoundsParts (x0 x1 x2 x3 x4 x5 x6 x7 : Int) (b : ByteArray) (w : World) (hE : ∃ a0 a1 B, Env a0 a1 B w) :
    Calls Tryd.prog 4 #[.agg #[.int .i64 x0, .int .i64 x1, .int .i64 x2, .int .i64 x3, .int .i64 x4, .int .i64 x5, .int .i64 x6, .int .i64 x7], .string b] w fun e w' => e = .returned (.bool true) ∧ Below w.heap.size w w' := by
  obtain ⟨a0, a1, B, E⟩ := hE
  obtain ⟨f, hf, hf0, hf1⟩ := sched_f (cutB b)
  rcases words_or x0 x1 x2 x3 x4 x5 x6 x7 with ⟨s, rfl, rfl, rfl, rfl, rfl, rfl, rfl, rfl⟩ | hn
  · by_cases h : (cutB b).size = 64
    · exact walkPartsOk s b h w E
    · exact walkPartsBad (U s.a) (U s.b) (U s.c) (U s.d) (U s.e) (U s.f) (U s.g) (U s.h) b _ 10 f 0 (fun w ⟨_, _, _, E⟩ => Compress_badBlock s (cutB b) h w E) hf (fun w _ => Bytes_ok s w) ⟨Or.inl rfl, Or.inl (hf1.2 h)⟩ w E
  · refine walkPartsBad x0 x1 x2 x3 x4 x5 x6 x7 b _ 11 f 11 (fun w ⟨_, _, _, E⟩ => Compress_badState x0 x1 x2 x3 x4 x5 x6 x7 hn (cutB b) w E) hf (fun w ⟨_, _, _, E⟩ => Bytes_bad x0 x1 x2 x3 x4 x5 x6 x7 hn w E) ⟨Or.inr rfl, ?_⟩ w E
    by_cases h : (cutB b).size = 64
    · exact Or.inr ⟨hf0.2 h, rfl⟩
    · exact Or.inl (hf1.2 h)

set_option maxRecDepth 100000 in
theorem contractRoundsParts (H : Type) (enc : TypeId × Value → H) (W : World) (base : Nat) (args : Array Value) (ds gs : List (DataW H)) (before : List MemPlace)
    (hval : ∀ (j : Nat) t v, Tryd.f4.params[j]? = some t → args[j]? = some v → Value.okWide Tryd.prog W .any base t v)
    (hW : DataW.Whole enc Tryd.prog Tryd.f4.params.toList Rows.roundsPartsSpec.vars false W args.toList ds gs before) (hL : laidMetH Tryd.prog laid3 W) :
    Calls Tryd.prog 4 args W fun e W' => ∃ v, e = .returned v ∧ Rows.roundsPartsSpec.post enc Tryd.prog Tryd.f4 false true false false W args v W' := by
  have hW' := hW
  obtain ⟨p, q, hA0, hV, rfl, hfz, hnd⟩ := hW
  have hA : DataW.TrodAll enc Tryd.prog W 0 (fun _ => true) true Tryd.f4.params.toList args.toList ds p := hA0
  rw [Tryd.params4] at hA hval
  obtain ⟨v0, vs0, d0, ds0, p0, q0, hargs, rfl, rfl, h0, r0⟩ := trodAll_cons hA
  obtain ⟨v1, vs1, d1, ds1, p1, q1, rfl, rfl, rfl, h1, r1⟩ := trodAll_cons r0
  obtain ⟨rfl, rfl, rfl⟩ := trodAll_nil r1
  obtain rfl : args = #[v0, v1] := by cases args; simp_all
  obtain ⟨rfl, rfl⟩ := trodVars_none hV
  obtain ⟨x0, x1, x2, x3, x4, x5, x6, x7, rfl, rfl, rfl, w0⟩ := open_state (hval 0 23 v0 rfl rfl) h0
  obtain ⟨b, rfl, rfl, rfl, w1⟩ := open_string Tryd.underlying9 (hval 1 9 v1 rfl rfl) h1
  clear hA0
  simp only [List.append_nil] at hW'
  refine (walkRoundsParts x0 x1 x2 x3 x4 x5 x6 x7 b W (env_of hL)).mono fun e W' ⟨he, hg⟩ => ?_
  subst he
  refine ⟨_, rfl, _, _, _, [], [], [], hW', ?_, ?_, rfl, hg.frame _, fun h => by cases h⟩
  · exact trodAll_cons_mk (shut_bool Tryd.underlying4 _) trodAll_mk0
  · exact (trodAll_cons_mk (shut_state w0) (trodAll_cons_mk (shut_string Tryd.underlying9 w1) trodAll_mk0))

set_option maxRecDepth 100000 in
theorem liftedRoundsParts (os : Os) (started : os.Started) (H : Type) (enc : TypeId × Value → H) :
    ReturnsInHanded {} Tryd.checked os 4 .any (fun w args => (Rows.roundsPartsSpec.pre enc Tryd.prog Tryd.f4 [] false w args ∧ laidMetH Tryd.prog laid3 w) ∧ sizedMet enc Tryd.prog Tryd.f4 (OpenSpec.ofChange Rows.roundsPartsSpec) false w args)
      (Rows.roundsPartsSpec.post enc Tryd.prog Tryd.f4 false true false false) := by
  refine returnsInHanded_of_change_and (C := Tryd.checked) (X := fun w _ => laidMetH Tryd.prog laid3 w) (fun _ _ _ hh h => h.of_heap hh) own started (by kernel_rfl) Tryd.func4
    (ChangeSpec.witness_shaped (enc := enc) (C := Tryd.checked) (os := os) (X := fun w _ => laidMetH Tryd.prog laid3 w) false (World.doorLaid Tryd.prog 57 os) #[.agg #[.int .i64 0, .int .i64 0, .int .i64 0, .int .i64 0, .int .i64 0, .int .i64 0, .int .i64 0, .int .i64 0], .string .empty] 8 rfl (World.shaped_of_RefB (by kernel_rfl) (by kernel_rfl)) (by kernel_rfl) (by kernel_rfl) (by kernel_rfl) (door_met os _)) ?_
  intro W base args ds gs before hval hW _ _ hL _
  exact contractRoundsParts H enc W base args ds gs before hval hW hL
theorem roundsParts_said : Rows.RoundsPartsSaid :=
  OpenClaim.holds_of_wide 4 Tryd.f4 rfl rfl rfl rfl rfl rfl rfl ⟨rfl, rfl, rfl, rfl, rfl⟩ rfl rfl rfl rfl rfl (by kernel_rfl) Tryd.func4 (by kernel_rfl)
    (of_decide_eq_true (by kernel_rfl)) (by unfold Func.isWrapper; first | (rw [if_pos (by decide +kernel)]; kernel_rfl) | (rw [if_neg (by decide +kernel)]; exact ⟨rfl, rfl⟩))
    (fun os started H enc _ => liftedRoundsParts os started H enc)
/-- THE TIED CARD. -/
theorem roundsParts_card : Rows.RoundsPartsCardSaid :=
  Claim7.holds_tied_plain_at .later [] _ _ _ _ roundsParts_said (fun _ h => by cases h) (by kernel_rfl) (fun _ h => by cases h) roundsParts_row_tie rfl ⟨rfl, rfl⟩ (by kernel_rfl) rfl
    (fun f fn hf hfn => by
      obtain rfl : f = 4 := Option.some.inj ((show Tryd.prog.funcNamed "sigillary/sigillarylaw01.RoundsParts" = some 4 by kernel_rfl).symm.trans hf) |>.symm
      obtain rfl : fn = Tryd.f4 := (Option.some.inj (Tryd.func4.symm.trans hfn)).symm
      exact ⟨by kernel_rfl, fun j t ht => by
        rw [Tryd.params4] at ht
        have hm : t ∈ [23, 9] := by simpa using Array.mem_of_getElem? ht
        have hall : ([23, 9].all fun u => !Tryd.prog.wantsStandIn u) = true := by kernel_rfl
        exact (show Tryd.prog.wantsStandIn t = false by simpa using List.all_eq_true.1 hall t hm)⟩)
    (by kernel_rfl)
end Go.Proofs.YtlnhngefhcilfaaDoor
