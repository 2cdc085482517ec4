/- A message's sum is what the rounds' states make of it, with its end, block by block, for every text. Conditions: the laid variables, as the statement lists them. -/
import Derived.Test.YtjimpfcgcbbipaaDoorEndsW
import Derived.Shelf.Abstract
import Derived.Shelf.RegionOpen
import Derived.Deep.DeepCutAuto
import Derived.Laws.IdiomStrings
namespace Go.Proofs.YtjimpfcgcbbipaaDoor
open Go.ChangeShapes Go.WideShapes Go.ChangeAt Go.RowKit Go.Shelf
open Go.ChangeMaps (open_string shut_string)
open Rd Dg Box
theorem bcell {W w1 : World} (hb : Below W.heap.size W w1) : (∀ b o, b < W.heap.size → w1.cell? ⟨b, o, none⟩ = W.cell? ⟨b, o, none⟩) ∧ (∀ b o, b < W.heap.size → w1.frozen? ⟨b, o, none⟩ = W.frozen? ⟨b, o, none⟩) :=
  ⟨fun b o h => hb.cell (p := ⟨b, o, none⟩) h, fun b o h => hb.frozen (p := ⟨b, o, none⟩) h⟩
theorem stored8 (w1 : World) (g : Nat) (v0 v1 v2 v3 v4 v5 v6 v7 u0 u1 u2 u3 u4 u5 u6 u7 : Value) (h : w1.heap[g]? = some (.cells #[v0, v1, v2, v3, v4, v5, v6, v7] 45 (0, 0))) :
    ((((((((w1.setCell ⟨g, 0, none⟩ u0).setCell ⟨g, 1, none⟩ u1).setCell ⟨g, 2, none⟩ u2).setCell ⟨g, 3, none⟩ u3).setCell ⟨g, 4, none⟩ u4).setCell ⟨g, 5, none⟩ u5).setCell ⟨g, 6, none⟩ u6).setCell ⟨g, 7, none⟩ u7).heap[g]? = some (.cells #[u0, u1, u2, u3, u4, u5, u6, u7] 45 (0, 0)) := by
  have h0 := heap_setCell_same w1 g 0 _ _ u0 h
  have h1 := heap_setCell_same _ g 1 _ _ u1 h0
  have h2 := heap_setCell_same _ g 2 _ _ u2 h1
  have h3 := heap_setCell_same _ g 3 _ _ u3 h2
  have h4 := heap_setCell_same _ g 4 _ _ u4 h3
  have h5 := heap_setCell_same _ g 5 _ _ u5 h4
  have h6 := heap_setCell_same _ g 6 _ _ u6 h5
  have h7 := heap_setCell_same _ g 7 _ _ u7 h6
  have e : ((((((((#[v0, v1, v2, v3, v4, v5, v6, v7].setIfInBounds 0 u0).setIfInBounds 1 u1).setIfInBounds 2 u2).setIfInBounds 3 u3).setIfInBounds 4 u4).setIfInBounds 5 u5).setIfInBounds 6 u6).setIfInBounds 7 u7 : Array Value) = #[u0, u1, u2, u3, u4, u5, u6, u7] := by simp
  rw [e] at h7
  exact h7
theorem ext_blk (X : ByteArray) (M : List UInt8) (hX : X.data.toList = M) (k : Nat) (h : 64 * k + 64 ≤ M.length) : X.extract (64 * k) (64 * k + 64) = blkB M k := by
  apply ByteArray.ext
  apply Array.toList_inj.1
  rw [ByteArray.data_extract, Array.toList_extract, hX, List.extract_eq_take_drop]
  unfold blkB
  apply List.ext_getElem?
  intro i
  by_cases hi : i < 64
  · rw [List.getElem?_take_of_lt (by omega), List.getElem?_drop, List.getElem?_map, List.getElem?_range hi, List.getElem?_eq_getElem (by omega)]
    simp [List.getD_eq_getElem?_getD, List.getElem?_eq_getElem (show 64 * k + i < M.length by omega)]
  · rw [List.getElem?_eq_none (by simp; omega), List.getElem?_eq_none (by simp; omega)]
set_option maxRecDepth 100000 in
set_option maxHeartbeats 4000000 in
theorem walkBlocks (s : ByteArray) (B : Nat) (w : World) (E : Env B w) :
    Calls Tryd.prog 6 #[.string s] w fun e w' => e = .returned (.bool true) ∧ Below w.heap.size w w' := by
  have HE0 := Lib.hid E
  have hBw := E.bw
  obtain ⟨S, hS⟩ : ∃ S, cutB s = S := ⟨_, rfl⟩
  have hSs : S.size ≤ 300 := by rw [← hS]; exact cutB_size s
  have hcS := fun w => cut_any s w
  rw [hS] at hcS
  have HC := Lib.hid hcS
  obtain ⟨P, hP⟩ : ∃ Q : ByteArray, (⟨(endL S.size).toArray⟩ : ByteArray) = Q := ⟨_, rfl⟩
  have he1 := fun w => End_ok S.size (by omega) w
  rw [hP] at he1
  have HE1' := Lib.hid he1
  have hP72 : P.size ≤ 72 := by
    have h : P.size = (endL S.size).length := by rw [← hP]; rfl
    rw [h]; exact (endL_bounds _).2
  obtain ⟨X, hX⟩ : ∃ X : ByteArray, S ++ P = X := ⟨_, rfl⟩
  obtain ⟨M, hM⟩ : ∃ M, S.data.toList ++ endL S.data.toList.length = M := ⟨_, rfl⟩
  have hXl : X.data.toList = M := by rw [← hX, ← hM, ByteArray.data_append, Array.toList_append, ← hP]; rfl
  have hXM : X.size = M.length := by rw [← hXl, Array.length_toList]; rfl
  have hX372 : X.size ≤ 372 := by rw [← hX, ByteArray.size_append]; omega
  have hM64 : M.length % 64 = 0 := by rw [← hM, List.length_append]; exact endL_whole _
  obtain ⟨n, hn⟩ : ∃ n, M.length / 64 = n := ⟨_, rfl⟩
  have hXn : X.size = 64 * n := by omega
  have hX64 : (X.size : Int) % 64 = 0 := by omega
  obtain ⟨q, hq⟩ : ∃ q, dig S.data.toList = q := ⟨_, rfl⟩
  have hqs : q = ⟨(St.by (stOf M n) 8).toArray⟩ := by rw [← hq]; unfold dig; rw [hM, hn]
  have hs1 := fun w E => Sum_ok S (by omega) B w E
  rw [hq] at hs1
  have HS1 := Lib.hid hs1
  have HX := Lib.hid hX
  have HXL := Lib.hid hXl
  have HXM := Lib.hid hXM
  have HXN := Lib.hid hXn
  have HQ := Lib.hid hqs
  clear E hS hcS he1 hP hX hM hXl hXM hM64 hn hXn hq hqs hs1
  go_enter Tryd.func6, Tryd.ntmps6
  go_wp2_with fail
  refine (shown_any B _ HE0.out).mono ?_
  rintro e w1 ⟨rfl, hb1⟩
  have hz1 := hb1.size
  have HB1 := Lib.hid hb1
  have HE1 := Lib.hid (HE0.out.below' hb1)
  clear hb1
  go_wp2_with fail
  refine (HC.out _).mono ?_
  rintro e w' ⟨rfl, rfl⟩
  go_wp2_with fail
  refine (HE1'.out _).mono ?_
  rintro e w2 ⟨rfl, hb2⟩
  have hz2 := hb2.size
  have HB2 := Lib.hid (HB1.out.trans (hb2.mono (by have := HB1.out.size; omega)))
  have HE2 := Lib.hid (HE1.out.below' hb2)
  clear hb2
  go_wp2_with fail
  refine (HS1.out _ HE2.out).mono ?_
  rintro e w3 ⟨rfl, hb3⟩
  have hz3 := hb3.size
  have HB3 := Lib.hid (HB2.out.trans (hb3.mono (by have := HB2.out.size; omega)))
  have HE3 := Lib.hid (HE2.out.below' hb3)
  clear hb3
  go_upto_region 6 with fail
  rw [HX.out]
  go_wp2_with fail
  refine (First_any _).mono ?_
  rintro e w4 ⟨rfl, hb4⟩
  have hz4 := hb4.size
  have HB4 := Lib.hid (HB3.out.trans (hb4.mono (by have := HB3.out.size; omega)))
  have HE4 := Lib.hid (HE3.out.below' hb4)
  clear hb4
  go_wp2_with fail
  rename_i hno
  go_loopw [10] (fun i wr => ∃ k t : Nat, k ≤ n ∧ t = 64 * k ∧ i = .int .i64 (t : Int) ∧ wr.heap[w4.heap.size]? = some (.cells #[.int .i64 (U (stOf M k).a), .int .i64 (U (stOf M k).b), .int .i64 (U (stOf M k).c), .int .i64 (U (stOf M k).d), .int .i64 (U (stOf M k).e), .int .i64 (U (stOf M k).f), .int .i64 (U (stOf M k).g), .int .i64 (U (stOf M k).h)] 45 (0, 0)) ∧ Below w4.heap.size w4 wr) (fun i _ => X.size - (intOf i).toNat)
  case atStart => exact ⟨0, 0, Nat.zero_le _, rfl, rfl, heap_alloc_new w4 _, (Below.refl _ _).alloc (Nat.le_refl _) _⟩
  case round =>
    obtain ⟨k, t, hk, ht, rfl, hxr, hbr⟩ := hrel
    obtain ⟨st, hst⟩ : ∃ st, stOf M k = st := ⟨_, rfl⟩
    rw [hst] at hxr
    have hlx : w4.heap.size < wr.heap.size := (Array.getElem?_eq_some_iff.1 hxr).1
    have HST := Lib.hid hst
    have HT := Lib.hid ht
    have HXR := Lib.hid hxr
    have HBR := Lib.hid hbr
    have HER := Lib.hid (HE4.out.below' hbr)
    obtain ⟨⟨c0, c1, c2, c3, c4, c5, c6, c7⟩, ⟨f0, f1, f2, f3, f4, f5, f6, f7⟩⟩ := eight hxr
    by_cases hlt : k < n
    · have i1 : (t : Int) + 64 ≤ (X.size : Int) := by have := HXN.out; omega
      have k1 : ((t : Int) + 64).toNat = t + 64 := by omega
      have e1 : IntKind.i64.wrap ((t : Int) + 64) = (t : Int) + 64 := by rw [IntWalk.i64_left]; unfold wrap64; omega
      obtain ⟨Q, hQ⟩ : ∃ Q : ByteArray, X.extract t (t + 64) = Q := ⟨_, rfl⟩
      have hQb : Q = blkB M k := by rw [← hQ, ht]; exact ext_blk X M HXL.out k (by have := HXM.out; have := HXN.out; omega)
      have hQ64 : Q.size = 64 := by rw [hQb]; exact blkB_size M k
      obtain ⟨s1, hs1⟩ : ∃ s1, St.comp (Wd (mw Q)) st = s1 := ⟨_, rfl⟩
      have HS1' : Hid (s1 = stOf M (k + 1)) := Lib.hid (by rw [← hs1, hQb, ← hst]; rfl)
      have hC := fun w E => Compress_ok st Q hQ64 (B := B) w E
      rw [hs1] at hC
      have HC' := Lib.hid hC
      clear ht hst hxr hbr hQb hs1 hC
      go_wp2_with fail
      go_cut [11, 12] (fun p e wx => ∃ g, p = .pointer (some ⟨g, 0, none⟩) ∧ e = .int .i64 0 ∧ wx.cell? ⟨g, 0, none⟩ = some (.int .i64 (U s1.a)) ∧ wx.cell? ⟨g, 1, none⟩ = some (.int .i64 (U s1.b)) ∧ wx.cell? ⟨g, 2, none⟩ = some (.int .i64 (U s1.c)) ∧ wx.cell? ⟨g, 3, none⟩ = some (.int .i64 (U s1.d)) ∧ wx.cell? ⟨g, 4, none⟩ = some (.int .i64 (U s1.e)) ∧ wx.cell? ⟨g, 5, none⟩ = some (.int .i64 (U s1.f)) ∧ wx.cell? ⟨g, 6, none⟩ = some (.int .i64 (U s1.g)) ∧ wx.cell? ⟨g, 7, none⟩ = some (.int .i64 (U s1.h)) ∧ Below wr.heap.size wr wx)
      case first =>
        go_region_with (first
          | (go_at_call 26; refine (HC'.out _ ?_).mono ?_; (refine HER.out.below ?_; refine Below.mono ?_ HER.out.bw; (repeat (first | (with_reducible exact Below.refl _ _) | (with_reducible refine Below.alloc ?_ (by first | omega | (simp; done) | (simp; omega)) _) | (with_reducible refine Below.setCell ?_ (by first | omega | (simp; done) | (simp; omega)) _) | (with_reducible refine Below.drew ?_)))); rintro e w5 ⟨rfl, hb5⟩; obtain ⟨hc5, hf5⟩ := bcell hb5; have hz5 := hb5.size; simp at hz5; have HB5 := Lib.hid hb5; clear hb5))
        all_goals (go_wp2_with fail; go_meet)
        all_goals refine ⟨_, rfl, rfl, ?_, ?_, ?_, ?_, ?_, ?_, ?_, ?_, ?_⟩
        all_goals (first | (go_simp; done) | ((repeat (first | (with_reducible exact Below.refl _ _) | (with_reducible refine Below.alloc ?_ (by first | omega | (simp; done) | (simp; omega)) _) | (with_reducible refine Below.setCell ?_ (by first | omega | (simp; done) | (simp; omega)) _) | (with_reducible refine Below.drew ?_) | (refine Below.trans ?_ (HB5.out.mono (by first | omega | (simp; done) | (simp; omega)))))); done) | (obtain ⟨⟨q0, q1, q2, q3, q4, q5, q6, q7⟩, _⟩ := eight ((HB5.out.block wr.heap.size (by simp)).trans (heap_alloc_new wr _)); go_simp; done))
      case rest =>
        obtain ⟨g, rfl, rfl, d0, d1, d2, d3, d4, d5, d6, d7, hbw⟩ := hcut
        have hxw := (hbw.block w4.heap.size hlx).trans HXR.out
        clear c0 c1 c2 c3 c4 c5 c6 c7 f0 f1 f2 f3 f4 f5 f6 f7
        obtain ⟨⟨c0, c1, c2, c3, c4, c5, c6, c7⟩, ⟨f0, f1, f2, f3, f4, f5, f6, f7⟩⟩ := eight hxw
        have HXW := Lib.hid hxw
        have HBW := Lib.hid hbw
        clear hxw hbw
        go_wp2
        go_roundw
        case rel =>
          refine ⟨k + 1, t + 64, by omega, by have := HT.out; omega, by go_num, ?_, ?_⟩
          · have e := stored8 _ w4.heap.size _ _ _ _ _ _ _ _ (.int .i64 (U s1.a)) (.int .i64 (U s1.b)) (.int .i64 (U s1.c)) (.int .i64 (U s1.d)) (.int .i64 (U s1.e)) (.int .i64 (U s1.f)) (.int .i64 (U s1.g)) (.int .i64 (U s1.h)) HXW.out
            rw [← HS1'.out]
            exact e
          · exact below8 (HBR.out.trans (HBW.out.mono (by omega))) w4.heap.size (Nat.le_refl _) _ _ _ _ _ _ _ _
        case measure => simp [intOf]; omega
    · have hkn : k = n := by omega
      have i1 : ¬ (t : Int) + 64 ≤ (X.size : Int) := by have := HXN.out; omega
      have hB := fun w => Bytes_ok st w
      obtain ⟨y, hy⟩ : ∃ y : ByteArray, (⟨(St.by st 8).toArray⟩ : ByteArray) = y := ⟨_, rfl⟩
      have hyq : y = q := by rw [← hy, ← hst, hkn, HQ.out]
      have e1 : IntKind.i64.wrap ((t : Int) + 64) = (t : Int) + 64 := by have := HXN.out; rw [IntWalk.i64_left]; unfold wrap64; omega
      rw [hy, hyq] at hB
      have HBY := Lib.hid hB
      clear ht hst hxr hbr hB hy hyq
      go_wp2_with fail
      refine (HBY.out _).mono ?_
      rintro e w6 ⟨rfl, hb6⟩
      have HB6 := Lib.hid hb6
      clear hb6
      go_wp2
      go_ret
      exact ⟨rfl, (HB4.out.trans (HBR.out.mono (by have := HB4.out.size; omega))).trans (HB6.out.mono (by have := HB4.out.size; omega))⟩
theorem walkDigestBlocks (s : ByteArray) (w : World) (hE : ∃ B, Env B w) :
    Calls Tryd.prog 6 #[.string s] w fun e w' => e = .returned (.bool true) ∧ Below w.heap.size w w' := by
  obtain ⟨B, E⟩ := hE
  exact walkBlocks s B w E

set_option maxRecDepth 100000 in
theorem contractDigestBlocks (H : Type) (enc : TypeId × Value → H) (W : World) (base : Nat) (args : Array Value) (ds gs : List (DataW H)) (before : List MemPlace)
    (hval : ∀ (j : Nat) t v, Tryd.f6.params[j]? = some t → args[j]? = some v → Value.okWide Tryd.prog W .any base t v)
    (hW : DataW.Whole enc Tryd.prog Tryd.f6.params.toList Rows.digestBlocksSpec.vars false W args.toList ds gs before) (hL : laidMetH Tryd.prog laid5 W) :
    Calls Tryd.prog 6 args W fun e W' => ∃ v, e = .returned v ∧ Rows.digestBlocksSpec.post enc Tryd.prog Tryd.f6 false true false false W args v W' := by
  have hW' := hW
  obtain ⟨p, q, hA0, hV, rfl, hfz, hnd⟩ := hW
  have hA : DataW.TrodAll enc Tryd.prog W 0 (fun _ => true) true Tryd.f6.params.toList args.toList ds p := hA0
  rw [Tryd.params6] at hA hval
  obtain ⟨v0, vs0, d0, ds0, p0, q0, hargs, rfl, rfl, h0, r0⟩ := trodAll_cons hA
  obtain ⟨rfl, rfl, rfl⟩ := trodAll_nil r0
  obtain rfl : args = #[v0] := by cases args; simp_all
  obtain ⟨rfl, rfl⟩ := trodVars_none hV
  obtain ⟨s, rfl, rfl, rfl, w0⟩ := open_string Tryd.underlying9 (hval 0 9 v0 rfl rfl) h0
  clear hA0
  simp only [List.append_nil] at hW'
  refine (walkDigestBlocks s W (env_of hL)).mono fun e W' ⟨he, hg⟩ => ?_
  subst he
  refine ⟨_, rfl, _, _, _, [], [], [], hW', ?_, ?_, rfl, hg.frame _, fun h => by cases h⟩
  · exact trodAll_cons_mk (shut_bool Tryd.underlying4 _) trodAll_mk0
  · exact (trodAll_cons_mk (shut_string Tryd.underlying9 w0) trodAll_mk0)

set_option maxRecDepth 100000 in
theorem liftedDigestBlocks (os : Os) (started : os.Started) (H : Type) (enc : TypeId × Value → H) :
    ReturnsInHanded {} Tryd.checked os 6 .any (fun w args => (Rows.digestBlocksSpec.pre enc Tryd.prog Tryd.f6 [] false w args ∧ laidMetH Tryd.prog laid5 w) ∧ sizedMet enc Tryd.prog Tryd.f6 (OpenSpec.ofChange Rows.digestBlocksSpec) false w args)
      (Rows.digestBlocksSpec.post enc Tryd.prog Tryd.f6 false true false false) := by
  refine returnsInHanded_of_change_and (C := Tryd.checked) (X := fun w _ => laidMetH Tryd.prog laid5 w) (fun _ _ _ hh h => h.of_heap hh) own started (by kernel_rfl) Tryd.func6
    (ChangeSpec.witness_shaped (enc := enc) (C := Tryd.checked) (os := os) (X := fun w _ => laidMetH Tryd.prog laid5 w) false (World.doorLaid Tryd.prog 102 os) #[.string .empty] 8 rfl (World.shaped_of_RefB (by kernel_rfl) (by kernel_rfl)) (by kernel_rfl) (by kernel_rfl) (by kernel_rfl) (door_met os _)) ?_
  intro W base args ds gs before hval hW _ _ hL _
  exact contractDigestBlocks H enc W base args ds gs before hval hW hL
theorem digestBlocks_said : Rows.DigestBlocksSaid :=
  OpenClaim.holds_of_wide 6 Tryd.f6 rfl rfl rfl rfl rfl rfl rfl ⟨rfl, rfl, rfl, rfl, rfl⟩ rfl rfl rfl rfl rfl (by kernel_rfl) Tryd.func6 (by kernel_rfl)
    (of_decide_eq_true (by kernel_rfl)) (by unfold Func.isWrapper; first | (rw [if_pos (by decide +kernel)]; kernel_rfl) | (rw [if_neg (by decide +kernel)]; exact ⟨rfl, rfl⟩))
    (fun os started H enc _ => liftedDigestBlocks os started H enc)
/-- THE TIED CARD. -/
theorem digestBlocks_card : Rows.DigestBlocksCardSaid :=
  Claim7.holds_tied_plain_at .later [] _ _ _ _ digestBlocks_said (fun _ h => by cases h) (by kernel_rfl) (fun _ h => by cases h) digestBlocks_row_tie rfl ⟨rfl, rfl⟩ (by kernel_rfl) rfl
    (fun f fn hf hfn => by
      obtain rfl : f = 6 := Option.some.inj ((show Tryd.prog.funcNamed "sigillary/sigillarylaw02.DigestBlocks" = some 6 by kernel_rfl).symm.trans hf) |>.symm
      obtain rfl : fn = Tryd.f6 := (Option.some.inj (Tryd.func6.symm.trans hfn)).symm
      exact ⟨by kernel_rfl, fun j t ht => by
        rw [Tryd.params6] at ht
        have hm : t ∈ [9] := by simpa using Array.mem_of_getElem? ht
        have hall : ([9].all fun u => !Tryd.prog.wantsStandIn u) = true := by kernel_rfl
        exact (show Tryd.prog.wantsStandIn t = false by simpa using List.all_eq_true.1 hall t hm)⟩)
    (by kernel_rfl)
end Go.Proofs.YtjimpfcgcbbipaaDoor
