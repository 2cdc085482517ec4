/- The reference's sum of a text is the program's. Conditions: the table of the reference's constants, as it is laid. -/
import Derived.Test.YthojdcmkajmdjaaDoorRefEnd
import Derived.Test.YthojdcmkajmdjaaDoorRh
import Derived.Test.YthojdcmkajmdjaaDoorBlk0
import Derived.Test.YthojdcmkajmdjaaDoorRefD
import Derived.Test.YthojdcmkajmdjaaDoorDoor6
namespace Go.Proofs.YthojdcmkajmdjaaDoor
open Go.ChangeShapes Go.WideShapes Go.ChangeAt Go.RowKit Go.Shelf
open Go.ChangeMaps (open_string shut_string)
open Rd Dg Box
set_option maxRecDepth 100000 in
set_option maxHeartbeats 4000000 in
theorem RefSum_ok (S : ByteArray) (hSs : S.size ≤ 100000) (w : World) (E : Tab w) :
    Calls Tryd.prog 23 #[.string S] w fun e w' => e = .returned (.tuple #[.string (dig S.data.toList), .int .i64 0]) ∧ Below w.heap.size w w' := by
  have HE0 := Lib.hid E
  have hBw := E.1
  obtain ⟨P, hP⟩ : ∃ Q : ByteArray, (⟨(endL S.size).toArray⟩ : ByteArray) = Q := ⟨_, rfl⟩
  have he1 := fun w => RefEnd_ok S.size (by omega) w
  rw [hP] at he1
  have HE1' := Lib.hid he1
  have hP72 : P.size ≤ 72 := by
    have h : P.size = (endL S.size).length := by rw [← hP]; rfl
    rw [h]; exact (endL_bounds _).2
  obtain ⟨X, hX⟩ : ∃ X : ByteArray, S ++ P = X := ⟨_, rfl⟩
  obtain ⟨M, hM⟩ : ∃ M, S.data.toList ++ endL S.data.toList.length = M := ⟨_, rfl⟩
  have hXl : X.data.toList = M := by rw [← hX, ← hM, ByteArray.data_append, Array.toList_append, ← hP]; rfl
  have hXM : X.size = M.length := by rw [← hXl, Array.length_toList]; rfl
  have hX372 : X.size ≤ 100072 := by rw [← hX, ByteArray.size_append]; omega
  have hM64 : M.length % 64 = 0 := by rw [← hM, List.length_append]; exact endL_whole _
  obtain ⟨n, hn⟩ : ∃ n, M.length / 64 = n := ⟨_, rfl⟩
  have hXn : X.size = 64 * n := by omega
  obtain ⟨q, hq⟩ : ∃ q, dig S.data.toList = q := ⟨_, rfl⟩
  have hqs : q = ⟨(St.by (stOf M n) 8).toArray⟩ := by rw [← hq]; unfold dig; rw [hM, hn]
  rw [hq]
  have HX := Lib.hid hX
  have HXL := Lib.hid hXl
  have HXM := Lib.hid hXM
  have HXN := Lib.hid hXn
  have HQ := Lib.hid hqs
  clear E he1 hP hX hM hXl hXM hM64 hn hXn hq hqs
  go_enter Tryd.func23, Tryd.ntmps23
  go_wp2_with fail
  refine (HE1'.out _).mono ?_
  rintro e w1 ⟨rfl, hb1⟩
  have hz1 := hb1.size
  have HB1 := Lib.hid hb1
  have HE1 := Lib.hid (HE0.out.below hb1 (by omega))
  clear hb1
  go_upto_region 5 with fail
  rw [HX.out]
  go_wp2_with fail
  refine (First20 _).mono ?_
  rintro e w2 ⟨rfl, hb2⟩
  have hz2 := hb2.size
  have HB2 := Lib.hid (HB1.out.trans (hb2.mono (by have := HB1.out.size; omega)))
  have HE2 := Lib.hid (HE1.out.below hb2 (by omega))
  clear hb2
  go_wp2_with fail
  go_loopw [7] (fun i wr => ∃ k t : Nat, k ≤ n ∧ t = 64 * k ∧ i = .int .i64 (t : Int) ∧ wr.heap[w2.heap.size]? = some (.cells #[.int .i64 (U (stOf M k).a), .int .i64 (U (stOf M k).b), .int .i64 (U (stOf M k).c), .int .i64 (U (stOf M k).d), .int .i64 (U (stOf M k).e), .int .i64 (U (stOf M k).f), .int .i64 (U (stOf M k).g), .int .i64 (U (stOf M k).h)] 58 (0, 0)) ∧ Below w2.heap.size w2 wr) (fun i _ => X.size - (intOf i).toNat)
  case atStart => exact ⟨0, 0, Nat.zero_le _, rfl, rfl, heap_alloc_new w2 _, (Below.refl _ _).alloc (Nat.le_refl _) _⟩
  case round =>
    obtain ⟨k, t, hk, ht, rfl, hxr, hbr⟩ := hrel
    obtain ⟨st, hst⟩ : ∃ st, stOf M k = st := ⟨_, rfl⟩
    rw [hst] at hxr
    have hlx : w2.heap.size < wr.heap.size := (Array.getElem?_eq_some_iff.1 hxr).1
    have HST := Lib.hid hst
    have HT := Lib.hid ht
    have HXR := Lib.hid hxr
    have HBR := Lib.hid hbr
    have HER := Lib.hid (HE2.out.below hbr (by omega))
    obtain ⟨⟨c0, c1, c2, c3, c4, c5, c6, c7⟩, ⟨f0, f1, f2, f3, f4, f5, f6, f7⟩⟩ := eight hxr
    by_cases hlt : k < n
    · have i0 : (t : Int) < (X.size : Int) := by have := HXN.out; omega
      have i1 : (t : Int) + 64 ≤ (X.size : Int) := by have := HXN.out; omega
      have k1 : ((t : Int) + 64).toNat = t + 64 := by omega
      have e1 : IntKind.i64.wrap ((t : Int) + 64) = (t : Int) + 64 := by rw [IntWalk.i64_left]; unfold wrap64; omega
      obtain ⟨Q, hQ⟩ : ∃ Q : ByteArray, X.extract t (t + 64) = Q := ⟨_, rfl⟩
      have hQb : Q = blkB M k := by rw [← hQ, ht]; exact ext_blk X M HXL.out k (by have := HXM.out; have := HXN.out; omega)
      have hQ64 : Q.size = 64 := by rw [hQb]; exact blkB_size M k
      obtain ⟨s1, hs1⟩ : ∃ s1, St.comp (Wd (mw Q)) st = s1 := ⟨_, rfl⟩
      have HS1' : Hid (s1 = stOf M (k + 1)) := Lib.hid (by rw [← hs1, hQb, ← hst]; rfl)
      have hC := fun w h0 hk => Compress16_ok st Q (fun w => Schedule12_ok Q hQ64 w) w h0 hk
      rw [hs1] at hC
      have HC' := Lib.hid hC
      clear ht hst hxr hbr hQb hs1 hC
      go_wp2_with fail
      go_region_with (first
        | (go_at_call 38; refine (HC'.out _ (by first | exact HER.out.1 | (have := HER.out.1; simp; omega)) (by exact HER.out.2)).mono ?_; rintro e w5 ⟨rfl, hb5⟩; have hx5 := (hb5.block w2.heap.size (by simpa using hlx)).trans HXR.out; have HX5 := Lib.hid hx5; have hz5 := hb5.size; simp at hz5; have HB5 := Lib.hid hb5; clear hb5; obtain ⟨⟨e0, e1, e2, e3, e4, e5, e6, e7⟩, ⟨g0, g1, g2, g3, g4, g5, g6, g7⟩⟩ := eight hx5; clear hx5))
      all_goals
        go_wp2
        go_roundw
        case rel =>
          refine ⟨k + 1, t + 64, by omega, by have := HT.out; omega, by go_num, ?_, ?_⟩
          · have e := stored8 _ w2.heap.size _ _ _ _ _ _ _ _ (.int .i64 (U s1.a)) (.int .i64 (U s1.b)) (.int .i64 (U s1.c)) (.int .i64 (U s1.d)) (.int .i64 (U s1.e)) (.int .i64 (U s1.f)) (.int .i64 (U s1.g)) (.int .i64 (U s1.h)) HX5.out
            rw [← HS1'.out]
            exact e
          · exact below8 (HBR.out.drew.trans (HB5.out.mono (by simp; omega))) w2.heap.size (Nat.le_refl _) _ _ _ _ _ _ _ _
        case measure => simp [intOf]; omega
    · have hkn : k = n := by omega
      have i1 : ¬ (t : Int) < (X.size : Int) := by have := HXN.out; omega
      have hB := fun w => Bytes18_ok st w
      obtain ⟨y, hy⟩ : ∃ y : ByteArray, (⟨(St.by st 8).toArray⟩ : ByteArray) = y := ⟨_, rfl⟩
      have hyq : y = q := by rw [← hy, ← hst, hkn, HQ.out]
      rw [hy, hyq] at hB
      have HBY := Lib.hid hB
      clear ht hst hxr hbr hB hy hyq
      go_wp2_with fail
      refine (HBY.out _).mono ?_
      rintro e w6 ⟨rfl, hb6⟩
      have HB6 := Lib.hid hb6
      clear hb6
      go_wp2
      exact bodyPost_ret (v := .tuple #[.string q, .int .i64 0]) (by simp [results, Tryd.results23, go_sem]) rfl ⟨rfl, (HB2.out.trans (HBR.out.mono (by have := HB2.out.size; omega))).trans (HB6.out.mono (by have := HB2.out.size; omega))⟩
end Go.Proofs.YthojdcmkajmdjaaDoor
