/- A buffer's sum is the state's bytes that its message and its end make. Conditions: the buffer lies in a block of its own, and what it has is not too long. -/
import Derived.Test.YtjimpfcgcbbipaaDoorSums
import Derived.Test.YtjimpfcgcbbipaaDoorNone0
namespace Go.Proofs.YtjimpfcgcbbipaaDoor
open Go.RowKit Go.Shelf
open Rd Dg Box
set_option maxRecDepth 100000 in
set_option maxHeartbeats 2000000 in
theorem sum_none (b : Nat) (T : TypeId) (m : List UInt8) (hlen : m.length ≤ 100000) (B : Nat) (w : World) (E : Env B w) (hbB : B ≤ b) (hb : Holds b T m w) :
    Calls Tryd.prog 31 #[.pointer (some ⟨b, 0, none⟩), .slice none 0 0] w fun e w' => e = .returned (.tuple #[.string (dig (m)), .nilIface]) ∧ w.grownBy w' (some b) ∧ ∃ M', Holds b T M' w' := by
  have hbl := hb.lt
  have hA := add_none b T m w hb
  have HE := Lib.hid E
  clear E hb
  go_enter Tryd.func31, Tryd.ntmps31
  go_wp2_with fail
  refine hA.mono ?_
  rintro e w1 ⟨rfl, hh1, hg1⟩
  have hz1 := hg1.size
  obtain ⟨M, hM⟩ : ∃ M, m = M := ⟨_, rfl⟩
  have hMl : M.length ≤ 100000 := by rw [← hM]; exact hlen
  rw [hM] at hh1
  have HM := Lib.hid hM
  clear hM
  have hc1 := hh1.count
  have HH1 := Lib.hid hh1
  have HG1 := Lib.hid hg1
  have HE1 := Lib.hid (HE.out.on hbB hg1)
  clear hh1 hg1 hA
  go_wp2_with fail
  obtain ⟨Q, hQ⟩ : ∃ Q : ByteArray, (⟨(endL M.length).toArray⟩ : ByteArray) = Q := ⟨_, rfl⟩
  have hEn := endOf_any M.length (by omega) w1
  rw [hQ] at hEn
  have HQ := Lib.hid hQ
  clear hQ
  refine hEn.mono ?_
  clear hEn
  rintro e w2 ⟨rfl, hb2⟩
  have hz2 := hb2.size
  have hh2 := HH1.out.kept (hb2.block b (by omega))
  have HE2 := Lib.hid (HE1.out.below' hb2)
  have HB2 := Lib.hid hb2
  have HH2 := Lib.hid hh2
  clear hb2 hh2 hc1
  go_wp2_with fail
  have hel : Q.size ≤ 72 := by rw [← HQ.out]; exact (endL_bounds M.length).2
  have hQL : Q.data.toList = endL M.length := by rw [← HQ.out]
  have hA2 := add_one b T M Q (by omega) B w2.heap.size 1 (w2.alloc (.cells #[.string Q] 9)) (HE2.out.below' ((Below.refl _ _).alloc (Nat.le_refl _) _)) hbB (by omega) (HH2.out.kept (Below.heap_alloc _ _ _ (by omega))) (cell_of_row _ _ 0 _ _ _ (heap_alloc_new w2 _))
  rw [hQL] at hA2
  refine hA2.mono ?_
  rintro e w3 ⟨rfl, hh3, hg3⟩
  have hz3 := hg3.size
  simp only [World.size_alloc] at hz3
  have HH3 := Lib.hid hh3
  obtain ⟨s, hs, hr3⟩ := hh3
  have hne : M ++ (endL M.length) ≠ [] := by intro h; have := congrArg List.length h; simp [endL] at this
  have hs' := hs hne
  obtain ⟨⟨c0, c1, c2, c3, c4, c5, c6, c7⟩, _⟩ := eightB hr3
  have HG3 := Lib.hid hg3
  have HS := Lib.hid hs'
  clear hr3 hs hs' hne hg3 hA2
  go_wp2_with fail
  refine (Bytes_ok s _).mono ?_
  rintro e w4 ⟨rfl, hb4⟩
  have HB4 := Lib.hid hb4
  have hh4 := Lib.hid (HH3.out.kept (hb4.block b (by omega)))
  clear hb4 c0 c1 c2 c3 c4 c5 c6 c7
  go_wp2
  have hg : w.grownBy w4 (some b) := by
    have h12 : w1.grownBy (w2.alloc (.cells #[.string Q] 9)) (some b) := gB_alloc (gB_of_below HB2.out (some b)) _
    exact ((HG1.out.trans h12).trans HG3.out).trans (gB_of_below HB4.out (some b))
  have hd : (⟨(St.by s 8).toArray⟩ : ByteArray) = dig (m) := by rw [HM.out]; unfold dig; rw [HS.out]
  rw [← hd]
  refine bodyPost_ret (v := .tuple #[.string ⟨(St.by s 8).toArray⟩, .nilIface]) (by simp [results, Tryd.results31, go_sem]) rfl ⟨rfl, hg, _, hh4.out⟩
end Go.Proofs.YtjimpfcgcbbipaaDoor
