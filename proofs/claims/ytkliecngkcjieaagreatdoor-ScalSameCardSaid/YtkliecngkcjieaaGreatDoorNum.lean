/- A text's number is that of its digits, if it is written as that number is. Conditions: the library's tables lie as they are laid; the text is not too long. -/
import Derived.Test.YtkliecngkcjieaaGreatDoorRgt
set_option maxRecDepth 100000
namespace Go.Proofs.YtkliecngkcjieaaGreatDoor
open Go.RowKit Go.Shelf
open Pl Seqo
/-- a text's number -/
def numB (l : List UInt8) : Option Int := match Go.Lib.atoiAll l with
  | .ok v => if Go.Lib.itoa v = l then (if -999999999999999 ≤ v ∧ v ≤ 999999999999999 then some v else none) else none
  | _ => none
def ifaceOf : Option Int → Value
  | some v => .iface 3 (.int .i64 v)
  | none => .iface 80 (.agg #[])
theorem grow_below (w : World) (k : Nat) (os : Array Obj) : Below w.heap.size w (Go.Sort.grow (w.drewN k) os) :=
  ⟨rfl, rfl, rfl, by simp [Go.Sort.grow, World.drewN], fun j hj => by simp [Go.Sort.grow, World.drewN, Array.getElem?_append_left hj]⟩
theorem ret_v {x y : Value} (h : x = y) : Ending.returned x = Ending.returned y := by rw [h]
set_option maxHeartbeats 1000000 in
theorem numberOf_any (s : ByteArray) (hs : s.size ≤ 1099511627776) (w : World) (E : Env w) :
    Calls Tryz.prog 99 #[.string s] w fun e w' => e = .returned (ifaceOf (numB s.data.toList)) ∧ Below w.heap.size w w' := by
  have HE := Lib.hid E
  obtain ⟨R, hR⟩ : ∃ R, numB s.data.toList = R := ⟨_, rfl⟩
  rw [hR]
  unfold numB at hR
  cases ha : Go.Lib.atoiAll s.data.toList with
  | «syntax» =>
    rw [ha] at hR
    subst hR
    obtain ⟨tp, p, hv⟩ := E.syn
    have hA := Tryz.strconv_Atoi_syntax_var s (by omega) ha tp p w hv
    have HA := Lib.hid hA
    clear hA hv E ha
    go_enter Tryz.func99, Tryz.ntmps99
    go_wp2_with fail
    refine HA.out.mono ?_
    rintro e w1 ⟨N, rfl, hN, _, hb1⟩
    have HB1 := Lib.hid hb1
    clear hb1
    go_wp2_with fail
    go_ret
    exact ⟨rfl, HB1.out⟩
  | range =>
    rw [ha] at hR
    subst hR
    obtain ⟨tp, p, hv⟩ := E.rng
    have hA := Tryz.strconv_Atoi_range_var s (by omega) ha tp p w hv
    obtain ⟨X, hX⟩ : ∃ X, Go.Lib.atoiSat s.data.toList = X := ⟨_, rfl⟩
    rw [hX] at hA
    have HA := Lib.hid hA
    clear hA hv E ha hX
    go_enter Tryz.func99, Tryz.ntmps99
    go_wp2_with fail
    refine HA.out.mono ?_
    rintro e w1 ⟨N, rfl, hN, _, hb1⟩
    have HB1 := Lib.hid hb1
    clear hb1
    go_wp2_with fail
    go_ret
    exact ⟨rfl, HB1.out⟩
  | ok v =>
    rw [ha] at hR
    have hA := Tryz.strconv_Atoi_ok s (by omega) v ha w
    obtain ⟨v0, v1⟩ := Go.Lib.atoiAll_bounds ha
    have HA := Lib.hid hA
    have HR := Lib.hid hR
    clear hA E ha hR
    go_enter Tryz.func99, Tryz.ntmps99
    go_wp2_with fail
    refine HA.out.mono ?_
    rintro e w1 ⟨rfl, hw1⟩
    have hb1 : Below w.heap.size w w1 := by
      rcases hw1 with rfl | ⟨t, rfl⟩
      · exact Below.refl _ _
      · exact Go.Lib.bytesWorld_below w 5 t
    have E1 := HE.out.below hb1
    have hI := Tryz.strconv_Itoa v v0 v1 w1 E1.pow
    obtain ⟨D, hD⟩ : ∃ D : ByteArray, (⟨(Go.Lib.itoa v).toArray⟩ : ByteArray) = D := ⟨_, rfl⟩
    have hDl : D.data.toList = Go.Lib.itoa v := by rw [← hD]
    rw [hD] at hI
    have HI := Lib.hid hI
    have HB1 := Lib.hid hb1
    have HE1 := Lib.hid E1
    have HD := Lib.hid hDl
    clear hI hb1 E1 hw1 hD hDl
    go_wp2_with fail
    refine HI.out.mono ?_
    rintro e w2 ⟨rfl, k, os, hw2⟩
    have hb2 : Below w1.heap.size w1 w2 := by rw [hw2]; exact grow_below w1 k os
    have HB2 := Lib.hid (HB1.out.trans (hb2.mono HB1.out.size))
    have HE2 := Lib.hid (HE1.out.below hb2)
    clear hb2 hw2
    have hRt := Right_any 2 v ⟨#[]⟩ (by decide) w2 HE2.out
    by_cases he : Go.Lib.itoa v = s.data.toList
    · have hq : (D.toList == s.toList) = true := by rw [ByteArray.toList_eq, ByteArray.toList_eq, HD.out, he]; simp
      have HQ := Lib.hid he
      clear he
      by_cases hv : -999999999999999 ≤ v ∧ v ≤ 999999999999999
      · rw [show rightR 2 v (⟨#[]⟩ : ByteArray).data.toList = true by simp [rightR, hv.1, hv.2]] at hRt
        have HRT := Lib.hid hRt
        have HV := Lib.hid hv
        clear hRt hv
        go_wp2_with fail
        refine HRT.out.mono ?_
        rintro e w3 ⟨rfl, hb3⟩
        have HB3 := Lib.hid (HB2.out.trans (hb3.mono HB2.out.size))
        clear hb3
        go_wp2_with fail
        go_ret
        have h := HR.out
        simp only [HQ.out, HV.out, and_self, if_true] at h
        exact ⟨by rw [← h]; rfl, HB3.out⟩
      · rw [show rightR 2 v (⟨#[]⟩ : ByteArray).data.toList = false by
          simp only [rightR, show ((2 : Int) == 0) = false from rfl, show ((2 : Int) == 1) = false from rfl, show ((2 : Int) == 2) = true from rfl, Bool.false_eq_true, if_false, if_true]
          repeat' split
          all_goals first | rfl | omega] at hRt
        have HRT := Lib.hid hRt
        have HV := Lib.hid hv
        clear hRt hv
        go_wp2_with fail
        refine HRT.out.mono ?_
        rintro e w3 ⟨rfl, hb3⟩
        have HB3 := Lib.hid (HB2.out.trans (hb3.mono HB2.out.size))
        clear hb3
        go_wp2_with fail
        go_ret
        have h := HR.out
        simp only [HQ.out, if_true, if_neg HV.out] at h
        exact ⟨by rw [← h]; rfl, HB3.out⟩
    · have hq : (D.toList == s.toList) = false := by rw [ByteArray.toList_eq, ByteArray.toList_eq, HD.out]; simpa using he
      have HQ := Lib.hid he
      clear he hRt
      go_wp2_with fail
      go_ret
      have h := HR.out
      simp only [if_neg HQ.out] at h
      exact ⟨by rw [← h]; rfl, HB2.out⟩
end Go.Proofs.YtkliecngkcjieaaGreatDoor
