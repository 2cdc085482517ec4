/- Rows of scalars that are joined: their order, and what is there twice: the walk. Conditions: the contracts of what is called. -/
import Derived.Test.YtkliecngkcjieaaGreatDoorApp
set_option maxRecDepth 100000
namespace Go.Proofs.YtkliecngkcjieaaGreatDoor
open Go.ChangeShapes Go.WideShapes Go.ChangeAt Go.RowKit Go.Shelf
open Scs
theorem short_all {d : Array Sc} {N : Nat} (hz : ∀ t, t < d.size → d[t]!.2.2.size ≤ N) : ∀ x ∈ d.toList, x.2.2.size ≤ N := by
  intro x hx
  obtain ⟨i, hi, rfl⟩ := List.getElem_of_mem hx
  rw [Array.length_toList] at hi
  have := hz i hi
  rw [getElem!_pos d i hi] at this
  rw [Array.getElem_toList]
  exact this
theorem short_of {L : List Sc} {N : Nat} (hz : ∀ x ∈ L, x.2.2.size ≤ N) : ∀ t, t < L.length → L.toArray[t]!.2.2.size ≤ N := by
  intro t ht
  rw [getElem!_pos L.toArray t (by simpa using ht)]
  exact hz _ (by simp)
theorem own_two {W : World} {b na nb : Nat} {v : Value} {da db : Array Sc} (ho : W.ownsRow b 23 3 v (0 + na + nb) (([] ++ flatS da.toList) ++ flatS db.toList)) (ha : da.size = na) (hb : db.size = nb) (ka : na ≤ 30) (kb : nb ≤ 30)
    (sa : ∀ t, t < da.size → da[t]!.2.2.size ≤ 100) (sb : ∀ t, t < db.size → db[t]!.2.2.size ≤ 100) : ∃ p c, v = .slice p (na + nb) c ∧ Sl W p (da.toList ++ db.toList).toArray := by
  have h : W.ownsRow b 23 3 v (na + nb) (flatS (da.toList ++ db.toList)) := by
    rw [Nat.zero_add, List.nil_append] at ho
    rw [show flatS (da.toList ++ db.toList) = flatS da.toList ++ flatS db.toList by simp [flatS]]
    exact ho
  refine sl_own h (by rw [List.length_append, Array.length_toList, Array.length_toList, ha, hb]) (by omega) (short_of fun x hx => ?_)
  rcases List.mem_append.1 hx with h1 | h1
  · exact Nat.le_trans (short_all sa x h1) (by decide)
  · exact Nat.le_trans (short_all sb x h1) (by decide)
theorem below_app0 {w W W6 : World} {B n : Nat} {v : Value} {xs : List Value} (h : Below B w W) (hz : B ≤ W.heap.size) (hown : W.ownsRow B 23 3 v n xs) (hg : W.grownBy W6 v.ownBlock) : Below B w W6 :=
  h.grown hg hz fun q hq => by
    rcases hown with ⟨_, ⟨h1, _⟩ | ⟨g', c', cur, hv, hbg, _⟩⟩
    · rw [h1] at hq; cases hq
    · rw [hv] at hq
      obtain rfl : g' = q := Option.some.inj hq
      exact hbg
theorem twice_congr {L M : List Sc} (h : L.Perm M) : twiceB L = twiceB M := by
  cases hm : twiceB M with
  | true => exact twice_of fun hn => (twice_iff.1 hm) (h.nodup_iff.1 hn)
  | false => exact twice_nodup (h.nodup_iff.2 (Classical.byContradiction fun hn => by rw [twice_of hn] at hm; cases hm))
theorem twice_self {L : List Sc} (h : 0 < L.length) : twiceB (L ++ L) = true := by
  refine twice_of fun hn => ?_
  match L, h with
  | x :: t, _ => exact (List.nodup_append.1 hn).2.2 x (by simp) x (by simp) rfl
theorem twice_left {L M : List Sc} (h : twiceB L = true) : twiceB (L ++ M) = true :=
  twice_of fun hn => twice_iff.1 h (List.nodup_append.1 hn).1
theorem Twice24b (d : Array Sc) (p : Option Addr) (cap n : Nat) (hn : d.size = n) (B : Bool) (hB : twiceB d.toList = B) (w : World) (hs : Sl w p d) :
    Calls Tryz.prog 24 #[.slice p n cap] w fun e w' => e = .returned (.bool B) ∧ Below w.heap.size w w' := by
  subst hB
  exact Twice24 d p cap n hn w hs
theorem Sl.below' {w w' : World} {p : Option Addr} {l : Array Sc} {B : Nat} (h : Sl w p l) (hb : Below B w w') (hB : B = w.heap.size) : Sl w' p l := by
  subst hB
  exact h.below hb
set_option maxHeartbeats 8000000 in
theorem walkScalJoins (a0 : Option Addr) (len0 cap0 : Nat) (X0 : Nat → Sc) (a1 : Option Addr) (len1 cap1 : Nat) (X1 : Nat → Sc) (w : World) (E : Env w)
    (hV0 : ∀ i, i < len0 → ∃ g o, a0 = some ⟨g, o, none⟩ ∧ g < w.heap.size ∧ w.cell? ⟨g, o + i * 3, none⟩ = some (.int .i64 (X0 i).1) ∧ w.cell? ⟨g, o + i * 3 + 1, none⟩ = some (.int .i64 (X0 i).2.1) ∧ w.cell? ⟨g, o + i * 3 + 2, none⟩ = some (.string (X0 i).2.2))
    (hV1 : ∀ i, i < len1 → ∃ g o, a1 = some ⟨g, o, none⟩ ∧ g < w.heap.size ∧ w.cell? ⟨g, o + i * 3, none⟩ = some (.int .i64 (X1 i).1) ∧ w.cell? ⟨g, o + i * 3 + 1, none⟩ = some (.int .i64 (X1 i).2.1) ∧ w.cell? ⟨g, o + i * 3 + 2, none⟩ = some (.string (X1 i).2.2)) :
    Calls Tryz.prog 9 #[.slice a0 len0 cap0, .slice a1 len1 cap1] w fun e w' => e = .returned (.bool true) ∧ Below w.heap.size w w' := by
  have HE := Lib.hid E
  have HV0 := Lib.hid hV0
  have HV1 := Lib.hid hV1
  clear E hV0 hV1
  go_enter Tryz.func9, Tryz.ntmps9
  go_wp2_with fail
  refine (shown_any _ HE.out).mono ?_
  rintro e w1 ⟨rfl, hb⟩
  have HB1 := Lib.hid hb
  clear hb
  go_wp2_with fail
  refine (Few20 a0 len0 cap0 X0 w1 fun i hi => by
    obtain ⟨g, o, h0, h1, h2, h3, h4⟩ := HV0.out i hi
    exact ⟨g, o, h0, Nat.lt_of_lt_of_le h1 HB1.out.size, (HB1.out.cell (p := ⟨g, _, none⟩) h1).trans h2, (HB1.out.cell (p := ⟨g, _, none⟩) h1).trans h3, (HB1.out.cell (p := ⟨g, _, none⟩) h1).trans h4⟩).mono ?_
  rintro e w2 ⟨pa, na, ca, da, rfl, hn, kna, hpa, hsl, hsh, hb⟩
  have HNA := Lib.hid hn
  have HPA := Lib.hid hpa
  have SA_w2 := Lib.hid hsl
  have HSA := Lib.hid hsh
  have HB2 := Lib.hid (HB1.out.trans (hb.mono HB1.out.size))
  clear hn hpa hsl hsh hb
  go_wp2_with fail
  refine (Few20 a1 len1 cap1 X1 w2 fun i hi => by
    obtain ⟨g, o, h0, h1, h2, h3, h4⟩ := HV1.out i hi
    exact ⟨g, o, h0, Nat.lt_of_lt_of_le h1 HB2.out.size, (HB2.out.cell (p := ⟨g, _, none⟩) h1).trans h2, (HB2.out.cell (p := ⟨g, _, none⟩) h1).trans h3, (HB2.out.cell (p := ⟨g, _, none⟩) h1).trans h4⟩).mono ?_
  rintro e w3 ⟨pb, nb, cb, db, rfl, hn, knb, hpb, hsl, hsh, hb⟩
  have HNB := Lib.hid hn
  have HPB := Lib.hid hpb
  have SA_w3 := Lib.hid (SA_w2.out.below hb)
  have SB_w3 := Lib.hid hsl
  have HSB := Lib.hid hsh
  have HB_w3 := Lib.hid (HB2.out.trans (hb.mono HB2.out.size))
  clear hn hpb hsl hsh hb
  go_wp2_with (first
    | (at_builtin
       refine wpList_app rfl _ _ rfl w3.heap.size _ 0 [] rfl (World.ownsRow_nil _ _ _ _) _ _ _ da rfl HNA.out SA_w3.out HPA.out (by omega) (by omega) (Nat.le_refl _) ?_
       intro vw4 w4 ho hg
       have HOw4 := Lib.hid ho
       have HXw4 := Lib.hid (below_app0 (Below.refl w3.heap.size w3) (Nat.le_refl _) (World.ownsRow_nil _ _ _ _) hg)
       have SA_w4 := Lib.hid (SA_w3.out.below HXw4.out)
       have SB_w4 := Lib.hid (SB_w3.out.below HXw4.out)
       clear ho hg)
    | (at_builtin
       refine wpList_app rfl _ _ rfl w3.heap.size _ (0 + na) ([] ++ flatS da.toList) rfl HOw4.out _ _ _ db rfl HNB.out SB_w4.out HPB.out (by omega) (by omega) HXw4.out.size ?_
       intro vw5 w5 ho hg
       have HXw5 := Lib.hid (below_app0 HXw4.out HXw4.out.size HOw4.out hg)
       obtain ⟨p6, c6, rfl, hs6⟩ := own_two ho HNA.out HNB.out kna knb HSA.out HSB.out
       have R6_w5 := Lib.hid hs6
       have SA_w5 := Lib.hid (SA_w3.out.below HXw5.out)
       have SB_w5 := Lib.hid (SB_w3.out.below HXw5.out)
       have HB_w5 := Lib.hid (HB_w3.out.trans (HXw5.out.mono HB_w3.out.size))
       clear ho hg hs6)
    | (at_builtin
       refine wpList_app rfl _ _ rfl w5.heap.size _ 0 [] rfl (World.ownsRow_nil _ _ _ _) _ _ _ db rfl HNB.out SB_w5.out HPB.out (by omega) (by omega) (Nat.le_refl _) ?_
       intro vw6 w6 ho hg
       have HOw6 := Lib.hid ho
       have HXw6 := Lib.hid (below_app0 (Below.refl w5.heap.size w5) (Nat.le_refl _) (World.ownsRow_nil _ _ _ _) hg)
       have SA_w6 := Lib.hid (SA_w5.out.below HXw6.out)
       have SB_w6 := Lib.hid (SB_w5.out.below HXw6.out)
       have R6_w6 := Lib.hid (R6_w5.out.below HXw6.out)
       clear ho hg)
    | (at_builtin
       refine wpList_app rfl _ _ rfl w5.heap.size _ (0 + nb) ([] ++ flatS db.toList) rfl HOw6.out _ _ _ da rfl HNA.out SA_w6.out HPA.out (by omega) (by omega) HXw6.out.size ?_
       intro vw7 w7 ho hg
       have HXw7 := Lib.hid (below_app0 HXw6.out HXw6.out.size HOw6.out hg)
       obtain ⟨p7, c7, rfl, hs7⟩ := own_two ho HNB.out HNA.out knb kna HSB.out HSA.out
       have R7_w7 := Lib.hid hs7
       have SA_w7 := Lib.hid (SA_w5.out.below HXw7.out)
       have SB_w7 := Lib.hid (SB_w5.out.below HXw7.out)
       have R6_w7 := Lib.hid (R6_w5.out.below HXw7.out)
       have HB_w7 := Lib.hid (HB_w5.out.trans (HXw7.out.mono HB_w5.out.size))
       clear ho hg hs7)
    | (at_builtin
       refine wpList_app rfl _ _ rfl w7.heap.size _ 0 [] rfl (World.ownsRow_nil _ _ _ _) _ _ _ da rfl HNA.out SA_w7.out HPA.out (by omega) (by omega) (Nat.le_refl _) ?_
       intro vw8 w8 ho hg
       have HOw8 := Lib.hid ho
       have HXw8 := Lib.hid (below_app0 (Below.refl w7.heap.size w7) (Nat.le_refl _) (World.ownsRow_nil _ _ _ _) hg)
       have SA_w8 := Lib.hid (SA_w7.out.below HXw8.out)
       have SB_w8 := Lib.hid (SB_w7.out.below HXw8.out)
       have R6_w8 := Lib.hid (R6_w7.out.below HXw8.out)
       have R7_w8 := Lib.hid (R7_w7.out.below HXw8.out)
       clear ho hg)
    | (at_builtin
       refine wpList_app rfl _ _ rfl w7.heap.size _ (0 + na) ([] ++ flatS da.toList) rfl HOw8.out _ _ _ da rfl HNA.out SA_w8.out HPA.out (by omega) (by omega) HXw8.out.size ?_
       intro vw9 w9 ho hg
       have HXw9 := Lib.hid (below_app0 HXw8.out HXw8.out.size HOw8.out hg)
       obtain ⟨p8, c8, rfl, hs8⟩ := own_two ho HNA.out HNA.out kna kna HSA.out HSA.out
       have R8_w9 := Lib.hid hs8
       have SA_w9 := Lib.hid (SA_w7.out.below HXw9.out)
       have SB_w9 := Lib.hid (SB_w7.out.below HXw9.out)
       have R6_w9 := Lib.hid (R6_w7.out.below HXw9.out)
       have R7_w9 := Lib.hid (R7_w7.out.below HXw9.out)
       have HB_w9 := Lib.hid (HB_w7.out.trans (HXw9.out.mono HB_w7.out.size))
       clear ho hg hs8))
  have hl6 : (da.toList ++ db.toList).toArray.size = na + nb := by rw [List.size_toArray, List.length_append, Array.length_toList, Array.length_toList, HNA.out, HNB.out]
  have hl7 : (db.toList ++ da.toList).toArray.size = nb + na := by rw [List.size_toArray, List.length_append, Array.length_toList, Array.length_toList, HNA.out, HNB.out]
  have hl8 : (da.toList ++ da.toList).toArray.size = na + na := by rw [List.size_toArray, List.length_append, Array.length_toList, HNA.out]
  have hsort : sortSc (db.toList ++ da.toList) = sortSc (da.toList ++ db.toList) := sort_congr List.perm_append_comm
  have htw : twiceB (db.toList ++ da.toList) = twiceB (da.toList ++ db.toList) := twice_congr List.perm_append_comm
  have hself : twiceB (da.toList ++ da.toList) = decide ((0 : Int) < (na : Int)) := by
    by_cases h0 : 0 < na
    · rw [twice_self (by rw [Array.length_toList, HNA.out]; exact h0)]
      exact (decide_eq_true (by omega)).symm
    · have hnil : da.toList = [] := by rw [← List.length_eq_zero_iff, Array.length_toList, HNA.out]; omega
      rw [hnil, decide_eq_false (by omega)]
      rfl
  have hleft : twiceB da.toList = true → twiceB (da.toList ++ db.toList) = true := twice_left
  have HL6 := Lib.hid hl6
  have HL7 := Lib.hid hl7
  have HL8 := Lib.hid hl8
  have HSO := Lib.hid hsort
  have HTW := Lib.hid htw
  have HSF := Lib.hid hself
  have HLF := Lib.hid hleft
  clear hl6 hl7 hl8 hsort htw hself hleft
  refine (Sort22 _ p6 c6 (na + nb) HL6.out _ R6_w9.out).mono ?_
  rintro e w10 ⟨q6, e6, rfl, hq, hb⟩
  have SA_w10 := Lib.hid (SA_w9.out.below hb)
  have R6_w10 := Lib.hid (R6_w9.out.below hb)
  have R7_w10 := Lib.hid (R7_w9.out.below hb)
  have R8_w10 := Lib.hid (R8_w9.out.below hb)
  have Q6_w10 := Lib.hid hq
  clear hq
  have HB_w10 := Lib.hid (HB_w9.out.trans (hb.mono HB_w9.out.size))
  clear hb
  go_wp2_with fail
  refine (Sort22 _ p7 c7 (nb + na) HL7.out _ R7_w10.out).mono ?_
  rintro e w11 ⟨q7, e7, rfl, hq, hb⟩
  have SA_w11 := Lib.hid (SA_w10.out.below hb)
  have R6_w11 := Lib.hid (R6_w10.out.below hb)
  have R7_w11 := Lib.hid (R7_w10.out.below hb)
  have R8_w11 := Lib.hid (R8_w10.out.below hb)
  have Q6_w11 := Lib.hid (Q6_w10.out.below hb)
  have Q7_w11 := Lib.hid hq
  clear hq
  have HB_w11 := Lib.hid (HB_w10.out.trans (hb.mono HB_w10.out.size))
  clear hb
  go_wp2_with fail
  have Q7b := Q7_w11.out
  rw [HSO.out] at Q7b
  refine (Same21 _ q6 q7 e6 e7 (na + nb) (nb + na) (by rw [sort_size]; exact HL6.out) (by rw [sort_size]; exact HL6.out.trans (Nat.add_comm _ _)) _ Q6_w11.out Q7b).mono ?_
  rintro e w12 ⟨rfl, hb⟩
  have SA_w12 := Lib.hid (SA_w11.out.below hb)
  have R6_w12 := Lib.hid (R6_w11.out.below hb)
  have R7_w12 := Lib.hid (R7_w11.out.below hb)
  have R8_w12 := Lib.hid (R8_w11.out.below hb)
  clear Q7b
  have HB_w12 := Lib.hid (HB_w11.out.trans (hb.mono HB_w11.out.size))
  clear hb
  go_wp2_with fail
  obtain ⟨TAB, hTAB⟩ : ∃ T, twiceB (da.toList ++ db.toList) = T := ⟨_, rfl⟩
  have HTA := Lib.hid hTAB
  clear hTAB
  refine (Twice24b _ p6 c6 (na + nb) HL6.out TAB HTA.out _ R6_w12.out).mono ?_
  rintro e w13 ⟨rfl, hb⟩
  have SA_w13 := Lib.hid (SA_w12.out.below hb)
  have R6_w13 := Lib.hid (R6_w12.out.below hb)
  have R7_w13 := Lib.hid (R7_w12.out.below hb)
  have R8_w13 := Lib.hid (R8_w12.out.below hb)
  have HB_w13 := Lib.hid (HB_w12.out.trans (hb.mono HB_w12.out.size))
  clear hb
  go_wp2_with fail
  refine (Twice24b _ p7 c7 (nb + na) HL7.out TAB (HTW.out.trans HTA.out) _ R7_w13.out).mono ?_
  rintro e w14 ⟨rfl, hb⟩
  have SA_w14 := Lib.hid (SA_w13.out.below hb)
  have R6_w14 := Lib.hid (R6_w13.out.below hb)
  have R7_w14 := Lib.hid (R7_w13.out.below hb)
  have R8_w14 := Lib.hid (R8_w13.out.below hb)
  have HB_w14 := Lib.hid (HB_w13.out.trans (hb.mono HB_w13.out.size))
  clear hb
  go_wp2_with fail
  refine (Twice24b _ p8 c8 (na + na) HL8.out _ HSF.out _ R8_w14.out).mono ?_
  rintro e w15 ⟨rfl, hb⟩
  have SA_w15 := Lib.hid (SA_w14.out.below hb)
  have R6_w15 := Lib.hid (R6_w14.out.below hb)
  have R7_w15 := Lib.hid (R7_w14.out.below hb)
  have R8_w15 := Lib.hid (R8_w14.out.below hb)
  have HB_w15 := Lib.hid (HB_w14.out.trans (hb.mono HB_w14.out.size))
  clear hb
  go_wp2_with fail
  obtain ⟨TA, hTA⟩ : ∃ T, twiceB da.toList = T := ⟨_, rfl⟩
  have HTB := Lib.hid hTA
  clear hTA
  cases TA with
  | false =>
    refine (Twice24b _ pa ca na HNA.out false HTB.out _ SA_w15.out).mono ?_
    rintro e w16 ⟨rfl, hb⟩
    have HB_w16 := Lib.hid (HB_w15.out.trans (hb.mono HB_w15.out.size))
    clear hb
    go_wp2_with fail
    go_ret
    exact ⟨rfl, HB_w16.out⟩
  | true =>
    obtain rfl : TAB = true := HTA.out.symm.trans (HLF.out HTB.out)
    refine (Twice24b _ pa ca na HNA.out true HTB.out _ SA_w15.out).mono ?_
    rintro e w16 ⟨rfl, hb⟩
    have HB_w16 := Lib.hid (HB_w15.out.trans (hb.mono HB_w15.out.size))
    have R6_w16 := Lib.hid (R6_w15.out.below hb)
    clear hb
    go_wp2_with fail
    refine (Twice24b _ p6 c6 (na + nb) HL6.out true HTA.out _ R6_w16.out).mono ?_
    rintro e w17 ⟨rfl, hb⟩
    have HB_w17 := Lib.hid (HB_w16.out.trans (hb.mono HB_w16.out.size))
    clear hb
    go_wp2_with fail
    go_ret
    exact ⟨rfl, HB_w17.out⟩
end Go.Proofs.YtkliecngkcjieaaGreatDoor
