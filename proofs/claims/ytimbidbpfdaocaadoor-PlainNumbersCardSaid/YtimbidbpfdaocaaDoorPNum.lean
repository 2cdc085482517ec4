/- A number's digits tell it, as long as it may be an Int's; with a nought ahead, or a plus, they tell nothing: for every number. Conditions: the laid variables, as the statement lists them. -/
import Derived.Test.YtimbidbpfdaocaaDoorDoor
import Derived.Test.YtimbidbpfdaocaaDoorDgt
namespace Go.Proofs.YtimbidbpfdaocaaDoor
open Go.ChangeShapes Go.WideShapes Go.ChangeAt Go.RowKit Go.Shelf
open Go.ChangeMaps (open_string shut_string)
open Pl Seqo

open Go.Lib (decDigits nDigits)
def DigInv (K : Nat) (D : ByteArray) (j : Nat) : Prop := (j = 0 ∧ D.data.toList ≠ [] ∧ decDigits K = D.data.toList) ∨ (decDigits K = decDigits j ++ D.data.toList ∧ (0 < j ∨ D.data.toList = []))
theorem digit_text (r : Nat) (h : r < 10) : ((⟨#[48, 49, 50, 51, 52, 53, 54, 55, 56, 57]⟩ : ByteArray).extract r (r + 1)).data.toList = [UInt8.ofNat (48 + r)] := by
  have key : ∀ r : Fin 10, ((⟨#[48, 49, 50, 51, 52, 53, 54, 55, 56, 57]⟩ : ByteArray).extract r.1 (r.1 + 1)).data.toList = [UInt8.ofNat (48 + r.1)] := by decide +kernel
  exact key ⟨r, h⟩
theorem app_list (a b : ByteArray) : (a ++ b).data.toList = a.data.toList ++ b.data.toList := by
  rw [ByteArray.data_append, Array.toList_append]
theorem inv_size {K : Nat} (hK : K ≤ 99999999999999999) {D : ByteArray} {j : Nat} (h : DigInv K D j) : D.size ≤ 17 := by
  have hl := Go.Lib.decDigits_length K
  have h17 := nDigits_17 K hK
  rcases h with ⟨_, _, e⟩ | ⟨e, _⟩
  · rw [e, size_list] at hl; omega
  · rw [e, List.length_append, size_list] at hl; omega
theorem inv_step {K : Nat} {D X : ByteArray} {j : Nat} (h : DigInv K D j) (hg : 0 < j ∨ D.data.toList = []) (hX : X.data.toList = [UInt8.ofNat (48 + j % 10)]) : DigInv K (X ++ D) (j / 10) := by
  have hlist : (X ++ D).data.toList = UInt8.ofNat (48 + j % 10) :: D.data.toList := by rw [app_list, hX]; rfl
  have h2 : decDigits K = decDigits j ++ D.data.toList := by
    rcases h with ⟨h0, h1, _⟩ | ⟨e, _⟩
    · rcases hg with hg | hg
      · omega
      · exact absurd hg h1
    · exact e
  by_cases h10 : j < 10
  · left
    refine ⟨by omega, by rw [hlist]; simp, ?_⟩
    rw [h2, hlist, Go.Lib.decDigits_one h10, Nat.mod_eq_of_lt h10]
    rfl
  · right
    refine ⟨?_, .inl (by omega)⟩
    rw [h2, hlist, decDigits_big h10, List.append_assoc]
    rfl
theorem inv_end {K : Nat} {D : ByteArray} (h : DigInv K D 0) (hg : D.data.toList ≠ []) : decDigits K = D.data.toList := by
  rcases h with ⟨_, _, e⟩ | ⟨e, h | h⟩
  · exact e
  · omega
  · exact absurd h hg
set_option maxRecDepth 100000 in
set_option maxHeartbeats 4000000 in
theorem numP1 (K : Nat) (hK : K ≤ 99999999999999999) (hr : K ≤ 999999999999999) (w : World) (E : Env w) :
    Calls Tryd.prog 5 #[.int .i64 (K : Int)] w fun e w' => e = .returned (.bool true) ∧ Below w.heap.size w w' := by
  have HE0 := Lib.hid E
  have hK1 : (K : Int) ≤ 99999999999999999 := by omega
  have hK4 : (K : Int) ≤ 999999999999999 := by omega
  clear E
  go_enter Tryd.func5, Tryd.ntmps5
  go_wp2_with fail
  refine (shown_any _ HE0.out).mono ?_
  rintro e w1 ⟨rfl, hb1⟩
  have HB1 := Lib.hid hb1
  have HE1 := Lib.hid (HE0.out.below hb1)
  clear hb1
  go_wp2_with fail
  go_loop [4, 5] (fun d k => ∃ (D : ByteArray) (j : Nat), d = .string D ∧ k = .int .i64 j ∧ j ≤ 99999999999999999 ∧ D.size ≤ 17 ∧ DigInv K D j) (fun d k => 2 * (intOf k).toNat + (match d with | .string D => 20 - D.size | _ => 0))
  case atStart => exact ⟨⟨#[]⟩, K, rfl, rfl, hK, by decide, .inr ⟨by simp, .inr rfl⟩⟩
  case round =>
    obtain ⟨D, j, rfl, rfl, hj, hD, hinv⟩ := hrel
    have HI := Lib.hid hinv
    clear hinv
    by_cases hj0 : 0 < j
    · have hjz : (0 : Int) < (j : Int) := by omega
      go_wp2_with fail
      have hst := inv_step HI.out (.inl hj0) (digit_text (j % 10) (by omega))
      refine ⟨⟨_, j / 10, rfl, by go_num, by omega, inv_size hK hst, hst⟩, ?_⟩
      have hX : ∀ r < 10, ((⟨#[48, 49, 50, 51, 52, 53, 54, 55, 56, 57]⟩ : ByteArray).extract r (r + 1)).size = 1 := fun r hr => by rw [← size_list, digit_text r hr]; rfl
      simp only [intOf, ByteArray.size_append, hX (j % 10) (by omega)]
      omega
    · obtain rfl : j = 0 := by omega
      by_cases hD0 : D.data.toList = []
      · have z1 : D.toList = [] := by rw [ByteArray.toList_eq, hD0]
        have z2 : D.toList.isEmpty = true := by rw [z1]; rfl
        have hst := inv_step HI.out (.inr hD0) (digit_text 0 (by omega))
        have HST := Lib.hid hst
        clear hst hD0
        go_wp2_with fail
        refine ⟨⟨_, 0, rfl, rfl, by omega, inv_size hK HST.out, HST.out⟩, ?_⟩
        have hX : ((⟨#[48, 49, 50, 51, 52, 53, 54, 55, 56, 57]⟩ : ByteArray).extract 0 1).size = 1 := by rw [← size_list, digit_text 0 (by decide)]; rfl
        simp only [intOf, ByteArray.size_append, hX]
        omega
      · have z1 : ¬ D.toList = [] := by rw [ByteArray.toList_eq]; exact hD0
        have z2 : D.toList.isEmpty = false := by rw [ByteArray.toList_eq]; simpa using hD0
        have hend := inv_end HI.out hD0
        obtain ⟨P1, hP1⟩ : ∃ P, (⟨#[]⟩ : ByteArray) ++ D = P := ⟨_, rfl⟩
        obtain ⟨P2, hP2⟩ : ∃ P, (⟨#[]⟩ : ByteArray) ++ ⟨#[48]⟩ ++ D = P := ⟨_, rfl⟩
        obtain ⟨P3, hP3⟩ : ∃ P, (⟨#[43]⟩ : ByteArray) ++ D = P := ⟨_, rfl⟩
        obtain ⟨P4, hP4⟩ : ∃ P, (⟨#[]⟩ : ByteArray) ++ D ++ ⟨#[46, 48]⟩ = P := ⟨_, rfl⟩
        have p1 : P1.data.toList = decDigits K := by rw [← hP1, app_list, hend]; rfl
        have p2 : P2.data.toList = 48 :: decDigits K := by rw [← hP2, app_list, app_list, hend]; rfl
        have p3 : P3.data.toList = 43 :: decDigits K := by rw [← hP3, app_list, hend]; rfl
        have p4 : P4.data.toList = (decDigits K ++ [46, 48]) := by rw [← hP4, app_list, app_list, hend]; rfl
        have q1 : P1.size ≤ 1099511627776 := by rw [← hP1, ByteArray.size_append, show (⟨#[]⟩ : ByteArray).size = 0 from rfl]; omega
        have q2 : P2.size ≤ 1099511627776 := by rw [← hP2, ByteArray.size_append, ByteArray.size_append, show (⟨#[]⟩ : ByteArray).size = 0 from rfl, show (⟨#[48]⟩ : ByteArray).size = 1 from rfl]; omega
        have q3 : P3.size ≤ 1099511627776 := by rw [← hP3, ByteArray.size_append, show (⟨#[43]⟩ : ByteArray).size = 1 from rfl]; omega
        have q4 : P4.size ≤ 1099511627776 := by rw [← hP4, ByteArray.size_append, ByteArray.size_append, show (⟨#[]⟩ : ByteArray).size = 0 from rfl, show (⟨#[46, 48]⟩ : ByteArray).size = 2 from rfl]; omega
        have e1 : resolveR P1 = ⟨2, (K : Int), ⟨#[]⟩, 0⟩ := by rw [res_own P1 K hK p1, if_pos hr]
        have e2 : resolveR P2 = ⟨0, 0, ⟨#[]⟩, 50⟩ := res_nought P2 K p2
        have e3 : resolveR P3 = ⟨0, 0, ⟨#[]⟩, 50⟩ := res_plus P3 K p3
        have e4 : resolveR P4 = ⟨0, 0, ⟨#[]⟩, 50⟩ := res_point P4 K p4
        have r1 := fun w E => Resolve_any P1 q1 w E
        have r2 := fun w E => Resolve_any P2 q2 w E
        have r3 := fun w E => Resolve_any P3 q3 w E
        have r4 := fun w E => Resolve_any P4 q4 w E
        rw [e1] at r1
        rw [e2] at r2
        rw [e3] at r3
        rw [e4] at r4
        unfold Res.val at r1 r2 r3 r4
        have HP1 := Lib.hid hP1
        have HP2 := Lib.hid hP2
        have HP3 := Lib.hid hP3
        have HP4 := Lib.hid hP4
        have HR1 := Lib.hid r1
        have HR2 := Lib.hid r2
        have HR3 := Lib.hid r3
        have HR4 := Lib.hid r4
        clear hend hD0 hP1 hP2 hP3 hP4 p1 p2 p3 p4 q1 q2 q3 q4 e1 e2 e3 e4 r1 r2 r3 r4
        go_wp2_with fail
        rw [HP1.out]
        refine (HR1.out _ HE1.out).mono ?_
        rintro e v2 ⟨rfl, hb2⟩
        have HC2 := Lib.hid hb2
        clear hb2
        go_wp2_with fail
        obtain ⟨u2, hu2⟩ : ∃ u, v2.alloc (.cells #[.int .i64 2, .int .i64 (K : Int), .string ⟨#[]⟩] 23) = u := ⟨_, rfl⟩
        rw [hu2]
        have hx2 : u2.heap[v2.heap.size]? = some (.cells #[.int .i64 2, .int .i64 (K : Int), .string ⟨#[]⟩] 23) := by rw [← hu2]; exact heap_alloc_new v2 _
        have hc2 := HC2.out.alloc HC2.out.size (.cells #[.int .i64 2, .int .i64 (K : Int), .string ⟨#[]⟩] 23)
        rw [hu2] at hc2
        have HX2 := Lib.hid hx2
        have HE2 := Lib.hid (HE1.out.below hc2)
        have HB2 := Lib.hid (HB1.out.trans (hc2.mono HB1.out.size))
        have L2_2 := HX2
        clear hu2 hc2 hx2 HX2
        rw [HP2.out]
        refine (HR2.out _ HE2.out).mono ?_
        rintro e v3 ⟨rfl, hb3⟩
        have HC3 := Lib.hid hb3
        clear hb3
        go_wp2_with fail
        obtain ⟨u3, hu3⟩ : ∃ u, v3.alloc (.cells #[.int .i64 0, .int .i64 0, .string ⟨#[]⟩] 23) = u := ⟨_, rfl⟩
        rw [hu3]
        have hx3 : u3.heap[v3.heap.size]? = some (.cells #[.int .i64 0, .int .i64 0, .string ⟨#[]⟩] 23) := by rw [← hu3]; exact heap_alloc_new v3 _
        have hc3 := HC3.out.alloc HC3.out.size (.cells #[.int .i64 0, .int .i64 0, .string ⟨#[]⟩] 23)
        rw [hu3] at hc3
        have HX3 := Lib.hid hx3
        have HE3 := Lib.hid (HE2.out.below hc3)
        have HB3 := Lib.hid (HB2.out.trans (hc3.mono HB2.out.size))
        have L2_3 := Lib.hid ((hc3.block _ (Array.getElem?_eq_some_iff.1 L2_2.out).1).trans L2_2.out)
        have L3_3 := HX3
        clear hu3 hc3 hx3 HX3
        rw [HP3.out]
        refine (HR3.out _ HE3.out).mono ?_
        rintro e v4 ⟨rfl, hb4⟩
        have HC4 := Lib.hid hb4
        clear hb4
        go_wp2_with fail
        obtain ⟨u4, hu4⟩ : ∃ u, v4.alloc (.cells #[.int .i64 0, .int .i64 0, .string ⟨#[]⟩] 23) = u := ⟨_, rfl⟩
        rw [hu4]
        have hx4 : u4.heap[v4.heap.size]? = some (.cells #[.int .i64 0, .int .i64 0, .string ⟨#[]⟩] 23) := by rw [← hu4]; exact heap_alloc_new v4 _
        have hc4 := HC4.out.alloc HC4.out.size (.cells #[.int .i64 0, .int .i64 0, .string ⟨#[]⟩] 23)
        rw [hu4] at hc4
        have HX4 := Lib.hid hx4
        have HE4 := Lib.hid (HE3.out.below hc4)
        have HB4 := Lib.hid (HB3.out.trans (hc4.mono HB3.out.size))
        have L2_4 := Lib.hid ((hc4.block _ (Array.getElem?_eq_some_iff.1 L2_3.out).1).trans L2_3.out)
        have L3_4 := Lib.hid ((hc4.block _ (Array.getElem?_eq_some_iff.1 L3_3.out).1).trans L3_3.out)
        have L4_4 := HX4
        clear hu4 hc4 hx4 HX4
        rw [HP4.out]
        refine (HR4.out _ HE4.out).mono ?_
        rintro e v5 ⟨rfl, hb5⟩
        have HC5 := Lib.hid hb5
        clear hb5
        go_upto_region 18 with (fail)
        obtain ⟨u5, hu5⟩ : ∃ u, v5.alloc (.cells #[.int .i64 0, .int .i64 0, .string ⟨#[]⟩] 23) = u := ⟨_, rfl⟩
        rw [hu5]
        have hx5 : u5.heap[v5.heap.size]? = some (.cells #[.int .i64 0, .int .i64 0, .string ⟨#[]⟩] 23) := by rw [← hu5]; exact heap_alloc_new v5 _
        have hc5 := HC5.out.alloc HC5.out.size (.cells #[.int .i64 0, .int .i64 0, .string ⟨#[]⟩] 23)
        rw [hu5] at hc5
        have HX5 := Lib.hid hx5
        have HE5 := Lib.hid (HE4.out.below hc5)
        have HB5 := Lib.hid (HB4.out.trans (hc5.mono HB4.out.size))
        have L2_5 := Lib.hid ((hc5.block _ (Array.getElem?_eq_some_iff.1 L2_4.out).1).trans L2_4.out)
        have L3_5 := Lib.hid ((hc5.block _ (Array.getElem?_eq_some_iff.1 L3_4.out).1).trans L3_4.out)
        have L4_5 := Lib.hid ((hc5.block _ (Array.getElem?_eq_some_iff.1 L4_4.out).1).trans L4_4.out)
        have L5_5 := HX5
        clear hu5 hc5 hx5 HX5
        have q := eq_sc
        have q2 := equal_sc
        have qg := guard_sc
        have s1 : sameB 2 (K : Int) ⟨#[]⟩ 2 (K : Int) ⟨#[]⟩ = true := by simp [sameB]
        have l2c0 := cell_of_row _ _ 0 _ _ _ L2_5.out
        have l2c1 := cell_of_row _ _ 1 _ _ _ L2_5.out
        have l2c2 := cell_of_row _ _ 2 _ _ _ L2_5.out
        simp at l2c0 l2c1 l2c2
        go_wp2_with fail
        go_ret
        exact ⟨rfl, HB5.out⟩
set_option maxRecDepth 100000 in
set_option maxHeartbeats 4000000 in
theorem numP2 (K : Nat) (hK : K ≤ 99999999999999999) (hr : 999999999999999 < K) (w : World) (E : Env w) :
    Calls Tryd.prog 5 #[.int .i64 (K : Int)] w fun e w' => e = .returned (.bool true) ∧ Below w.heap.size w w' := by
  have HE0 := Lib.hid E
  have hK1 : (K : Int) ≤ 99999999999999999 := by omega
  have hK4 : (999999999999999 : Int) < (K : Int) := by omega
  clear E
  go_enter Tryd.func5, Tryd.ntmps5
  go_wp2_with fail
  refine (shown_any _ HE0.out).mono ?_
  rintro e w1 ⟨rfl, hb1⟩
  have HB1 := Lib.hid hb1
  have HE1 := Lib.hid (HE0.out.below hb1)
  clear hb1
  go_wp2_with fail
  go_loop [4, 5] (fun d k => ∃ (D : ByteArray) (j : Nat), d = .string D ∧ k = .int .i64 j ∧ j ≤ 99999999999999999 ∧ D.size ≤ 17 ∧ DigInv K D j) (fun d k => 2 * (intOf k).toNat + (match d with | .string D => 20 - D.size | _ => 0))
  case atStart => exact ⟨⟨#[]⟩, K, rfl, rfl, hK, by decide, .inr ⟨by simp, .inr rfl⟩⟩
  case round =>
    obtain ⟨D, j, rfl, rfl, hj, hD, hinv⟩ := hrel
    have HI := Lib.hid hinv
    clear hinv
    by_cases hj0 : 0 < j
    · have hjz : (0 : Int) < (j : Int) := by omega
      go_wp2_with fail
      have hst := inv_step HI.out (.inl hj0) (digit_text (j % 10) (by omega))
      refine ⟨⟨_, j / 10, rfl, by go_num, by omega, inv_size hK hst, hst⟩, ?_⟩
      have hX : ∀ r < 10, ((⟨#[48, 49, 50, 51, 52, 53, 54, 55, 56, 57]⟩ : ByteArray).extract r (r + 1)).size = 1 := fun r hr => by rw [← size_list, digit_text r hr]; rfl
      simp only [intOf, ByteArray.size_append, hX (j % 10) (by omega)]
      omega
    · obtain rfl : j = 0 := by omega
      by_cases hD0 : D.data.toList = []
      · have z1 : D.toList = [] := by rw [ByteArray.toList_eq, hD0]
        have z2 : D.toList.isEmpty = true := by rw [z1]; rfl
        have hst := inv_step HI.out (.inr hD0) (digit_text 0 (by omega))
        have HST := Lib.hid hst
        clear hst hD0
        go_wp2_with fail
        refine ⟨⟨_, 0, rfl, rfl, by omega, inv_size hK HST.out, HST.out⟩, ?_⟩
        have hX : ((⟨#[48, 49, 50, 51, 52, 53, 54, 55, 56, 57]⟩ : ByteArray).extract 0 1).size = 1 := by rw [← size_list, digit_text 0 (by decide)]; rfl
        simp only [intOf, ByteArray.size_append, hX]
        omega
      · have z1 : ¬ D.toList = [] := by rw [ByteArray.toList_eq]; exact hD0
        have z2 : D.toList.isEmpty = false := by rw [ByteArray.toList_eq]; simpa using hD0
        have hend := inv_end HI.out hD0
        obtain ⟨P1, hP1⟩ : ∃ P, (⟨#[]⟩ : ByteArray) ++ D = P := ⟨_, rfl⟩
        obtain ⟨P2, hP2⟩ : ∃ P, (⟨#[]⟩ : ByteArray) ++ ⟨#[48]⟩ ++ D = P := ⟨_, rfl⟩
        obtain ⟨P3, hP3⟩ : ∃ P, (⟨#[43]⟩ : ByteArray) ++ D = P := ⟨_, rfl⟩
        obtain ⟨P4, hP4⟩ : ∃ P, (⟨#[]⟩ : ByteArray) ++ D ++ ⟨#[46, 48]⟩ = P := ⟨_, rfl⟩
        have p1 : P1.data.toList = decDigits K := by rw [← hP1, app_list, hend]; rfl
        have p2 : P2.data.toList = 48 :: decDigits K := by rw [← hP2, app_list, app_list, hend]; rfl
        have p3 : P3.data.toList = 43 :: decDigits K := by rw [← hP3, app_list, hend]; rfl
        have p4 : P4.data.toList = (decDigits K ++ [46, 48]) := by rw [← hP4, app_list, app_list, hend]; rfl
        have q1 : P1.size ≤ 1099511627776 := by rw [← hP1, ByteArray.size_append, show (⟨#[]⟩ : ByteArray).size = 0 from rfl]; omega
        have q2 : P2.size ≤ 1099511627776 := by rw [← hP2, ByteArray.size_append, ByteArray.size_append, show (⟨#[]⟩ : ByteArray).size = 0 from rfl, show (⟨#[48]⟩ : ByteArray).size = 1 from rfl]; omega
        have q3 : P3.size ≤ 1099511627776 := by rw [← hP3, ByteArray.size_append, show (⟨#[43]⟩ : ByteArray).size = 1 from rfl]; omega
        have q4 : P4.size ≤ 1099511627776 := by rw [← hP4, ByteArray.size_append, ByteArray.size_append, show (⟨#[]⟩ : ByteArray).size = 0 from rfl, show (⟨#[46, 48]⟩ : ByteArray).size = 2 from rfl]; omega
        have e1 : resolveR P1 = ⟨0, 0, ⟨#[]⟩, 50⟩ := by rw [res_own P1 K hK p1, if_neg (by omega)]
        have e2 : resolveR P2 = ⟨0, 0, ⟨#[]⟩, 50⟩ := res_nought P2 K p2
        have e3 : resolveR P3 = ⟨0, 0, ⟨#[]⟩, 50⟩ := res_plus P3 K p3
        have e4 : resolveR P4 = ⟨0, 0, ⟨#[]⟩, 50⟩ := res_point P4 K p4
        have r1 := fun w E => Resolve_any P1 q1 w E
        have r2 := fun w E => Resolve_any P2 q2 w E
        have r3 := fun w E => Resolve_any P3 q3 w E
        have r4 := fun w E => Resolve_any P4 q4 w E
        rw [e1] at r1
        rw [e2] at r2
        rw [e3] at r3
        rw [e4] at r4
        unfold Res.val at r1 r2 r3 r4
        have HP1 := Lib.hid hP1
        have HP2 := Lib.hid hP2
        have HP3 := Lib.hid hP3
        have HP4 := Lib.hid hP4
        have HR1 := Lib.hid r1
        have HR2 := Lib.hid r2
        have HR3 := Lib.hid r3
        have HR4 := Lib.hid r4
        clear hend hD0 hP1 hP2 hP3 hP4 p1 p2 p3 p4 q1 q2 q3 q4 e1 e2 e3 e4 r1 r2 r3 r4
        go_wp2_with fail
        rw [HP1.out]
        refine (HR1.out _ HE1.out).mono ?_
        rintro e v2 ⟨rfl, hb2⟩
        have HC2 := Lib.hid hb2
        clear hb2
        go_wp2_with fail
        obtain ⟨u2, hu2⟩ : ∃ u, v2.alloc (.cells #[.int .i64 0, .int .i64 0, .string ⟨#[]⟩] 23) = u := ⟨_, rfl⟩
        rw [hu2]
        have hx2 : u2.heap[v2.heap.size]? = some (.cells #[.int .i64 0, .int .i64 0, .string ⟨#[]⟩] 23) := by rw [← hu2]; exact heap_alloc_new v2 _
        have hc2 := HC2.out.alloc HC2.out.size (.cells #[.int .i64 0, .int .i64 0, .string ⟨#[]⟩] 23)
        rw [hu2] at hc2
        have HX2 := Lib.hid hx2
        have HE2 := Lib.hid (HE1.out.below hc2)
        have HB2 := Lib.hid (HB1.out.trans (hc2.mono HB1.out.size))
        have L2_2 := HX2
        clear hu2 hc2 hx2 HX2
        rw [HP2.out]
        refine (HR2.out _ HE2.out).mono ?_
        rintro e v3 ⟨rfl, hb3⟩
        have HC3 := Lib.hid hb3
        clear hb3
        go_wp2_with fail
        obtain ⟨u3, hu3⟩ : ∃ u, v3.alloc (.cells #[.int .i64 0, .int .i64 0, .string ⟨#[]⟩] 23) = u := ⟨_, rfl⟩
        rw [hu3]
        have hx3 : u3.heap[v3.heap.size]? = some (.cells #[.int .i64 0, .int .i64 0, .string ⟨#[]⟩] 23) := by rw [← hu3]; exact heap_alloc_new v3 _
        have hc3 := HC3.out.alloc HC3.out.size (.cells #[.int .i64 0, .int .i64 0, .string ⟨#[]⟩] 23)
        rw [hu3] at hc3
        have HX3 := Lib.hid hx3
        have HE3 := Lib.hid (HE2.out.below hc3)
        have HB3 := Lib.hid (HB2.out.trans (hc3.mono HB2.out.size))
        have L2_3 := Lib.hid ((hc3.block _ (Array.getElem?_eq_some_iff.1 L2_2.out).1).trans L2_2.out)
        have L3_3 := HX3
        clear hu3 hc3 hx3 HX3
        rw [HP3.out]
        refine (HR3.out _ HE3.out).mono ?_
        rintro e v4 ⟨rfl, hb4⟩
        have HC4 := Lib.hid hb4
        clear hb4
        go_wp2_with fail
        obtain ⟨u4, hu4⟩ : ∃ u, v4.alloc (.cells #[.int .i64 0, .int .i64 0, .string ⟨#[]⟩] 23) = u := ⟨_, rfl⟩
        rw [hu4]
        have hx4 : u4.heap[v4.heap.size]? = some (.cells #[.int .i64 0, .int .i64 0, .string ⟨#[]⟩] 23) := by rw [← hu4]; exact heap_alloc_new v4 _
        have hc4 := HC4.out.alloc HC4.out.size (.cells #[.int .i64 0, .int .i64 0, .string ⟨#[]⟩] 23)
        rw [hu4] at hc4
        have HX4 := Lib.hid hx4
        have HE4 := Lib.hid (HE3.out.below hc4)
        have HB4 := Lib.hid (HB3.out.trans (hc4.mono HB3.out.size))
        have L2_4 := Lib.hid ((hc4.block _ (Array.getElem?_eq_some_iff.1 L2_3.out).1).trans L2_3.out)
        have L3_4 := Lib.hid ((hc4.block _ (Array.getElem?_eq_some_iff.1 L3_3.out).1).trans L3_3.out)
        have L4_4 := HX4
        clear hu4 hc4 hx4 HX4
        rw [HP4.out]
        refine (HR4.out _ HE4.out).mono ?_
        rintro e v5 ⟨rfl, hb5⟩
        have HC5 := Lib.hid hb5
        clear hb5
        go_upto_region 18 with (fail)
        obtain ⟨u5, hu5⟩ : ∃ u, v5.alloc (.cells #[.int .i64 0, .int .i64 0, .string ⟨#[]⟩] 23) = u := ⟨_, rfl⟩
        rw [hu5]
        have hx5 : u5.heap[v5.heap.size]? = some (.cells #[.int .i64 0, .int .i64 0, .string ⟨#[]⟩] 23) := by rw [← hu5]; exact heap_alloc_new v5 _
        have hc5 := HC5.out.alloc HC5.out.size (.cells #[.int .i64 0, .int .i64 0, .string ⟨#[]⟩] 23)
        rw [hu5] at hc5
        have HX5 := Lib.hid hx5
        have HE5 := Lib.hid (HE4.out.below hc5)
        have HB5 := Lib.hid (HB4.out.trans (hc5.mono HB4.out.size))
        have L2_5 := Lib.hid ((hc5.block _ (Array.getElem?_eq_some_iff.1 L2_4.out).1).trans L2_4.out)
        have L3_5 := Lib.hid ((hc5.block _ (Array.getElem?_eq_some_iff.1 L3_4.out).1).trans L3_4.out)
        have L4_5 := Lib.hid ((hc5.block _ (Array.getElem?_eq_some_iff.1 L4_4.out).1).trans L4_4.out)
        have L5_5 := HX5
        clear hu5 hc5 hx5 HX5
        have q := eq_sc
        have q2 := equal_sc
        have qg := guard_sc
        have l2c0 := cell_of_row _ _ 0 _ _ _ L2_5.out
        have l2c1 := cell_of_row _ _ 1 _ _ _ L2_5.out
        have l2c2 := cell_of_row _ _ 2 _ _ _ L2_5.out
        simp at l2c0 l2c1 l2c2
        go_wp2_with fail
        go_ret
        exact ⟨rfl, HB5.out⟩
set_option maxRecDepth 100000 in
set_option maxHeartbeats 4000000 in
theorem numM1 (K : Nat) (h1 : 1 ≤ K) (hK : K ≤ 99999999999999999) (hr : K ≤ 999999999999999) (w : World) (E : Env w) :
    Calls Tryd.prog 5 #[.int .i64 (-(K : Int))] w fun e w' => e = .returned (.bool true) ∧ Below w.heap.size w w' := by
  have HE0 := Lib.hid E
  have hK1 : (K : Int) ≤ 99999999999999999 := by omega
  have hK2 : (1 : Int) ≤ (K : Int) := by omega
  have hK3 : -(K : Int) < 0 := by omega
  have hK4 : (K : Int) ≤ 999999999999999 := by omega
  clear E
  go_enter Tryd.func5, Tryd.ntmps5
  go_wp2_with fail
  refine (shown_any _ HE0.out).mono ?_
  rintro e w1 ⟨rfl, hb1⟩
  have HB1 := Lib.hid hb1
  have HE1 := Lib.hid (HE0.out.below hb1)
  clear hb1
  go_wp2_with fail
  go_loop [4, 5] (fun d k => ∃ (D : ByteArray) (j : Nat), d = .string D ∧ k = .int .i64 j ∧ j ≤ 99999999999999999 ∧ D.size ≤ 17 ∧ DigInv K D j) (fun d k => 2 * (intOf k).toNat + (match d with | .string D => 20 - D.size | _ => 0))
  case atStart => exact ⟨⟨#[]⟩, K, rfl, rfl, hK, by decide, .inr ⟨by simp, .inr rfl⟩⟩
  case round =>
    obtain ⟨D, j, rfl, rfl, hj, hD, hinv⟩ := hrel
    have HI := Lib.hid hinv
    clear hinv
    by_cases hj0 : 0 < j
    · have hjz : (0 : Int) < (j : Int) := by omega
      go_wp2_with fail
      have hst := inv_step HI.out (.inl hj0) (digit_text (j % 10) (by omega))
      refine ⟨⟨_, j / 10, rfl, by go_num, by omega, inv_size hK hst, hst⟩, ?_⟩
      have hX : ∀ r < 10, ((⟨#[48, 49, 50, 51, 52, 53, 54, 55, 56, 57]⟩ : ByteArray).extract r (r + 1)).size = 1 := fun r hr => by rw [← size_list, digit_text r hr]; rfl
      simp only [intOf, ByteArray.size_append, hX (j % 10) (by omega)]
      omega
    · obtain rfl : j = 0 := by omega
      by_cases hD0 : D.data.toList = []
      · have z1 : D.toList = [] := by rw [ByteArray.toList_eq, hD0]
        have z2 : D.toList.isEmpty = true := by rw [z1]; rfl
        have hst := inv_step HI.out (.inr hD0) (digit_text 0 (by omega))
        have HST := Lib.hid hst
        clear hst hD0
        go_wp2_with fail
        refine ⟨⟨_, 0, rfl, rfl, by omega, inv_size hK HST.out, HST.out⟩, ?_⟩
        have hX : ((⟨#[48, 49, 50, 51, 52, 53, 54, 55, 56, 57]⟩ : ByteArray).extract 0 1).size = 1 := by rw [← size_list, digit_text 0 (by decide)]; rfl
        simp only [intOf, ByteArray.size_append, hX]
        omega
      · have z1 : ¬ D.toList = [] := by rw [ByteArray.toList_eq]; exact hD0
        have z2 : D.toList.isEmpty = false := by rw [ByteArray.toList_eq]; simpa using hD0
        have hend := inv_end HI.out hD0
        obtain ⟨P1, hP1⟩ : ∃ P, (⟨#[45]⟩ : ByteArray) ++ D = P := ⟨_, rfl⟩
        obtain ⟨P2, hP2⟩ : ∃ P, (⟨#[45]⟩ : ByteArray) ++ ⟨#[48]⟩ ++ D = P := ⟨_, rfl⟩
        obtain ⟨P3, hP3⟩ : ∃ P, (⟨#[43]⟩ : ByteArray) ++ D = P := ⟨_, rfl⟩
        obtain ⟨P4, hP4⟩ : ∃ P, (⟨#[45]⟩ : ByteArray) ++ D ++ ⟨#[46, 48]⟩ = P := ⟨_, rfl⟩
        have p1 : P1.data.toList = 45 :: decDigits K := by rw [← hP1, app_list, hend]; rfl
        have p2 : P2.data.toList = 45 :: 48 :: decDigits K := by rw [← hP2, app_list, app_list, hend]; rfl
        have p3 : P3.data.toList = 43 :: decDigits K := by rw [← hP3, app_list, hend]; rfl
        have p4 : P4.data.toList = 45 :: (decDigits K ++ [46, 48]) := by rw [← hP4, app_list, app_list, hend]; rfl
        have q1 : P1.size ≤ 1099511627776 := by rw [← hP1, ByteArray.size_append, show (⟨#[45]⟩ : ByteArray).size = 1 from rfl]; omega
        have q2 : P2.size ≤ 1099511627776 := by rw [← hP2, ByteArray.size_append, ByteArray.size_append, show (⟨#[45]⟩ : ByteArray).size = 1 from rfl, show (⟨#[48]⟩ : ByteArray).size = 1 from rfl]; omega
        have q3 : P3.size ≤ 1099511627776 := by rw [← hP3, ByteArray.size_append, show (⟨#[43]⟩ : ByteArray).size = 1 from rfl]; omega
        have q4 : P4.size ≤ 1099511627776 := by rw [← hP4, ByteArray.size_append, ByteArray.size_append, show (⟨#[45]⟩ : ByteArray).size = 1 from rfl, show (⟨#[46, 48]⟩ : ByteArray).size = 2 from rfl]; omega
        have e1 : resolveR P1 = ⟨2, (-(K : Int)), ⟨#[]⟩, 0⟩ := by rw [res_mown P1 K h1 hK p1, if_pos hr]
        have e2 : resolveR P2 = ⟨0, 0, ⟨#[]⟩, 50⟩ := res_mnought P2 K p2
        have e3 : resolveR P3 = ⟨0, 0, ⟨#[]⟩, 50⟩ := res_plus P3 K p3
        have e4 : resolveR P4 = ⟨0, 0, ⟨#[]⟩, 50⟩ := res_mpoint P4 K p4
        have r1 := fun w E => Resolve_any P1 q1 w E
        have r2 := fun w E => Resolve_any P2 q2 w E
        have r3 := fun w E => Resolve_any P3 q3 w E
        have r4 := fun w E => Resolve_any P4 q4 w E
        rw [e1] at r1
        rw [e2] at r2
        rw [e3] at r3
        rw [e4] at r4
        unfold Res.val at r1 r2 r3 r4
        have HP1 := Lib.hid hP1
        have HP2 := Lib.hid hP2
        have HP3 := Lib.hid hP3
        have HP4 := Lib.hid hP4
        have HR1 := Lib.hid r1
        have HR2 := Lib.hid r2
        have HR3 := Lib.hid r3
        have HR4 := Lib.hid r4
        clear hend hD0 hP1 hP2 hP3 hP4 p1 p2 p3 p4 q1 q2 q3 q4 e1 e2 e3 e4 r1 r2 r3 r4
        go_wp2_with fail
        rw [HP1.out]
        refine (HR1.out _ HE1.out).mono ?_
        rintro e v2 ⟨rfl, hb2⟩
        have HC2 := Lib.hid hb2
        clear hb2
        go_wp2_with fail
        obtain ⟨u2, hu2⟩ : ∃ u, v2.alloc (.cells #[.int .i64 2, .int .i64 (-(K : Int)), .string ⟨#[]⟩] 23) = u := ⟨_, rfl⟩
        rw [hu2]
        have hx2 : u2.heap[v2.heap.size]? = some (.cells #[.int .i64 2, .int .i64 (-(K : Int)), .string ⟨#[]⟩] 23) := by rw [← hu2]; exact heap_alloc_new v2 _
        have hc2 := HC2.out.alloc HC2.out.size (.cells #[.int .i64 2, .int .i64 (-(K : Int)), .string ⟨#[]⟩] 23)
        rw [hu2] at hc2
        have HX2 := Lib.hid hx2
        have HE2 := Lib.hid (HE1.out.below hc2)
        have HB2 := Lib.hid (HB1.out.trans (hc2.mono HB1.out.size))
        have L2_2 := HX2
        clear hu2 hc2 hx2 HX2
        rw [HP2.out]
        refine (HR2.out _ HE2.out).mono ?_
        rintro e v3 ⟨rfl, hb3⟩
        have HC3 := Lib.hid hb3
        clear hb3
        go_wp2_with fail
        obtain ⟨u3, hu3⟩ : ∃ u, v3.alloc (.cells #[.int .i64 0, .int .i64 0, .string ⟨#[]⟩] 23) = u := ⟨_, rfl⟩
        rw [hu3]
        have hx3 : u3.heap[v3.heap.size]? = some (.cells #[.int .i64 0, .int .i64 0, .string ⟨#[]⟩] 23) := by rw [← hu3]; exact heap_alloc_new v3 _
        have hc3 := HC3.out.alloc HC3.out.size (.cells #[.int .i64 0, .int .i64 0, .string ⟨#[]⟩] 23)
        rw [hu3] at hc3
        have HX3 := Lib.hid hx3
        have HE3 := Lib.hid (HE2.out.below hc3)
        have HB3 := Lib.hid (HB2.out.trans (hc3.mono HB2.out.size))
        have L2_3 := Lib.hid ((hc3.block _ (Array.getElem?_eq_some_iff.1 L2_2.out).1).trans L2_2.out)
        have L3_3 := HX3
        clear hu3 hc3 hx3 HX3
        rw [HP3.out]
        refine (HR3.out _ HE3.out).mono ?_
        rintro e v4 ⟨rfl, hb4⟩
        have HC4 := Lib.hid hb4
        clear hb4
        go_wp2_with fail
        obtain ⟨u4, hu4⟩ : ∃ u, v4.alloc (.cells #[.int .i64 0, .int .i64 0, .string ⟨#[]⟩] 23) = u := ⟨_, rfl⟩
        rw [hu4]
        have hx4 : u4.heap[v4.heap.size]? = some (.cells #[.int .i64 0, .int .i64 0, .string ⟨#[]⟩] 23) := by rw [← hu4]; exact heap_alloc_new v4 _
        have hc4 := HC4.out.alloc HC4.out.size (.cells #[.int .i64 0, .int .i64 0, .string ⟨#[]⟩] 23)
        rw [hu4] at hc4
        have HX4 := Lib.hid hx4
        have HE4 := Lib.hid (HE3.out.below hc4)
        have HB4 := Lib.hid (HB3.out.trans (hc4.mono HB3.out.size))
        have L2_4 := Lib.hid ((hc4.block _ (Array.getElem?_eq_some_iff.1 L2_3.out).1).trans L2_3.out)
        have L3_4 := Lib.hid ((hc4.block _ (Array.getElem?_eq_some_iff.1 L3_3.out).1).trans L3_3.out)
        have L4_4 := HX4
        clear hu4 hc4 hx4 HX4
        rw [HP4.out]
        refine (HR4.out _ HE4.out).mono ?_
        rintro e v5 ⟨rfl, hb5⟩
        have HC5 := Lib.hid hb5
        clear hb5
        go_upto_region 18 with (fail)
        obtain ⟨u5, hu5⟩ : ∃ u, v5.alloc (.cells #[.int .i64 0, .int .i64 0, .string ⟨#[]⟩] 23) = u := ⟨_, rfl⟩
        rw [hu5]
        have hx5 : u5.heap[v5.heap.size]? = some (.cells #[.int .i64 0, .int .i64 0, .string ⟨#[]⟩] 23) := by rw [← hu5]; exact heap_alloc_new v5 _
        have hc5 := HC5.out.alloc HC5.out.size (.cells #[.int .i64 0, .int .i64 0, .string ⟨#[]⟩] 23)
        rw [hu5] at hc5
        have HX5 := Lib.hid hx5
        have HE5 := Lib.hid (HE4.out.below hc5)
        have HB5 := Lib.hid (HB4.out.trans (hc5.mono HB4.out.size))
        have L2_5 := Lib.hid ((hc5.block _ (Array.getElem?_eq_some_iff.1 L2_4.out).1).trans L2_4.out)
        have L3_5 := Lib.hid ((hc5.block _ (Array.getElem?_eq_some_iff.1 L3_4.out).1).trans L3_4.out)
        have L4_5 := Lib.hid ((hc5.block _ (Array.getElem?_eq_some_iff.1 L4_4.out).1).trans L4_4.out)
        have L5_5 := HX5
        clear hu5 hc5 hx5 HX5
        have q := eq_sc
        have q2 := equal_sc
        have qg := guard_sc
        have s1 : sameB 2 (-(K : Int)) ⟨#[]⟩ 2 (-(K : Int)) ⟨#[]⟩ = true := by simp [sameB]
        have l2c0 := cell_of_row _ _ 0 _ _ _ L2_5.out
        have l2c1 := cell_of_row _ _ 1 _ _ _ L2_5.out
        have l2c2 := cell_of_row _ _ 2 _ _ _ L2_5.out
        simp at l2c0 l2c1 l2c2
        go_wp2_with fail
        go_ret
        exact ⟨rfl, HB5.out⟩
set_option maxRecDepth 100000 in
set_option maxHeartbeats 4000000 in
theorem numM2 (K : Nat) (h1 : 1 ≤ K) (hK : K ≤ 99999999999999999) (hr : 999999999999999 < K) (w : World) (E : Env w) :
    Calls Tryd.prog 5 #[.int .i64 (-(K : Int))] w fun e w' => e = .returned (.bool true) ∧ Below w.heap.size w w' := by
  have HE0 := Lib.hid E
  have hK1 : (K : Int) ≤ 99999999999999999 := by omega
  have hK2 : (1 : Int) ≤ (K : Int) := by omega
  have hK3 : -(K : Int) < 0 := by omega
  have hK4 : (999999999999999 : Int) < (K : Int) := by omega
  clear E
  go_enter Tryd.func5, Tryd.ntmps5
  go_wp2_with fail
  refine (shown_any _ HE0.out).mono ?_
  rintro e w1 ⟨rfl, hb1⟩
  have HB1 := Lib.hid hb1
  have HE1 := Lib.hid (HE0.out.below hb1)
  clear hb1
  go_wp2_with fail
  go_loop [4, 5] (fun d k => ∃ (D : ByteArray) (j : Nat), d = .string D ∧ k = .int .i64 j ∧ j ≤ 99999999999999999 ∧ D.size ≤ 17 ∧ DigInv K D j) (fun d k => 2 * (intOf k).toNat + (match d with | .string D => 20 - D.size | _ => 0))
  case atStart => exact ⟨⟨#[]⟩, K, rfl, rfl, hK, by decide, .inr ⟨by simp, .inr rfl⟩⟩
  case round =>
    obtain ⟨D, j, rfl, rfl, hj, hD, hinv⟩ := hrel
    have HI := Lib.hid hinv
    clear hinv
    by_cases hj0 : 0 < j
    · have hjz : (0 : Int) < (j : Int) := by omega
      go_wp2_with fail
      have hst := inv_step HI.out (.inl hj0) (digit_text (j % 10) (by omega))
      refine ⟨⟨_, j / 10, rfl, by go_num, by omega, inv_size hK hst, hst⟩, ?_⟩
      have hX : ∀ r < 10, ((⟨#[48, 49, 50, 51, 52, 53, 54, 55, 56, 57]⟩ : ByteArray).extract r (r + 1)).size = 1 := fun r hr => by rw [← size_list, digit_text r hr]; rfl
      simp only [intOf, ByteArray.size_append, hX (j % 10) (by omega)]
      omega
    · obtain rfl : j = 0 := by omega
      by_cases hD0 : D.data.toList = []
      · have z1 : D.toList = [] := by rw [ByteArray.toList_eq, hD0]
        have z2 : D.toList.isEmpty = true := by rw [z1]; rfl
        have hst := inv_step HI.out (.inr hD0) (digit_text 0 (by omega))
        have HST := Lib.hid hst
        clear hst hD0
        go_wp2_with fail
        refine ⟨⟨_, 0, rfl, rfl, by omega, inv_size hK HST.out, HST.out⟩, ?_⟩
        have hX : ((⟨#[48, 49, 50, 51, 52, 53, 54, 55, 56, 57]⟩ : ByteArray).extract 0 1).size = 1 := by rw [← size_list, digit_text 0 (by decide)]; rfl
        simp only [intOf, ByteArray.size_append, hX]
        omega
      · have z1 : ¬ D.toList = [] := by rw [ByteArray.toList_eq]; exact hD0
        have z2 : D.toList.isEmpty = false := by rw [ByteArray.toList_eq]; simpa using hD0
        have hend := inv_end HI.out hD0
        obtain ⟨P1, hP1⟩ : ∃ P, (⟨#[45]⟩ : ByteArray) ++ D = P := ⟨_, rfl⟩
        obtain ⟨P2, hP2⟩ : ∃ P, (⟨#[45]⟩ : ByteArray) ++ ⟨#[48]⟩ ++ D = P := ⟨_, rfl⟩
        obtain ⟨P3, hP3⟩ : ∃ P, (⟨#[43]⟩ : ByteArray) ++ D = P := ⟨_, rfl⟩
        obtain ⟨P4, hP4⟩ : ∃ P, (⟨#[45]⟩ : ByteArray) ++ D ++ ⟨#[46, 48]⟩ = P := ⟨_, rfl⟩
        have p1 : P1.data.toList = 45 :: decDigits K := by rw [← hP1, app_list, hend]; rfl
        have p2 : P2.data.toList = 45 :: 48 :: decDigits K := by rw [← hP2, app_list, app_list, hend]; rfl
        have p3 : P3.data.toList = 43 :: decDigits K := by rw [← hP3, app_list, hend]; rfl
        have p4 : P4.data.toList = 45 :: (decDigits K ++ [46, 48]) := by rw [← hP4, app_list, app_list, hend]; rfl
        have q1 : P1.size ≤ 1099511627776 := by rw [← hP1, ByteArray.size_append, show (⟨#[45]⟩ : ByteArray).size = 1 from rfl]; omega
        have q2 : P2.size ≤ 1099511627776 := by rw [← hP2, ByteArray.size_append, ByteArray.size_append, show (⟨#[45]⟩ : ByteArray).size = 1 from rfl, show (⟨#[48]⟩ : ByteArray).size = 1 from rfl]; omega
        have q3 : P3.size ≤ 1099511627776 := by rw [← hP3, ByteArray.size_append, show (⟨#[43]⟩ : ByteArray).size = 1 from rfl]; omega
        have q4 : P4.size ≤ 1099511627776 := by rw [← hP4, ByteArray.size_append, ByteArray.size_append, show (⟨#[45]⟩ : ByteArray).size = 1 from rfl, show (⟨#[46, 48]⟩ : ByteArray).size = 2 from rfl]; omega
        have e1 : resolveR P1 = ⟨0, 0, ⟨#[]⟩, 50⟩ := by rw [res_mown P1 K h1 hK p1, if_neg (by omega)]
        have e2 : resolveR P2 = ⟨0, 0, ⟨#[]⟩, 50⟩ := res_mnought P2 K p2
        have e3 : resolveR P3 = ⟨0, 0, ⟨#[]⟩, 50⟩ := res_plus P3 K p3
        have e4 : resolveR P4 = ⟨0, 0, ⟨#[]⟩, 50⟩ := res_mpoint P4 K p4
        have r1 := fun w E => Resolve_any P1 q1 w E
        have r2 := fun w E => Resolve_any P2 q2 w E
        have r3 := fun w E => Resolve_any P3 q3 w E
        have r4 := fun w E => Resolve_any P4 q4 w E
        rw [e1] at r1
        rw [e2] at r2
        rw [e3] at r3
        rw [e4] at r4
        unfold Res.val at r1 r2 r3 r4
        have HP1 := Lib.hid hP1
        have HP2 := Lib.hid hP2
        have HP3 := Lib.hid hP3
        have HP4 := Lib.hid hP4
        have HR1 := Lib.hid r1
        have HR2 := Lib.hid r2
        have HR3 := Lib.hid r3
        have HR4 := Lib.hid r4
        clear hend hD0 hP1 hP2 hP3 hP4 p1 p2 p3 p4 q1 q2 q3 q4 e1 e2 e3 e4 r1 r2 r3 r4
        go_wp2_with fail
        rw [HP1.out]
        refine (HR1.out _ HE1.out).mono ?_
        rintro e v2 ⟨rfl, hb2⟩
        have HC2 := Lib.hid hb2
        clear hb2
        go_wp2_with fail
        obtain ⟨u2, hu2⟩ : ∃ u, v2.alloc (.cells #[.int .i64 0, .int .i64 0, .string ⟨#[]⟩] 23) = u := ⟨_, rfl⟩
        rw [hu2]
        have hx2 : u2.heap[v2.heap.size]? = some (.cells #[.int .i64 0, .int .i64 0, .string ⟨#[]⟩] 23) := by rw [← hu2]; exact heap_alloc_new v2 _
        have hc2 := HC2.out.alloc HC2.out.size (.cells #[.int .i64 0, .int .i64 0, .string ⟨#[]⟩] 23)
        rw [hu2] at hc2
        have HX2 := Lib.hid hx2
        have HE2 := Lib.hid (HE1.out.below hc2)
        have HB2 := Lib.hid (HB1.out.trans (hc2.mono HB1.out.size))
        have L2_2 := HX2
        clear hu2 hc2 hx2 HX2
        rw [HP2.out]
        refine (HR2.out _ HE2.out).mono ?_
        rintro e v3 ⟨rfl, hb3⟩
        have HC3 := Lib.hid hb3
        clear hb3
        go_wp2_with fail
        obtain ⟨u3, hu3⟩ : ∃ u, v3.alloc (.cells #[.int .i64 0, .int .i64 0, .string ⟨#[]⟩] 23) = u := ⟨_, rfl⟩
        rw [hu3]
        have hx3 : u3.heap[v3.heap.size]? = some (.cells #[.int .i64 0, .int .i64 0, .string ⟨#[]⟩] 23) := by rw [← hu3]; exact heap_alloc_new v3 _
        have hc3 := HC3.out.alloc HC3.out.size (.cells #[.int .i64 0, .int .i64 0, .string ⟨#[]⟩] 23)
        rw [hu3] at hc3
        have HX3 := Lib.hid hx3
        have HE3 := Lib.hid (HE2.out.below hc3)
        have HB3 := Lib.hid (HB2.out.trans (hc3.mono HB2.out.size))
        have L2_3 := Lib.hid ((hc3.block _ (Array.getElem?_eq_some_iff.1 L2_2.out).1).trans L2_2.out)
        have L3_3 := HX3
        clear hu3 hc3 hx3 HX3
        rw [HP3.out]
        refine (HR3.out _ HE3.out).mono ?_
        rintro e v4 ⟨rfl, hb4⟩
        have HC4 := Lib.hid hb4
        clear hb4
        go_wp2_with fail
        obtain ⟨u4, hu4⟩ : ∃ u, v4.alloc (.cells #[.int .i64 0, .int .i64 0, .string ⟨#[]⟩] 23) = u := ⟨_, rfl⟩
        rw [hu4]
        have hx4 : u4.heap[v4.heap.size]? = some (.cells #[.int .i64 0, .int .i64 0, .string ⟨#[]⟩] 23) := by rw [← hu4]; exact heap_alloc_new v4 _
        have hc4 := HC4.out.alloc HC4.out.size (.cells #[.int .i64 0, .int .i64 0, .string ⟨#[]⟩] 23)
        rw [hu4] at hc4
        have HX4 := Lib.hid hx4
        have HE4 := Lib.hid (HE3.out.below hc4)
        have HB4 := Lib.hid (HB3.out.trans (hc4.mono HB3.out.size))
        have L2_4 := Lib.hid ((hc4.block _ (Array.getElem?_eq_some_iff.1 L2_3.out).1).trans L2_3.out)
        have L3_4 := Lib.hid ((hc4.block _ (Array.getElem?_eq_some_iff.1 L3_3.out).1).trans L3_3.out)
        have L4_4 := HX4
        clear hu4 hc4 hx4 HX4
        rw [HP4.out]
        refine (HR4.out _ HE4.out).mono ?_
        rintro e v5 ⟨rfl, hb5⟩
        have HC5 := Lib.hid hb5
        clear hb5
        go_upto_region 18 with (fail)
        obtain ⟨u5, hu5⟩ : ∃ u, v5.alloc (.cells #[.int .i64 0, .int .i64 0, .string ⟨#[]⟩] 23) = u := ⟨_, rfl⟩
        rw [hu5]
        have hx5 : u5.heap[v5.heap.size]? = some (.cells #[.int .i64 0, .int .i64 0, .string ⟨#[]⟩] 23) := by rw [← hu5]; exact heap_alloc_new v5 _
        have hc5 := HC5.out.alloc HC5.out.size (.cells #[.int .i64 0, .int .i64 0, .string ⟨#[]⟩] 23)
        rw [hu5] at hc5
        have HX5 := Lib.hid hx5
        have HE5 := Lib.hid (HE4.out.below hc5)
        have HB5 := Lib.hid (HB4.out.trans (hc5.mono HB4.out.size))
        have L2_5 := Lib.hid ((hc5.block _ (Array.getElem?_eq_some_iff.1 L2_4.out).1).trans L2_4.out)
        have L3_5 := Lib.hid ((hc5.block _ (Array.getElem?_eq_some_iff.1 L3_4.out).1).trans L3_4.out)
        have L4_5 := Lib.hid ((hc5.block _ (Array.getElem?_eq_some_iff.1 L4_4.out).1).trans L4_4.out)
        have L5_5 := HX5
        clear hu5 hc5 hx5 HX5
        have q := eq_sc
        have q2 := equal_sc
        have qg := guard_sc
        have l2c0 := cell_of_row _ _ 0 _ _ _ L2_5.out
        have l2c1 := cell_of_row _ _ 1 _ _ _ L2_5.out
        have l2c2 := cell_of_row _ _ 2 _ _ _ L2_5.out
        simp at l2c0 l2c1 l2c2
        go_wp2_with fail
        go_ret
        exact ⟨rfl, HB5.out⟩
/-- a number that is too great -/
theorem num_out (n : Int) (h0 : -9223372036854775808 ≤ n) (h1 : n ≤ 9223372036854775807) (hn : n < -99999999999999999 ∨ 99999999999999999 < n) (w : World) (E : Env w) :
    Calls Tryd.prog 5 #[.int .i64 n] w fun e w' => e = .returned (.bool true) ∧ Below w.heap.size w w' := by
  have HE0 := Lib.hid E
  clear E
  rcases hn with hn | hn
  · by_cases hm : n = -9223372036854775808
    · subst hm
      clear h0 h1 hn
      have hw : wrap64 9223372036854775808 = -9223372036854775808 := by unfold wrap64; omega
      go_enter Tryd.func5, Tryd.ntmps5
      go_wp2_with fail
      refine (shown_any _ HE0.out).mono ?_
      rintro e w1 ⟨rfl, hb1⟩
      have HB1 := Lib.hid hb1
      clear hb1
      go_wp2_with fail
      go_ret
      exact ⟨rfl, HB1.out⟩
    · obtain ⟨m, rfl⟩ : ∃ m : Int, n = -m := ⟨-n, by omega⟩
      have h2 : m ≤ 9223372036854775807 := by omega
      have h3 : 99999999999999999 < m := by omega
      have h4 : -m < 0 := by omega
      have h5 : 0 ≤ m := by omega
      clear h0 h1 hn hm
      go_enter Tryd.func5, Tryd.ntmps5
      go_wp2_with fail
      refine (shown_any _ HE0.out).mono ?_
      rintro e w1 ⟨rfl, hb1⟩
      have HB1 := Lib.hid hb1
      clear hb1
      go_wp2_with fail
      go_ret
      exact ⟨rfl, HB1.out⟩
  · have h2 : 0 ≤ n := by omega
    go_enter Tryd.func5, Tryd.ntmps5
    go_wp2_with fail
    refine (shown_any _ HE0.out).mono ?_
    rintro e w1 ⟨rfl, hb1⟩
    have HB1 := Lib.hid hb1
    clear hb1
    go_wp2_with fail
    go_ret
    exact ⟨rfl, HB1.out⟩
end Go.Proofs.YtimbidbpfdaocaaDoor
