/- Some scalars in order are the same ones, in order: the walk. Conditions: the contracts of what is called. -/
import Derived.Test.YtkliecngkcjieaaGreatDoorSJo
set_option maxRecDepth 100000
namespace Go.Proofs.YtkliecngkcjieaaGreatDoor
open Go.ChangeShapes Go.WideShapes Go.ChangeAt Go.RowKit Go.Shelf
open Scs
def cntS (x : Sc) (L : List Sc) : Nat := (L.filter fun y => decide (y = x)).length
theorem cnt_snoc (x y : Sc) (L : List Sc) : cntS x (L ++ [y]) = cntS x L + if y = x then 1 else 0 := by
  unfold cntS
  rw [List.filter_append, List.length_append]
  by_cases h : y = x <;> simp [h]
theorem cnt_perm {x : Sc} {L M : List Sc} (h : L.Perm M) : cntS x L = cntS x M := (h.filter _).length_eq
theorem cnt_le (x : Sc) (L : List Sc) : cntS x L ≤ L.length := List.length_filter_le _ _
theorem cnt_take (x : Sc) (d : Array Sc) (j : Nat) (hj : j < d.size) : cntS x (d.toList.take (j + 1)) = cntS x (d.toList.take j) + if d[j]! = x then 1 else 0 := by
  rw [take_get d j hj, cnt_snoc]
theorem cnt_take_le (x : Sc) (L : List Sc) (j : Nat) : cntS x (L.take j) ≤ cntS x L := ((List.take_sublist j L).filter _).length_le
theorem cnt_all (x : Sc) (d : Array Sc) (n : Nat) (hn : d.size = n) : cntS x (d.toList.take n) = cntS x d.toList := by
  rw [List.take_of_length_le (by rw [Array.length_toList, hn]; exact Nat.le_refl _)]
theorem sorted_at (d : Array Sc) (m : Nat) (h : m + 1 < (sortSc d.toList).toArray.size) : ¬ 0 < cmpSc (sortSc d.toList).toArray[m]! (sortSc d.toList).toArray[m + 1]! := by
  have hp := List.pairwise_iff_getElem.1 (sort_pairwise d.toList) m (m + 1) (by simp at h ⊢; omega) (by simpa using h) (by omega)
  rw [cmp_pos, getElem!_pos _ m (by omega), getElem!_pos _ (m + 1) h]
  intro hl
  simp only [List.getElem_toArray] at hl
  unfold leSc at hp
  simp [hl] at hp
set_option maxHeartbeats 8000000 in
theorem walkScalSame (a : Option Addr) (len cap : Nat) (X : Nat → Sc) (w : World) (E : Env w)
    (hV : ∀ i, i < len → ∃ g o, a = some ⟨g, o, none⟩ ∧ g < w.heap.size ∧ w.cell? ⟨g, o + i * 3, none⟩ = some (.int .i64 (X i).1) ∧ w.cell? ⟨g, o + i * 3 + 1, none⟩ = some (.int .i64 (X i).2.1) ∧ w.cell? ⟨g, o + i * 3 + 2, none⟩ = some (.string (X i).2.2)) :
    Calls Tryz.prog 7 #[.slice a len cap] w fun e w' => e = .returned (.bool true) ∧ Below w.heap.size w w' := by
  have HE := Lib.hid E
  have HV := Lib.hid hV
  clear E hV
  go_enter Tryz.func7, Tryz.ntmps7
  go_wp2_with fail
  refine (shown_any _ HE.out).mono ?_
  rintro e w1 ⟨rfl, hb⟩
  have HB1 := Lib.hid hb
  clear hb
  go_wp2_with fail
  refine (Few20 a len cap X w1 fun i hi => by
    obtain ⟨g, o, h0, h1, h2, h3, h4⟩ := HV.out i hi
    exact ⟨g, o, h0, Nat.lt_of_lt_of_le h1 HB1.out.size, (HB1.out.cell (p := ⟨g, _, none⟩) h1).trans h2, (HB1.out.cell (p := ⟨g, _, none⟩) h1).trans h3, (HB1.out.cell (p := ⟨g, _, none⟩) h1).trans h4⟩).mono ?_
  rintro e w2 ⟨p, n, c, d, rfl, hn, kn, _, hsl, hsh, hb⟩
  have HN := Lib.hid hn
  have HS2 := Lib.hid hsl
  have HB2 := Lib.hid (HB1.out.trans (hb.mono HB1.out.size))
  clear hn hsl hsh hb
  go_wp2_with fail
  refine (Sort22 d p c n HN.out _ HS2.out).mono ?_
  rintro e w3 ⟨q, e, rfl, hs3, hb⟩
  have hss : (sortSc d.toList).toArray.size = n := by rw [sort_size]; exact HN.out
  have hsa := sorted_at d
  have hcp : ∀ x, cntS x (sortSc d.toList).toArray.toList = cntS x d.toList := fun x => cnt_perm (sort_perm _)
  have hst : sortSc (sortSc d.toList).toArray.toList = (sortSc d.toList).toArray.toList := sort_sort _
  obtain ⟨S, hS⟩ : ∃ S, (sortSc d.toList).toArray = S := ⟨_, rfl⟩
  rw [hS] at hs3 hss hsa hcp hst
  have HQ3 := Lib.hid hs3
  have HD3 := Lib.hid (HS2.out.below hb)
  have HB3 := Lib.hid (HB2.out.trans (hb.mono HB2.out.size))
  have HSS := Lib.hid hss
  have HSA := Lib.hid hsa
  have HCP := Lib.hid hcp
  have HST := Lib.hid hst
  clear hs3 hb hss hsa hcp hst hS
  go_wp2_with fail
  go_loopw [5] (fun i wr => ∃ m : Nat, m ≤ n ∧ i = .int .i64 ((m : Int) + 1) ∧ Below w3.heap.size w3 wr) (fun i _ => n + 1 - (intOf i).toNat)
  case atStart => exact ⟨0, by omega, rfl, Below.refl _ _⟩
  case round =>
    obtain ⟨m, hm, rfl, hb⟩ := hrel
    have HB := Lib.hid hb
    clear hb
    by_cases hlt : m + 1 < n
    · have i1 : (m : Int) + 1 < (n : Int) := by omega
      have i2 : (m : Int) < (n : Int) := by omega
      have i3 : (0 : Int) ≤ (m : Int) + 1 := by omega
      have i4 : ((m : Int) + 1).toNat = m + 1 := by omega
      have i5 : IntKind.i64.wrap ((m : Int) + 1 - 1) = (m : Int) := by rw [IntWalk.i64_left]; unfold wrap64; omega
      have i6 : IntKind.i64.wrap (m : Int) = (m : Int) := by rw [IntWalk.i64_left]; unfold wrap64; omega
      have i7 : (0 : Int) ≤ (m : Int) := by omega
      obtain ⟨g, o, rfl, hg, hc0, hc1, hc2⟩ := (HQ3.out.at m (by rw [HSS.out]; omega))
      obtain ⟨g2, o2, he2, hg2, hd0, hd1, hd2⟩ := (HQ3.out.at (m + 1) (by rw [HSS.out]; omega))
      obtain ⟨rfl, rfl⟩ : g = g2 ∧ o = o2 := by
        injection he2 with h
        injection h with h1 h2
        exact ⟨h1, h2⟩
      have hcmp := HSA.out m (by rw [HSS.out]; omega)
      obtain ⟨x, hx⟩ : ∃ x, S[m]! = x := ⟨_, rfl⟩
      obtain ⟨y, hy⟩ : ∃ y, S[m + 1]! = y := ⟨_, rfl⟩
      rw [hx] at hc0 hc1 hc2 hcmp
      rw [hy] at hd0 hd1 hd2 hcmp
      obtain ⟨r, hr⟩ : ∃ r, cmpSc x y = r := ⟨_, rfl⟩
      have hC := fun w => Compare_below x y w
      rw [hr] at hC hcmp
      unfold aggS at hC
      have HCM := Lib.hid hC
      have hcd : decide (0 < r) = false := decide_eq_false (Int.not_lt.2 (by omega))
      have S0 : Hid (S7 g (o + m * 3) g (o + (m + 1) * 3) x y w3 w3) := Lib.hid ⟨hc0, hc1, hc2, hd0, hd1, hd2, Below.refl _ _⟩
      have S1 : Hid (S7 g (o + m * 3) g (o + (m + 1) * 3) x y w3 wr) := Lib.hid (s7_step S0.out HB.out)
      have HCN : Hid (∀ W, Hid (S7 g (o + m * 3) g (o + (m + 1) * 3) x y w3 W) → Calls Tryz.prog 18 #[.agg #[.int .i64 x.1, .int .i64 x.2.1, .string x.2.2], .agg #[.int .i64 y.1, .int .i64 y.2.1, .string y.2.2]] W fun e W' => e = .returned (.int .i64 r) ∧ Hid (S7 g (o + m * 3) g (o + (m + 1) * 3) x y w3 W')) :=
        Lib.hid fun W h => (HCM.out W).mono fun e W' hh => ⟨hh.1, Lib.hid (s7_step h.out hh.2)⟩
      clear hc0 hc1 hc2 hd0 hd1 hd2 he2 hx hy hr hC S0
      go_wp2_with fail
      go_region_held3 (S7 g (o + m * 3) g (o + (m + 1) * 3) x y w3) (first | exact Hid.out (by assumption) | exact s7_drew (Hid.out (by assumption))) (first
        | ((with_reducible refine (HCN.out _ (by first | assumption | exact Lib.hid (s7_drew (Hid.out (by assumption))))).mono ?_); rintro e wq ⟨rfl, hbq⟩))
      have HQ := hbq
      clear hbq S1 HCN
      go_wp2_with fail
      go_roundw
      case rel => exact ⟨m + 1, by omega, by go_num, HQ.out.2.2.2.2.2.2⟩
      case measure => simp [intOf]; omega
    · have i1 : ¬ (m : Int) + 1 < (n : Int) := by omega
      obtain ⟨wo, rfl⟩ : ∃ W, W = wr := ⟨wr, rfl⟩
      have HBo := HB
      clear HB i1
      go_wp2_with fail
      go_loopw [6] (fun i wr => ∃ k : Nat, k ≤ n ∧ i = .int .i64 k ∧ Below w3.heap.size w3 wr) (fun i _ => n - (intOf i).toNat)
      case atStart => exact ⟨0, by omega, rfl, HBo.out⟩
      case round =>
        obtain ⟨k, hk, rfl, hb⟩ := hrel
        have HB := Lib.hid hb
        clear hb
        obtain ⟨wp, rfl⟩ : ∃ W, W = wr := ⟨wr, rfl⟩
        by_cases hlt : k < n
        · have i1 : (k : Int) < (n : Int) := by omega
          obtain ⟨g, o, rfl, hg, hc0, hc1, hc2⟩ := (HD3.out.at k (by rw [HN.out]; exact hlt))
          obtain ⟨x, hx⟩ : ∃ x, d[k]! = x := ⟨_, rfl⟩
          rw [hx] at hc0 hc1 hc2
          have HC0 := Lib.hid hc0
          have HC1 := Lib.hid hc1
          have HC2 := Lib.hid hc2
          clear hc0 hc1 hc2 hx
          go_wp2_with fail
          go_loopw [7, 8] (fun t i wr => ∃ j : Nat, j ≤ n ∧ i = .int .i64 j ∧ t = .int .i64 (cntS x (d.toList.take j) : Nat) ∧ Below w3.heap.size w3 wr) (fun _ i _ => n - (intOf i).toNat)
          case atStart => exact ⟨0, by omega, rfl, rfl, HB.out⟩
          case round =>
            obtain ⟨j, hj, rfl, rfl, hb⟩ := hrel
            have HB2 := Lib.hid hb
            clear hb
            obtain ⟨wq, rfl⟩ : ∃ W, W = wr := ⟨wr, rfl⟩
            have hct := cnt_le x (d.toList.take j)
            rw [List.length_take] at hct
            by_cases hjt : j < n
            · have i2 : (j : Int) < (n : Int) := by omega
              have hcn := cnt_take x d j (by rw [HN.out]; exact hjt)
              obtain ⟨g2, o2, he2, hg2, hd0, hd1, hd2⟩ := (HD3.out.at j (by rw [HN.out]; exact hjt))
              obtain ⟨rfl, rfl⟩ : g = g2 ∧ o = o2 := by
                injection he2 with h
                injection h with h1 h2
                exact ⟨h1, h2⟩
              have x0 := (HB2.out.cell (p := ⟨g, o + k * 3, none⟩) hg).trans HC0.out
              have x1 := (HB2.out.cell (p := ⟨g, o + k * 3 + 1, none⟩) hg).trans HC1.out
              have x2 := (HB2.out.cell (p := ⟨g, o + k * 3 + 2, none⟩) hg).trans HC2.out
              have y0 := (HB2.out.cell (p := ⟨g, o + j * 3, none⟩) hg).trans hd0
              have y1 := (HB2.out.cell (p := ⟨g, o + j * 3 + 1, none⟩) hg).trans hd1
              have y2 := (HB2.out.cell (p := ⟨g, o + j * 3 + 2, none⟩) hg).trans hd2
              obtain ⟨y, hy⟩ : ∃ y, d[j]! = y := ⟨_, rfl⟩
              rw [hy] at hcn y0 y1 y2
              obtain ⟨C, hC⟩ : ∃ C, cntS x (d.toList.take j) = C := ⟨_, rfl⟩
              rw [hC] at hcn hct ⊢
              have HCN := Lib.hid hcn
              have hCb : C ≤ 30 := by omega
              have qg := guard_sc
              have q := eq_get y x
              by_cases hyx : y = x
              · rw [decide_eq_true hyx] at q
                have HYX := Lib.hid hyx
                clear hd0 hd1 hd2 he2 hy hcn hct hC hyx
                go_wp2_with fail
                go_region
                go_wp2_with fail
                go_roundw
                case rel =>
                  refine ⟨j + 1, by omega, by go_num, ?_, HB2.out.drew⟩
                  rw [HCN.out, if_pos HYX.out]
                  go_num
                case measure => simp [intOf]; omega
              · rw [decide_eq_false hyx] at q
                have HYX := Lib.hid hyx
                clear hd0 hd1 hd2 he2 hy hcn hct hC hyx
                go_wp2_with fail
                go_region
                go_wp2_with fail
                go_roundw
                case rel =>
                  refine ⟨j + 1, by omega, by go_num, ?_, HB2.out.drew⟩
                  rw [HCN.out, if_neg HYX.out]
                  rfl
                case measure => simp [intOf]; omega
            · have i2 : ¬ (j : Int) < (n : Int) := by omega
              obtain rfl : j = n := by omega
              obtain ⟨jn, rfl⟩ : ∃ N, N = j := ⟨j, rfl⟩
              have hfull : cntS x (d.toList.take jn) = cntS x d.toList := cnt_all x d jn HN.out
              rw [hfull] at hct ⊢
              have hcp := HCP.out x
              obtain ⟨C, hC⟩ : ∃ C, cntS x d.toList = C := ⟨_, rfl⟩
              rw [hC] at hct hcp ⊢
              have hCb : C ≤ 30 := by omega
              have HCC := Lib.hid hcp
              clear hfull hct hcp hC i2
              go_wp2_with fail
              go_loopw [7, 9] (fun t i wr => ∃ j R : Nat, j ≤ jn ∧ i = .int .i64 j ∧ t = .int .i64 R ∧ R + cntS x (S.toList.take j) = C ∧ Below w3.heap.size w3 wr) (fun _ i _ => jn - (intOf i).toNat)
              case atStart => exact ⟨0, C, by omega, rfl, rfl, by simp [cntS], HB2.out⟩
              case round =>
                obtain ⟨j, R, hj, rfl, rfl, hR, hb⟩ := hrel
                have HB4 := Lib.hid hb
                clear hb
                obtain ⟨wz, rfl⟩ : ∃ W, W = wr := ⟨wr, rfl⟩
                by_cases hjt : j < jn
                · have i2 : (j : Int) < (jn : Int) := by omega
                  have hcn := cnt_take x S j (by rw [HSS.out]; exact hjt)
                  have hle := cnt_take_le x S.toList (j + 1)
                  rw [hcn, HCC.out] at hle
                  obtain ⟨g2, o2, rfl, hg2, hd0, hd1, hd2⟩ := (HQ3.out.at j (by rw [HSS.out]; exact hjt))
                  have x0 := (HB4.out.cell (p := ⟨g, o + k * 3, none⟩) hg).trans HC0.out
                  have x1 := (HB4.out.cell (p := ⟨g, o + k * 3 + 1, none⟩) hg).trans HC1.out
                  have x2 := (HB4.out.cell (p := ⟨g, o + k * 3 + 2, none⟩) hg).trans HC2.out
                  have y0 := (HB4.out.cell (p := ⟨g2, o2 + j * 3, none⟩) hg2).trans hd0
                  have y1 := (HB4.out.cell (p := ⟨g2, o2 + j * 3 + 1, none⟩) hg2).trans hd1
                  have y2 := (HB4.out.cell (p := ⟨g2, o2 + j * 3 + 2, none⟩) hg2).trans hd2
                  obtain ⟨y, hy⟩ : ∃ y, S[j]! = y := ⟨_, rfl⟩
                  rw [hy] at hcn hle y0 y1 y2
                  have qg := guard_sc
                  have q := eq_get y x
                  have hRb : R ≤ 30 := by omega
                  have HRC := Lib.hid hR
                  have HCN := Lib.hid hcn
                  by_cases hyx : y = x
                  · rw [decide_eq_true hyx] at q
                    rw [if_pos hyx] at hle
                    have hR1 : 1 ≤ R := by omega
                    have HYX := Lib.hid hyx
                    have hw1 : IntKind.i64.wrap ((R : Int) - 1) = (R : Int) - 1 := by rw [IntWalk.i64_left]; unfold wrap64; omega
                    clear hd0 hd1 hd2 hy hcn hle hR hyx
                    go_wp2_with fail
                    go_region
                    go_wp2_with fail
                    go_roundw
                    case rel =>
                      refine ⟨j + 1, R - 1, by omega, by go_num, by congr 1; omega, ?_, HB4.out.drew⟩
                      have h1 := HCN.out
                      have h2 := HRC.out
                      rw [if_pos HYX.out] at h1
                      omega
                    case measure => simp [intOf]; omega
                  · rw [decide_eq_false hyx] at q
                    have HYX := Lib.hid hyx
                    clear hd0 hd1 hd2 hy hcn hle hR hyx
                    go_wp2_with fail
                    go_region
                    go_wp2_with fail
                    go_roundw
                    case rel =>
                      refine ⟨j + 1, R, by omega, by go_num, rfl, ?_, HB4.out.drew⟩
                      have h1 := HCN.out
                      have h2 := HRC.out
                      rw [if_neg HYX.out] at h1
                      omega
                    case measure => simp [intOf]; omega
                · have i2 : ¬ (j : Int) < (jn : Int) := by omega
                  obtain rfl : j = jn := by omega
                  have hfull : cntS x (S.toList.take j) = cntS x S.toList := cnt_all x S j HSS.out
                  rw [hfull, HCC.out] at hR
                  obtain rfl : R = 0 := by omega
                  clear hfull hR
                  go_wp2_with fail
                  go_roundw
                  case rel => exact ⟨k + 1, by omega, by go_num, HB4.out⟩
                  case measure => simp [intOf]; omega
        · have i1 : ¬ (k : Int) < (n : Int) := by omega
          go_wp2_with fail
          refine (Sort22 S q e n HSS.out _ (HQ3.out.below HB.out)).mono ?_
          rintro r w5 ⟨q5, e5, rfl, hs5, hb⟩
          rw [HST.out] at hs5
          have HQ5 := Lib.hid hs5
          have HQ4 := Lib.hid ((HQ3.out.below HB.out).below hb)
          have HB5 := Lib.hid ((HB3.out.trans (HB.out.mono HB3.out.size)).trans (hb.mono (HB3.out.trans (HB.out.mono HB3.out.size)).size))
          clear hs5 hb
          go_wp2_with fail
          refine (Same21 S q5 q e5 e n n HSS.out HSS.out _ HQ5.out HQ4.out).mono ?_
          rintro r w6 ⟨rfl, hb⟩
          have HB6 := Lib.hid (HB5.out.trans (hb.mono HB5.out.size))
          clear hb
          go_wp2_with fail
          go_ret
          exact ⟨rfl, HB6.out⟩
end Go.Proofs.YtkliecngkcjieaaGreatDoor
