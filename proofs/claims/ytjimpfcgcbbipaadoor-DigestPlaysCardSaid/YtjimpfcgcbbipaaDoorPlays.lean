/- Calls of hashers, one by one, tell what the document's tell. Conditions: the laid variables, as the statement lists them. -/
import Derived.Test.YtjimpfcgcbbipaaDoorRefHash
import Derived.Test.YtjimpfcgcbbipaaDoorFew
import Derived.Test.YtjimpfcgcbbipaaDoorLong
import Derived.OpenShut
import Derived.Deep.SlicePairs
import Derived.Carry
import Derived.Shelf.Abstract
import Derived.Shelf.RegionOpen
import Derived.Deep.DeepCutAuto
namespace Go.Proofs.YtjimpfcgcbbipaaDoor
open Go.ChangeShapes Go.WideShapes Go.ChangeAt Go.RowKit Go.Shelf
open Go.ChangeMaps (open_string shut_string)
open Rd Dg Box
theorem opsL_length (Kd : Nat → Int) (Tx : Nat → ByteArray) (n : Nat) : (opsL Kd Tx n).length = n * 2 := by
  induction n with
  | zero => rfl
  | succ n ih => rw [opsL_succ, List.length_append, ih]; simp; omega
theorem opsL_get (Kd : Nat → Int) (Tx : Nat → ByteArray) (n k : Nat) (h : k < n) : (opsL Kd Tx n)[k * 2]? = some (.int .i64 (Kd k)) ∧ (opsL Kd Tx n)[k * 2 + 1]? = some (.string (cutB (Tx k))) := by
  induction n with
  | zero => omega
  | succ n ih =>
    have hl := opsL_length Kd Tx n
    rw [opsL_succ]
    by_cases e : k = n
    · subst e
      rw [List.getElem?_append_right (by omega), List.getElem?_append_right (by omega), hl]
      simp
    · rw [List.getElem?_append_left (by omega), List.getElem?_append_left (by omega)]
      exact ih (by omega)
set_option maxRecDepth 100000 in
set_option maxHeartbeats 4000000 in
theorem walkPlays (a : Option Addr) (len cap : Nat) (Kd : Nat → Int) (Tx : Nat → ByteArray) (B : Nat) (w : World) (E : Env B w) (T : Tab w)
    (hV : ∀ i, i < len → ∃ g o, a = some ⟨g, o, none⟩ ∧ g < w.heap.size ∧ w.cell? ⟨g, o + i * 2, none⟩ = some (.int .i64 (Kd i)) ∧ w.cell? ⟨g, o + i * 2 + 1, none⟩ = some (.string (Tx i))) :
    Calls Tryd.prog 4 #[.slice a len cap] w fun e w' => e = .returned (.bool true) ∧ Below w.heap.size w w' := by
  have HE0 := Lib.hid E
  have HT0 := Lib.hid T
  have hBw := E.bw
  have h5 := T.1
  have HV := Lib.hid hV
  clear E T hV
  go_enter Tryd.func4, Tryd.ntmps4
  go_wp2_with fail
  refine (shown_any B _ HE0.out).mono ?_
  rintro e w1 ⟨rfl, hb1⟩
  have hz1 := hb1.size
  have HB1 := Lib.hid hb1
  have HE1 := Lib.hid (HE0.out.below' hb1)
  clear hb1
  have hV1 : ∀ i, i < len → ∃ g o, a = some ⟨g, o, none⟩ ∧ g < w1.heap.size ∧ w1.cell? ⟨g, o + i * 2, none⟩ = some (.int .i64 (Kd i)) ∧ w1.cell? ⟨g, o + i * 2 + 1, none⟩ = some (.string (Tx i)) := fun i hi => by
    obtain ⟨g, o, h1, h2, h3, h4⟩ := HV.out i hi
    exact ⟨g, o, h1, by omega, (HB1.out.cell (p := ⟨g, o + i * 2, none⟩) h2).trans h3, (HB1.out.cell (p := ⟨g, o + i * 2 + 1, none⟩) h2).trans h4⟩
  have HV1 := Lib.hid hV1
  clear hV1
  go_wp2_with fail
  refine (Few_ok a len cap Kd Tx _ HV1.out).mono ?_
  rintro e w2 ⟨v, n, rfl, hn, hrow, hb2⟩
  have hz2 := hb2.size
  have HROW := Lib.hid hrow
  have HB2 := Lib.hid (HB1.out.trans (hb2.mono (by have := HB1.out.size; omega)))
  have HE2 := Lib.hid (HE1.out.below' hb2)
  obtain ⟨c2, hv⟩ : ∃ c2 : Option Addr × Nat, v = .slice c2.1 n c2.2 := by
    rcases hrow.2 with ⟨h1, h2⟩ | ⟨g, c, cur, h1, _⟩
    · exact ⟨(none, 0), by rw [h1, h2]⟩
    · exact ⟨(some ⟨g, 0, none⟩, c), h1⟩
  obtain ⟨a2, cap2⟩ := c2
  subst hv
  have hR : ∀ k, k < n → ∃ g, a2 = some ⟨g, 0, none⟩ ∧ g < w2.heap.size ∧ w2.cell? ⟨g, k * 2, none⟩ = some (.int .i64 (Kd k)) ∧ w2.cell? ⟨g, k * 2 + 1, none⟩ = some (.string (cutB (Tx k))) := fun k hk => by
    obtain ⟨g, c, hv, _, hl⟩ := hrow.form (by omega)
    obtain ⟨rfl, rfl⟩ : a2 = some ⟨g, 0, none⟩ ∧ cap2 = c := by
      injection hv with h1 _ h3
      exact ⟨h1, h3⟩
    have e := opsL_get Kd Tx n k hk
    exact ⟨g, rfl, hl, (hrow.cellAt _ (by omega)).trans e.1, (hrow.cellAt _ (by omega)).trans e.2⟩
  have HR := Lib.hid hR
  clear hb2 hrow hR
  go_wp2_with fail
  refine (New_any _).mono ?_
  rintro e w3 ⟨rfl, hh3, hb3⟩
  have hz3 := hb3.size
  have hl3 := hh3.lt
  have HB3 := Lib.hid (HB2.out.trans (hb3.mono (by have := HB2.out.size; omega)))
  have HE3 := Lib.hid (HE2.out.below' hb3)
  have HH0_3 := Lib.hid hh3
  have HNEW := Lib.hid hb3
  clear hh3 hb3
  go_wp2_with fail
  go_loopw [6] (fun i wr => ∃ (k : Nat) (m : List UInt8), k ≤ n ∧ i = .int .i64 (k : Int) ∧ Holds w2.heap.size 65 m wr ∧ wr.heap[w3.heap.size]? = some (.cells #[.string ⟨m.toArray⟩] 35 (0, 0)) ∧ m.length ≤ 300 * k ∧ Below w2.heap.size w2 wr ∧ w3.heap.size < wr.heap.size) (fun i _ => n - (intOf i).toNat)
  case atStart => exact ⟨0, [], by omega, rfl, HH0_3.out.kept (Below.heap_alloc _ _ _ HH0_3.out.lt), heap_alloc_new w3 _, by simp, HNEW.out.alloc (by omega) _, by simp⟩
  case round =>
    obtain ⟨k, m, hk, rfl, hhr, hrr, hml, hbr, hlr⟩ := hrel
    have hzr := hbr.size
    have hl0 := hhr.lt
    obtain ⟨S, hS⟩ : ∃ S : ByteArray, (⟨m.toArray⟩ : ByteArray) = S := ⟨_, rfl⟩
    have hSm : S.data.toList = m := by rw [← hS]
    have hSs : S.size = m.length := by rw [← hS]; rfl
    rw [hS] at hrr
    have HHr := Lib.hid hhr
    have HRr := Lib.hid hrr
    have HBr := Lib.hid (HB2.out.trans (hbr.mono (by have := HB2.out.size; omega)))
    have HBR := Lib.hid hbr
    have HEr := Lib.hid (HE0.out.below' HBr.out)
    have HTr := Lib.hid (HT0.out.below HBr.out h5)
    have HSM := Lib.hid hSm
    have HSS := Lib.hid hSs
    have s0 : wr.cell? ⟨w3.heap.size, 0, none⟩ = some (.string S) := cell_of_row wr w3.heap.size 0 _ _ _ hrr
    have sf : wr.frozen? ⟨w3.heap.size, 0, none⟩ = false := frozen_of_row wr w3.heap.size 0 _ _ hrr
    clear hhr hrr hbr hS hSm hSs
    by_cases hlt : k < n
    · obtain ⟨g, rfl, hg, hc0, hc1⟩ := HR.out k hlt
      have x0 := (HBR.out.cell (p := ⟨g, k * 2, none⟩) hg).trans hc0
      have x1 := (HBR.out.cell (p := ⟨g, k * 2 + 1, none⟩) hg).trans hc1
      have i1 : (k : Int) < (n : Int) := by omega
      have hgw : g < wr.heap.size := by omega
      obtain ⟨kd, hkd⟩ : ∃ z, Kd k = z := ⟨_, rfl⟩
      obtain ⟨tx, htx⟩ : ∃ z, cutB (Tx k) = z := ⟨_, rfl⟩
      have ht3 : tx.size ≤ 300 := by rw [← htx]; exact cutB_size _
      rw [hkd] at x0
      rw [htx] at x1
      clear hkd htx hc0 hc1
      by_cases k0 : kd = 0
      · subst k0
        go_wp2_with fail
        have ha : (wr.alloc (.cells #[.int .i64 0, .string tx] 37)).heap[wr.heap.size]? = some (.cells #[.int .i64 0, .string tx] 37 (0, 0)) := heap_alloc_new wr _
        have HA := Lib.hid ha
        have y1 := cell_of_row _ wr.heap.size 1 _ _ _ ha
        have HP : Hid (Below wr.heap.size wr (wr.alloc (.cells #[.int .i64 0, .string tx] 37))) := Lib.hid ((Below.refl _ wr).alloc (Nat.le_refl _) _)
        have t0 := (HP.out.cell (p := ⟨w3.heap.size, 0, none⟩) hlr).trans s0
        have tf := (HP.out.frozen (p := ⟨w3.heap.size, 0, none⟩) hlr).trans sf
        have HE' := Lib.hid (HEr.out.below' HP.out)
        have HH' := Lib.hid (HHr.out.kept (HP.out.block w2.heap.size hl0))
        have HR' := Lib.hid ((HP.out.block w3.heap.size hlr).trans HRr.out)
        have HB' := Lib.hid (HBR.out.alloc (by omega) (.cells #[.int .i64 0, .string tx] 37))
        have HT' := Lib.hid (HTr.out.below HP.out (by have := HTr.out.1; omega))
        have hsz : (wr.alloc (.cells #[.int .i64 0, .string tx] 37)).heap.size = wr.heap.size + 1 := by simp
        clear ha s0 sf x0 x1
        generalize wr.alloc (.cells #[.int .i64 0, .string tx] 37) = W0 at *
        obtain ⟨S1, hS1⟩ : ∃ S1, S ++ tx = S1 := ⟨_, rfl⟩
        obtain ⟨m1, hm1⟩ : ∃ m1, m ++ tx.data.toList = m1 := ⟨_, rfl⟩
        have HSMf : Hid (S1.data.toList = m1) := Lib.hid (by rw [← hS1, ← hm1, ByteArray.data_append, Array.toList_append, HSM.out])
        have htl : tx.data.toList.length = tx.size := by rw [Array.length_toList]; rfl
        have hml1 : m1.length ≤ 300 * (k + 1) := by rw [← hm1, List.length_append]; omega
        have h19 : S.size + tx.size ≤ 100000 := by have := HSS.out; omega
        have h18 := fun w E H => Write_ok w2.heap.size 65 m tx (by omega) B w E (by omega) H
        rw [hm1] at h18
        have H18 := Lib.hid h18
        have h19' := fun w hc hf => RefWrite_ok w3.heap.size S tx h19 w hc hf
        rw [hS1] at h19'
        have H19 := Lib.hid h19'
        clear hS1 hm1 htl h18 h19'
        go_cut [36] (fun p wx => p = .bool false ∧ Holds w2.heap.size 65 m1 wx ∧ wx.heap[w3.heap.size]? = some (.cells #[.string S1] 35 (0, 0)) ∧ Below w2.heap.size w2 wx ∧ w3.heap.size < wx.heap.size)
        case first =>
          go_region_with (first
            | (go_at_call 18; refine (H18.out _ (by first | exact HE'.out | exact HE'.out.below ⟨rfl, rfl, rfl, Nat.le_refl _, fun _ _ => rfl⟩) (by exact HH'.out.kept rfl)).mono ?_; rintro e w5 ⟨rfl, hh5, hg5⟩; have hr5 := (hg5.block w3.heap.size (by simp; omega) (by simp; omega)).trans HR'.out; have hx5 := (hg5.block wr.heap.size (by simp; omega) (by simp; omega)).trans HA.out; have u0 := cell_of_row w5 w3.heap.size 0 _ _ _ hr5; have uf := frozen_of_row w5 w3.heap.size 0 _ _ hr5; have u1 := cell_of_row w5 wr.heap.size 1 _ _ _ hx5; have HH5 := Lib.hid hh5; have HR5 := Lib.hid hr5; have hz5 := hg5.size; (try simp at hz5); have HG5 := Lib.hid hg5; clear hh5 hg5 hr5 hx5)
            | (go_at_call 19; refine (H19.out _ (by assumption) (by assumption)).mono ?_; rintro e w' ⟨rfl, rfl⟩))
          all_goals (go_wp2_with fail; go_meet)
          all_goals exact ⟨rfl, HH5.out.kept (heap_setCell_other w5 ⟨w3.heap.size, 0, none⟩ w2.heap.size _ (by simp; omega)), heap_setCell_same w5 w3.heap.size 0 _ _ (.string S1) HR5.out, (HB'.out.drew.trans (below_of_grown HG5.out (Nat.le_refl _) (by simp; omega))).setCell (p := ⟨w3.heap.size, 0, none⟩) (by simp; omega) _, by simp; omega⟩
        case rest =>
          obtain ⟨rfl, hhf, hrf, hbf, hszf⟩ := hcut
          have HHf := Lib.hid hhf
          have HRf := Lib.hid hrf
          have HBf := Lib.hid hbf
          clear hhf hrf hbf t0 tf y1
          have tz := cell_of_row _ w3.heap.size 0 _ _ _ HRf.out
          have hlen1 : ((m1 : List UInt8).length : Int) = ((S1 : ByteArray).size : Int) := by rw [← HSMf.out, Array.length_toList]; rfl
          have hS1e : (⟨(m1).toArray⟩ : ByteArray) = S1 := by rw [← HSMf.out]
          have HS1E := Lib.hid hS1e
          clear hS1e
          go_wp2_with fail
          go_quiet (first | (go_at_call 24; exact Calls.quiet_of_same ((Len_any w2.heap.size 65 (m1) _ (by exact HHf.out.kept rfl)).mono fun _ _ h => ⟨h.1, h.2⟩)))
          go_wp2
          go_roundw
          case rel => first | exact ⟨k + 1, m1, by omega, by go_num, HHf.out.kept rfl, by rw [HS1E.out]; exact HRf.out, hml1, below_drewN HBf.out nq, hszf⟩ | ((repeat apply Exists.intro); exact ⟨⟨k + 1, m1, by omega, by go_num, HHf.out.kept rfl, by rw [HS1E.out]; exact HRf.out, hml1, below_drewN HBf.out nq, hszf⟩, rfl⟩)
          case measure => simp [intOf]; omega
      · by_cases k1 : kd = 1
        · subst k1
          clear k0
          go_wp2_with fail
          have ha : (wr.alloc (.cells #[.int .i64 1, .string tx] 37)).heap[wr.heap.size]? = some (.cells #[.int .i64 1, .string tx] 37 (0, 0)) := heap_alloc_new wr _
          have HA := Lib.hid ha
          have y1 := cell_of_row _ wr.heap.size 1 _ _ _ ha
          have HP : Hid (Below wr.heap.size wr (wr.alloc (.cells #[.int .i64 1, .string tx] 37))) := Lib.hid ((Below.refl _ wr).alloc (Nat.le_refl _) _)
          have t0 := (HP.out.cell (p := ⟨w3.heap.size, 0, none⟩) hlr).trans s0
          have tf := (HP.out.frozen (p := ⟨w3.heap.size, 0, none⟩) hlr).trans sf
          have HE' := Lib.hid (HEr.out.below' HP.out)
          have HH' := Lib.hid (HHr.out.kept (HP.out.block w2.heap.size hl0))
          have HR' := Lib.hid ((HP.out.block w3.heap.size hlr).trans HRr.out)
          have HB' := Lib.hid (HBR.out.alloc (by omega) (.cells #[.int .i64 1, .string tx] 37))
          have HT' := Lib.hid (HTr.out.below HP.out (by have := HTr.out.1; omega))
          have hsz : (wr.alloc (.cells #[.int .i64 1, .string tx] 37)).heap.size = wr.heap.size + 1 := by simp
          clear ha s0 sf x0 x1
          generalize wr.alloc (.cells #[.int .i64 1, .string tx] 37) = W0 at *
          obtain ⟨q, hq⟩ : ∃ q, dig m = q := ⟨_, rfl⟩
          have hC := hsum_any w2.heap.size 65 m (by omega) B W0 HE'.out (by omega) HH'.out
          rw [hq] at hC
          have hR2 := fun w hc T => RefHSum_ok w3.heap.size S (by have := HSS.out; omega) w hc T
          rw [HSM.out, hq] at hR2
          have HR2 := Lib.hid hR2
          clear hR2 hq
          go_wp2_with fail
          refine hC.mono ?_
          rintro e w5 ⟨rfl, hh5, hg5⟩
          have hz5 := hg5.size
          have HB5 := Lib.hid (HB'.out.trans (below_of_grown hg5 (Nat.le_refl _) (by omega)))
          have HT5 := Lib.hid (HT'.out.below (below_of_grown hg5 (show w2.heap.size ≤ w2.heap.size from Nat.le_refl _) (by omega)) (by omega))
          have hr5 := (hg5.block w3.heap.size (by omega) (by simp; omega)).trans HR'.out
          have HR5 := Lib.hid hr5
          have HH5 := Lib.hid hh5
          have hs5 := cell_of_row w5 w3.heap.size 0 _ _ _ hr5
          clear hh5 hg5 hr5 hC t0 tf
          go_wp2_with fail
          refine (HR2.out _ hs5 HT5.out).mono ?_
          rintro e w6 ⟨rfl, hb6⟩
          have hz6 := hb6.size
          have HHf := Lib.hid (HH5.out.kept (hb6.block w2.heap.size (by omega)))
          have HRf := Lib.hid ((hb6.block w3.heap.size (by omega)).trans HR5.out)
          have HBf := Lib.hid (HB5.out.trans (hb6.mono (by omega)))
          have hszf : w3.heap.size < w6.heap.size := by omega
          have hml1 : m.length ≤ 300 * (k + 1) := by omega
          clear hb6 hs5
          have tz := cell_of_row _ w3.heap.size 0 _ _ _ HRf.out
          have hlen1 : ((m : List UInt8).length : Int) = ((S : ByteArray).size : Int) := by rw [← HSM.out, Array.length_toList]; rfl
          have hS1e : (⟨(m).toArray⟩ : ByteArray) = S := by rw [← HSM.out]
          have HS1E := Lib.hid hS1e
          clear hS1e
          go_wp2_with fail
          go_quiet (first | (go_at_call 24; exact Calls.quiet_of_same ((Len_any w2.heap.size 65 (m) _ (by exact HHf.out.kept rfl)).mono fun _ _ h => ⟨h.1, h.2⟩)))
          go_wp2
          go_roundw
          case rel => first | exact ⟨k + 1, m, by omega, by go_num, HHf.out.kept rfl, by rw [HS1E.out]; exact HRf.out, hml1, below_drewN HBf.out nq, hszf⟩ | ((repeat apply Exists.intro); exact ⟨⟨k + 1, m, by omega, by go_num, HHf.out.kept rfl, by rw [HS1E.out]; exact HRf.out, hml1, below_drewN HBf.out nq, hszf⟩, rfl⟩)
          case measure => simp [intOf]; omega
        · by_cases k2 : kd = 2
          · subst k2
            clear k0 k1
            go_wp2_with fail
            have ha : (wr.alloc (.cells #[.int .i64 2, .string tx] 37)).heap[wr.heap.size]? = some (.cells #[.int .i64 2, .string tx] 37 (0, 0)) := heap_alloc_new wr _
            have HA := Lib.hid ha
            have y1 := cell_of_row _ wr.heap.size 1 _ _ _ ha
            have HP : Hid (Below wr.heap.size wr (wr.alloc (.cells #[.int .i64 2, .string tx] 37))) := Lib.hid ((Below.refl _ wr).alloc (Nat.le_refl _) _)
            have t0 := (HP.out.cell (p := ⟨w3.heap.size, 0, none⟩) hlr).trans s0
            have tf := (HP.out.frozen (p := ⟨w3.heap.size, 0, none⟩) hlr).trans sf
            have HE' := Lib.hid (HEr.out.below' HP.out)
            have HH' := Lib.hid (HHr.out.kept (HP.out.block w2.heap.size hl0))
            have HR' := Lib.hid ((HP.out.block w3.heap.size hlr).trans HRr.out)
            have HB' := Lib.hid (HBR.out.alloc (by omega) (.cells #[.int .i64 2, .string tx] 37))
            have HT' := Lib.hid (HTr.out.below HP.out (by have := HTr.out.1; omega))
            have hsz : (wr.alloc (.cells #[.int .i64 2, .string tx] 37)).heap.size = wr.heap.size + 1 := by simp
            clear ha s0 sf x0 x1
            generalize wr.alloc (.cells #[.int .i64 2, .string tx] 37) = W0 at *
            have hC := Reset_any w2.heap.size 65 m W0 HH'.out
            go_wp2_with fail
            refine hC.mono ?_
            rintro e w5 ⟨rfl, hh5, hg5⟩
            have hz5 := hg5.size
            have HB5 := Lib.hid (HB'.out.trans (below_of_grown hg5 (Nat.le_refl _) (by omega)))
            have hr5 := (hg5.block w3.heap.size (by omega) (by simp; omega)).trans HR'.out
            have HR5 := Lib.hid hr5
            have hs5 := cell_of_row w5 w3.heap.size 0 _ _ _ hr5
            have hf5 := frozen_of_row w5 w3.heap.size 0 _ _ hr5
            have hl5 : w3.heap.size < w5.heap.size := by omega
            have HH5 := Lib.hid hh5
            have hml1 : ([] : List UInt8).length ≤ 300 * (k + 1) := by simp
            clear hh5 hg5 hr5 hC t0 tf
            go_upto_region 22 with fail
            have HHf := Lib.hid (HH5.out.kept (heap_setCell_other w5 ⟨w3.heap.size, 0, none⟩ w2.heap.size (.string ⟨#[]⟩) (by simp; omega)))
            have HRf : Hid ((w5.setCell ⟨w3.heap.size, 0, none⟩ (.string ⟨#[]⟩)).heap[w3.heap.size]? = some (.cells #[.string ⟨#[]⟩] 35 (0, 0))) := Lib.hid (heap_setCell_same w5 w3.heap.size 0 _ _ (.string ⟨#[]⟩) HR5.out)
            have HBf := Lib.hid (HB5.out.setCell (p := ⟨w3.heap.size, 0, none⟩) (by simp; omega) (.string ⟨#[]⟩))
            have hszf : w3.heap.size < (w5.setCell ⟨w3.heap.size, 0, none⟩ (.string ⟨#[]⟩)).heap.size := by simp; omega
            clear hs5 hf5
            generalize w5.setCell ⟨w3.heap.size, 0, none⟩ (.string ⟨#[]⟩) = W6 at *
            have tz := cell_of_row _ w3.heap.size 0 _ _ _ HRf.out
            have hlen1 : (([] : List UInt8).length : Int) = ((⟨#[]⟩ : ByteArray).size : Int) := by rfl
            have hS1e : (⟨([]).toArray⟩ : ByteArray) = ⟨#[]⟩ := by rfl
            have HS1E := Lib.hid hS1e
            clear hS1e
            go_wp2_with fail
            go_quiet (first | (go_at_call 24; exact Calls.quiet_of_same ((Len_any w2.heap.size 65 ([]) _ (by exact HHf.out.kept rfl)).mono fun _ _ h => ⟨h.1, h.2⟩)))
            go_wp2
            go_roundw
            case rel =>
              refine ⟨k + 1, [], by omega, by go_num, ?_, ?_, ?_, ?_, ?_⟩ <;> first | exact HHf.out.kept rfl | exact HRf.out | (rw [HS1E.out]; exact HRf.out) | exact hml1 | exact below_drewN HBf.out nq | exact hszf | (simp; done) | (simp; omega) | omega
            case measure => simp [intOf]; omega
          · by_cases k3 : kd = 3
            · subst k3
              clear k0 k1 k2
              go_wp2_with fail
              have ha : (wr.alloc (.cells #[.int .i64 3, .string tx] 37)).heap[wr.heap.size]? = some (.cells #[.int .i64 3, .string tx] 37 (0, 0)) := heap_alloc_new wr _
              have HA := Lib.hid ha
              have y1 := cell_of_row _ wr.heap.size 1 _ _ _ ha
              have HP : Hid (Below wr.heap.size wr (wr.alloc (.cells #[.int .i64 3, .string tx] 37))) := Lib.hid ((Below.refl _ wr).alloc (Nat.le_refl _) _)
              have t0 := (HP.out.cell (p := ⟨w3.heap.size, 0, none⟩) hlr).trans s0
              have tf := (HP.out.frozen (p := ⟨w3.heap.size, 0, none⟩) hlr).trans sf
              have HE' := Lib.hid (HEr.out.below' HP.out)
              have HH' := Lib.hid (HHr.out.kept (HP.out.block w2.heap.size hl0))
              have HR' := Lib.hid ((HP.out.block w3.heap.size hlr).trans HRr.out)
              have HB' := Lib.hid (HBR.out.alloc (by omega) (.cells #[.int .i64 3, .string tx] 37))
              have HT' := Lib.hid (HTr.out.below HP.out (by have := HTr.out.1; omega))
              have hsz : (wr.alloc (.cells #[.int .i64 3, .string tx] 37)).heap.size = wr.heap.size + 1 := by simp
              clear ha s0 sf x0 x1
              generalize wr.alloc (.cells #[.int .i64 3, .string tx] 37) = W0 at *
              have hszS := HSS.out
              have HSzS := Lib.hid hszS
              clear hszS
              go_wp2_with fail
              refine (long_any _).mono ?_
              rintro e w5 ⟨L, rfl, hL, hb5⟩
              have hz5 := hb5.size
              have HE5 := Lib.hid (HE'.out.below' hb5)
              have HH5 := Lib.hid (HH'.out.kept (hb5.block w2.heap.size (by omega)))
              have HR5 := Lib.hid ((hb5.block w3.heap.size (by omega)).trans HR'.out)
              have HB5 := Lib.hid (HB'.out.trans (hb5.mono (by omega)))
              have HL := Lib.hid hL
              clear hb5 hL t0 tf
              go_wp2_with fail
              refine (Write_long w2.heap.size 65 m L (by omega) (by have := HL.out; omega) B _ HE5.out HH5.out).mono ?_
              rintro e w6 ⟨rfl, hh6, hg6⟩
              have hz6 := hg6.size
              have HH6 := Lib.hid hh6
              have HR6 := Lib.hid ((hg6.block w3.heap.size (by omega) (by simp; omega)).trans HR5.out)
              have HB6 := Lib.hid (HB5.out.trans (below_of_grown hg6 (Nat.le_refl _) (by omega)))
              clear hh6 hg6
              go_wp2_with fail
              refine (long_any _).mono ?_
              rintro e w7 ⟨L2, rfl, hL2, hb7⟩
              have hz7 := hb7.size
              have HH7 := Lib.hid (HH6.out.kept (hb7.block w2.heap.size (by omega)))
              have HR7 := Lib.hid ((hb7.block w3.heap.size (by omega)).trans HR6.out)
              have HB7 := Lib.hid (HB6.out.trans (hb7.mono (by omega)))
              have hs7 := cell_of_row w7 w3.heap.size 0 _ _ _ HR7.out
              have HL2 := Lib.hid hL2
              clear hb7 hL2
              go_wp2_with fail
              refine (RefWrite_long w3.heap.size S L2 (by have := HSzS.out; omega) (by have := HL2.out; omega) (by have := HL2.out; omega) _ hs7).mono ?_
              rintro e w8 ⟨rfl, rfl⟩
              have HHf := HH7
              have HRf := HR7
              have HBf := HB7
              have hszf : w3.heap.size < w8.heap.size := by omega
              have hml1 : m.length ≤ 300 * (k + 1) := by omega
              clear hs7
              have tz := cell_of_row _ w3.heap.size 0 _ _ _ HRf.out
              have hlen1 : ((m : List UInt8).length : Int) = ((S : ByteArray).size : Int) := by rw [← HSM.out, Array.length_toList]; rfl
              have hS1e : (⟨(m).toArray⟩ : ByteArray) = S := by rw [← HSM.out]
              have HS1E := Lib.hid hS1e
              clear hS1e
              go_wp2_with fail
              go_quiet (first | (go_at_call 24; exact Calls.quiet_of_same ((Len_any w2.heap.size 65 (m) _ (by exact HHf.out.kept rfl)).mono fun _ _ h => ⟨h.1, h.2⟩)))
              go_wp2
              go_roundw
              case rel => first | exact ⟨k + 1, m, by omega, by go_num, HHf.out.kept rfl, by rw [HS1E.out]; exact HRf.out, hml1, below_drewN HBf.out nq, hszf⟩ | ((repeat apply Exists.intro); exact ⟨⟨k + 1, m, by omega, by go_num, HHf.out.kept rfl, by rw [HS1E.out]; exact HRf.out, hml1, below_drewN HBf.out nq, hszf⟩, rfl⟩)
              case measure => simp [intOf]; omega
            · go_wp2_with fail
              have ha : (wr.alloc (.cells #[.int .i64 kd, .string tx] 37)).heap[wr.heap.size]? = some (.cells #[.int .i64 kd, .string tx] 37 (0, 0)) := heap_alloc_new wr _
              have HA := Lib.hid ha
              have y1 := cell_of_row _ wr.heap.size 1 _ _ _ ha
              have HP : Hid (Below wr.heap.size wr (wr.alloc (.cells #[.int .i64 kd, .string tx] 37))) := Lib.hid ((Below.refl _ wr).alloc (Nat.le_refl _) _)
              have t0 := (HP.out.cell (p := ⟨w3.heap.size, 0, none⟩) hlr).trans s0
              have tf := (HP.out.frozen (p := ⟨w3.heap.size, 0, none⟩) hlr).trans sf
              have HE' := Lib.hid (HEr.out.below' HP.out)
              have HH' := Lib.hid (HHr.out.kept (HP.out.block w2.heap.size hl0))
              have HR' := Lib.hid ((HP.out.block w3.heap.size hlr).trans HRr.out)
              have HB' := Lib.hid (HBR.out.alloc (by omega) (.cells #[.int .i64 kd, .string tx] 37))
              have HT' := Lib.hid (HTr.out.below HP.out (by have := HTr.out.1; omega))
              have hsz : (wr.alloc (.cells #[.int .i64 kd, .string tx] 37)).heap.size = wr.heap.size + 1 := by simp
              clear ha s0 sf x0 x1
              generalize wr.alloc (.cells #[.int .i64 kd, .string tx] 37) = W0 at *
              have hszf : w3.heap.size < W0.heap.size := by omega
              have hml1 : m.length ≤ 300 * (k + 1) := by omega
              clear t0 tf
              have tz := cell_of_row _ w3.heap.size 0 _ _ _ HR'.out
              have hlen1 : ((m : List UInt8).length : Int) = ((S : ByteArray).size : Int) := by rw [← HSM.out, Array.length_toList]; rfl
              have hS1e : (⟨(m).toArray⟩ : ByteArray) = S := by rw [← HSM.out]
              have HS1E := Lib.hid hS1e
              clear hS1e
              go_wp2_with fail
              go_quiet (first | (go_at_call 24; exact Calls.quiet_of_same ((Len_any w2.heap.size 65 (m) _ (by exact HH'.out.kept rfl)).mono fun _ _ h => ⟨h.1, h.2⟩)))
              go_wp2
              go_roundw
              case rel => first | exact ⟨k + 1, m, by omega, by go_num, HH'.out.kept rfl, by rw [HS1E.out]; exact HR'.out, hml1, below_drewN HB'.out nq, hszf⟩ | ((repeat apply Exists.intro); exact ⟨⟨k + 1, m, by omega, by go_num, HH'.out.kept rfl, by rw [HS1E.out]; exact HR'.out, hml1, below_drewN HB'.out nq, hszf⟩, rfl⟩)
              case measure => simp [intOf]; omega
    · have i1 : ¬ (k : Int) < (n : Int) := by omega
      have hC := hsum_any (w2.heap.size) 65 m (by omega) B wr HEr.out (by omega) HHr.out
      obtain ⟨q, hq⟩ : ∃ q, dig m = q := ⟨_, rfl⟩
      rw [hq] at hC
      have hR2 := fun w1 hc T => RefHSum_ok w3.heap.size S (by have := HSS.out; omega) w1 hc T
      rw [HSM.out, hq] at hR2
      have HR2 := Lib.hid hR2
      clear hR2 hq
      go_wp2_with fail
      refine hC.mono ?_
      rintro e w5 ⟨rfl, hh5, hg5⟩
      have hz5 := hg5.size
      have HB5 := Lib.hid (HBr.out.trans (below_of_grown hg5 (show w.heap.size ≤ w2.heap.size by omega) (by have := HBr.out.size; omega)))
      have hs5 : w5.cell? ⟨w3.heap.size, 0, none⟩ = some (.string S) := cell_of_row w5 w3.heap.size 0 _ _ _ ((hg5.block w3.heap.size hlr (by simp; omega)).trans HRr.out)
      clear hh5 hg5 hC
      go_wp2_with fail
      refine (HR2.out _ hs5 (HT0.out.below HB5.out h5)).mono ?_
      rintro e w6 ⟨rfl, hb6⟩
      have HB6 := Lib.hid (HB5.out.trans (hb6.mono (by have := HB5.out.size; omega)))
      clear hb6
      go_wp2
      go_ret
      exact ⟨rfl, HB6.out⟩
theorem laidOut' : laidOutB Tryd.prog = true := by kernel_rfl
theorem cells37 : Tryd.prog.cellsOf 37 = 2 := by kernel_rfl
theorem ops_arg {H : Type} {enc : TypeId × Value → H} {W : World} {a0 : Option Addr} {len cap : Nat} {d0 : DataW H} {p : List MemPlace}
    (h0 : DataW.Trod enc Tryd.prog W 0 (fun _ => true) true 29 (.slice a0 len cap) d0 p) :
    ∃ (Kd : Nat → Int) (Tx : Nat → ByteArray), ∀ i, i < len → ∃ g o, a0 = some ⟨g, o, none⟩ ∧ g < W.heap.size ∧ W.cell? ⟨g, o + i * 2, none⟩ = some (.int .i64 (Kd i)) ∧ W.cell? ⟨g, o + i * 2 + 1, none⟩ = some (.string (Tx i)) := by
  obtain ⟨fuel, hf⟩ := h0
  rcases Deep.open_slice_pairs Tryd.underlying29 Tryd.underlying37 cells37 rfl rfl cells3 cells9 hf with ⟨hcs, _⟩ | ⟨a, len', cap', m, n, V0, V1, D0, D1, P0, P1, hcs, _, hl, _, hm, _, hx⟩
  · simp [Value.cells] at hcs
    obtain ⟨rfl, rfl, rfl⟩ := hcs
    exact ⟨fun _ => 0, fun _ => .empty, fun i hi => by omega⟩
  · simp [Value.cells] at hcs
    obtain ⟨rfl, rfl, rfl⟩ := hcs
    simp only [if_true] at hm
    have h1 : ∀ i, i < len → ∃ z : Int, V0 i = .int .i64 z := fun i hi => by
      obtain ⟨_, _, h, _⟩ := hx i (by omega)
      obtain ⟨z, e, _⟩ := DataW.trod_int Tryd.underlying3 h
      exact ⟨z, by simpa using e⟩
    have h2 : ∀ i, i < len → ∃ z : ByteArray, V1 i = .string z := fun i hi => by
      obtain ⟨_, _, _, h⟩ := hx i (by omega)
      obtain ⟨z, e, _⟩ := DataW.trod_string Tryd.underlying9 h
      exact ⟨z, by simpa using e⟩
    obtain ⟨Kd, hK⟩ := Deep.choose_lt h1
    obtain ⟨Tx, hT⟩ := Deep.choose_lt h2
    refine ⟨Kd, Tx, fun i hi => ?_⟩
    obtain ⟨c0, c1, _, _⟩ := hx i (by omega)
    rw [hK i hi] at c0
    rw [hT i hi] at c1
    obtain ⟨b, off, spot⟩ := a
    have hs : spot = none := by simpa [Addr.add] using World.cell?_spot (hx 0 (by omega)).1
    subst hs
    rw [Go.WideShapes.add_plain] at c0 c1
    exact ⟨b, off, rfl, block_lt_of_cell c0, c0, c1⟩
theorem walkDigestPlays (a : Option Addr) (len cap : Nat) (Kd : Nat → Int) (Tx : Nat → ByteArray) (w : World) (hE : (∃ B, Env B w) ∧ Tab w)
    (hV : ∀ i, i < len → ∃ g o, a = some ⟨g, o, none⟩ ∧ g < w.heap.size ∧ w.cell? ⟨g, o + i * 2, none⟩ = some (.int .i64 (Kd i)) ∧ w.cell? ⟨g, o + i * 2 + 1, none⟩ = some (.string (Tx i))) :
    Calls Tryd.prog 4 #[.slice a len cap] w fun e w' => e = .returned (.bool true) ∧ Below w.heap.size w w' := by
  obtain ⟨⟨B, E⟩, T⟩ := hE
  exact walkPlays a len cap Kd Tx B w E T hV

set_option maxRecDepth 100000 in
theorem contractDigestPlays (H : Type) (enc : TypeId × Value → H) (W : World) (base : Nat) (args : Array Value) (ds gs : List (DataW H)) (before : List MemPlace)
    (hval : ∀ (j : Nat) t v, Tryd.f4.params[j]? = some t → args[j]? = some v → Value.okWide Tryd.prog W .any base t v)
    (hW : DataW.Whole enc Tryd.prog Tryd.f4.params.toList Rows.digestPlaysSpec.vars false W args.toList ds gs before) (hL : laidMetH Tryd.prog laid6 W) :
    Calls Tryd.prog 4 args W fun e W' => ∃ v, e = .returned v ∧ Rows.digestPlaysSpec.post enc Tryd.prog Tryd.f4 false true false false W args v W' := by
  have hW' := hW
  obtain ⟨p, q, hA0, hV, rfl, hfz, hnd⟩ := hW
  have hA : DataW.TrodAll enc Tryd.prog W 0 (fun _ => true) true Tryd.f4.params.toList args.toList ds p := hA0
  rw [Tryd.params4] at hA hval
  obtain ⟨v0, vs0, d0, ds0, p0, q0, hargs, rfl, rfl, h0, r0⟩ := trodAll_cons hA
  obtain ⟨rfl, rfl, rfl⟩ := trodAll_nil r0
  obtain rfl : args = #[v0] := by cases args; simp_all
  obtain ⟨rfl, rfl⟩ := trodVars_none hV
  obtain ⟨a0, len0, cap0, rfl⟩ := okWide_slice Tryd.underlying29 (hval 0 29 v0 rfl rfl)
  have hlt0 : ∀ x ∈ p0, x.block < W.heap.size := fun x hx => by simpa using hW'.lt x (by simp [hx])
  obtain ⟨Kd0, Tx0, hV0⟩ := ops_arg h0
  clear hA0
  simp only [List.append_nil] at hW'
  refine (walkDigestPlays a0 len0 cap0 Kd0 Tx0 W (env6_of hL) hV0).mono fun e W' ⟨he, hg⟩ => ?_
  subst he
  refine ⟨_, rfl, _, _, _, [], p0 ++ [], [], hW', ?_, ?_, rfl, hg.frame _, fun h => by cases h⟩
  · exact trodAll_cons_mk (shut_bool Tryd.underlying4 _) trodAll_mk0
  · exact (trodAll_cons_mk (Below.trod laidOut' (by kernel_rfl) (of_decide_eq_true (by kernel_rfl)) h0 hg hlt0) trodAll_mk0)

set_option maxRecDepth 100000 in
theorem liftedDigestPlays (os : Os) (started : os.Started) (H : Type) (enc : TypeId × Value → H) :
    ReturnsInHanded {} Tryd.checked os 4 .any (fun w args => (Rows.digestPlaysSpec.pre enc Tryd.prog Tryd.f4 [] false w args ∧ laidMetH Tryd.prog laid6 w) ∧ sizedMet enc Tryd.prog Tryd.f4 (OpenSpec.ofChange Rows.digestPlaysSpec) false w args)
      (Rows.digestPlaysSpec.post enc Tryd.prog Tryd.f4 false true false false) := by
  refine returnsInHanded_of_change_and (C := Tryd.checked) (X := fun w _ => laidMetH Tryd.prog laid6 w) (fun _ _ _ hh h => h.of_heap hh) own started (by kernel_rfl) Tryd.func4
    (ChangeSpec.witness_shaped (enc := enc) (C := Tryd.checked) (os := os) (X := fun w _ => laidMetH Tryd.prog laid6 w) false (World.doorLaid Tryd.prog 102 os) #[.slice none 0 0] 8 rfl (World.shaped_of_RefB (by kernel_rfl) (by kernel_rfl)) (by kernel_rfl) (by kernel_rfl) (by kernel_rfl) (door_met6 os _)) ?_
  intro W base args ds gs before hval hW _ _ hL _
  exact contractDigestPlays H enc W base args ds gs before hval hW hL
theorem digestPlays_said : Rows.DigestPlaysSaid :=
  OpenClaim.holds_of_wide 4 Tryd.f4 rfl rfl rfl rfl rfl rfl rfl ⟨rfl, rfl, rfl, rfl, rfl⟩ rfl rfl rfl rfl rfl (by kernel_rfl) Tryd.func4 (by kernel_rfl)
    (of_decide_eq_true (by kernel_rfl)) (by unfold Func.isWrapper; first | (rw [if_pos (by decide +kernel)]; kernel_rfl) | (rw [if_neg (by decide +kernel)]; exact ⟨rfl, rfl⟩))
    (fun os started H enc _ => liftedDigestPlays os started H enc)
/-- THE TIED CARD. -/
theorem digestPlays_card : Rows.DigestPlaysCardSaid :=
  Claim7.holds_tied_plain_at .later [] _ _ _ _ digestPlays_said (fun _ h => by cases h) (by kernel_rfl) (fun _ h => by cases h) digestPlays_row_tie rfl ⟨rfl, rfl⟩ (by kernel_rfl) rfl
    (fun f fn hf hfn => by
      obtain rfl : f = 4 := Option.some.inj ((show Tryd.prog.funcNamed "sigillary/sigillarylaw02.DigestPlays" = some 4 by kernel_rfl).symm.trans hf) |>.symm
      obtain rfl : fn = Tryd.f4 := (Option.some.inj (Tryd.func4.symm.trans hfn)).symm
      exact ⟨by kernel_rfl, fun j t ht => by
        rw [Tryd.params4] at ht
        have hm : t ∈ [29] := by simpa using Array.mem_of_getElem? ht
        have hall : ([29].all fun u => !Tryd.prog.wantsStandIn u) = true := by kernel_rfl
        exact (show Tryd.prog.wantsStandIn t = false by simpa using List.all_eq_true.1 hall t hm)⟩)
    (by kernel_rfl)
end Go.Proofs.YtjimpfcgcbbipaaDoor
