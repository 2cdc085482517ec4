/- The reference tells whether a node is right. Conditions: the node lies. -/
import Derived.Test.YtfpcjdopfodfnaaGreatDoorRrt
import Derived.Test.YtfpcjdopfodfnaaGreatDoorLmx
set_option maxRecDepth 100000
namespace Go.Proofs.YtfpcjdopfodfnaaGreatDoor
open Go.RowKit Go.Shelf
open Scs
theorem right_keys {f : Fn} {n : Int} (h : rightF f n = true) : ∀ x ∈ f.keys.toList, rightS x = true := by
  intro x hx
  have hp := List.length_pos_of_mem hx
  rw [Array.length_toList] at hp
  rcases right_kind h with hk | hk | hk
  · have := (right_one h hk).1; omega
  · have := (right_seq h hk).1; omega
  · unfold rightF at h
    rw [hk] at h
    have h2 : mapB f n = true := by simpa using h
    have hkb : keysB f = true := by
      unfold mapB at h2
      simp only [List.all_cons, List.all_nil, id, Bool.and_eq_true, Bool.and_true] at h2
      exact h2.2.2.1
    unfold keysB at hkb
    cases ha : (f.keys.toList.any fun x => !rightS x)
    · rw [List.any_eq_false] at ha
      have := ha x hx
      simpa using this
    · rw [ha, if_pos rfl] at hkb
      cases hkb
/-- what the reference asks of a node whose kids are places, and whose keys are scalars -/
def refB (k : Int) (x : Sc) (nk nd : Nat) (ks : Array Sc) : Bool :=
  if k = 0 then (if rightS x = true then (if nk = 0 then decide (nd = 0) else false) else false)
  else if k = 1 then (if x = nullS then decide (nk = 0) else false)
  else if k = 2 then (if x = nullS then (if nk = nd then !twiceB ks.toList else false) else false) else false
theorem refB_eq {f : Fn} {n : Int} (hd : ∀ j, j < f.kids.size → plB f.kids[j]! n = true) (hk : ∀ j, j < f.keys.size → rightS f.keys[j]! = true) : rightF f n = refB f.k f.x f.keys.size f.kids.size f.keys := by
  have h1 : nodesB f n = true := by
    rw [nodesB_iff]
    intro z hz
    obtain ⟨j, hj, rfl⟩ := List.getElem_of_mem hz
    rw [Array.length_toList] at hj
    have := plB_iff.1 (hd j hj)
    rw [getElem!_pos f.kids j hj] at this
    simpa using this
  have h2 : (f.keys.toList.any fun x => !rightS x) = false := by
    rw [List.any_eq_false]
    intro z hz
    obtain ⟨j, hj, rfl⟩ := List.getElem_of_mem hz
    rw [Array.length_toList] at hj
    have := hk j hj
    rw [getElem!_pos f.keys j hj] at this
    simpa using this
  have h3 : keysB f = !twiceB f.keys.toList := by unfold keysB; rw [h2, if_neg (by decide)]
  unfold rightF refB
  by_cases k0 : f.k = 0
  · rw [if_pos k0, if_pos k0]
    unfold oneB
    cases rightS f.x <;> simp
  · rw [if_neg k0, if_neg k0]
    by_cases k1 : f.k = 1
    · rw [if_pos k1, if_pos k1]
      unfold seqB
      rw [h1]
      by_cases e : f.x = nullS <;> simp [e]
    · rw [if_neg k1, if_neg k1]
      by_cases k2 : f.k = 2
      · rw [if_pos k2, if_pos k2]
        unfold mapB
        rw [h1, h3, if_pos k2]
        by_cases e : f.x = nullS <;> by_cases e2 : f.keys.size = f.kids.size <;> simp [e, e2]
      · rw [if_neg k2, if_neg k2]
theorem bad_kid {f : Fn} {n : Int} (j : Nat) (hj : j < f.kids.size) (hp : plB f.kids[j]! n = false) : rightF f n = false := by
  cases h : rightF f n
  · rfl
  · have h1 := right_kids h f.kids[j]! (by rw [getElem!_pos f.kids j hj]; exact Array.getElem_mem_toList hj)
    rw [plB_iff.2 h1] at hp
    cases hp
theorem bad_key {f : Fn} {n : Int} (j : Nat) (hj : j < f.keys.size) (hp : rightS f.keys[j]! = false) : rightF f n = false := by
  cases h : rightF f n
  · rfl
  · have h1 := right_keys h f.keys[j]! (by rw [getElem!_pos f.keys j hj]; exact Array.getElem_mem_toList hj)
    rw [h1] at hp
    cases hp
set_option maxHeartbeats 8000000 in
theorem right28_in (k : Int) (x : Sc) (pk : Option Addr) (nk ck : Nat) (pd : Option Addr) (nd cd : Nat) (ks : Array Sc) (ds : Array Int) (n : Int) (R : Bool) (w : World)
    (hnk : ks.size = nk) (hnd : ds.size = nd) (hs : Sl w pk ks) (hd : Il w pd ds) (hx : x.2.2.size ≤ 1000000)
    (h1 : ∀ j, j < nd → plB ds[j]! n = false → R = false) (h2 : ∀ j, j < nk → rightS ks[j]! = false → R = false)
    (h3 : (∀ j, j < nd → plB ds[j]! n = true) → (∀ j, j < nk → rightS ks[j]! = true) → R = refB k x nk nd ks) :
    Calls Tryz.prog 28 #[.agg #[.int .i64 k, .int .i64 x.1, .int .i64 x.2.1, .string x.2.2, .slice pk nk ck, .slice pd nd cd], .int .i64 n] w fun e w' => e = .returned (.bool R) ∧ Below w.heap.size w w' := by
  obtain ⟨W, hW⟩ : ∃ W, (w.alloc (.cells #[.int .i64 k, .int .i64 x.1, .int .i64 x.2.1, .string x.2.2, .slice pk nk ck, .slice pd nd cd] 47)) = W := ⟨_, rfl⟩
  have hr0 : W.heap[w.heap.size]? = some (.cells #[.int .i64 k, .int .i64 x.1, .int .i64 x.2.1, .string x.2.2, .slice pk nk ck, .slice pd nd cd] 47 (0, 0)) := by rw [← hW]; exact heap_alloc_new w _
  have hb0 : Below w.heap.size w W := by rw [← hW]; exact (Below.refl _ w).alloc (Nat.le_refl _) _
  have hlt0 : w.heap.size < W.heap.size := (Array.getElem?_eq_some_iff.1 hr0).1
  have hsmk := hs.small
  have hsmd := hd.small
  rw [hnk] at hsmk
  rw [hnd] at hsmd
  have HS := Lib.hid (hs.below hb0)
  have HD := Lib.hid (hd.below hb0)
  have HNK := Lib.hid hnk
  have HND := Lib.hid hnd
  have H1 := Lib.hid h1
  have H2 := Lib.hid h2
  have H3 := Lib.hid h3
  have HW := Lib.hid hW
  have HR0 := Lib.hid hr0
  have HB0 := Lib.hid hb0
  have HLT0 := Lib.hid hlt0
  have HX := Lib.hid hx
  clear hs hd hnk hnd h1 h2 h3 hW hr0 hb0 hlt0 hx
  go_enter Tryz.func28, Tryz.ntmps28
  go_wp2_with fail
  rw [HW.out]
  go_loopw [5] (fun i wr => ∃ t : Nat, t ≤ nd ∧ i = .int .i64 t ∧ (∀ j, j < t → plB ds[j]! n = true) ∧ Below W.heap.size W wr) (fun i _ => nd - (intOf i).toNat)
  case atStart => exact ⟨0, by omega, rfl, fun j hj => absurd hj (Nat.not_lt_zero _), Below.refl _ _⟩
  case round =>
    obtain ⟨t, ht, rfl, hag, hbw⟩ := hrel
    have hr := (hbw.block _ HLT0.out).trans HR0.out
    have q5 := cell_of_row _ _ 5 _ _ _ hr
    have HAG := Lib.hid hag
    have HBW := Lib.hid hbw
    have HR := Lib.hid hr
    clear hag hbw hr
    by_cases hlt : t < nd
    · have i1 : (t : Int) < (nd : Int) := by omega
      obtain ⟨b1, o1, rfl, hb1, hc1⟩ := HD.out.at t (by rw [HND.out]; exact hlt)
      have x1 := (HBW.out.cell (p := ⟨b1, o1 + t, none⟩) hb1).trans hc1
      obtain ⟨u, hu⟩ : ∃ u, ds[t]! = u := ⟨_, rfl⟩
      rw [hu] at x1
      have HU := Lib.hid hu
      clear hc1 hu
      by_cases h0 : u < 0
      · have hRf : R = false := H1.out t hlt (by
          cases hp : plB ds[t]! n
          · rfl
          · have := (plB_iff.1 hp).1; rw [HU.out] at this; omega)
        have HRF := Lib.hid hRf
        clear hRf
        go_wp2_with fail
        go_ret
        exact ⟨by rw [HRF.out]; rfl, HB0.out.trans (HBW.out.mono HB0.out.size)⟩
      · by_cases h9 : u < n
        · have g1 : ¬ n ≤ u := by omega
          have hpl : plB ds[t]! n = true := plB_iff.2 (by rw [HU.out]; omega)
          have HPL := Lib.hid hpl
          clear hpl
          go_wp2_with fail
          go_roundw
          case rel =>
            refine ⟨t + 1, by omega, by go_num, fun j hj => ?_, HBW.out⟩
            rcases Nat.lt_or_ge j t with h | h
            · exact HAG.out j h
            · obtain rfl : j = t := by omega
              exact HPL.out
          case measure => simp [intOf]; omega
        · have g1 : n ≤ u := by omega
          have hRf : R = false := H1.out t hlt (by
            cases hp : plB ds[t]! n
            · rfl
            · have := (plB_iff.1 hp).2; rw [HU.out] at this; omega)
          have HRF := Lib.hid hRf
          clear hRf
          go_wp2_with fail
          go_ret
          exact ⟨by rw [HRF.out]; rfl, HB0.out.trans (HBW.out.mono HB0.out.size)⟩
    · have i1 : ¬ (t : Int) < (nd : Int) := by omega
      have hall : ∀ j, j < nd → plB ds[j]! n = true := fun j hj => HAG.out j (by omega)
      have HALL := Lib.hid hall
      clear hall
      go_wp2_with fail
      obtain ⟨wo, rfl⟩ : ∃ W, W = wr := ⟨wr, rfl⟩
      go_loopw [6] (fun i wq => ∃ t : Nat, t ≤ nk ∧ i = .int .i64 t ∧ (∀ j, j < t → rightS ks[j]! = true) ∧ Below W.heap.size W wq) (fun i _ => nk - (intOf i).toNat)
      case atStart => exact ⟨0, by omega, rfl, fun j hj => absurd hj (Nat.not_lt_zero _), HBW.out⟩
      case round =>
        obtain ⟨s, hsn, rfl, hag, hbw⟩ := hrel
        clear q5
        have hr := (hbw.block _ HLT0.out).trans HR0.out
        have q4 := cell_of_row _ _ 4 _ _ _ hr
        have HAG2 := Lib.hid hag
        have HBW2 := Lib.hid hbw
        have HR2 := Lib.hid hr
        clear hag hbw hr
        by_cases hls : s < nk
        · have i2 : (s : Int) < (nk : Int) := by omega
          have hls2 : s < ks.size := by rw [HNK.out]; exact hls
          obtain ⟨b1, o1, rfl, hb1, hc0, hc1, hc2⟩ := HS.out.at s hls2
          have hsh := HS.out.short s hls2
          have x0 := (HBW2.out.cell (p := ⟨b1, o1 + s * 3, none⟩) hb1).trans hc0
          have x1 := (HBW2.out.cell (p := ⟨b1, o1 + s * 3 + 1, none⟩) hb1).trans hc1
          have x2 := (HBW2.out.cell (p := ⟨b1, o1 + s * 3 + 2, none⟩) hb1).trans hc2
          obtain ⟨u, hu⟩ : ∃ u, ks[s]! = u := ⟨_, rfl⟩
          rw [hu] at x0 x1 x2 hsh
          have hC := fun w => Right5_any u.1 u.2.1 u.2.2 (by omega) w
          have hru : rightS ks[s]! = rightR u.1 u.2.1 u.2.2.data.toList := by rw [hu]; rfl
          cases hrr : rightR u.1 u.2.1 u.2.2.data.toList
          · rw [hrr] at hC hru
            have HC := Lib.hid hC
            have HRF := Lib.hid (H2.out s hls hru)
            clear hc0 hc1 hc2 hu hC hru hsh hrr hls2
            go_wp2_with fail
            refine (HC.out _).mono ?_
            rintro e w5 ⟨rfl, hb5⟩
            have HB5 := Lib.hid (HBW2.out.trans (hb5.mono HBW2.out.size))
            clear hb5 x0 x1 x2 q4
            go_wp2_with fail
            go_ret
            exact ⟨by rw [HRF.out]; rfl, HB0.out.trans (HB5.out.mono HB0.out.size)⟩
          · rw [hrr] at hC hru
            have HC := Lib.hid hC
            have HRU := Lib.hid hru
            clear hc0 hc1 hc2 hu hC hru hsh hrr hls2
            go_wp2_with fail
            refine (HC.out _).mono ?_
            rintro e w5 ⟨rfl, hb5⟩
            have HB5 := Lib.hid (HBW2.out.trans (hb5.mono HBW2.out.size))
            clear hb5 x0 x1 x2 q4
            go_wp2_with fail
            go_roundw
            case rel =>
              refine ⟨s + 1, by omega, by go_num, fun j hj => ?_, HB5.out⟩
              rcases Nat.lt_or_ge j s with h | h
              · exact HAG2.out j h
              · obtain rfl : j = s := by omega
                exact HRU.out
            case measure => simp [intOf]; omega
        · have i2 : ¬ (s : Int) < (nk : Int) := by omega
          have hR := H3.out HALL.out (fun j hj => HAG2.out j (by omega))
          have q0 := cell_of_row _ _ 0 _ _ _ HR2.out
          have q1 := cell_of_row _ _ 1 _ _ _ HR2.out
          have q2 := cell_of_row _ _ 2 _ _ _ HR2.out
          have q3 := cell_of_row _ _ 3 _ _ _ HR2.out
          have q5 := cell_of_row _ _ 5 _ _ _ HR2.out
          have hq := fun w => eq_get x (0, 0, ⟨#[]⟩) w
          have hBB := Lib.hid (HB0.out.trans (HBW2.out.mono HB0.out.size))
          unfold refB at hR
          by_cases k0 : k = 0
          · rw [if_pos k0] at hR
            subst k0
            obtain ⟨D, hD⟩ : ∃ D, decide (x = ((0, 0, ⟨#[]⟩) : Sc)) = D := ⟨_, rfl⟩
            rw [hD] at hq
            have hC := fun w => Right5_any x.1 x.2.1 x.2.2 (by have := HX.out; omega) w
            obtain ⟨Q, hQ⟩ : ∃ Q, rightR x.1 x.2.1 x.2.2.data.toList = Q := ⟨_, rfl⟩
            have hQS : rightS x = Q := hQ
            rw [hQ] at hC
            rw [hQS] at hR
            have HC := Lib.hid hC
            have HRR := Lib.hid hR
            clear hC hQ hQS hR hD
            cases Q
            · go_wp2_with fail
              refine (HC.out _).mono ?_
              rintro e w5 ⟨rfl, hb5⟩
              have HB5 := Lib.hid (hBB.out.trans (hb5.mono hBB.out.size))
              clear hb5 q0 q1 q2 q3 q4 q5
              go_wp2_with fail
              go_ret
              exact ⟨by rw [HRR.out]; rfl, HB5.out⟩
            · go_wp2_with fail
              refine (HC.out _).mono ?_
              rintro e w5 ⟨rfl, hb5⟩
              have HB5 := Lib.hid (hBB.out.trans (hb5.mono hBB.out.size))
              have p4 := (hb5.cell (p := ⟨w.heap.size, 4, none⟩) (block_lt_of_cell q4)).trans q4
              have p5 := (hb5.cell (p := ⟨w.heap.size, 5, none⟩) (block_lt_of_cell q5)).trans q5
              clear hb5 q0 q1 q2 q3 q4 q5
              have hR2 := HRR.out
              rw [if_pos trivial] at hR2
              by_cases e1 : nk = 0
              · rw [if_pos e1] at hR2
                by_cases e2 : nd = 0
                · have hRt : R = true := by rw [hR2]; exact decide_eq_true e2
                  have HRT := Lib.hid hRt
                  have j1 : ((nk : Int) == 0) = true := by simp [e1]
                  have j2 : ((nd : Int) == 0) = true := by simp [e2]
                  clear hR2 hRt e1 e2
                  go_wp2_with fail
                  go_ret
                  exact ⟨by rw [HRT.out]; rfl, HB5.out⟩
                · have hRt : R = false := by rw [hR2]; exact decide_eq_false e2
                  have HRT := Lib.hid hRt
                  have j1 : ((nk : Int) == 0) = true := by simp [e1]
                  have j2 : ((nd : Int) == 0) = false := by rw [beq_eq_false_iff_ne]; omega
                  clear hR2 hRt e1 e2
                  go_wp2_with fail
                  go_ret
                  exact ⟨by rw [HRT.out]; rfl, HB5.out⟩
              · rw [if_neg e1] at hR2
                have HRT := Lib.hid hR2
                have j1 : ((nk : Int) == 0) = false := by rw [beq_eq_false_iff_ne]; omega
                clear hR2 e1
                go_wp2_with fail
                go_ret
                exact ⟨by rw [HRT.out]; rfl, HB5.out⟩
          · rw [if_neg k0] at hR
            have j0 : (k == 0) = false := beq_eq_false_iff_ne.2 k0
            clear k0
            by_cases k1 : k = 1
            · rw [if_pos k1] at hR
              subst k1
              by_cases e1 : x = nullS
              · rw [if_pos e1] at hR
                have he : ((x : Sc) = (0, 0, ⟨#[]⟩)) := e1
                rw [decide_eq_true he] at hq
                by_cases e2 : nk = 0
                · have HRT := Lib.hid (show R = true by rw [hR]; exact decide_eq_true e2)
                  have j1 : ((nk : Int) == 0) = true := by simp [e2]
                  clear hR e1 e2 he
                  go_wp2_with fail
                  go_ret
                  exact ⟨by rw [HRT.out]; rfl, hBB.out⟩
                · have HRT := Lib.hid (show R = false by rw [hR]; exact decide_eq_false e2)
                  have j1 : ((nk : Int) == 0) = false := by rw [beq_eq_false_iff_ne]; omega
                  clear hR e1 e2 he
                  go_wp2_with fail
                  go_ret
                  exact ⟨by rw [HRT.out]; rfl, hBB.out⟩
              · rw [if_neg e1] at hR
                have he : ¬ ((x : Sc) = (0, 0, ⟨#[]⟩)) := e1
                rw [decide_eq_false he] at hq
                have HRT := Lib.hid hR
                clear hR e1 he
                go_wp2_with fail
                go_ret
                exact ⟨by rw [HRT.out]; rfl, hBB.out⟩
            · rw [if_neg k1] at hR
              have j1 : (k == 1) = false := beq_eq_false_iff_ne.2 k1
              clear k1
              by_cases k2 : k = 2
              · rw [if_pos k2] at hR
                subst k2
                by_cases e1 : x = nullS
                · rw [if_pos e1] at hR
                  have he : ((x : Sc) = (0, 0, ⟨#[]⟩)) := e1
                  rw [decide_eq_true he] at hq
                  by_cases e2 : nk = nd
                  · rw [if_pos e2] at hR
                    have j2 : ((nk : Int) == (nd : Int)) = true := by simp [e2]
                    have hC := Twice_ref ks pk ck wr (HS.out.below HBW2.out)
                    rw [HNK.out] at hC
                    obtain ⟨Q, hQ⟩ : ∃ Q, twiceB ks.toList = Q := ⟨_, rfl⟩
                    rw [hQ] at hC hR
                    have HC := Lib.hid hC
                    have HRR := Lib.hid hR
                    clear hC hQ hR e1 e2 he
                    cases Q
                    all_goals
                      go_wp2_with fail
                      refine HC.out.mono ?_
                      rintro e w5 ⟨rfl, hb5⟩
                      have HB5 := Lib.hid (hBB.out.trans (hb5.mono hBB.out.size))
                      clear hb5 q0 q1 q2 q3 q4 q5
                      go_wp2_with fail
                      go_ret
                      exact ⟨by rw [HRR.out]; rfl, HB5.out⟩
                  · rw [if_neg e2] at hR
                    have j2 : ((nk : Int) == (nd : Int)) = false := by rw [beq_eq_false_iff_ne]; omega
                    have HRT := Lib.hid hR
                    clear hR e1 e2 he
                    go_wp2_with fail
                    go_ret
                    exact ⟨by rw [HRT.out]; rfl, hBB.out⟩
                · rw [if_neg e1] at hR
                  have he : ¬ ((x : Sc) = (0, 0, ⟨#[]⟩)) := e1
                  rw [decide_eq_false he] at hq
                  have HRT := Lib.hid hR
                  clear hR e1 he
                  go_wp2_with fail
                  go_ret
                  exact ⟨by rw [HRT.out]; rfl, hBB.out⟩
              · rw [if_neg k2] at hR
                have j2 : (k == 2) = false := beq_eq_false_iff_ne.2 k2
                obtain ⟨D, hD⟩ : ∃ D, decide (x = ((0, 0, ⟨#[]⟩) : Sc)) = D := ⟨_, rfl⟩
                rw [hD] at hq
                have HRT := Lib.hid hR
                clear hR hD k2
                go_wp2_with fail
                go_ret
                exact ⟨by rw [HRT.out]; rfl, hBB.out⟩
theorem right28_any (f : Fn) (n : Int) (w : World) (hf : Nl w f) :
    Calls Tryz.prog 28 #[nV f, .int .i64 n] w fun e w' => e = .returned (.bool (rightF f n)) ∧ Below w.heap.size w w' :=
  right28_in f.k f.x f.pk f.keys.size f.ck f.pd f.kids.size f.cd f.keys f.kids n (rightF f n) w rfl rfl hf.ks hf.ds hf.xs (fun j hj hp => bad_kid j hj hp) (fun j hj hp => bad_key j hj hp) refB_eq
end Go.Proofs.YtfpcjdopfodfnaaGreatDoor
