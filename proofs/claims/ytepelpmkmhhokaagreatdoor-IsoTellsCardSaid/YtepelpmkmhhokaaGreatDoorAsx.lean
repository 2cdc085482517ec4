/- The library tells whether two rows of numbers, of scalars are the same. Conditions: the rows lie. Whether two graphs are the same is told as the document tells it. Conditions: the graphs lie. Whether two graphs are the same is told: the document's answer. Conditions: the graphs lie. The statements' own comparisons of rows of numbers, of scalars tell whether they are the same. Conditions: the rows lie. -/
import Derived.Test.YtepelpmkmhhokaaGreatDoorAkk
set_option maxRecDepth 100000
namespace Go.Proofs.YtepelpmkmhhokaaGreatDoor
open Go.RowKit Go.Shelf
open Scs
theorem arr_ext {α : Type} [Inhabited α] {a b : Array α} (h : a.size = b.size) (hj : ∀ j, j < a.size → a[j]! = b[j]!) : a = b := by
  refine Array.ext h fun i h1 h2 => ?_
  have := hj i h1
  rwa [getElem!_pos a i h1, getElem!_pos b i h2] at this
theorem neq_sc (k n : Int) (s : ByteArray) (k' n' : Int) (s' : ByteArray) (w : World) :
    (binOp .neq 48 (.agg #[.int .i64 k, .int .i64 n, .string s]) (.agg #[.int .i64 k', .int .i64 n', .string s'])).run Tryz.prog w = .ok (.bool (!decide (((k, n, s) : Sc) = (k', n', s')))) w := by
  have h := equal_sc k n s k' n' s' w
  rw [sameB_iff] at h
  rw [run_neq_struct, h]
  rfl
set_option maxHeartbeats 4000000 in
theorem equalI_any (a b : Array Int) (p q : Option Addr) (c d : Nat) (w : World) (ha : Il w p a) (hb : Il w q b) :
    Calls Tryz.prog 52 #[.slice p a.size c, .slice q b.size d] w fun e w' => e = .returned (.bool (decide (a = b))) ∧ Below w.heap.size w w' := by
  by_cases hs : a.size = b.size
  · have hsm := ha.small
    have HA := Lib.hid ha
    have HB := Lib.hid hb
    have HS := Lib.hid hs
    rw [← hs]
    obtain ⟨m, hm⟩ : ∃ m, a.size = m := ⟨_, rfl⟩
    have HM := Lib.hid hm
    rw [hm] at hsm ⊢
    have hnn : ((m : Int) != (m : Int)) = false := by simp
    obtain ⟨R, hR⟩ : ∃ R, decide (a = b) = R := ⟨_, rfl⟩
    have HR := Lib.hid hR
    rw [hR]
    clear ha hb hs hm hR
    go_enter Tryz.func52, Tryz.ntmps52
    go_wp2_with fail
    go_loopw [13, 5] (fun i _ wr => ∃ t : Nat, t ≤ m ∧ i = .int .i64 t ∧ (∀ j, j < t → a[j]! = b[j]!) ∧ Below w.heap.size w wr) (fun i _ _ => m - (intOf i).toNat)
    case atStart => exact ⟨0, by omega, rfl, fun j hj => absurd hj (Nat.not_lt_zero _), Below.refl _ _⟩
    case round =>
      obtain ⟨t, ht, rfl, hag, hbw⟩ := hrel
      have HAG := Lib.hid hag
      have HBW := Lib.hid hbw
      clear hag hbw hnn
      by_cases hlt : t < m
      · have i1 : (t : Int) < (m : Int) := by omega
        obtain ⟨b1, o1, rfl, hb1, hc1⟩ := HA.out.at t (by rw [HM.out]; exact hlt)
        obtain ⟨b2, o2, rfl, hb2, hc2⟩ := HB.out.at t (by rw [← HS.out, HM.out]; exact hlt)
        have x1 := (HBW.out.cell (p := ⟨b1, o1 + t, none⟩) hb1).trans hc1
        have x2 := (HBW.out.cell (p := ⟨b2, o2 + t, none⟩) hb2).trans hc2
        obtain ⟨u, hu⟩ : ∃ u, a[t]! = u := ⟨_, rfl⟩
        obtain ⟨v, hv⟩ : ∃ u, b[t]! = u := ⟨_, rfl⟩
        rw [hu] at x1
        rw [hv] at x2
        have HU := Lib.hid hu
        have HV := Lib.hid hv
        clear hc1 hc2 hu hv
        by_cases he : u = v
        · have hne : (u != v) = false := by simp [he]
          have HE := Lib.hid he
          clear he
          go_wp2_with fail
          go_quiet (fail)
          go_wp2_with fail
          go_roundw
          case rel =>
            refine ⟨t + 1, by omega, by go_num, fun j hj => ?_, below_drewN HBW.out _⟩
            rcases Nat.lt_or_ge j t with h | h
            · exact HAG.out j h
            · obtain rfl : j = t := by omega
              rw [HU.out, HV.out, HE.out]
          case measure => simp [intOf]; omega
        · have hne : (u != v) = true := by simp [he]
          have hRf : R = false := by
            rw [← HR.out]
            exact decide_eq_false fun e => he (by rw [← HU.out, ← HV.out, e])
          have HRF := Lib.hid hRf
          clear he hRf
          go_wp2_with fail
          go_quiet (fail)
          go_wp2_with fail
          go_ret
          exact ⟨by rw [HRF.out]; rfl, below_drewN HBW.out _⟩
      · have i1 : ¬ (t : Int) < (m : Int) := by omega
        have hRt : R = true := by
          rw [← HR.out]
          exact decide_eq_true (arr_ext HS.out fun j hj => HAG.out j (by have := HM.out; omega))
        have HRT := Lib.hid hRt
        clear hRt
        go_wp2_with fail
        go_ret
        exact ⟨by rw [HRT.out]; rfl, HBW.out⟩
  · have hne : ((a.size : Int) != (b.size : Int)) = true := by simp; omega
    have hd : decide (a = b) = false := decide_eq_false fun e => hs (by rw [e])
    rw [hd]
    clear ha hb hd
    go_enter Tryz.func52, Tryz.ntmps52
    go_wp2_with fail
    go_ret
    exact ⟨rfl, Below.refl _ _⟩
set_option maxHeartbeats 4000000 in
theorem equalS_any (a b : Array Sc) (p q : Option Addr) (c d : Nat) (w : World) (ha : Sl w p a) (hb : Sl w q b) :
    Calls Tryz.prog 44 #[.slice p a.size c, .slice q b.size d] w fun e w' => e = .returned (.bool (decide (a = b))) ∧ Below w.heap.size w w' := by
  by_cases hs : a.size = b.size
  · have hsm := ha.small
    have HA := Lib.hid ha
    have HB := Lib.hid hb
    have HS := Lib.hid hs
    rw [← hs]
    obtain ⟨m, hm⟩ : ∃ m, a.size = m := ⟨_, rfl⟩
    have HM := Lib.hid hm
    rw [hm] at hsm ⊢
    have hnn : ((m : Int) != (m : Int)) = false := by simp
    obtain ⟨R, hR⟩ : ∃ R, decide (a = b) = R := ⟨_, rfl⟩
    have HR := Lib.hid hR
    rw [hR]
    clear ha hb hs hm hR
    go_enter Tryz.func44, Tryz.ntmps44
    go_wp2_with fail
    go_loopw [13, 5] (fun i _ wr => ∃ t : Nat, t ≤ m ∧ i = .int .i64 t ∧ (∀ j, j < t → a[j]! = b[j]!) ∧ Below w.heap.size w wr) (fun i _ _ => m - (intOf i).toNat)
    case atStart => exact ⟨0, by omega, rfl, fun j hj => absurd hj (Nat.not_lt_zero _), Below.refl _ _⟩
    case round =>
      obtain ⟨t, ht, rfl, hag, hbw⟩ := hrel
      have HAG := Lib.hid hag
      have HBW := Lib.hid hbw
      clear hag hbw hnn
      by_cases hlt : t < m
      · have i1 : (t : Int) < (m : Int) := by omega
        obtain ⟨b1, o1, rfl, hb1, hc0, hc1, hc2⟩ := HA.out.at t (by rw [HM.out]; exact hlt)
        obtain ⟨b2, o2, rfl, hb2, hd0, hd1, hd2⟩ := HB.out.at t (by rw [← HS.out, HM.out]; exact hlt)
        have x0 := (HBW.out.cell (p := ⟨b1, o1 + t * 3, none⟩) hb1).trans hc0
        have x1 := (HBW.out.cell (p := ⟨b1, o1 + t * 3 + 1, none⟩) hb1).trans hc1
        have x2 := (HBW.out.cell (p := ⟨b1, o1 + t * 3 + 2, none⟩) hb1).trans hc2
        have y0 := (HBW.out.cell (p := ⟨b2, o2 + t * 3, none⟩) hb2).trans hd0
        have y1 := (HBW.out.cell (p := ⟨b2, o2 + t * 3 + 1, none⟩) hb2).trans hd1
        have y2 := (HBW.out.cell (p := ⟨b2, o2 + t * 3 + 2, none⟩) hb2).trans hd2
        obtain ⟨⟨u0, u1, u2⟩, hu⟩ : ∃ u, a[t]! = u := ⟨_, rfl⟩
        obtain ⟨⟨v0, v1, v2⟩, hv⟩ : ∃ u, b[t]! = u := ⟨_, rfl⟩
        rw [hu] at x0 x1 x2
        rw [hv] at y0 y1 y2
        have hq := fun w => neq_sc u0 u1 u2 v0 v1 v2 w
        have qg := guard_sc
        have HU := Lib.hid hu
        have HV := Lib.hid hv
        clear hc0 hc1 hc2 hd0 hd1 hd2 hu hv
        by_cases he : ((u0, u1, u2) : Sc) = (v0, v1, v2)
        · rw [decide_eq_true he] at hq
          have HE := Lib.hid he
          clear he
          go_wp2_with fail
          go_region
          go_wp2_with fail
          go_roundw
          case rel =>
            refine ⟨t + 1, by omega, by go_num, fun j hj => ?_, HBW.out.drew⟩
            rcases Nat.lt_or_ge j t with h | h
            · exact HAG.out j h
            · obtain rfl : j = t := by omega
              rw [HU.out, HV.out, HE.out]
          case measure => simp [intOf]; omega
        · rw [decide_eq_false he] at hq
          have hRf : R = false := by
            rw [← HR.out]
            exact decide_eq_false fun e => he (by rw [← HU.out, ← HV.out, e])
          have HRF := Lib.hid hRf
          clear he hRf
          go_wp2_with fail
          go_region
          go_wp2_with fail
          go_ret
          exact ⟨by rw [HRF.out]; rfl, HBW.out.drew⟩
      · have i1 : ¬ (t : Int) < (m : Int) := by omega
        have hRt : R = true := by
          rw [← HR.out]
          exact decide_eq_true (arr_ext HS.out fun j hj => HAG.out j (by have := HM.out; omega))
        have HRT := Lib.hid hRt
        clear hRt
        go_wp2_with fail
        go_ret
        exact ⟨by rw [HRT.out]; rfl, HBW.out⟩
  · have hne : ((a.size : Int) != (b.size : Int)) = true := by simp; omega
    have hd : decide (a = b) = false := decide_eq_false fun e => hs (by rw [e])
    rw [hd]
    clear ha hb hd
    go_enter Tryz.func44, Tryz.ntmps44
    go_wp2_with fail
    go_ret
    exact ⟨rfl, Below.refl _ _⟩
end Go.Proofs.YtepelpmkmhhokaaGreatDoor

set_option maxRecDepth 100000
namespace Go.Proofs.YtepelpmkmhhokaaGreatDoor
open Go.RowKit Go.Shelf
open Scs
abbrev nV (f : Fn) : Value := .agg #[.int .i64 f.k, .int .i64 f.x.1, .int .i64 f.x.2.1, .string f.x.2.2, .slice f.pk f.keys.size f.ck, .slice f.pd f.kids.size f.cd]
abbrev nR (f : Fn) : Obj := .cells #[.int .i64 f.k, .int .i64 f.x.1, .int .i64 f.x.2.1, .string f.x.2.2, .slice f.pk f.keys.size f.ck, .slice f.pd f.kids.size f.cd] 51
theorem at2 (w : World) (o0 o1 : Obj) : ∃ W, ((w.alloc o0).alloc o1) = W ∧ W.heap.size = w.heap.size + 2 ∧ Below w.heap.size w W ∧ W.heap[w.heap.size]? = some o0 ∧ W.heap[w.heap.size + 1]? = some o1 := by
  refine ⟨_, rfl, by simp, ((Below.refl _ w).alloc (Nat.le_refl _) _).alloc (by simp) _, ?_, ?_⟩
  · rw [Below.heap_alloc _ _ _ (by simp)]
    exact heap_alloc_new w o0
  · have h := heap_alloc_new (w.alloc o0) o1
    rwa [World.size_alloc] at h
theorem cell6 {W : World} {b : Nat} {a0 a1 a2 a3 a4 a5 : Value} {T : TypeId} (h : W.heap[b]? = some (.cells #[a0, a1, a2, a3, a4, a5] T (0, 0))) :
    W.cell? ⟨b, 0, none⟩ = some a0 ∧ W.cell? ⟨b, 1, none⟩ = some a1 ∧ W.cell? ⟨b, 2, none⟩ = some a2 ∧ W.cell? ⟨b, 3, none⟩ = some a3 ∧ W.cell? ⟨b, 4, none⟩ = some a4 ∧ W.cell? ⟨b, 5, none⟩ = some a5 :=
  ⟨cell_of_row _ _ 0 _ _ _ h, cell_of_row _ _ 1 _ _ _ h, cell_of_row _ _ 2 _ _ _ h, cell_of_row _ _ 3 _ _ _ h, cell_of_row _ _ 4 _ _ _ h, cell_of_row _ _ 5 _ _ _ h⟩
/-- the same fields? -/
def sameF (f g : Fn) : Bool := if f.k = g.k then (if f.x = g.x then (if f.keys = g.keys then decide (f.kids = g.kids) else false) else false) else false
set_option maxHeartbeats 4000000 in
theorem sameNode_any (f g : Fn) (w : World) (hf : Nl w f) (hg : Nl w g) :
    Calls Tryz.prog 34 #[nV f, nV g] w fun e w' => e = .returned (.bool (sameF f g)) ∧ Below w.heap.size w w' := by
  obtain ⟨W, hW, hz, hb, hr0, hr1⟩ := at2 w (nR f) (nR g)
  have HW := Lib.hid hW
  have HB := Lib.hid hb
  have HR0 := Lib.hid hr0
  have HR1 := Lib.hid hr1
  have HF := Lib.hid hf
  have HG := Lib.hid hg
  have HES := Lib.hid fun w ha hb => equalS_any f.keys g.keys f.pk g.pk f.ck g.ck w ha hb
  have HEI := Lib.hid fun w ha hb => equalI_any f.kids g.kids f.pd g.pd f.cd g.cd w ha hb
  have hq := fun w => eq_sc f.x.1 f.x.2.1 f.x.2.2 g.x.1 g.x.2.1 g.x.2.2 w
  rw [sameB_iff] at hq
  unfold nV
  clear hb hr0 hr1 hf hg hW
  by_cases h1 : f.k = g.k
  · by_cases h2 : f.x = g.x
    · rw [decide_eq_true (show ((f.x.1, f.x.2.1, f.x.2.2) : Sc) = (g.x.1, g.x.2.1, g.x.2.2) by rw [h2])] at hq
      have hke : (f.k == g.k) = true := by simp [h1]
      by_cases h3 : f.keys = g.keys
      · rw [decide_eq_true h3] at HES
        have hs : sameF f g = decide (f.kids = g.kids) := by unfold sameF; rw [if_pos h1, if_pos h2, if_pos h3]
        rw [hs]
        obtain ⟨R, hR⟩ : ∃ R, decide (f.kids = g.kids) = R := ⟨_, rfl⟩
        rw [hR] at HEI ⊢
        clear h1 h2 h3 hs hR
        obtain ⟨p0, p1, p2, p3, p4, p5⟩ := cell6 HR0.out
        obtain ⟨q0, q1, q2, q3, q4, q5⟩ := cell6 HR1.out
        go_enter Tryz.func34, Tryz.ntmps34
        go_wp2_with fail
        rw [HW.out]
        go_wp2_with (first
          | (go_at_call 44
             refine (HES.out _ (HF.out.ks.below HB.out) (HG.out.ks.below HB.out)).mono ?_
             rintro e w5 ⟨rfl, hb5⟩
             have HB5 := Lib.hid (HB.out.trans (hb5.mono HB.out.size))
             have c5 := (hb5.cell (p := ⟨w.heap.size, 5, none⟩) (by simp only; omega)).trans p5
             have d5 := (hb5.cell (p := ⟨w.heap.size + 1, 5, none⟩) (by simp only; omega)).trans q5
             clear hb5)
          | (go_at_call 52
             refine (HEI.out _ (HF.out.ds.below HB5.out) (HG.out.ds.below HB5.out)).mono ?_
             rintro e w6 ⟨rfl, hb6⟩
             have HB6 := Lib.hid (HB5.out.trans (hb6.mono HB5.out.size))
             clear hb6))
        go_ret
        exact ⟨rfl, HB6.out⟩
      · rw [decide_eq_false h3] at HES
        have hs : sameF f g = false := by unfold sameF; rw [if_pos h1, if_pos h2, if_neg h3]
        rw [hs]
        clear h1 h2 h3 hs
        obtain ⟨p0, p1, p2, p3, p4, p5⟩ := cell6 HR0.out
        obtain ⟨q0, q1, q2, q3, q4, q5⟩ := cell6 HR1.out
        go_enter Tryz.func34, Tryz.ntmps34
        go_wp2_with fail
        rw [HW.out]
        go_wp2_with (first
          | (go_at_call 44
             refine (HES.out _ (HF.out.ks.below HB.out) (HG.out.ks.below HB.out)).mono ?_
             rintro e w5 ⟨rfl, hb5⟩
             have HB5 := Lib.hid (HB.out.trans (hb5.mono HB.out.size))
             clear hb5))
        go_ret
        exact ⟨rfl, HB5.out⟩
    · rw [decide_eq_false (show ¬ ((f.x.1, f.x.2.1, f.x.2.2) : Sc) = (g.x.1, g.x.2.1, g.x.2.2) from h2)] at hq
      have hke : (f.k == g.k) = true := by simp [h1]
      have hs : sameF f g = false := by unfold sameF; rw [if_pos h1, if_neg h2]
      rw [hs]
      clear h1 h2 hs
      obtain ⟨p0, p1, p2, p3, p4, p5⟩ := cell6 HR0.out
      obtain ⟨q0, q1, q2, q3, q4, q5⟩ := cell6 HR1.out
      go_enter Tryz.func34, Tryz.ntmps34
      go_wp2_with fail
      rw [HW.out]
      go_wp2_with fail
      go_ret
      exact ⟨rfl, HB.out⟩
  · have hke : (f.k == g.k) = false := beq_eq_false_iff_ne.2 h1
    have hs : sameF f g = false := by unfold sameF; rw [if_neg h1]
    rw [hs]
    clear h1 hs hq
    obtain ⟨p0, p1, p2, p3, p4, p5⟩ := cell6 HR0.out
    obtain ⟨q0, q1, q2, q3, q4, q5⟩ := cell6 HR1.out
    go_enter Tryz.func34, Tryz.ntmps34
    go_wp2_with fail
    rw [HW.out]
    go_wp2_with fail
    go_ret
    exact ⟨rfl, HB.out⟩
end Go.Proofs.YtepelpmkmhhokaaGreatDoor

set_option maxRecDepth 100000
namespace Go.Proofs.YtepelpmkmhhokaaGreatDoor
open Go.RowKit Go.Shelf
open Scs
def sameNs (a b : Array Fn) : Bool := decide (a.size = b.size ∧ ∀ j, j < a.size → sameF a[j]! b[j]! = true)
set_option maxHeartbeats 4000000 in
theorem equalFunc_any (a b : Array Fn) (p q : Option Addr) (c d : Nat) (w : World) (ha : Gl w p a) (hb : Gl w q b) :
    Calls Tryz.prog 33 #[.slice p a.size c, .slice q b.size d, .func (.func 34) #[] #[]] w fun e w' => e = .returned (.bool (sameNs a b)) ∧ Below w.heap.size w w' := by
  by_cases hs : a.size = b.size
  · have hsm := ha.small
    have HA := Lib.hid ha
    have HB := Lib.hid hb
    have HS := Lib.hid hs
    rw [← hs]
    obtain ⟨m, hm⟩ : ∃ m, a.size = m := ⟨_, rfl⟩
    have HM := Lib.hid hm
    rw [hm] at hsm ⊢
    have hnn : ((m : Int) != (m : Int)) = false := by simp
    obtain ⟨R, hR⟩ : ∃ R, sameNs a b = R := ⟨_, rfl⟩
    have HR := Lib.hid hR
    rw [hR]
    have eg : ∀ args w, (callFunc 34 args).run Tryz.prog w = .ok (.enter 34 args) w := enters_of Tryz.func34 (by kernel_rfl) rfl
    clear ha hb hs hm hR
    go_enter Tryz.func33, Tryz.ntmps33
    go_wp2_with fail
    go_loopw [17, 7, 8, 9] (fun i _ _ _ wr => ∃ t : Nat, t ≤ m ∧ i = .int .i64 t ∧ (∀ j, j < t → sameF a[j]! b[j]! = true) ∧ Below w.heap.size w wr) (fun i _ _ _ _ => m - (intOf i).toNat)
    case atStart => exact ⟨0, by omega, rfl, fun j hj => absurd hj (Nat.not_lt_zero _), Below.refl _ _⟩
    case round =>
      obtain ⟨t, ht, rfl, hag, hbw⟩ := hrel
      have HAG := Lib.hid hag
      have HBW := Lib.hid hbw
      clear hag hbw hnn
      by_cases hlt : t < m
      · have i1 : (t : Int) < (m : Int) := by omega
        obtain ⟨b1, o1, rfl, hb1, hc0, hc1, hc2, hc3, hc4, hc5⟩ := HA.out.at t (by rw [HM.out]; exact hlt)
        obtain ⟨b2, o2, rfl, hb2, hd0, hd1, hd2, hd3, hd4, hd5⟩ := HB.out.at t (by rw [← HS.out, HM.out]; exact hlt)
        have x0 := (HBW.out.cell (p := ⟨b1, o1 + t * 6, none⟩) hb1).trans hc0
        have x1 := (HBW.out.cell (p := ⟨b1, o1 + t * 6 + 1, none⟩) hb1).trans hc1
        have x2 := (HBW.out.cell (p := ⟨b1, o1 + t * 6 + 2, none⟩) hb1).trans hc2
        have x3 := (HBW.out.cell (p := ⟨b1, o1 + t * 6 + 3, none⟩) hb1).trans hc3
        have x4 := (HBW.out.cell (p := ⟨b1, o1 + t * 6 + 4, none⟩) hb1).trans hc4
        have x5 := (HBW.out.cell (p := ⟨b1, o1 + t * 6 + 5, none⟩) hb1).trans hc5
        have y0 := (HBW.out.cell (p := ⟨b2, o2 + t * 6, none⟩) hb2).trans hd0
        have y1 := (HBW.out.cell (p := ⟨b2, o2 + t * 6 + 1, none⟩) hb2).trans hd1
        have y2 := (HBW.out.cell (p := ⟨b2, o2 + t * 6 + 2, none⟩) hb2).trans hd2
        have y3 := (HBW.out.cell (p := ⟨b2, o2 + t * 6 + 3, none⟩) hb2).trans hd3
        have y4 := (HBW.out.cell (p := ⟨b2, o2 + t * 6 + 4, none⟩) hb2).trans hd4
        have y5 := (HBW.out.cell (p := ⟨b2, o2 + t * 6 + 5, none⟩) hb2).trans hd5
        have hNa := HA.out.nodes t (by rw [HM.out]; exact hlt)
        have hNb := HB.out.nodes t (by rw [← HS.out, HM.out]; exact hlt)
        have l1 : b1 < wr.heap.size := Nat.lt_of_lt_of_le hb1 HBW.out.size
        have l2 : b2 < wr.heap.size := Nat.lt_of_lt_of_le hb2 HBW.out.size
        obtain ⟨f, hf⟩ : ∃ u, a[t]! = u := ⟨_, rfl⟩
        obtain ⟨g, hg⟩ : ∃ u, b[t]! = u := ⟨_, rfl⟩
        rw [hf] at x0 x1 x2 x3 x4 x5 hNa
        rw [hg] at y0 y1 y2 y3 y4 y5 hNb
        have HF := Lib.hid hf
        have HG := Lib.hid hg
        have HN := Lib.hid fun W (hb : Below w.heap.size w W) => sameNode_any f g W (hNa.below hb) (hNb.below hb)
        unfold nV at HN
        have HBB : Hid (∀ o o', Below w.heap.size w ((wr.alloc o).alloc o')) := Lib.hid fun o o' => (HBW.out.alloc HBW.out.size o).alloc (by have := HBW.out.size; simp; omega) o'
        clear hc0 hc1 hc2 hc3 hc4 hc5 hd0 hd1 hd2 hd3 hd4 hd5 hf hg hNa hNb
        cases hsf : sameF f g
        · rw [hsf] at HN
          have hRf : R = false := by
            rw [← HR.out]
            exact decide_eq_false fun e => by
              have h := e.2 t (by rw [HM.out]; exact hlt)
              rw [HF.out, HG.out, hsf] at h
              cases h
          have HRF := Lib.hid hRf
          clear hsf hRf
          go_wp2_with fail
          refine (HN.out _ (HBB.out _ _)).mono ?_
          rintro e w5 ⟨rfl, hb5⟩
          have HB5 := Lib.hid ((HBB.out _ _).trans (hb5.mono (HBB.out _ _).size))
          clear hb5 x0 x1 x2 x3 x4 x5 y0 y1 y2 y3 y4 y5
          go_wp2_with fail
          go_ret
          exact ⟨by rw [HRF.out]; rfl, HB5.out⟩
        · rw [hsf] at HN
          have HSF := Lib.hid hsf
          clear hsf
          go_wp2_with fail
          refine (HN.out _ (HBB.out _ _)).mono ?_
          rintro e w5 ⟨rfl, hb5⟩
          have HB5 := Lib.hid ((HBB.out _ _).trans (hb5.mono (HBB.out _ _).size))
          clear hb5 x0 x1 x2 x3 x4 x5 y0 y1 y2 y3 y4 y5
          go_wp2_with fail
          go_roundw
          case rel =>
            refine ⟨t + 1, by omega, by go_num, fun j hj => ?_, HB5.out⟩
            rcases Nat.lt_or_ge j t with h | h
            · exact HAG.out j h
            · obtain rfl : j = t := by omega
              rw [HF.out, HG.out, HSF.out]
          case measure => simp [intOf]; omega
      · have i1 : ¬ (t : Int) < (m : Int) := by omega
        have hRt : R = true := by
          rw [← HR.out]
          exact decide_eq_true ⟨HS.out, fun j hj => HAG.out j (by have := HM.out; omega)⟩
        have HRT := Lib.hid hRt
        clear hRt
        go_wp2_with fail
        go_ret
        exact ⟨by rw [HRT.out]; rfl, HBW.out⟩
  · have hne : ((a.size : Int) != (b.size : Int)) = true := by simp; omega
    have hd : sameNs a b = false := decide_eq_false fun e => hs e.1
    rw [hd]
    clear ha hb hd
    go_enter Tryz.func33, Tryz.ntmps33
    go_wp2_with fail
    go_ret
    exact ⟨rfl, Below.refl _ _⟩
def sameG (r s : Int) (a b : Array Fn) : Bool := if r = s then sameNs a b else false
set_option maxHeartbeats 1000000 in
theorem Same_any (r s : Int) (a b : Array Fn) (p q : Option Addr) (c d : Nat) (w : World) (ha : Gl w p a) (hb : Gl w q b) :
    Calls Tryz.prog 18 #[.agg #[.int .i64 r, .slice p a.size c], .agg #[.int .i64 s, .slice q b.size d]] w fun e w' => e = .returned (.bool (sameG r s a b)) ∧ Below w.heap.size w w' := by
  obtain ⟨W, hW, hz, hbl, hr0, hr1⟩ := at2 w (.cells #[.int .i64 r, .slice p a.size c] 24) (.cells #[.int .i64 s, .slice q b.size d] 24)
  have HE := Lib.hid (equalFunc_any a b p q c d W (ha.below hbl) (hb.below hbl))
  have HW := Lib.hid hW
  have HB := Lib.hid hbl
  have p0 := cell_of_row _ _ 0 _ _ _ hr0
  have p1 := cell_of_row _ _ 1 _ _ _ hr0
  have q0 := cell_of_row _ _ 0 _ _ _ hr1
  have q1 := cell_of_row _ _ 1 _ _ _ hr1
  obtain ⟨R, hR⟩ : ∃ R, sameNs a b = R := ⟨_, rfl⟩
  unfold sameG
  rw [hR] at HE ⊢
  clear ha hb hW hbl hr0 hr1 hR
  by_cases h : r = s
  · rw [if_pos h]
    have hk : (r == s) = true := by simp [h]
    clear h
    go_enter Tryz.func18, Tryz.ntmps18
    go_wp2_with fail
    rw [HW.out]
    go_wp2_with (first
      | (go_at_call 33
         refine HE.out.mono ?_
         rintro e w5 ⟨rfl, hb5⟩
         have HB5 := Lib.hid (HB.out.trans (hb5.mono HB.out.size))
         clear hb5))
    go_ret
    exact ⟨rfl, HB5.out⟩
  · rw [if_neg h]
    have hk : (r == s) = false := beq_eq_false_iff_ne.2 h
    clear h
    go_enter Tryz.func18, Tryz.ntmps18
    go_wp2_with fail
    rw [HW.out]
    go_wp2_with fail
    go_ret
    exact ⟨rfl, HB.out⟩
end Go.Proofs.YtepelpmkmhhokaaGreatDoor

set_option maxRecDepth 100000
namespace Go.Proofs.YtepelpmkmhhokaaGreatDoor
open Go.RowKit Go.Shelf
open Scs
set_option maxHeartbeats 4000000 in
theorem sameS_any (a b : Array Sc) (p q : Option Addr) (c d : Nat) (w : World) (ha : Sl w p a) (hb : Sl w q b) :
    Calls Tryz.prog 36 #[.slice p a.size c, .slice q b.size d] w fun e w' => e = .returned (.bool (decide (a = b))) ∧ Below w.heap.size w w' := by
  by_cases hs : a.size = b.size
  · have hsm := ha.small
    have HA := Lib.hid ha
    have HB := Lib.hid hb
    have HS := Lib.hid hs
    rw [← hs]
    obtain ⟨m, hm⟩ : ∃ m, a.size = m := ⟨_, rfl⟩
    have HM := Lib.hid hm
    rw [hm] at hsm ⊢
    have hnn : ((m : Int) != (m : Int)) = false := by simp
    obtain ⟨R, hR⟩ : ∃ R, decide (a = b) = R := ⟨_, rfl⟩
    have HR := Lib.hid hR
    rw [hR]
    clear ha hb hs hm hR
    go_enter Tryz.func36, Tryz.ntmps36
    go_wp2_with fail
    go_loopw [5] (fun i wr => ∃ t : Nat, t ≤ m ∧ i = .int .i64 t ∧ (∀ j, j < t → a[j]! = b[j]!) ∧ Below w.heap.size w wr) (fun i _ => m - (intOf i).toNat)
    case atStart => exact ⟨0, by omega, rfl, fun j hj => absurd hj (Nat.not_lt_zero _), Below.refl _ _⟩
    case round =>
      obtain ⟨t, ht, rfl, hag, hbw⟩ := hrel
      have HAG := Lib.hid hag
      have HBW := Lib.hid hbw
      clear hag hbw hnn
      by_cases hlt : t < m
      · have i1 : (t : Int) < (m : Int) := by omega
        obtain ⟨b1, o1, rfl, hb1, hc0, hc1, hc2⟩ := HA.out.at t (by rw [HM.out]; exact hlt)
        obtain ⟨b2, o2, rfl, hb2, hd0, hd1, hd2⟩ := HB.out.at t (by rw [← HS.out, HM.out]; exact hlt)
        have x0 := (HBW.out.cell (p := ⟨b1, o1 + t * 3, none⟩) hb1).trans hc0
        have x1 := (HBW.out.cell (p := ⟨b1, o1 + t * 3 + 1, none⟩) hb1).trans hc1
        have x2 := (HBW.out.cell (p := ⟨b1, o1 + t * 3 + 2, none⟩) hb1).trans hc2
        have y0 := (HBW.out.cell (p := ⟨b2, o2 + t * 3, none⟩) hb2).trans hd0
        have y1 := (HBW.out.cell (p := ⟨b2, o2 + t * 3 + 1, none⟩) hb2).trans hd1
        have y2 := (HBW.out.cell (p := ⟨b2, o2 + t * 3 + 2, none⟩) hb2).trans hd2
        obtain ⟨⟨u0, u1, u2⟩, hu⟩ : ∃ u, a[t]! = u := ⟨_, rfl⟩
        obtain ⟨⟨v0, v1, v2⟩, hv⟩ : ∃ u, b[t]! = u := ⟨_, rfl⟩
        rw [hu] at x0 x1 x2
        rw [hv] at y0 y1 y2
        have hq := fun w => neq_sc u0 u1 u2 v0 v1 v2 w
        have qg := guard_sc
        have HU := Lib.hid hu
        have HV := Lib.hid hv
        clear hc0 hc1 hc2 hd0 hd1 hd2 hu hv
        by_cases he : ((u0, u1, u2) : Sc) = (v0, v1, v2)
        · rw [decide_eq_true he] at hq
          have HE := Lib.hid he
          clear he
          go_wp2_with fail
          go_region
          go_wp2_with fail
          go_roundw
          case rel =>
            refine ⟨t + 1, by omega, by go_num, fun j hj => ?_, HBW.out.drew⟩
            rcases Nat.lt_or_ge j t with h | h
            · exact HAG.out j h
            · obtain rfl : j = t := by omega
              rw [HU.out, HV.out, HE.out]
          case measure => simp [intOf]; omega
        · rw [decide_eq_false he] at hq
          have hRf : R = false := by
            rw [← HR.out]
            exact decide_eq_false fun e => he (by rw [← HU.out, ← HV.out, e])
          have HRF := Lib.hid hRf
          clear he hRf
          go_wp2_with fail
          go_region
          go_wp2_with fail
          go_ret
          exact ⟨by rw [HRF.out]; rfl, HBW.out.drew⟩
      · have i1 : ¬ (t : Int) < (m : Int) := by omega
        have hRt : R = true := by
          rw [← HR.out]
          exact decide_eq_true (arr_ext HS.out fun j hj => HAG.out j (by have := HM.out; omega))
        have HRT := Lib.hid hRt
        clear hRt
        go_wp2_with fail
        go_ret
        exact ⟨by rw [HRT.out]; rfl, HBW.out⟩
  · have hne : ((a.size : Int) != (b.size : Int)) = true := by simp; omega
    have hd : decide (a = b) = false := decide_eq_false fun e => hs (by rw [e])
    rw [hd]
    clear ha hb hd
    go_enter Tryz.func36, Tryz.ntmps36
    go_wp2_with fail
    go_ret
    exact ⟨rfl, Below.refl _ _⟩
end Go.Proofs.YtepelpmkmhhokaaGreatDoor
