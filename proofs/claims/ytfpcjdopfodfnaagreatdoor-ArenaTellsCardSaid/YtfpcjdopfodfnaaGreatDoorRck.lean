/- The reference tells what is wrong with a graph, and where. Conditions: the graph lies. -/
import Derived.Test.YtfpcjdopfodfnaaGreatDoorRrg
import Derived.Deep.RegionHeld3
set_option maxRecDepth 100000
namespace Go.Proofs.YtfpcjdopfodfnaaGreatDoor
open Go.RowKit Go.Shelf
open Scs
abbrev S8 (B : Nat) (root : Int) (g m cap o q : Nat) (f : Fn) (wo W : World) : Prop :=
  W.cell? ⟨B, 0, none⟩ = some (.int .i64 root) ∧ W.cell? ⟨B, 1, none⟩ = some (.slice (some ⟨g, o, none⟩) m cap) ∧
  W.cell? ⟨g, q, none⟩ = some (.int .i64 f.k) ∧ W.cell? ⟨g, q + 1, none⟩ = some (.int .i64 f.x.1) ∧ W.cell? ⟨g, q + 2, none⟩ = some (.int .i64 f.x.2.1) ∧ W.cell? ⟨g, q + 3, none⟩ = some (.string f.x.2.2) ∧
  W.cell? ⟨g, q + 4, none⟩ = some (.slice f.pk f.keys.size f.ck) ∧ W.cell? ⟨g, q + 5, none⟩ = some (.slice f.pd f.kids.size f.cd) ∧ Below wo.heap.size wo W
theorem s8_step {B : Nat} {root : Int} {g m cap o q : Nat} {f : Fn} {wo W W' : World} (h : S8 B root g m cap o q f wo W) (hb : Below W.heap.size W W') : S8 B root g m cap o q f wo W' := by
  obtain ⟨h0, h1, h2, h3, h4, h5, h6, h7, hbb⟩ := h
  exact ⟨(hb.cell (block_lt_of_cell h0)).trans h0, (hb.cell (block_lt_of_cell h1)).trans h1, (hb.cell (block_lt_of_cell h2)).trans h2, (hb.cell (block_lt_of_cell h3)).trans h3, (hb.cell (block_lt_of_cell h4)).trans h4, (hb.cell (block_lt_of_cell h5)).trans h5,
    (hb.cell (block_lt_of_cell h6)).trans h6, (hb.cell (block_lt_of_cell h7)).trans h7, hbb.trans (hb.mono hbb.size)⟩
theorem s8_drew {B : Nat} {root : Int} {g m cap o q : Nat} {f : Fn} {wo W : World} (h : S8 B root g m cap o q f wo W) : S8 B root g m cap o q f wo W.drew := s8_step h (Below.refl _ W).drew
set_option maxHeartbeats 8000000 in
theorem Check13_in (root : Int) (L : Array Fn) (m : Nat) (p : Option Addr) (cap : Nat) (r : Int × Int) (w : World) (hm : L.size = m) (hg : Gl w p L) (hr : checkG root L.toList = r) :
    Calls Tryz.prog 13 #[.agg #[.int .i64 root, .slice p m cap]] w fun e w' => e = .returned (.tuple #[.int .i64 r.1, .int .i64 r.2]) ∧ Below w.heap.size w w' := by
  obtain ⟨W, hW⟩ : ∃ W, (w.alloc (.cells #[.int .i64 root, .slice p m cap] 24)) = W := ⟨_, rfl⟩
  have hr0 : W.heap[w.heap.size]? = some (.cells #[.int .i64 root, .slice p m cap] 24 (0, 0)) := by rw [← hW]; exact heap_alloc_new w _
  have hb0 : Below w.heap.size w W := by rw [← hW]; exact (Below.refl _ w).alloc (Nat.le_refl _) _
  have hlt0 : w.heap.size < W.heap.size := (Array.getElem?_eq_some_iff.1 hr0).1
  have hsm := hg.small
  rw [hm] at hsm
  have q0 := cell_of_row _ _ 0 _ _ _ hr0
  have q1 := cell_of_row _ _ 1 _ _ _ hr0
  have HG := Lib.hid (hg.below hb0)
  have HM := Lib.hid hm
  have HW := Lib.hid hW
  have HR0 := Lib.hid hr0
  have HB0 := Lib.hid hb0
  unfold checkG at hr
  rw [Array.length_toList, hm] at hr
  clear hg hm hW hr0 hb0
  by_cases h2 : 200 < m
  · rw [if_pos h2] at hr
    subst hr
    have i1 : (m : Int) > 200 := by omega
    clear h2
    go_enter Tryz.func13, Tryz.ntmps13
    go_wp2_with fail
    rw [HW.out]
    go_wp2_with fail
    go_ret2
    exact ⟨rfl, HB0.out⟩
  · rw [if_neg h2] at hr
    have i1 : ¬ (m : Int) > 200 := by omega
    clear h2
    by_cases h0 : root < 0
    · have hp : plB root m = false := by
        cases hq : plB root m
        · rfl
        · have := plB_iff.1 hq; omega
      rw [hp, if_neg (by decide)] at hr
      subst hr
      clear hp
      go_enter Tryz.func13, Tryz.ntmps13
      go_wp2_with fail
      rw [HW.out]
      go_wp2_with fail
      go_ret2
      exact ⟨rfl, HB0.out⟩
    · by_cases h1 : root < (m : Int)
      · have hp : plB root m = true := plB_iff.2 ⟨by omega, h1⟩
        rw [hp, if_pos rfl] at hr
        have g1 : ¬ (root ≥ (m : Int)) := by omega
        have HRR := Lib.hid hr
        clear hp hr h1
        go_enter Tryz.func13, Tryz.ntmps13
        go_wp2_with fail
        rw [HW.out]
        go_wp2_with fail
        clear q0 q1
        go_loopw [4] (fun i wr => ∃ t : Nat, t ≤ m ∧ i = .int .i64 t ∧ badFrom m (L.toList.drop t) t = badFrom m L.toList 0 ∧ Below W.heap.size W wr) (fun i _ => m - (intOf i).toNat)
        case atStart => exact ⟨0, by omega, rfl, rfl, Below.refl _ _⟩
        case round =>
          obtain ⟨t, ht, rfl, hbad, hbw⟩ := hrel
          have hrr := (hbw.block _ hlt0).trans HR0.out
          have q0 := cell_of_row _ _ 0 _ _ _ hrr
          have q1 := cell_of_row _ _ 1 _ _ _ hrr
          by_cases hlt : t < m
          · have i2 : (t : Int) < (m : Int) := by omega
            have hlL : t < L.size := by rw [HM.out]; exact hlt
            obtain ⟨g, o, rfl, hgl, hc0, hc1, hc2, hc3, hc4, hc5⟩ := HG.out.at t hlL
            have hNl := (HG.out.nodes t hlL).below hbw
            have hst := bad_step m L.toList t (by rw [Array.length_toList]; exact hlL) t
            rw [hbad, show L.toList[t]'(by rw [Array.length_toList]; exact hlL) = L[t]! by rw [Array.getElem_toList, getElem!_pos L t hlL]] at hst
            have x0 := (hbw.cell (p := ⟨g, o + t * 6, none⟩) hgl).trans hc0
            have x1 := (hbw.cell (p := ⟨g, o + t * 6 + 1, none⟩) hgl).trans hc1
            have x2 := (hbw.cell (p := ⟨g, o + t * 6 + 2, none⟩) hgl).trans hc2
            have x3 := (hbw.cell (p := ⟨g, o + t * 6 + 3, none⟩) hgl).trans hc3
            have x4 := (hbw.cell (p := ⟨g, o + t * 6 + 4, none⟩) hgl).trans hc4
            have x5 := (hbw.cell (p := ⟨g, o + t * 6 + 5, none⟩) hgl).trans hc5
            obtain ⟨f, hf⟩ : ∃ f, L[t]! = f := ⟨_, rfl⟩
            rw [hf] at hst hNl x0 x1 x2 x3 x4 x5
            have hC := fun W' (hb : Below wr.heap.size wr W') => right28_any f m W' (hNl.below hb)
            unfold nV at hC
            have HBW := Lib.hid hbw
            cases hrf : rightF f m
            · rw [hrf] at hC
              rw [hrf, if_neg (by decide)] at hst
              have HST := Lib.hid hst
              have hS : Hid (S8 w.heap.size root g m cap o (o + t * 6) f wr wr) := Lib.hid ⟨q0, q1, x0, x1, x2, x3, x4, x5, Below.refl _ _⟩
              have HCN : Hid (∀ W', Hid (S8 w.heap.size root g m cap o (o + t * 6) f wr W') → Calls Tryz.prog 28 #[.agg #[.int .i64 f.k, .int .i64 f.x.1, .int .i64 f.x.2.1, .string f.x.2.2, .slice f.pk f.keys.size f.ck, .slice f.pd f.kids.size f.cd], .int .i64 m] W' fun e W'' => e = .returned (.bool false) ∧ Hid (S8 w.heap.size root g m cap o (o + t * 6) f wr W'')) :=
                Lib.hid fun W' h => (hC W' h.out.2.2.2.2.2.2.2.2).mono fun e W'' hh => ⟨hh.1, Lib.hid (s8_step h.out hh.2)⟩
              clear hC hst hrf hNl hf hc0 hc1 hc2 hc3 hc4 hc5 hbw hbad hrr hlL
              go_wp2_with fail
              clear x0 x1 x2 x3 x4 x5 q0 q1
              go_region_held3 (S8 w.heap.size root g m cap o (o + t * 6) f wr) (first | exact Hid.out (by assumption) | exact s8_drew (Hid.out (by assumption))) (first
                | ((with_reducible refine (HCN.out _ (by first | assumption | exact Lib.hid (s8_drew (Hid.out (by assumption))))).mono ?_); rintro e wq ⟨rfl, hbq⟩))
              have HBQ := Lib.hid (HBW.out.trans (hbq.out.2.2.2.2.2.2.2.2.mono HBW.out.size))
              clear hbq hS HCN
              rw [HST.out] at HRR
              have HRX := Lib.hid HRR.out.symm
              go_wp2_with fail
              go_ret2
              exact ⟨by rw [HRX.out]; rfl, HB0.out.trans (HBQ.out.mono HB0.out.size)⟩
            · rw [hrf] at hC
              rw [hrf, if_pos rfl] at hst
              have HST := Lib.hid hst
              have hS : Hid (S8 w.heap.size root g m cap o (o + t * 6) f wr wr) := Lib.hid ⟨q0, q1, x0, x1, x2, x3, x4, x5, Below.refl _ _⟩
              have HCN : Hid (∀ W', Hid (S8 w.heap.size root g m cap o (o + t * 6) f wr W') → Calls Tryz.prog 28 #[.agg #[.int .i64 f.k, .int .i64 f.x.1, .int .i64 f.x.2.1, .string f.x.2.2, .slice f.pk f.keys.size f.ck, .slice f.pd f.kids.size f.cd], .int .i64 m] W' fun e W'' => e = .returned (.bool true) ∧ Hid (S8 w.heap.size root g m cap o (o + t * 6) f wr W'')) :=
                Lib.hid fun W' h => (hC W' h.out.2.2.2.2.2.2.2.2).mono fun e W'' hh => ⟨hh.1, Lib.hid (s8_step h.out hh.2)⟩
              clear hC hst hrf hNl hf hc0 hc1 hc2 hc3 hc4 hc5 hbw hbad hrr hlL
              go_wp2_with fail
              clear x0 x1 x2 x3 x4 x5 q0 q1
              go_region_held3 (S8 w.heap.size root g m cap o (o + t * 6) f wr) (first | exact Hid.out (by assumption) | exact s8_drew (Hid.out (by assumption))) (first
                | ((with_reducible refine (HCN.out _ (by first | assumption | exact Lib.hid (s8_drew (Hid.out (by assumption))))).mono ?_); rintro e wq ⟨rfl, hbq⟩))
              have HBQ := Lib.hid (HBW.out.trans (hbq.out.2.2.2.2.2.2.2.2.mono HBW.out.size))
              clear hbq hS HCN
              go_wp2_with fail
              go_roundw
              case rel => exact ⟨t + 1, by omega, by go_num, HST.out.symm, HBQ.out⟩
              case measure => simp [intOf]; omega
          · have i2 : ¬ (t : Int) < (m : Int) := by omega
            obtain rfl : t = m := by omega
            have hdr : L.toList.drop t = [] := List.drop_eq_nil_of_le (by rw [Array.length_toList, HM.out]; exact Nat.le_refl _)
            rw [hdr] at hbad
            have HRX := Lib.hid (show r = (0, 0) by rw [← HRR.out, ← hbad]; rfl)
            have HBW := Lib.hid hbw
            clear hdr hbad hbw hrr
            go_wp2_with fail
            go_ret2
            exact ⟨by rw [HRX.out]; rfl, HB0.out.trans (HBW.out.mono HB0.out.size)⟩
      · have hp : plB root m = false := by
          cases hq : plB root m
          · rfl
          · have := plB_iff.1 hq; omega
        rw [hp, if_neg (by decide)] at hr
        subst hr
        have g1 : (root ≥ (m : Int)) := by omega
        clear hp h1
        go_enter Tryz.func13, Tryz.ntmps13
        go_wp2_with fail
        rw [HW.out]
        go_wp2_with fail
        go_ret2
        exact ⟨rfl, HB0.out⟩
theorem Check13_any (root : Int) (L : Array Fn) (p : Option Addr) (cap : Nat) (w : World) (hg : Gl w p L) :
    Calls Tryz.prog 13 #[.agg #[.int .i64 root, .slice p L.size cap]] w fun e w' => e = .returned (.tuple #[.int .i64 (checkG root L.toList).1, .int .i64 (checkG root L.toList).2]) ∧ Below w.heap.size w w' :=
  Check13_in root L L.size p cap _ w rfl hg rfl
end Go.Proofs.YtfpcjdopfodfnaaGreatDoor
