/- Whether two graphs are the same is told as the document tells it. Conditions: the graphs lie. -/
import Derived.Test.YtfpcjdopfodfnaaGreatDoorAeq
set_option maxRecDepth 100000
namespace Go.Proofs.YtfpcjdopfodfnaaGreatDoor
open Go.RowKit Go.Shelf
open Scs
abbrev nV (f : Fn) : Value := .agg #[.int .i64 f.k, .int .i64 f.x.1, .int .i64 f.x.2.1, .string f.x.2.2, .slice f.pk f.keys.size f.ck, .slice f.pd f.kids.size f.cd]
abbrev nR (f : Fn) : Obj := .cells #[.int .i64 f.k, .int .i64 f.x.1, .int .i64 f.x.2.1, .string f.x.2.2, .slice f.pk f.keys.size f.ck, .slice f.pd f.kids.size f.cd] 47
theorem at2 (w : World) (o0 o1 : Obj) : ∃ W, ((w.alloc o0).alloc o1) = W ∧ W.heap.size = w.heap.size + 2 ∧ Below w.heap.size w W ∧ W.heap[w.heap.size]? = some o0 ∧ W.heap[w.heap.size + 1]? = some o1 := by
  refine ⟨_, rfl, by simp, ((Below.refl _ w).alloc (Nat.le_refl _) _).alloc (by simp) _, ?_, ?_⟩
  · rw [Below.heap_alloc _ _ _ (by simp)]
    exact heap_alloc_new w o0
  · have h := heap_alloc_new (w.alloc o0) o1
    rwa [World.size_alloc] at h
theorem cell6 {W : World} {b : Nat} {a0 a1 a2 a3 a4 a5 : Value} {T : TypeId} (h : W.heap[b]? = some (.cells #[a0, a1, a2, a3, a4, a5] T (0, 0))) :
    W.cell? ⟨b, 0, none⟩ = some a0 ∧ W.cell? ⟨b, 1, none⟩ = some a1 ∧ W.cell? ⟨b, 2, none⟩ = some a2 ∧ W.cell? ⟨b, 3, none⟩ = some a3 ∧ W.cell? ⟨b, 4, none⟩ = some a4 ∧ W.cell? ⟨b, 5, none⟩ = some a5 :=
  ⟨cell_of_row _ _ 0 _ _ _ h, cell_of_row _ _ 1 _ _ _ h, cell_of_row _ _ 2 _ _ _ h, cell_of_row _ _ 3 _ _ _ h, cell_of_row _ _ 4 _ _ _ h, cell_of_row _ _ 5 _ _ _ h⟩
/-- the same fields? -/
def sameF (f g : Fn) : Bool := if f.k = g.k then (if f.x = g.x then (if f.keys = g.keys then decide (f.kids = g.kids) else false) else false) else false
set_option maxHeartbeats 4000000 in
theorem sameNode_any (f g : Fn) (w : World) (hf : Nl w f) (hg : Nl w g) :
    Calls Tryz.prog 37 #[nV f, nV g] w fun e w' => e = .returned (.bool (sameF f g)) ∧ Below w.heap.size w w' := by
  obtain ⟨W, hW, hz, hb, hr0, hr1⟩ := at2 w (nR f) (nR g)
  have HW := Lib.hid hW
  have HB := Lib.hid hb
  have HR0 := Lib.hid hr0
  have HR1 := Lib.hid hr1
  have HF := Lib.hid hf
  have HG := Lib.hid hg
  have HES := Lib.hid fun w ha hb => equalS_any f.keys g.keys f.pk g.pk f.ck g.ck w ha hb
  have HEI := Lib.hid fun w ha hb => equalI_any f.kids g.kids f.pd g.pd f.cd g.cd w ha hb
  have hq := fun w => eq_sc f.x.1 f.x.2.1 f.x.2.2 g.x.1 g.x.2.1 g.x.2.2 w
  rw [sameB_iff] at hq
  unfold nV
  clear hb hr0 hr1 hf hg hW
  by_cases h1 : f.k = g.k
  · by_cases h2 : f.x = g.x
    · rw [decide_eq_true (show ((f.x.1, f.x.2.1, f.x.2.2) : Sc) = (g.x.1, g.x.2.1, g.x.2.2) by rw [h2])] at hq
      have hke : (f.k == g.k) = true := by simp [h1]
      by_cases h3 : f.keys = g.keys
      · rw [decide_eq_true h3] at HES
        have hs : sameF f g = decide (f.kids = g.kids) := by unfold sameF; rw [if_pos h1, if_pos h2, if_pos h3]
        rw [hs]
        obtain ⟨R, hR⟩ : ∃ R, decide (f.kids = g.kids) = R := ⟨_, rfl⟩
        rw [hR] at HEI ⊢
        clear h1 h2 h3 hs hR
        obtain ⟨p0, p1, p2, p3, p4, p5⟩ := cell6 HR0.out
        obtain ⟨q0, q1, q2, q3, q4, q5⟩ := cell6 HR1.out
        go_enter Tryz.func37, Tryz.ntmps37
        go_wp2_with fail
        rw [HW.out]
        go_wp2_with (first
          | (go_at_call 52
             refine (HES.out _ (HF.out.ks.below HB.out) (HG.out.ks.below HB.out)).mono ?_
             rintro e w5 ⟨rfl, hb5⟩
             have HB5 := Lib.hid (HB.out.trans (hb5.mono HB.out.size))
             have c5 := (hb5.cell (p := ⟨w.heap.size, 5, none⟩) (by simp only; omega)).trans p5
             have d5 := (hb5.cell (p := ⟨w.heap.size + 1, 5, none⟩) (by simp only; omega)).trans q5
             clear hb5)
          | (go_at_call 53
             refine (HEI.out _ (HF.out.ds.below HB5.out) (HG.out.ds.below HB5.out)).mono ?_
             rintro e w6 ⟨rfl, hb6⟩
             have HB6 := Lib.hid (HB5.out.trans (hb6.mono HB5.out.size))
             clear hb6))
        go_ret
        exact ⟨rfl, HB6.out⟩
      · rw [decide_eq_false h3] at HES
        have hs : sameF f g = false := by unfold sameF; rw [if_pos h1, if_pos h2, if_neg h3]
        rw [hs]
        clear h1 h2 h3 hs
        obtain ⟨p0, p1, p2, p3, p4, p5⟩ := cell6 HR0.out
        obtain ⟨q0, q1, q2, q3, q4, q5⟩ := cell6 HR1.out
        go_enter Tryz.func37, Tryz.ntmps37
        go_wp2_with fail
        rw [HW.out]
        go_wp2_with (first
          | (go_at_call 52
             refine (HES.out _ (HF.out.ks.below HB.out) (HG.out.ks.below HB.out)).mono ?_
             rintro e w5 ⟨rfl, hb5⟩
             have HB5 := Lib.hid (HB.out.trans (hb5.mono HB.out.size))
             clear hb5))
        go_ret
        exact ⟨rfl, HB5.out⟩
    · rw [decide_eq_false (show ¬ ((f.x.1, f.x.2.1, f.x.2.2) : Sc) = (g.x.1, g.x.2.1, g.x.2.2) from h2)] at hq
      have hke : (f.k == g.k) = true := by simp [h1]
      have hs : sameF f g = false := by unfold sameF; rw [if_pos h1, if_neg h2]
      rw [hs]
      clear h1 h2 hs
      obtain ⟨p0, p1, p2, p3, p4, p5⟩ := cell6 HR0.out
      obtain ⟨q0, q1, q2, q3, q4, q5⟩ := cell6 HR1.out
      go_enter Tryz.func37, Tryz.ntmps37
      go_wp2_with fail
      rw [HW.out]
      go_wp2_with fail
      go_ret
      exact ⟨rfl, HB.out⟩
  · have hke : (f.k == g.k) = false := beq_eq_false_iff_ne.2 h1
    have hs : sameF f g = false := by unfold sameF; rw [if_neg h1]
    rw [hs]
    clear h1 hs hq
    obtain ⟨p0, p1, p2, p3, p4, p5⟩ := cell6 HR0.out
    obtain ⟨q0, q1, q2, q3, q4, q5⟩ := cell6 HR1.out
    go_enter Tryz.func37, Tryz.ntmps37
    go_wp2_with fail
    rw [HW.out]
    go_wp2_with fail
    go_ret
    exact ⟨rfl, HB.out⟩
end Go.Proofs.YtfpcjdopfodfnaaGreatDoor
