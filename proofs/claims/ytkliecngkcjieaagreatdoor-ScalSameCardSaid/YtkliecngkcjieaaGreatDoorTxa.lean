/- Text tells a scalar's text, or that it is none, as the document tells it. Conditions: the library's tables lie as they are laid; the text is not too long. -/
import Derived.Test.YtkliecngkcjieaaGreatDoorTxo
set_option maxRecDepth 100000
namespace Go.Proofs.YtkliecngkcjieaaGreatDoor
open Go.RowKit Go.Shelf
open Pl Quo Scs
theorem right_kinds {x : Sc} (h : rightS x = true) : (x.1 = 0 ∨ x.1 = 1 ∨ x.1 = 2 ∨ x.1 = 3) ∧ -9223372036854775808 ≤ x.2.1 ∧ x.2.1 ≤ 9223372036854775807 := by
  rcases right_cases h with rfl | rfl | rfl | ⟨n, h1, h2, rfl⟩ | ⟨s, _, rfl⟩ <;> simp <;> omega
theorem Text_any (x : Sc) (hs : x.2.2.size ≤ 1000000) (w : World) (E : Env w) :
    Calls Tryz.prog 14 #[aggS x] w fun e w' => e = .returned (.tuple #[.string (textT x), .int .i64 (textE x)]) ∧ Below w.heap.size w w' := by
  have E1 := E.below ((Below.refl _ w).alloc (Nat.le_refl _) (.cells #[.int .i64 x.1, .int .i64 x.2.1, .string x.2.2] 23))
  have hR := Right_any x.1 x.2.1 x.2.2 (by omega) _ E1
  unfold textT textE
  cases hr : rightS x
  · rw [if_neg (by decide), if_neg (by decide)]
    rw [show rightR x.1 x.2.1 x.2.2.data.toList = false from hr] at hR
    have HR := Lib.hid hR
    clear hR E E1 hr
    unfold aggS
    go_enter Tryz.func14, Tryz.ntmps14
    go_wp2_with fail
    refine HR.out.mono ?_
    rintro e w1 ⟨rfl, hb1⟩
    have HB1 := Lib.hid hb1
    clear hb1
    go_wp2_with fail
    exact bodyPost_ret (v := .tuple #[.string ⟨#[]⟩, .int .i64 60]) (by simp [results, Tryz.results14, go_sem]) rfl ⟨rfl, ((Below.refl _ w).alloc (Nat.le_refl _) _).trans (HB1.out.mono (by simp))⟩
  · rw [if_pos rfl, if_pos rfl]
    rw [show rightR x.1 x.2.1 x.2.2.data.toList = true from hr] at hR
    obtain ⟨hk, h1, h2⟩ := right_kinds hr
    have hT := fun w E => textOf_any x hk h1 h2 hs w E
    have HR := Lib.hid hR
    have HE1 := Lib.hid E1
    unfold textO at hT
    unfold aggS at hT
    have HT := Lib.hid hT
    clear hR E E1 hr hT hk h1 h2
    unfold aggS
    go_enter Tryz.func14, Tryz.ntmps14
    go_wp2_with fail
    refine HR.out.mono ?_
    rintro e w1 ⟨rfl, hb1⟩
    have hx1 := (hb1.block w.heap.size (by simp)).trans (heap_alloc_new w _)
    have c0 := cell_of_row w1 w.heap.size 0 _ _ _ hx1
    have c1 := cell_of_row w1 w.heap.size 1 _ _ _ hx1
    have c2 := cell_of_row w1 w.heap.size 2 _ _ _ hx1
    simp at c0 c1 c2
    have HE2 := Lib.hid (HE1.out.below hb1)
    have HB1 := Lib.hid (((Below.refl _ w).alloc (Nat.le_refl _) (.cells #[.int .i64 x.1, .int .i64 x.2.1, .string x.2.2] 23)).trans (hb1.mono (by simp)))
    clear hb1 hx1
    go_wp2_with fail
    refine (HT.out _ HE2.out).mono ?_
    rintro e w2 ⟨rfl, hb2⟩
    have HB2 := Lib.hid (HB1.out.trans (hb2.mono HB1.out.size))
    clear hb2
    go_wp2_with fail
    exact bodyPost_ret (v := .tuple #[.string (ofL (textL x)), .int .i64 0]) (by simp [results, Tryz.results14, go_sem]) rfl ⟨rfl, HB2.out⟩
end Go.Proofs.YtkliecngkcjieaaGreatDoor
