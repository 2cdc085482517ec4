/- Which nodes are right is told as the document tells it. Conditions: the surroundings; the node's keys and kids lie. -/
import Derived.Test.YtfpcjdopfodfnaaGreatDoorRgx
import Derived.Test.YtfpcjdopfodfnaaGreatDoorArx
set_option maxRecDepth 100000
namespace Go.Proofs.YtfpcjdopfodfnaaGreatDoor
open Go.RowKit Go.Shelf
open Scs
/-- a node within its graph, as the functions take it -/
abbrev vV (f : Fn) (n : Int) : Value := .agg #[.int .i64 f.k, .int .i64 f.x.1, .int .i64 f.x.2.1, .string f.x.2.2, .slice f.pk f.keys.size f.ck, .slice f.pd f.kids.size f.cd, .int .i64 n]
theorem saysScalar_any (f : Fn) (n : Int) (w : World) (E : Env w) (h : Nl w f) :
    Calls Tryz.prog 75 #[vV f n] w fun e w' => e = .returned (.bool (rightS f.x)) ∧ Below w.heap.size w w' := by
  have hxs := h.xs
  have hR := fun w E => Right_any f.x.1 f.x.2.1 f.x.2.2 (by omega) w E
  have HR := Lib.hid hR
  have HE := Lib.hid E
  unfold rightS
  clear E h hR hxs
  go_enter Tryz.func75, Tryz.ntmps75
  go_wp2_with fail
  refine (HR.out _ (HE.out.below ((Below.refl _ _).alloc (Nat.le_refl _) _))).mono ?_
  rintro e w5 ⟨rfl, hb5⟩
  have HB5 := Lib.hid (((Below.refl _ w).alloc (Nat.le_refl _) _).trans (hb5.mono (by simp)))
  clear hb5
  go_wp2_with fail
  go_ret
  exact ⟨rfl, HB5.out⟩
theorem isNone_any (x : Sc) (hx : x.2.2.size ≤ 1000000) (w : World) (E : Env w) :
    Calls Tryz.prog 98 #[aggS x] w fun e w' => e = .returned (.bool (!rightS x)) ∧ Below w.heap.size w w' := by
  have hR := fun w E => Right_any x.1 x.2.1 x.2.2 (by omega) w E
  have HR := Lib.hid hR
  have HE := Lib.hid E
  unfold rightS aggS
  clear E hR hx
  go_enter Tryz.func98, Tryz.ntmps98
  go_wp2_with fail
  refine (HR.out _ (HE.out.below ((Below.refl _ _).alloc (Nat.le_refl _) _))).mono ?_
  rintro e w5 ⟨rfl, hb5⟩
  have HB5 := Lib.hid (((Below.refl _ w).alloc (Nat.le_refl _) _).trans (hb5.mono (by simp)))
  clear hb5
  go_wp2_with fail
  go_ret
  exact ⟨rfl, HB5.out⟩
theorem nowhere_any (z n : Int) (B : Nat) (w : World) (hc : w.cell? ⟨B, 6, none⟩ = some (.int .i64 n)) :
    Calls Tryz.prog 95 #[.int .i64 z, .pointer (some ⟨B, 0, none⟩)] w fun e w' => e = .returned (.bool (!plB z n)) ∧ Below w.heap.size w w' := by
  go_enter Tryz.func95, Tryz.ntmps95
  go_wp2_with fail
  refine (isPlace_any _ _ _).mono ?_
  rintro e w5 ⟨rfl, rfl⟩
  go_wp2_with fail
  go_ret
  exact ⟨rfl, Below.refl _ _⟩
set_option maxHeartbeats 1000000 in
theorem hasNodes_any (f : Fn) (n : Int) (w : World) (h : Nl w f) :
    Calls Tryz.prog 79 #[vV f n] w fun e w' => e = .returned (.bool (!(f.kids.toList.any fun z => !plB z n))) ∧ Below w.heap.size w w' := by
  have hds := h.ds
  have HD := Lib.hid hds
  obtain ⟨R, hR⟩ : ∃ R, (f.kids.toList.any fun z => !plB z n) = R := ⟨_, rfl⟩
  have HRR := Lib.hid hR
  rw [hR]
  clear h hds hR
  have hal := (Below.refl w.heap.size w).alloc (Nat.le_refl _) (.cells #[.int .i64 f.k, .int .i64 f.x.1, .int .i64 f.x.2.1, .string f.x.2.2, .slice f.pk f.keys.size f.ck, .slice f.pd f.kids.size f.cd, .int .i64 n] 58)
  have hrow := heap_alloc_new w (.cells #[.int .i64 f.k, .int .i64 f.x.1, .int .i64 f.x.2.1, .string f.x.2.2, .slice f.pk f.keys.size f.ck, .slice f.pd f.kids.size f.cd, .int .i64 n] 58)
  have hcont : Calls Tryz.prog 96 #[.slice f.pd f.kids.size f.cd, .func (.func 95) #[] #[.pointer (some ⟨w.heap.size, 0, none⟩)]] (w.alloc (.cells #[.int .i64 f.k, .int .i64 f.x.1, .int .i64 f.x.2.1, .string f.x.2.2, .slice f.pk f.keys.size f.ck, .slice f.pd f.kids.size f.cd, .int .i64 n] 58)) fun e w' => e = .returned (.bool R) ∧ Below w.heap.size w w' := by
    have h1 := containsI_any 95 #[.pointer (some ⟨w.heap.size, 0, none⟩)] (fun z => !plB z n) f.kids f.pd f.cd _ (HD.out.below hal) (enters_of Tryz.func95 (by kernel_rfl) rfl) (fun W hW z => nowhere_any z n w.heap.size W ((hW.cell (p := ⟨w.heap.size, 6, none⟩) (by simp)).trans (cell_of_row _ _ 6 _ _ _ hrow)))
    refine h1.mono ?_
    rintro e w5 ⟨rfl, hb5⟩
    rw [HRR.out]
    exact ⟨rfl, hal.trans (hb5.mono (by simp))⟩
  have HC := Lib.hid hcont
  clear hcont hal hrow
  go_enter Tryz.func79, Tryz.ntmps79
  go_wp2_with fail
  refine HC.out.mono ?_
  rintro e w5 ⟨rfl, hb5⟩
  have HB5 := Lib.hid hb5
  clear hb5
  go_wp2_with fail
  go_ret
  exact ⟨rfl, HB5.out⟩
set_option maxHeartbeats 2000000 in
theorem hasScalars_any (f : Fn) (n : Int) (w : World) (E : Env w) (h : Nl w f) :
    Calls Tryz.prog 80 #[vV f n] w fun e w' => e = .returned (.bool (if (f.keys.toList.any fun x => !rightS x) = true then false else !twiceB f.keys.toList)) ∧ Below w.heap.size w w' := by
  have HK := Lib.hid h.ks
  have HE := Lib.hid E
  obtain ⟨R, hR⟩ : ∃ R, (f.keys.toList.any fun x => !rightS x) = R := ⟨_, rfl⟩
  obtain ⟨T, hT⟩ : ∃ T, twiceB f.keys.toList = T := ⟨_, rfl⟩
  have HRR := Lib.hid hR
  have HT := Lib.hid hT
  rw [hR, hT]
  have hal := (Below.refl w.heap.size w).alloc (Nat.le_refl _) (.cells #[.int .i64 f.k, .int .i64 f.x.1, .int .i64 f.x.2.1, .string f.x.2.2, .slice f.pk f.keys.size f.ck, .slice f.pd f.kids.size f.cd, .int .i64 n] 58)
  have hrow := heap_alloc_new w (.cells #[.int .i64 f.k, .int .i64 f.x.1, .int .i64 f.x.2.1, .string f.x.2.2, .slice f.pk f.keys.size f.ck, .slice f.pd f.kids.size f.cd, .int .i64 n] 58)
  have HAL := Lib.hid hal
  have HROW := Lib.hid hrow
  clear h hR hT E hal hrow
  have hcont : Calls Tryz.prog 97 #[.slice f.pk f.keys.size f.ck, .func (.func 98) #[] #[]] (w.alloc (.cells #[.int .i64 f.k, .int .i64 f.x.1, .int .i64 f.x.2.1, .string f.x.2.2, .slice f.pk f.keys.size f.ck, .slice f.pd f.kids.size f.cd, .int .i64 n] 58)) fun e w' => e = .returned (.bool R) ∧ Below w.heap.size w w' ∧ w'.heap[w.heap.size]? = some (.cells #[.int .i64 f.k, .int .i64 f.x.1, .int .i64 f.x.2.1, .string f.x.2.2, .slice f.pk f.keys.size f.ck, .slice f.pd f.kids.size f.cd, .int .i64 n] 58 (0, 0)) := by
    have h1 := containsS_any 98 #[] (fun x => !rightS x) f.keys f.pk f.ck _ (HK.out.below HAL.out) (enters_of Tryz.func98 (by kernel_rfl) rfl) (fun W hW j hj => by rw [Array.append_empty]; exact isNone_any _ (HK.out.short j hj) W ((HE.out.below HAL.out).below hW))
    refine h1.mono ?_
    rintro e w5 ⟨rfl, hb5⟩
    rw [HRR.out]
    exact ⟨rfl, HAL.out.trans (hb5.mono (by simp)), (hb5.block _ (by simp)).trans HROW.out⟩
  have HC := Lib.hid hcont
  clear hcont
  cases R
  · rw [if_neg (by decide)]
    go_enter Tryz.func80, Tryz.ntmps80
    go_wp2_with (first
      | (go_at_call 97
         refine HC.out.mono ?_
         rintro e w5 ⟨rfl, hb5, hx5⟩
         have HB5 := Lib.hid hb5
         have c4 : w5.cell? ⟨w.heap.size, 4, none⟩ = some (.slice f.pk f.keys.size f.ck) := cell_of_row _ _ 4 _ _ _ hx5
         clear hb5 hx5)
      | (go_at_call 99
         refine (Twice_any f.keys f.pk f.ck _ (HK.out.below HB5.out)).mono ?_
         rintro e w6 ⟨rfl, hb6⟩
         rw [HT.out]
         have HB6 := Lib.hid (HB5.out.trans (hb6.mono HB5.out.size))
         clear hb6))
    go_ret
    exact ⟨rfl, HB6.out⟩
  · rw [if_pos rfl]
    go_enter Tryz.func80, Tryz.ntmps80
    go_wp2_with (first
      | (go_at_call 97
         refine HC.out.mono ?_
         rintro e w5 ⟨rfl, hb5, hx5⟩
         have HB5 := Lib.hid hb5
         clear hb5 hx5))
    go_ret
    exact ⟨rfl, HB5.out⟩
end Go.Proofs.YtfpcjdopfodfnaaGreatDoor
