/- Both sides tell the same: the walk of the statement over any state, text, two numbers, given what each call tells. Conditions: the laid variables, the table of the reference among them. -/
import Derived.Test.YtohekmioeifpfaaDoorDoor
import Derived.Test.YtohekmioeifpfaaDoorShown
import Derived.Test.YtohekmioeifpfaaDoorLawLib
import Derived.Test.YtohekmioeifpfaaDoorTell
import Derived.Test.YtohekmioeifpfaaDoorCut
import Derived.Test.YtohekmioeifpfaaDoorWhole
import Derived.Test.YtohekmioeifpfaaDoorPartsLib
import Derived.Test.YtohekmioeifpfaaDoorRefA
import Derived.Test.YtohekmioeifpfaaDoorRefB
import Derived.Test.YtohekmioeifpfaaDoorRefC
import Derived.Deep.RegionHeld3
import Derived.Test.YtohekmioeifpfaaDoorRefE
import Derived.Test.YtohekmioeifpfaaDoorRefF
import Derived.Test.YtohekmioeifpfaaDoorRefG
import Derived.Test.YtohekmioeifpfaaDoorRefH
import Derived.Test.YtohekmioeifpfaaDoorRefD
import Derived.StillTailTactics
import Derived.Deep.RegionHeld
import Derived.Deep.RegionWith
import Derived.Deep.DrawnRows
import Derived.Deep.DeepCutAuto
import Derived.Deep.QuietTactic
import Derived.BigQuiet
import Derived.WalkKit
import Derived.WalkLawsBesides
import Derived.WalkSpells
import Derived.Outline
import Derived.Lib.Hide
namespace Go.Proofs.YtohekmioeifpfaaDoor
open Go.ChangeShapes Go.WideShapes Go.ChangeAt Go.RowKit
open Go.ChangeMaps (open_string shut_string)
open Rd
attribute [local go_sem ↓] Go.wp_at_zero Go.wp_at_succ

/-- the surroundings, and the reference's table -/
def E4 (w : World) : Prop := (∃ a0 a1 B, Env a0 a1 B w) ∧ 0 < w.heap.size ∧ ∀ i, i < 64 → w.cell? ⟨0, i, none⟩ = some (.int .i64 (U (K i)))
theorem E4.below' {w w' : World} (h : E4 w) (hb : Below w.heap.size w w') : E4 w' := by
  obtain ⟨⟨a0, a1, B, E⟩, h0, hk⟩ := h
  exact ⟨⟨a0, a1, B, E.below' hb⟩, by have := hb.size; omega, fun i hi => (hb.cell (p := ⟨0, i, none⟩) h0).trans (hk i hi)⟩
def T13 (x0 x1 x2 x3 x4 x5 x6 x7 : Int) (i x : Int) (t0 t1 t2 t3 t4 t5 t6 t7 e : Int) : Prop :=
  ∀ w, E4 w → Calls Tryd.prog 13 #[.agg #[.int .i64 x0, .int .i64 x1, .int .i64 x2, .int .i64 x3, .int .i64 x4, .int .i64 x5, .int .i64 x6, .int .i64 x7], .int .i64 i, .int .i64 x] w fun en w' => en = .returned (.tuple #[.agg #[.int .i64 t0, .int .i64 t1, .int .i64 t2, .int .i64 t3, .int .i64 t4, .int .i64 t5, .int .i64 t6, .int .i64 t7], .int .i64 e]) ∧ Below w.heap.size w w'
def T14 (x0 x1 x2 x3 x4 x5 x6 x7 : Int) (i x : Int) (t0 t1 t2 t3 t4 t5 t6 t7 e : Int) : Prop :=
  ∀ w, E4 w → Calls Tryd.prog 14 #[.agg #[.int .i64 x0, .int .i64 x1, .int .i64 x2, .int .i64 x3, .int .i64 x4, .int .i64 x5, .int .i64 x6, .int .i64 x7], .int .i64 i, .int .i64 x] w fun en w' => en = .returned (.tuple #[.agg #[.int .i64 t0, .int .i64 t1, .int .i64 t2, .int .i64 t3, .int .i64 t4, .int .i64 t5, .int .i64 t6, .int .i64 t7], .int .i64 e]) ∧ Below w.heap.size w w'
def T15 (x0 x1 x2 x3 x4 x5 x6 x7 : Int) (b : ByteArray) (t0 t1 t2 t3 t4 t5 t6 t7 e : Int) : Prop :=
  ∀ w, E4 w → Calls Tryd.prog 15 #[.agg #[.int .i64 x0, .int .i64 x1, .int .i64 x2, .int .i64 x3, .int .i64 x4, .int .i64 x5, .int .i64 x6, .int .i64 x7], .string b] w fun en w' => en = .returned (.tuple #[.agg #[.int .i64 t0, .int .i64 t1, .int .i64 t2, .int .i64 t3, .int .i64 t4, .int .i64 t5, .int .i64 t6, .int .i64 t7], .int .i64 e]) ∧ Below w.heap.size w w'
def T16 (x0 x1 x2 x3 x4 x5 x6 x7 : Int) (b : ByteArray) (t0 t1 t2 t3 t4 t5 t6 t7 e : Int) : Prop :=
  ∀ w, E4 w → Calls Tryd.prog 16 #[.agg #[.int .i64 x0, .int .i64 x1, .int .i64 x2, .int .i64 x3, .int .i64 x4, .int .i64 x5, .int .i64 x6, .int .i64 x7], .string b] w fun en w' => en = .returned (.tuple #[.agg #[.int .i64 t0, .int .i64 t1, .int .i64 t2, .int .i64 t3, .int .i64 t4, .int .i64 t5, .int .i64 t6, .int .i64 t7], .int .i64 e]) ∧ Below w.heap.size w w'
def T17 (x0 x1 x2 x3 x4 x5 x6 x7 : Int) (a : ByteArray) (e : Int) : Prop :=
  ∀ w, E4 w → Calls Tryd.prog 17 #[.agg #[.int .i64 x0, .int .i64 x1, .int .i64 x2, .int .i64 x3, .int .i64 x4, .int .i64 x5, .int .i64 x6, .int .i64 x7]] w fun en w' => en = .returned (.tuple #[.string a, .int .i64 e]) ∧ Below w.heap.size w w'
def T18 (x0 x1 x2 x3 x4 x5 x6 x7 : Int) (a : ByteArray) (e : Int) : Prop :=
  ∀ w, E4 w → Calls Tryd.prog 18 #[.agg #[.int .i64 x0, .int .i64 x1, .int .i64 x2, .int .i64 x3, .int .i64 x4, .int .i64 x5, .int .i64 x6, .int .i64 x7]] w fun en w' => en = .returned (.tuple #[.string a, .int .i64 e]) ∧ Below w.heap.size w w'
theorem shown_any' (w : World) (E : E4 w) : Calls Tryd.prog 9 #[] w fun e w' => e = .returned (.bool true) ∧ Below w.heap.size w w' := by
  obtain ⟨⟨a0, a1, B, E⟩, _⟩ := E
  exact shown_any w E
theorem Schedule_bad' (s : ByteArray) (hs : s.size ≠ 64) (w : World) (E : E4 w) : Calls Tryd.prog 11 #[.string s] w fun e w' => e = .returned (.tuple #[.slice none 0 0, .int .i64 10]) ∧ Below w.heap.size w w' := by
  obtain ⟨⟨a0, a1, B, E⟩, _⟩ := E
  refine (Schedule_bad s hs w E).mono ?_
  rintro e w' ⟨rfl, rfl⟩
  exact ⟨rfl, Below.refl _ _⟩
theorem Schedule12_bad (s : ByteArray) (hs : s.size ≠ 64) (w : World) : Calls Tryd.prog 12 #[.string s] w fun e w' => e = .returned (.tuple #[.slice none 0 0, .int .i64 10]) ∧ Below w.heap.size w w' := by
  have h1 : ((s.size : Int) != 64) = true := by rw [bne_iff_ne]; omega
  clear hs
  go_enter Tryd.func12, Tryd.ntmps12
  go_wp2
  refine bodyPost_ret (v := .tuple #[.slice none 0 0, .int .i64 10]) (by simp [results, Tryd.results12, go_sem]) rfl ⟨rfl, Below.refl _ _⟩
set_option maxRecDepth 100000 in
set_option maxHeartbeats 2000000 in
theorem walkTellsOk (x0 x1 x2 x3 x4 x5 x6 x7 : Int) (b : ByteArray) (i x : Int) (t0 t1 t2 t3 t4 t5 t6 t7 e u0 u1 u2 u3 u4 u5 u6 u7 f : Int) (a : ByteArray) (g : Int) (hs : (cutB b).size = 64)
    (h13 : T13 x0 x1 x2 x3 x4 x5 x6 x7 i x t0 t1 t2 t3 t4 t5 t6 t7 e) (h14 : T14 x0 x1 x2 x3 x4 x5 x6 x7 i x t0 t1 t2 t3 t4 t5 t6 t7 e) (h15 : T15 x0 x1 x2 x3 x4 x5 x6 x7 (cutB b) u0 u1 u2 u3 u4 u5 u6 u7 f) (h16 : T16 x0 x1 x2 x3 x4 x5 x6 x7 (cutB b) u0 u1 u2 u3 u4 u5 u6 u7 f) (h17 : T17 x0 x1 x2 x3 x4 x5 x6 x7 a g) (h18 : T18 x0 x1 x2 x3 x4 x5 x6 x7 a g) (w : World) (E : E4 w) :
    Calls Tryd.prog 3 #[.agg #[.int .i64 x0, .int .i64 x1, .int .i64 x2, .int .i64 x3, .int .i64 x4, .int .i64 x5, .int .i64 x6, .int .i64 x7], .string b, .int .i64 i, .int .i64 x] w fun e w' => e = .returned (.bool true) ∧ Below w.heap.size w w' := by
  have HE := Lib.hid E
  have H13 := Lib.hid h13
  have H14 := Lib.hid h14
  have H15 := Lib.hid h15
  have H16 := Lib.hid h16
  have H17 := Lib.hid h17
  have H18 := Lib.hid h18
  have HS := Lib.hid hs
  clear E h13 h14 h15 h16 h17 h18 hs
  go_enter Tryd.func3, Tryd.ntmps3
  go_wp2_with fail
  refine (shown_any' _ (HE.out.below' ((Below.refl _ _).alloc (Nat.le_refl _) _))).mono ?_
  rintro en w1 ⟨rfl, hb1⟩
  have hz1 := hb1.size
  simp only [World.size_alloc] at hz1
  have HX1_0 := Lib.hid ((hb1.block w.heap.size (by simp)).trans (heap_alloc_new w (.cells #[.int .i64 x0, .int .i64 x1, .int .i64 x2, .int .i64 x3, .int .i64 x4, .int .i64 x5, .int .i64 x6, .int .i64 x7] 23)))
  have HB1 := Lib.hid (((Below.refl _ w).alloc (Nat.le_refl _) _).trans (hb1.mono (by simp)))
  clear hb1
  go_wp2_with fail
  refine (cut_any _ _).mono ?_
  rintro en w' ⟨rfl, rfl⟩
  go_wp2_with fail
  refine (Schedule_ok (cutB b) HS.out _).mono ?_
  rintro en w2 ⟨G1, rfl, hGa, hGb, hG12, hb2⟩
  have hz2 := hb2.size
  have HX2_0 := Lib.hid ((hb2.block (w.heap.size) (by omega)).trans HX1_0.out)
  have HB2 := Lib.hid (HB1.out.trans (hb2.mono (by omega)))
  have HG12 := Lib.hid hG12
  clear hG12
  clear hb2
  go_wp2_with fail
  refine (Schedule12_ok (cutB b) HS.out _).mono ?_
  rintro en w3 ⟨G2, cc, rfl, hGc, hGd, hG23, hb3⟩
  have hz3 := hb3.size
  have HX3_0 := Lib.hid ((hb3.block (w.heap.size) (by omega)).trans HX2_0.out)
  have HG13 := Lib.hid (fun j (hj : j < 64) => (hb3.cell (p := ⟨G1, j, none⟩) (show G1 < w2.heap.size by omega)).trans (HG12.out j hj))
  have HB3 := Lib.hid (HB2.out.trans (hb3.mono (by omega)))
  have HG23 := Lib.hid hG23
  clear hG23
  have hh0 := HX3_0.out
  obtain ⟨⟨c0, c1, c2, c3, c4, c5, c6, c7⟩, _⟩ := eight hh0
  clear hh0
  have hl0 : w.heap.size < w3.heap.size := by omega
  clear hb3
  go_wp2_with fail
  refine (H13.out _ (HE.out.below' HB3.out)).mono ?_
  rintro en w4 ⟨rfl, hb4⟩
  have hz4 := hb4.size
  have HX4_0 := Lib.hid ((hb4.block (w.heap.size) (by omega)).trans HX3_0.out)
  have HG14 := Lib.hid (fun j (hj : j < 64) => (hb4.cell (p := ⟨G1, j, none⟩) (show G1 < w3.heap.size by omega)).trans (HG13.out j hj))
  have HG24 := Lib.hid (fun j (hj : j < 64) => (hb4.cell (p := ⟨G2, j, none⟩) (show G2 < w3.heap.size by omega)).trans (HG23.out j hj))
  have HB4 := Lib.hid (HB3.out.trans (hb4.mono (by omega)))
  clear c0 c1 c2 c3 c4 c5 c6 c7
  clear hl0
  have hh0 := HX4_0.out
  obtain ⟨⟨c0, c1, c2, c3, c4, c5, c6, c7⟩, _⟩ := eight hh0
  clear hh0
  have hl0 : w.heap.size < w4.heap.size := by omega
  clear hb4
  go_wp2_with fail
  refine (H14.out _ (HE.out.below' (HB4.out.alloc (by omega) _))).mono ?_
  rintro en w5 ⟨rfl, hb5⟩
  have hz5 := hb5.size
  simp only [World.size_alloc] at hz5
  have HX5_0 := Lib.hid ((hb5.block (w.heap.size) (by simp; omega)).trans ((Below.heap_alloc _ _ _ (by omega)).trans HX4_0.out))
  have HX5_1 := Lib.hid ((hb5.block w4.heap.size (by simp)).trans (heap_alloc_new w4 (.cells #[.int .i64 t0, .int .i64 t1, .int .i64 t2, .int .i64 t3, .int .i64 t4, .int .i64 t5, .int .i64 t6, .int .i64 t7] 23)))
  have HG15 := Lib.hid (fun j (hj : j < 64) => (hb5.cell (p := ⟨G1, j, none⟩) (show G1 < (w4.alloc _).heap.size by simp; omega)).trans ((World.cell?_alloc_lt _ _ ⟨G1, j, none⟩ (show G1 < w4.heap.size by omega)).trans (HG14.out j hj)))
  have HG25 := Lib.hid (fun j (hj : j < 64) => (hb5.cell (p := ⟨G2, j, none⟩) (show G2 < (w4.alloc _).heap.size by simp; omega)).trans ((World.cell?_alloc_lt _ _ ⟨G2, j, none⟩ (show G2 < w4.heap.size by omega)).trans (HG24.out j hj)))
  have HB5 := Lib.hid ((HB4.out.alloc (by omega) _).trans (hb5.mono (by simp; omega)))
  clear c0 c1 c2 c3 c4 c5 c6 c7
  clear hl0
  have hh0 := HX5_0.out
  obtain ⟨⟨c0, c1, c2, c3, c4, c5, c6, c7⟩, _⟩ := eight hh0
  clear hh0
  have hl0 : w.heap.size < w5.heap.size := by omega
  clear hb5
  go_wp2_with fail
  refine (H15.out _ (HE.out.below' (HB5.out.alloc (by omega) _))).mono ?_
  rintro en w6 ⟨rfl, hb6⟩
  have hz6 := hb6.size
  simp only [World.size_alloc] at hz6
  have HX6_0 := Lib.hid ((hb6.block (w.heap.size) (by simp; omega)).trans ((Below.heap_alloc _ _ _ (by omega)).trans HX5_0.out))
  have HX6_1 := Lib.hid ((hb6.block (w4.heap.size) (by simp; omega)).trans ((Below.heap_alloc _ _ _ (by omega)).trans HX5_1.out))
  have HX6_2 := Lib.hid ((hb6.block w5.heap.size (by simp)).trans (heap_alloc_new w5 (.cells #[.int .i64 t0, .int .i64 t1, .int .i64 t2, .int .i64 t3, .int .i64 t4, .int .i64 t5, .int .i64 t6, .int .i64 t7] 23)))
  have HG16 := Lib.hid (fun j (hj : j < 64) => (hb6.cell (p := ⟨G1, j, none⟩) (show G1 < (w5.alloc _).heap.size by simp; omega)).trans ((World.cell?_alloc_lt _ _ ⟨G1, j, none⟩ (show G1 < w5.heap.size by omega)).trans (HG15.out j hj)))
  have HG26 := Lib.hid (fun j (hj : j < 64) => (hb6.cell (p := ⟨G2, j, none⟩) (show G2 < (w5.alloc _).heap.size by simp; omega)).trans ((World.cell?_alloc_lt _ _ ⟨G2, j, none⟩ (show G2 < w5.heap.size by omega)).trans (HG25.out j hj)))
  have HB6 := Lib.hid ((HB5.out.alloc (by omega) _).trans (hb6.mono (by simp; omega)))
  clear c0 c1 c2 c3 c4 c5 c6 c7
  clear hl0
  have hh0 := HX6_0.out
  obtain ⟨⟨c0, c1, c2, c3, c4, c5, c6, c7⟩, _⟩ := eight hh0
  clear hh0
  have hl0 : w.heap.size < w6.heap.size := by omega
  clear hb6
  go_wp2_with fail
  refine (H16.out _ (HE.out.below' (HB6.out.alloc (by omega) _))).mono ?_
  rintro en w7 ⟨rfl, hb7⟩
  have hz7 := hb7.size
  simp only [World.size_alloc] at hz7
  have HX7_0 := Lib.hid ((hb7.block (w.heap.size) (by simp; omega)).trans ((Below.heap_alloc _ _ _ (by omega)).trans HX6_0.out))
  have HX7_1 := Lib.hid ((hb7.block (w4.heap.size) (by simp; omega)).trans ((Below.heap_alloc _ _ _ (by omega)).trans HX6_1.out))
  have HX7_2 := Lib.hid ((hb7.block (w5.heap.size) (by simp; omega)).trans ((Below.heap_alloc _ _ _ (by omega)).trans HX6_2.out))
  have HX7_3 := Lib.hid ((hb7.block w6.heap.size (by simp)).trans (heap_alloc_new w6 (.cells #[.int .i64 u0, .int .i64 u1, .int .i64 u2, .int .i64 u3, .int .i64 u4, .int .i64 u5, .int .i64 u6, .int .i64 u7] 23)))
  have HG17 := Lib.hid (fun j (hj : j < 64) => (hb7.cell (p := ⟨G1, j, none⟩) (show G1 < (w6.alloc _).heap.size by simp; omega)).trans ((World.cell?_alloc_lt _ _ ⟨G1, j, none⟩ (show G1 < w6.heap.size by omega)).trans (HG16.out j hj)))
  have HG27 := Lib.hid (fun j (hj : j < 64) => (hb7.cell (p := ⟨G2, j, none⟩) (show G2 < (w6.alloc _).heap.size by simp; omega)).trans ((World.cell?_alloc_lt _ _ ⟨G2, j, none⟩ (show G2 < w6.heap.size by omega)).trans (HG26.out j hj)))
  have HB7 := Lib.hid ((HB6.out.alloc (by omega) _).trans (hb7.mono (by simp; omega)))
  clear c0 c1 c2 c3 c4 c5 c6 c7
  clear hl0
  have hh0 := HX7_0.out
  obtain ⟨⟨c0, c1, c2, c3, c4, c5, c6, c7⟩, _⟩ := eight hh0
  clear hh0
  have hl0 : w.heap.size < w7.heap.size := by omega
  clear hb7
  go_wp2_with fail
  refine (H17.out _ (HE.out.below' (HB7.out.alloc (by omega) _))).mono ?_
  rintro en w8 ⟨rfl, hb8⟩
  have hz8 := hb8.size
  simp only [World.size_alloc] at hz8
  have HX8_0 := Lib.hid ((hb8.block (w.heap.size) (by simp; omega)).trans ((Below.heap_alloc _ _ _ (by omega)).trans HX7_0.out))
  have HX8_1 := Lib.hid ((hb8.block (w4.heap.size) (by simp; omega)).trans ((Below.heap_alloc _ _ _ (by omega)).trans HX7_1.out))
  have HX8_2 := Lib.hid ((hb8.block (w5.heap.size) (by simp; omega)).trans ((Below.heap_alloc _ _ _ (by omega)).trans HX7_2.out))
  have HX8_3 := Lib.hid ((hb8.block (w6.heap.size) (by simp; omega)).trans ((Below.heap_alloc _ _ _ (by omega)).trans HX7_3.out))
  have HX8_4 := Lib.hid ((hb8.block w7.heap.size (by simp)).trans (heap_alloc_new w7 (.cells #[.int .i64 u0, .int .i64 u1, .int .i64 u2, .int .i64 u3, .int .i64 u4, .int .i64 u5, .int .i64 u6, .int .i64 u7] 23)))
  have HG18 := Lib.hid (fun j (hj : j < 64) => (hb8.cell (p := ⟨G1, j, none⟩) (show G1 < (w7.alloc _).heap.size by simp; omega)).trans ((World.cell?_alloc_lt _ _ ⟨G1, j, none⟩ (show G1 < w7.heap.size by omega)).trans (HG17.out j hj)))
  have HG28 := Lib.hid (fun j (hj : j < 64) => (hb8.cell (p := ⟨G2, j, none⟩) (show G2 < (w7.alloc _).heap.size by simp; omega)).trans ((World.cell?_alloc_lt _ _ ⟨G2, j, none⟩ (show G2 < w7.heap.size by omega)).trans (HG27.out j hj)))
  have HB8 := Lib.hid ((HB7.out.alloc (by omega) _).trans (hb8.mono (by simp; omega)))
  clear c0 c1 c2 c3 c4 c5 c6 c7
  clear hl0
  have hh0 := HX8_0.out
  obtain ⟨⟨c0, c1, c2, c3, c4, c5, c6, c7⟩, _⟩ := eight hh0
  clear hh0
  have hl0 : w.heap.size < w8.heap.size := by omega
  clear hb8
  go_wp2_with fail
  refine (H18.out _ (HE.out.below' HB8.out)).mono ?_
  rintro en w9 ⟨rfl, hb9⟩
  have hz9 := hb9.size
  have HX9_0 := Lib.hid ((hb9.block (w.heap.size) (by omega)).trans HX8_0.out)
  have HX9_1 := Lib.hid ((hb9.block (w4.heap.size) (by omega)).trans HX8_1.out)
  have HX9_2 := Lib.hid ((hb9.block (w5.heap.size) (by omega)).trans HX8_2.out)
  have HX9_3 := Lib.hid ((hb9.block (w6.heap.size) (by omega)).trans HX8_3.out)
  have HX9_4 := Lib.hid ((hb9.block (w7.heap.size) (by omega)).trans HX8_4.out)
  have HG19 := Lib.hid (fun j (hj : j < 64) => (hb9.cell (p := ⟨G1, j, none⟩) (show G1 < w8.heap.size by omega)).trans (HG18.out j hj))
  have HG29 := Lib.hid (fun j (hj : j < 64) => (hb9.cell (p := ⟨G2, j, none⟩) (show G2 < w8.heap.size by omega)).trans (HG28.out j hj))
  have HB9 := Lib.hid (HB8.out.trans (hb9.mono (by omega)))
  clear c0 c1 c2 c3 c4 c5 c6 c7
  clear hl0
  clear hb9
  go_wp2_with fail
  refine (First_any _).mono ?_
  rintro en w10 ⟨rfl, hb10⟩
  have hz10 := hb10.size
  have HX10_0 := Lib.hid ((hb10.block (w.heap.size) (by omega)).trans HX9_0.out)
  have HX10_1 := Lib.hid ((hb10.block (w4.heap.size) (by omega)).trans HX9_1.out)
  have HX10_2 := Lib.hid ((hb10.block (w5.heap.size) (by omega)).trans HX9_2.out)
  have HX10_3 := Lib.hid ((hb10.block (w6.heap.size) (by omega)).trans HX9_3.out)
  have HX10_4 := Lib.hid ((hb10.block (w7.heap.size) (by omega)).trans HX9_4.out)
  have HG110 := Lib.hid (fun j (hj : j < 64) => (hb10.cell (p := ⟨G1, j, none⟩) (show G1 < w9.heap.size by omega)).trans (HG19.out j hj))
  have HG210 := Lib.hid (fun j (hj : j < 64) => (hb10.cell (p := ⟨G2, j, none⟩) (show G2 < w9.heap.size by omega)).trans (HG29.out j hj))
  have HB10 := Lib.hid (HB9.out.trans (hb10.mono (by omega)))
  clear hb10
  go_wp2_with fail
  refine (First20 _).mono ?_
  rintro en w11 ⟨rfl, hb11⟩
  have hz11 := hb11.size
  have HX11_0 := Lib.hid ((hb11.block (w.heap.size) (by omega)).trans HX10_0.out)
  have HX11_1 := Lib.hid ((hb11.block (w4.heap.size) (by omega)).trans HX10_1.out)
  have HX11_2 := Lib.hid ((hb11.block (w5.heap.size) (by omega)).trans HX10_2.out)
  have HX11_3 := Lib.hid ((hb11.block (w6.heap.size) (by omega)).trans HX10_3.out)
  have HX11_4 := Lib.hid ((hb11.block (w7.heap.size) (by omega)).trans HX10_4.out)
  have HG111 := Lib.hid (fun j (hj : j < 64) => (hb11.cell (p := ⟨G1, j, none⟩) (show G1 < w10.heap.size by omega)).trans (HG110.out j hj))
  have HG211 := Lib.hid (fun j (hj : j < 64) => (hb11.cell (p := ⟨G2, j, none⟩) (show G2 < w10.heap.size by omega)).trans (HG210.out j hj))
  have HB11 := Lib.hid (HB10.out.trans (hb11.mono (by omega)))
  clear hb11
  have h8a := fun w => eq8 (U F0.a) (U F0.b) (U F0.c) (U F0.d) (U F0.e) (U F0.f) (U F0.g) (U F0.h) (U F0.a) (U F0.b) (U F0.c) (U F0.d) (U F0.e) (U F0.f) (U F0.g) (U F0.h) w
  go_wp2_with fail
  refine (Ints21_same (Wd (mw (cutB b))) G1 G2 64 cc _ (by omega) (by omega) HG111.out HG211.out).mono ?_
  rintro en w12 ⟨rfl, hb12⟩
  have hz12 := hb12.size
  have HX12_0 := Lib.hid ((hb12.block (w.heap.size) (by omega)).trans HX11_0.out)
  have HX12_1 := Lib.hid ((hb12.block (w4.heap.size) (by omega)).trans HX11_1.out)
  have HX12_2 := Lib.hid ((hb12.block (w5.heap.size) (by omega)).trans HX11_2.out)
  have HX12_3 := Lib.hid ((hb12.block (w6.heap.size) (by omega)).trans HX11_3.out)
  have HX12_4 := Lib.hid ((hb12.block (w7.heap.size) (by omega)).trans HX11_4.out)
  have HG112 := Lib.hid (fun j (hj : j < 64) => (hb12.cell (p := ⟨G1, j, none⟩) (show G1 < w11.heap.size by omega)).trans (HG111.out j hj))
  have HG212 := Lib.hid (fun j (hj : j < 64) => (hb12.cell (p := ⟨G2, j, none⟩) (show G2 < w11.heap.size by omega)).trans (HG211.out j hj))
  have HB12 := Lib.hid (HB11.out.trans (hb12.mono (by omega)))
  have hh1 := HX12_1.out
  obtain ⟨⟨d0, d1, d2, d3, d4, d5, d6, d7⟩, _⟩ := eight hh1
  clear hh1
  have hl1 : w4.heap.size < w12.heap.size := by omega
  have hh2 := HX12_2.out
  obtain ⟨⟨p0, p1, p2, p3, p4, p5, p6, p7⟩, _⟩ := eight hh2
  clear hh2
  have hl2 : w5.heap.size < w12.heap.size := by omega
  have hh3 := HX12_3.out
  obtain ⟨⟨q0, q1, q2, q3, q4, q5, q6, q7⟩, _⟩ := eight hh3
  clear hh3
  have hl3 : w6.heap.size < w12.heap.size := by omega
  have hh4 := HX12_4.out
  obtain ⟨⟨r0, r1, r2, r3, r4, r5, r6, r7⟩, _⟩ := eight hh4
  clear hh4
  have hl4 : w7.heap.size < w12.heap.size := by omega
  clear hb12
  have h8b := fun w => eq8 t0 t1 t2 t3 t4 t5 t6 t7 t0 t1 t2 t3 t4 t5 t6 t7 w
  have h8c := fun w => eq8 u0 u1 u2 u3 u4 u5 u6 u7 u0 u1 u2 u3 u4 u5 u6 u7 w
  clear h8a
  go_wp2
  go_ret
  exact ⟨rfl, HB12.out⟩
set_option maxRecDepth 100000 in
set_option maxHeartbeats 2000000 in
theorem walkTellsBad (x0 x1 x2 x3 x4 x5 x6 x7 : Int) (b : ByteArray) (i x : Int) (t0 t1 t2 t3 t4 t5 t6 t7 e u0 u1 u2 u3 u4 u5 u6 u7 f : Int) (a : ByteArray) (g : Int) (hs : (cutB b).size ≠ 64)
    (h13 : T13 x0 x1 x2 x3 x4 x5 x6 x7 i x t0 t1 t2 t3 t4 t5 t6 t7 e) (h14 : T14 x0 x1 x2 x3 x4 x5 x6 x7 i x t0 t1 t2 t3 t4 t5 t6 t7 e) (h15 : T15 x0 x1 x2 x3 x4 x5 x6 x7 (cutB b) u0 u1 u2 u3 u4 u5 u6 u7 f) (h16 : T16 x0 x1 x2 x3 x4 x5 x6 x7 (cutB b) u0 u1 u2 u3 u4 u5 u6 u7 f) (h17 : T17 x0 x1 x2 x3 x4 x5 x6 x7 a g) (h18 : T18 x0 x1 x2 x3 x4 x5 x6 x7 a g) (w : World) (E : E4 w) :
    Calls Tryd.prog 3 #[.agg #[.int .i64 x0, .int .i64 x1, .int .i64 x2, .int .i64 x3, .int .i64 x4, .int .i64 x5, .int .i64 x6, .int .i64 x7], .string b, .int .i64 i, .int .i64 x] w fun e w' => e = .returned (.bool true) ∧ Below w.heap.size w w' := by
  have HE := Lib.hid E
  have H13 := Lib.hid h13
  have H14 := Lib.hid h14
  have H15 := Lib.hid h15
  have H16 := Lib.hid h16
  have H17 := Lib.hid h17
  have H18 := Lib.hid h18
  have HS := Lib.hid hs
  clear E h13 h14 h15 h16 h17 h18 hs
  go_enter Tryd.func3, Tryd.ntmps3
  go_wp2_with fail
  refine (shown_any' _ (HE.out.below' ((Below.refl _ _).alloc (Nat.le_refl _) _))).mono ?_
  rintro en w1 ⟨rfl, hb1⟩
  have hz1 := hb1.size
  simp only [World.size_alloc] at hz1
  have HX1_0 := Lib.hid ((hb1.block w.heap.size (by simp)).trans (heap_alloc_new w (.cells #[.int .i64 x0, .int .i64 x1, .int .i64 x2, .int .i64 x3, .int .i64 x4, .int .i64 x5, .int .i64 x6, .int .i64 x7] 23)))
  have HB1 := Lib.hid (((Below.refl _ w).alloc (Nat.le_refl _) _).trans (hb1.mono (by simp)))
  clear hb1
  go_wp2_with fail
  refine (cut_any _ _).mono ?_
  rintro en w' ⟨rfl, rfl⟩
  go_wp2_with fail
  refine (Schedule_bad' (cutB b) HS.out _ (HE.out.below' HB1.out)).mono ?_
  rintro en w2 ⟨rfl, hb2⟩
  have hz2 := hb2.size
  have HX2_0 := Lib.hid ((hb2.block (w.heap.size) (by omega)).trans HX1_0.out)
  have HB2 := Lib.hid (HB1.out.trans (hb2.mono (by omega)))
  clear hb2
  go_wp2_with fail
  refine (Schedule12_bad (cutB b) HS.out _).mono ?_
  rintro en w3 ⟨rfl, hb3⟩
  have hz3 := hb3.size
  have HX3_0 := Lib.hid ((hb3.block (w.heap.size) (by omega)).trans HX2_0.out)
  have HB3 := Lib.hid (HB2.out.trans (hb3.mono (by omega)))
  have hh0 := HX3_0.out
  obtain ⟨⟨c0, c1, c2, c3, c4, c5, c6, c7⟩, _⟩ := eight hh0
  clear hh0
  have hl0 : w.heap.size < w3.heap.size := by omega
  clear hb3
  go_wp2_with fail
  refine (H13.out _ (HE.out.below' HB3.out)).mono ?_
  rintro en w4 ⟨rfl, hb4⟩
  have hz4 := hb4.size
  have HX4_0 := Lib.hid ((hb4.block (w.heap.size) (by omega)).trans HX3_0.out)
  have HB4 := Lib.hid (HB3.out.trans (hb4.mono (by omega)))
  clear c0 c1 c2 c3 c4 c5 c6 c7
  clear hl0
  have hh0 := HX4_0.out
  obtain ⟨⟨c0, c1, c2, c3, c4, c5, c6, c7⟩, _⟩ := eight hh0
  clear hh0
  have hl0 : w.heap.size < w4.heap.size := by omega
  clear hb4
  go_wp2_with fail
  refine (H14.out _ (HE.out.below' (HB4.out.alloc (by omega) _))).mono ?_
  rintro en w5 ⟨rfl, hb5⟩
  have hz5 := hb5.size
  simp only [World.size_alloc] at hz5
  have HX5_0 := Lib.hid ((hb5.block (w.heap.size) (by simp; omega)).trans ((Below.heap_alloc _ _ _ (by omega)).trans HX4_0.out))
  have HX5_1 := Lib.hid ((hb5.block w4.heap.size (by simp)).trans (heap_alloc_new w4 (.cells #[.int .i64 t0, .int .i64 t1, .int .i64 t2, .int .i64 t3, .int .i64 t4, .int .i64 t5, .int .i64 t6, .int .i64 t7] 23)))
  have HB5 := Lib.hid ((HB4.out.alloc (by omega) _).trans (hb5.mono (by simp; omega)))
  clear c0 c1 c2 c3 c4 c5 c6 c7
  clear hl0
  have hh0 := HX5_0.out
  obtain ⟨⟨c0, c1, c2, c3, c4, c5, c6, c7⟩, _⟩ := eight hh0
  clear hh0
  have hl0 : w.heap.size < w5.heap.size := by omega
  clear hb5
  go_wp2_with fail
  refine (H15.out _ (HE.out.below' (HB5.out.alloc (by omega) _))).mono ?_
  rintro en w6 ⟨rfl, hb6⟩
  have hz6 := hb6.size
  simp only [World.size_alloc] at hz6
  have HX6_0 := Lib.hid ((hb6.block (w.heap.size) (by simp; omega)).trans ((Below.heap_alloc _ _ _ (by omega)).trans HX5_0.out))
  have HX6_1 := Lib.hid ((hb6.block (w4.heap.size) (by simp; omega)).trans ((Below.heap_alloc _ _ _ (by omega)).trans HX5_1.out))
  have HX6_2 := Lib.hid ((hb6.block w5.heap.size (by simp)).trans (heap_alloc_new w5 (.cells #[.int .i64 t0, .int .i64 t1, .int .i64 t2, .int .i64 t3, .int .i64 t4, .int .i64 t5, .int .i64 t6, .int .i64 t7] 23)))
  have HB6 := Lib.hid ((HB5.out.alloc (by omega) _).trans (hb6.mono (by simp; omega)))
  clear c0 c1 c2 c3 c4 c5 c6 c7
  clear hl0
  have hh0 := HX6_0.out
  obtain ⟨⟨c0, c1, c2, c3, c4, c5, c6, c7⟩, _⟩ := eight hh0
  clear hh0
  have hl0 : w.heap.size < w6.heap.size := by omega
  clear hb6
  go_wp2_with fail
  refine (H16.out _ (HE.out.below' (HB6.out.alloc (by omega) _))).mono ?_
  rintro en w7 ⟨rfl, hb7⟩
  have hz7 := hb7.size
  simp only [World.size_alloc] at hz7
  have HX7_0 := Lib.hid ((hb7.block (w.heap.size) (by simp; omega)).trans ((Below.heap_alloc _ _ _ (by omega)).trans HX6_0.out))
  have HX7_1 := Lib.hid ((hb7.block (w4.heap.size) (by simp; omega)).trans ((Below.heap_alloc _ _ _ (by omega)).trans HX6_1.out))
  have HX7_2 := Lib.hid ((hb7.block (w5.heap.size) (by simp; omega)).trans ((Below.heap_alloc _ _ _ (by omega)).trans HX6_2.out))
  have HX7_3 := Lib.hid ((hb7.block w6.heap.size (by simp)).trans (heap_alloc_new w6 (.cells #[.int .i64 u0, .int .i64 u1, .int .i64 u2, .int .i64 u3, .int .i64 u4, .int .i64 u5, .int .i64 u6, .int .i64 u7] 23)))
  have HB7 := Lib.hid ((HB6.out.alloc (by omega) _).trans (hb7.mono (by simp; omega)))
  clear c0 c1 c2 c3 c4 c5 c6 c7
  clear hl0
  have hh0 := HX7_0.out
  obtain ⟨⟨c0, c1, c2, c3, c4, c5, c6, c7⟩, _⟩ := eight hh0
  clear hh0
  have hl0 : w.heap.size < w7.heap.size := by omega
  clear hb7
  go_wp2_with fail
  refine (H17.out _ (HE.out.below' (HB7.out.alloc (by omega) _))).mono ?_
  rintro en w8 ⟨rfl, hb8⟩
  have hz8 := hb8.size
  simp only [World.size_alloc] at hz8
  have HX8_0 := Lib.hid ((hb8.block (w.heap.size) (by simp; omega)).trans ((Below.heap_alloc _ _ _ (by omega)).trans HX7_0.out))
  have HX8_1 := Lib.hid ((hb8.block (w4.heap.size) (by simp; omega)).trans ((Below.heap_alloc _ _ _ (by omega)).trans HX7_1.out))
  have HX8_2 := Lib.hid ((hb8.block (w5.heap.size) (by simp; omega)).trans ((Below.heap_alloc _ _ _ (by omega)).trans HX7_2.out))
  have HX8_3 := Lib.hid ((hb8.block (w6.heap.size) (by simp; omega)).trans ((Below.heap_alloc _ _ _ (by omega)).trans HX7_3.out))
  have HX8_4 := Lib.hid ((hb8.block w7.heap.size (by simp)).trans (heap_alloc_new w7 (.cells #[.int .i64 u0, .int .i64 u1, .int .i64 u2, .int .i64 u3, .int .i64 u4, .int .i64 u5, .int .i64 u6, .int .i64 u7] 23)))
  have HB8 := Lib.hid ((HB7.out.alloc (by omega) _).trans (hb8.mono (by simp; omega)))
  clear c0 c1 c2 c3 c4 c5 c6 c7
  clear hl0
  have hh0 := HX8_0.out
  obtain ⟨⟨c0, c1, c2, c3, c4, c5, c6, c7⟩, _⟩ := eight hh0
  clear hh0
  have hl0 : w.heap.size < w8.heap.size := by omega
  clear hb8
  go_wp2_with fail
  refine (H18.out _ (HE.out.below' HB8.out)).mono ?_
  rintro en w9 ⟨rfl, hb9⟩
  have hz9 := hb9.size
  have HX9_0 := Lib.hid ((hb9.block (w.heap.size) (by omega)).trans HX8_0.out)
  have HX9_1 := Lib.hid ((hb9.block (w4.heap.size) (by omega)).trans HX8_1.out)
  have HX9_2 := Lib.hid ((hb9.block (w5.heap.size) (by omega)).trans HX8_2.out)
  have HX9_3 := Lib.hid ((hb9.block (w6.heap.size) (by omega)).trans HX8_3.out)
  have HX9_4 := Lib.hid ((hb9.block (w7.heap.size) (by omega)).trans HX8_4.out)
  have HB9 := Lib.hid (HB8.out.trans (hb9.mono (by omega)))
  clear c0 c1 c2 c3 c4 c5 c6 c7
  clear hl0
  clear hb9
  go_wp2_with fail
  refine (First_any _).mono ?_
  rintro en w10 ⟨rfl, hb10⟩
  have hz10 := hb10.size
  have HX10_0 := Lib.hid ((hb10.block (w.heap.size) (by omega)).trans HX9_0.out)
  have HX10_1 := Lib.hid ((hb10.block (w4.heap.size) (by omega)).trans HX9_1.out)
  have HX10_2 := Lib.hid ((hb10.block (w5.heap.size) (by omega)).trans HX9_2.out)
  have HX10_3 := Lib.hid ((hb10.block (w6.heap.size) (by omega)).trans HX9_3.out)
  have HX10_4 := Lib.hid ((hb10.block (w7.heap.size) (by omega)).trans HX9_4.out)
  have HB10 := Lib.hid (HB9.out.trans (hb10.mono (by omega)))
  clear hb10
  go_wp2_with fail
  refine (First20 _).mono ?_
  rintro en w11 ⟨rfl, hb11⟩
  have hz11 := hb11.size
  have HX11_0 := Lib.hid ((hb11.block (w.heap.size) (by omega)).trans HX10_0.out)
  have HX11_1 := Lib.hid ((hb11.block (w4.heap.size) (by omega)).trans HX10_1.out)
  have HX11_2 := Lib.hid ((hb11.block (w5.heap.size) (by omega)).trans HX10_2.out)
  have HX11_3 := Lib.hid ((hb11.block (w6.heap.size) (by omega)).trans HX10_3.out)
  have HX11_4 := Lib.hid ((hb11.block (w7.heap.size) (by omega)).trans HX10_4.out)
  have HB11 := Lib.hid (HB10.out.trans (hb11.mono (by omega)))
  clear hb11
  have h8a := fun w => eq8 (U F0.a) (U F0.b) (U F0.c) (U F0.d) (U F0.e) (U F0.f) (U F0.g) (U F0.h) (U F0.a) (U F0.b) (U F0.c) (U F0.d) (U F0.e) (U F0.f) (U F0.g) (U F0.h) w
  go_wp2_with fail
  refine (Ints21_none _).mono ?_
  rintro en w12 ⟨rfl, hb12⟩
  have hz12 := hb12.size
  have HX12_0 := Lib.hid ((hb12.block (w.heap.size) (by omega)).trans HX11_0.out)
  have HX12_1 := Lib.hid ((hb12.block (w4.heap.size) (by omega)).trans HX11_1.out)
  have HX12_2 := Lib.hid ((hb12.block (w5.heap.size) (by omega)).trans HX11_2.out)
  have HX12_3 := Lib.hid ((hb12.block (w6.heap.size) (by omega)).trans HX11_3.out)
  have HX12_4 := Lib.hid ((hb12.block (w7.heap.size) (by omega)).trans HX11_4.out)
  have HB12 := Lib.hid (HB11.out.trans (hb12.mono (by omega)))
  have hh1 := HX12_1.out
  obtain ⟨⟨d0, d1, d2, d3, d4, d5, d6, d7⟩, _⟩ := eight hh1
  clear hh1
  have hl1 : w4.heap.size < w12.heap.size := by omega
  have hh2 := HX12_2.out
  obtain ⟨⟨p0, p1, p2, p3, p4, p5, p6, p7⟩, _⟩ := eight hh2
  clear hh2
  have hl2 : w5.heap.size < w12.heap.size := by omega
  have hh3 := HX12_3.out
  obtain ⟨⟨q0, q1, q2, q3, q4, q5, q6, q7⟩, _⟩ := eight hh3
  clear hh3
  have hl3 : w6.heap.size < w12.heap.size := by omega
  have hh4 := HX12_4.out
  obtain ⟨⟨r0, r1, r2, r3, r4, r5, r6, r7⟩, _⟩ := eight hh4
  clear hh4
  have hl4 : w7.heap.size < w12.heap.size := by omega
  clear hb12
  have h8b := fun w => eq8 t0 t1 t2 t3 t4 t5 t6 t7 t0 t1 t2 t3 t4 t5 t6 t7 w
  have h8c := fun w => eq8 u0 u1 u2 u3 u4 u5 u6 u7 u0 u1 u2 u3 u4 u5 u6 u7 w
  clear h8a
  go_wp2
  go_ret
  exact ⟨rfl, HB12.out⟩
end Go.Proofs.YtohekmioeifpfaaDoor
