/- Which texts may stand plain, their values, and which scalars are right, the program tells as the reference does: the walk. Conditions: the library's tables lie as they are laid. -/
import Derived.Test.YtimbidbpfdaocaaDoorRrs
import Derived.Deep.RegionHeld3
import Derived.Deep.DeepCutAuto
namespace Go.Proofs.YtimbidbpfdaocaaDoor
open Go.ChangeShapes Go.WideShapes Go.ChangeAt Go.RowKit Go.Shelf
open Go.ChangeMaps (open_string shut_string)
open Pl Seqo On
theorem sameB_me (k n : Int) (s : ByteArray) : sameB k n s k n s = true := by simp [sameB]
abbrev scO (k n : Int) (s : ByteArray) : Obj := .cells #[.int .i64 k, .int .i64 n, .string s] 23
/-- what the law's last test reads lies as it was laid -/
structure Five (w0 : World) (b0 b1 b2 b3 b4 : Nat) (o0 o1 o3 : Obj) (W : World) : Prop where
  env : Env W
  below : Below w0.heap.size w0 W
  r0 : W.heap[b0]? = some o0
  r1 : W.heap[b1]? = some o1
  r2 : W.heap[b2]? = some o1
  r3 : W.heap[b3]? = some o3
  r4 : W.heap[b4]? = some o3
theorem Five.step {w0 W W' : World} {b0 b1 b2 b3 b4 : Nat} {o0 o1 o3 : Obj} (h : Five w0 b0 b1 b2 b3 b4 o0 o1 o3 W) (hb : Below W.heap.size W W') : Five w0 b0 b1 b2 b3 b4 o0 o1 o3 W' :=
  ⟨h.env.below hb, h.below.trans (hb.mono h.below.size), (hb.block _ (Array.getElem?_eq_some_iff.1 h.r0).1).trans h.r0, (hb.block _ (Array.getElem?_eq_some_iff.1 h.r1).1).trans h.r1, (hb.block _ (Array.getElem?_eq_some_iff.1 h.r2).1).trans h.r2, (hb.block _ (Array.getElem?_eq_some_iff.1 h.r3).1).trans h.r3, (hb.block _ (Array.getElem?_eq_some_iff.1 h.r4).1).trans h.r4⟩
theorem five_drew {w0 W : World} {b0 b1 b2 b3 b4 : Nat} {o0 o1 o3 : Obj} (h : Hid (Five w0 b0 b1 b2 b3 b4 o0 o1 o3 W)) : Hid (Five w0 b0 b1 b2 b3 b4 o0 o1 o3 W.drew) := Lib.hid (h.out.step (Below.refl _ _).drew)
theorem cells3 {W : World} {b : Nat} {k n : Int} {s : ByteArray} (h : W.heap[b]? = some (scO k n s)) : W.cell? ⟨b, 0, none⟩ = some (.int .i64 k) ∧ W.cell? ⟨b, 1, none⟩ = some (.int .i64 n) ∧ W.cell? ⟨b, 2, none⟩ = some (.string s) :=
  ⟨cell_of_row _ _ 0 _ _ _ h, cell_of_row _ _ 1 _ _ _ h, cell_of_row _ _ 2 _ _ _ h⟩
set_option maxRecDepth 100000 in
set_option maxHeartbeats 8000000 in
theorem tells_walk (s S X sx T T' : ByteArray) (flow m r : Bool) (kx nx k n er k' n' er' : Int)
    (hc1 : ∀ w, Calls Tryd.prog 9 #[.string s] w fun e w' => e = .returned (.string S) ∧ w = w')
    (hc2 : ∀ w, Calls Tryd.prog 9 #[.string sx] w fun e w' => e = .returned (.string X) ∧ w = w')
    (hA : ∀ w, Env w → Calls Tryd.prog 10 #[.string S] w fun e w' => e = .returned (.tuple #[.agg #[.int .i64 k, .int .i64 n, .string T], .int .i64 er]) ∧ Below w.heap.size w w')
    (hB : ∀ w, Env w → Calls Tryd.prog 11 #[.string S] w fun e w' => e = .returned (.tuple #[.agg #[.int .i64 k, .int .i64 n, .string T], .int .i64 er]) ∧ Below w.heap.size w w')
    (hC : ∀ w, Env w → Calls Tryd.prog 12 #[.string S, .bool flow] w fun e w' => e = .returned (.tuple #[.agg #[.int .i64 k', .int .i64 n', .string T'], .int .i64 er']) ∧ Below w.heap.size w w')
    (hD : ∀ w, Env w → Calls Tryd.prog 13 #[.string S, .bool flow] w fun e w' => e = .returned (.tuple #[.agg #[.int .i64 k', .int .i64 n', .string T'], .int .i64 er']) ∧ Below w.heap.size w w')
    (hM : ∀ w, Env w → Calls Tryd.prog 14 #[.string S, .bool flow] w fun e w' => e = .returned (.bool m) ∧ Below w.heap.size w w')
    (hN : ∀ w, Env w → Calls Tryd.prog 15 #[.string S, .bool flow] w fun e w' => e = .returned (.bool m) ∧ Below w.heap.size w w')
    (hR : ∀ w, Env w → Calls Tryd.prog 16 #[.agg #[.int .i64 kx, .int .i64 nx, .string X]] w fun e w' => e = .returned (.bool r) ∧ Below w.heap.size w w')
    (hQ : ∀ w, Env w → Calls Tryd.prog 17 #[.agg #[.int .i64 kx, .int .i64 nx, .string X]] w fun e w' => e = .returned (.bool r) ∧ Below w.heap.size w w')
    (w : World) (E : Env w) :
    Calls Tryd.prog 3 #[.string s, .bool flow, .agg #[.int .i64 kx, .int .i64 nx, .string sx]] w fun e w' => e = .returned (.bool true) ∧ Below w.heap.size w w' := by
  have hb0 : Below w.heap.size w (w.alloc (scO kx nx sx)) := (Below.refl _ w).alloc (Nat.le_refl _) _
  have hx0 : (w.alloc (scO kx nx sx)).heap[w.heap.size]? = some (scO kx nx sx) := heap_alloc_new w _
  have HE0 := Lib.hid (E.below hb0)
  have HEE := Lib.hid E
  have HB0 := Lib.hid hb0
  have HX0 := Lib.hid hx0
  have HC1 := Lib.hid hc1
  have HC2 := Lib.hid hc2
  have HA := Lib.hid hA
  have HBB := Lib.hid hB
  have HCC := Lib.hid hC
  have HD := Lib.hid hD
  have HM := Lib.hid hM
  have HN := Lib.hid hN
  have HR := Lib.hid hR
  have HQ := Lib.hid hQ
  clear E hc1 hc2 hA hB hC hD hM hN hR hQ hb0 hx0
  go_enter Tryd.func3, Tryd.ntmps3
  go_wp2_with fail
  refine (shown_any _ HE0.out).mono ?_
  rintro e w1 ⟨rfl, hb1⟩
  have HE1 := Lib.hid (HE0.out.below hb1)
  have HB1 := Lib.hid (HB0.out.trans (hb1.mono HB0.out.size))
  have hx1 := (hb1.block _ (Array.getElem?_eq_some_iff.1 HX0.out).1).trans HX0.out
  have HX1 := Lib.hid hx1
  have hz1 : w.heap.size < w1.heap.size := (Array.getElem?_eq_some_iff.1 hx1).1
  have c2 := cell_of_row _ _ 2 _ _ _ hx1
  have f2 := frozen_of_row _ _ 2 _ _ hx1
  simp at c2
  clear hb1 hx1
  go_wp2_with fail
  refine (HC1.out _).mono ?_
  rintro e w' ⟨rfl, rfl⟩
  go_wp2_with fail
  refine (HC2.out _).mono ?_
  rintro e w' ⟨rfl, rfl⟩
  go_wp2_with fail
  have hx2 := heap_setCell_same w1 w.heap.size 2 _ _ (.string X) HX1.out
  have hb2 : Below w.heap.size w (w1.setCell ⟨w.heap.size, 2, none⟩ (.string X)) := HB1.out.setCell (p := ⟨w.heap.size, 2, none⟩) (Nat.le_refl _) (.string X)
  clear c2 f2
  generalize w1.setCell ⟨w.heap.size, 2, none⟩ (.string X) = u1 at hx2 hb2 ⊢
  have HB1 := Lib.hid hb2
  have HE1 := Lib.hid (HEE.out.below hb2)
  have L0_1 := Lib.hid (show u1.heap[w.heap.size]? = some (scO kx nx X) from hx2)
  clear hx2 hb2 hz1 HX0 HX1 HB0 HE0
  refine (HA.out _ HE1.out).mono ?_
  rintro e v2 ⟨rfl, hb2⟩
  have HC2 := Lib.hid hb2
  clear hb2
  go_wp2_with fail
  obtain ⟨u2, hu2⟩ : ∃ u, v2.alloc (scO k n T) = u := ⟨_, rfl⟩
  rw [hu2]
  have hx2 : u2.heap[v2.heap.size]? = some (scO k n T) := by rw [← hu2]; exact heap_alloc_new v2 _
  have hc2 := HC2.out.alloc HC2.out.size (scO k n T)
  rw [hu2] at hc2
  have HX2 := Lib.hid hx2
  have HE2 := Lib.hid (HE1.out.below hc2)
  have HB2 := Lib.hid (HB1.out.trans (hc2.mono HB1.out.size))
  have L0_2 := Lib.hid ((hc2.block _ (Array.getElem?_eq_some_iff.1 L0_1.out).1).trans L0_1.out)
  have L2_2 := HX2
  clear hu2 hc2 hx2 HX2 HC2 HE1 HB1 L0_1
  refine (HBB.out _ HE2.out).mono ?_
  rintro e v3 ⟨rfl, hb3⟩
  have HC3 := Lib.hid hb3
  clear hb3
  go_wp2_with fail
  obtain ⟨u3, hu3⟩ : ∃ u, v3.alloc (scO k n T) = u := ⟨_, rfl⟩
  rw [hu3]
  have hx3 : u3.heap[v3.heap.size]? = some (scO k n T) := by rw [← hu3]; exact heap_alloc_new v3 _
  have hc3 := HC3.out.alloc HC3.out.size (scO k n T)
  rw [hu3] at hc3
  have HX3 := Lib.hid hx3
  have HE3 := Lib.hid (HE2.out.below hc3)
  have HB3 := Lib.hid (HB2.out.trans (hc3.mono HB2.out.size))
  have L0_3 := Lib.hid ((hc3.block _ (Array.getElem?_eq_some_iff.1 L0_2.out).1).trans L0_2.out)
  have L2_3 := Lib.hid ((hc3.block _ (Array.getElem?_eq_some_iff.1 L2_2.out).1).trans L2_2.out)
  have L3_3 := HX3
  clear hu3 hc3 hx3 HX3 HC3 HE2 HB2 L0_2 L2_2
  refine (HCC.out _ HE3.out).mono ?_
  rintro e v4 ⟨rfl, hb4⟩
  have HC4 := Lib.hid hb4
  clear hb4
  go_wp2_with fail
  obtain ⟨u4, hu4⟩ : ∃ u, v4.alloc (scO k' n' T') = u := ⟨_, rfl⟩
  rw [hu4]
  have hx4 : u4.heap[v4.heap.size]? = some (scO k' n' T') := by rw [← hu4]; exact heap_alloc_new v4 _
  have hc4 := HC4.out.alloc HC4.out.size (scO k' n' T')
  rw [hu4] at hc4
  have HX4 := Lib.hid hx4
  have HE4 := Lib.hid (HE3.out.below hc4)
  have HB4 := Lib.hid (HB3.out.trans (hc4.mono HB3.out.size))
  have L0_4 := Lib.hid ((hc4.block _ (Array.getElem?_eq_some_iff.1 L0_3.out).1).trans L0_3.out)
  have L2_4 := Lib.hid ((hc4.block _ (Array.getElem?_eq_some_iff.1 L2_3.out).1).trans L2_3.out)
  have L3_4 := Lib.hid ((hc4.block _ (Array.getElem?_eq_some_iff.1 L3_3.out).1).trans L3_3.out)
  have L4_4 := HX4
  clear hu4 hc4 hx4 HX4 HC4 HE3 HB3 L0_3 L2_3 L3_3
  refine (HD.out _ HE4.out).mono ?_
  rintro e v5 ⟨rfl, hb5⟩
  have HC5 := Lib.hid hb5
  clear hb5
  go_upto_region 8 with (fail)
  obtain ⟨u5, hu5⟩ : ∃ u, v5.alloc (scO k' n' T') = u := ⟨_, rfl⟩
  rw [hu5]
  have hx5 : u5.heap[v5.heap.size]? = some (scO k' n' T') := by rw [← hu5]; exact heap_alloc_new v5 _
  have hc5 := HC5.out.alloc HC5.out.size (scO k' n' T')
  rw [hu5] at hc5
  have HX5 := Lib.hid hx5
  have HE5 := Lib.hid (HE4.out.below hc5)
  have HB5 := Lib.hid (HB4.out.trans (hc5.mono HB4.out.size))
  have L0_5 := Lib.hid ((hc5.block _ (Array.getElem?_eq_some_iff.1 L0_4.out).1).trans L0_4.out)
  have L2_5 := Lib.hid ((hc5.block _ (Array.getElem?_eq_some_iff.1 L2_4.out).1).trans L2_4.out)
  have L3_5 := Lib.hid ((hc5.block _ (Array.getElem?_eq_some_iff.1 L3_4.out).1).trans L3_4.out)
  have L4_5 := Lib.hid ((hc5.block _ (Array.getElem?_eq_some_iff.1 L4_4.out).1).trans L4_4.out)
  have L5_5 := HX5
  clear hu5 hc5 hx5 HX5 HC5 HE4 HB4 L0_4 L2_4 L3_4 L4_4
  have HF : Hid (Five w w.heap.size v2.heap.size v3.heap.size v4.heap.size v5.heap.size (scO kx nx X) (scO k n T) (scO k' n' T') u5) := Lib.hid ⟨HE5.out, HB5.out, L0_5.out, L2_5.out, L3_5.out, L4_5.out, L5_5.out⟩
  clear HE5 HB5 L0_5 L2_5 L3_5 L4_5 L5_5 HA HBB HCC HD HC1 HC2 HEE
  obtain ⟨a0, ha0⟩ : ∃ a, w.heap.size = a := ⟨_, rfl⟩
  obtain ⟨a1, ha1⟩ : ∃ a, v2.heap.size = a := ⟨_, rfl⟩
  obtain ⟨a2, ha2⟩ : ∃ a, v3.heap.size = a := ⟨_, rfl⟩
  obtain ⟨a3, ha3⟩ : ∃ a, v4.heap.size = a := ⟨_, rfl⟩
  obtain ⟨a4, ha4⟩ : ∃ a, v5.heap.size = a := ⟨_, rfl⟩
  rw [ha0, ha1, ha2, ha3, ha4] at HF
  have mk : ∀ {g : Nat} {a : Array Value} {x : Bool}, (∀ w, Env w → Calls Tryd.prog g a w fun e w' => e = .returned (.bool x) ∧ Below w.heap.size w w') → Hid (∀ W, Hid (Five w a0 a1 a2 a3 a4 (scO kx nx X) (scO k n T) (scO k' n' T') W) → Calls Tryd.prog g a W fun e W' => e = .returned (.bool x) ∧ Hid (Five w a0 a1 a2 a3 a4 (scO kx nx X) (scO k n T) (scO k' n' T') W')) :=
    fun h => Lib.hid fun W hf => (h W hf.out.env).mono fun e W' hh => ⟨hh.1, Lib.hid (hf.out.step hh.2)⟩
  have GM := mk HM.out
  have GN := mk HN.out
  have GR := mk HR.out
  have GQ := mk HQ.out
  clear mk HM HN HR HQ
  have q := eq_sc
  have q2 := equal_sc
  have qg := guard_sc
  have sm1 := sameB_me k n T
  have sm2 := sameB_me k' n' T'
  obtain ⟨d00, d01, d02⟩ := cells3 HF.out.r0
  obtain ⟨d10, d11, d12⟩ := cells3 HF.out.r1
  obtain ⟨d20, d21, d22⟩ := cells3 HF.out.r2
  obtain ⟨d30, d31, d32⟩ := cells3 HF.out.r3
  obtain ⟨d40, d41, d42⟩ := cells3 HF.out.r4
  go_region_held3 (fun w' => w'.cell? ⟨a0, 0, none⟩ = some (.int .i64 kx) ∧ w'.cell? ⟨a0, 1, none⟩ = some (.int .i64 nx) ∧ w'.cell? ⟨a0, 2, none⟩ = some (.string X) ∧ w'.cell? ⟨a1, 0, none⟩ = some (.int .i64 k) ∧ w'.cell? ⟨a1, 1, none⟩ = some (.int .i64 n) ∧ w'.cell? ⟨a1, 2, none⟩ = some (.string T) ∧ w'.cell? ⟨a2, 0, none⟩ = some (.int .i64 k) ∧ w'.cell? ⟨a2, 1, none⟩ = some (.int .i64 n) ∧ w'.cell? ⟨a2, 2, none⟩ = some (.string T) ∧ w'.cell? ⟨a3, 0, none⟩ = some (.int .i64 k') ∧ w'.cell? ⟨a3, 1, none⟩ = some (.int .i64 n') ∧ w'.cell? ⟨a3, 2, none⟩ = some (.string T') ∧ w'.cell? ⟨a4, 0, none⟩ = some (.int .i64 k') ∧ w'.cell? ⟨a4, 1, none⟩ = some (.int .i64 n') ∧ w'.cell? ⟨a4, 2, none⟩ = some (.string T')) (exact ⟨d00, d01, d02, d10, d11, d12, d20, d21, d22, d30, d31, d32, d40, d41, d42⟩) (first | ((with_reducible refine (GM.out _ (by first | assumption | exact five_drew (by assumption))).mono ?_); rintro e wq ⟨rfl, hf⟩; obtain ⟨d00, d01, d02⟩ := cells3 hf.out.r0; obtain ⟨d10, d11, d12⟩ := cells3 hf.out.r1; obtain ⟨d20, d21, d22⟩ := cells3 hf.out.r2; obtain ⟨d30, d31, d32⟩ := cells3 hf.out.r3; obtain ⟨d40, d41, d42⟩ := cells3 hf.out.r4) | ((with_reducible refine (GN.out _ (by first | assumption | exact five_drew (by assumption))).mono ?_); rintro e wq ⟨rfl, hf⟩; obtain ⟨d00, d01, d02⟩ := cells3 hf.out.r0; obtain ⟨d10, d11, d12⟩ := cells3 hf.out.r1; obtain ⟨d20, d21, d22⟩ := cells3 hf.out.r2; obtain ⟨d30, d31, d32⟩ := cells3 hf.out.r3; obtain ⟨d40, d41, d42⟩ := cells3 hf.out.r4) | ((with_reducible refine (GR.out _ (by first | assumption | exact five_drew (by assumption))).mono ?_); rintro e wq ⟨rfl, hf⟩; obtain ⟨d00, d01, d02⟩ := cells3 hf.out.r0; obtain ⟨d10, d11, d12⟩ := cells3 hf.out.r1; obtain ⟨d20, d21, d22⟩ := cells3 hf.out.r2; obtain ⟨d30, d31, d32⟩ := cells3 hf.out.r3; obtain ⟨d40, d41, d42⟩ := cells3 hf.out.r4) | ((with_reducible refine (GQ.out _ (by first | assumption | exact five_drew (by assumption))).mono ?_); rintro e wq ⟨rfl, hf⟩; obtain ⟨d00, d01, d02⟩ := cells3 hf.out.r0; obtain ⟨d10, d11, d12⟩ := cells3 hf.out.r1; obtain ⟨d20, d21, d22⟩ := cells3 hf.out.r2; obtain ⟨d30, d31, d32⟩ := cells3 hf.out.r3; obtain ⟨d40, d41, d42⟩ := cells3 hf.out.r4))
  all_goals
    go_wp2
    go_ret
    exact ⟨rfl, by first | exact (hf : Hid _).out.below | exact (five_drew hf).out.below⟩
end Go.Proofs.YtimbidbpfdaocaaDoor
