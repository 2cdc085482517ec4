/- What is wrong with a graph, which are the same, kids and keys of nodes: the walk of the law. Conditions: the contracts of what is called. -/
import Derived.Test.YtfpcjdopfodfnaaGreatDoorRck
import Derived.Test.YtfpcjdopfodfnaaGreatDoorRfd
import Derived.Test.YtfpcjdopfodfnaaGreatDoorRsm
import Derived.Test.YtfpcjdopfodfnaaGreatDoorRky
import Derived.Deep.RegionHeld3
import Derived.BigQuiet
set_option maxRecDepth 100000
namespace Go.Proofs.YtfpcjdopfodfnaaGreatDoor
open Go.RowKit Go.Shelf
open Scs
theorem GO.keepT {b : Nat} {W W' : World} {v : Value} {L : List Fn} (h : GO b W v L) (hk : ∀ g, b ≤ g → g < W.heap.size → W'.heap[g]? = W.heap[g]?) : GO b W' v L :=
  ⟨own_keepG h.row fun g hv => hk g (own_lt h.row g hv).1 (own_lt h.row g hv).2, fun f hf => (h.nodes f hf).keep (fun g hv => hk g (own_lt (h.nodes f hf).ks g hv).1 (own_lt (h.nodes f hf).ks g hv).2) (fun g hv => hk g (own_lt (h.nodes f hf).ds g hv).1 (own_lt (h.nodes f hf).ds g hv).2)⟩
theorem sameF_self (f : Fn) : sameF f f = true := by unfold sameF; simp
theorem sameG_self (r : Int) (a : Array Fn) : sameG r r a a = true := by
  unfold sameG sameNs
  rw [if_pos rfl]
  exact decide_eq_true ⟨rfl, fun j _ => sameF_self _⟩
/-- what the last line reads -/
abbrev S4 (B : Nat) (root : Int) (q : Option Addr) (n c : Nat) (root2 : Int) (q2 : Option Addr) (n2 c2 : Nat) (wo W : World) : Prop :=
  W.cell? ⟨B, 0, none⟩ = some (.int .i64 root) ∧ W.cell? ⟨B, 1, none⟩ = some (.slice q n c) ∧ W.cell? ⟨B + 1, 0, none⟩ = some (.int .i64 root2) ∧ W.cell? ⟨B + 1, 1, none⟩ = some (.slice q2 n2 c2) ∧ Below wo.heap.size wo W
theorem s4_step {B : Nat} {root : Int} {q : Option Addr} {n c : Nat} {root2 : Int} {q2 : Option Addr} {n2 c2 : Nat} {wo W W' : World} (h : S4 B root q n c root2 q2 n2 c2 wo W) (hb : Below W.heap.size W W') : S4 B root q n c root2 q2 n2 c2 wo W' := by
  obtain ⟨h0, h1, h2, h3, hbb⟩ := h
  exact ⟨(hb.cell (block_lt_of_cell h0)).trans h0, (hb.cell (block_lt_of_cell h1)).trans h1, (hb.cell (block_lt_of_cell h2)).trans h2, (hb.cell (block_lt_of_cell h3)).trans h3, hbb.trans (hb.mono hbb.size)⟩
theorem s4_drew {B : Nat} {root : Int} {q : Option Addr} {n c : Nat} {root2 : Int} {q2 : Option Addr} {n2 c2 : Nat} {wo W : World} (h : S4 B root q n c root2 q2 n2 c2 wo W) : S4 B root q n c root2 q2 n2 c2 wo W.drew := s4_step h (Below.refl _ W).drew
set_option maxHeartbeats 16000000 in
theorem walkArenaTells (root : Int) (L : Array Fn) (p : Option Addr) (cap : Nat) (root2 : Int) (L2 : Array Fn) (p2 : Option Addr) (cap2 : Nat) (i : Int) (x : Sc) (w : World) (E : Env w) (hL : GlR w p L) (hM : GlR w p2 L2) :
    Calls Tryz.prog 3 #[.agg #[.int .i64 root, .slice p L.size cap], .agg #[.int .i64 root2, .slice p2 L2.size cap2], .int .i64 i, .agg #[.int .i64 x.1, .int .i64 x.2.1, .string x.2.2]] w fun e w' => e = .returned (.bool true) ∧ Below w.heap.size w w' := by
  have HEE := Lib.hid E
  have HMM := Lib.hid hM
  obtain ⟨v0, hv0⟩ : ∃ v, (((w.alloc (.cells #[.int .i64 root, .slice p L.size cap] 24)).alloc (.cells #[.int .i64 root2, .slice p2 L2.size cap2] 24)).alloc (.cells #[.int .i64 x.1, .int .i64 x.2.1, .string x.2.2] 26)) = v := ⟨_, rfl⟩
  have hb0 : Below w.heap.size w v0 := by rw [← hv0]; exact ((((Below.refl _ w).alloc (Nat.le_refl _) _).alloc (by simp) _).alloc (by simp; omega) _)
  have r0 : v0.heap[w.heap.size]? = some (.cells #[.int .i64 root, .slice p L.size cap] 24) := by
    rw [← hv0]
    rw [Below.heap_alloc _ _ _ (by first | (simp; done) | (simp; omega))]
    rw [Below.heap_alloc _ _ _ (by first | (simp; done) | (simp; omega))]
    have h := heap_alloc_new w (.cells #[.int .i64 root, .slice p L.size cap] 24)
    exact h
  have r1 : v0.heap[w.heap.size + 1]? = some (.cells #[.int .i64 root2, .slice p2 L2.size cap2] 24) := by
    rw [← hv0]
    rw [Below.heap_alloc _ _ _ (by first | (simp; done) | (simp; omega))]
    have h := heap_alloc_new (w.alloc (.cells #[.int .i64 root, .slice p L.size cap] 24)) (.cells #[.int .i64 root2, .slice p2 L2.size cap2] 24)
    rw [World.size_alloc] at h
    exact h
  have r2 : v0.heap[w.heap.size + 2]? = some (.cells #[.int .i64 x.1, .int .i64 x.2.1, .string x.2.2] 26) := by
    rw [← hv0]
    have h := heap_alloc_new ((w.alloc (.cells #[.int .i64 root, .slice p L.size cap] 24)).alloc (.cells #[.int .i64 root2, .slice p2 L2.size cap2] 24)) (.cells #[.int .i64 x.1, .int .i64 x.2.1, .string x.2.2] 26)
    rw [World.size_alloc, World.size_alloc] at h
    exact h
  have HE0 := Lib.hid (E.below hb0)
  have HL0 := Lib.hid (hL.below hb0)
  have HB0 := Lib.hid hb0
  have R0_0 := Lib.hid r0
  have R0_1 := Lib.hid r1
  have R0_2 := Lib.hid r2
  have HV0 := Lib.hid hv0
  clear hv0 hb0 E hL hM r0 r1 r2
  go_enter Tryz.func3, Tryz.ntmps3
  go_wp2_with fail
  rw [HV0.out]
  refine (shown_any _ HE0.out).mono ?_
  rintro e v1 ⟨rfl, hb⟩
  have R1_0 := Lib.hid ((hb.block _ (Array.getElem?_eq_some_iff.1 R0_0.out).1).trans R0_0.out)
  have R1_1 := Lib.hid ((hb.block _ (Array.getElem?_eq_some_iff.1 R0_1.out).1).trans R0_1.out)
  have R1_2 := Lib.hid ((hb.block _ (Array.getElem?_eq_some_iff.1 R0_2.out).1).trans R0_2.out)
  have HE1 := Lib.hid (HE0.out.below hb)
  have HB1 := Lib.hid (HB0.out.trans (hb.mono HB0.out.size))
  have HL1 := Lib.hid (HL0.out.below hb)
  clear hb
  have hs1 : w.heap.size + 2 < v1.heap.size := (Array.getElem?_eq_some_iff.1 R1_2.out).1
  have HS1 := Lib.hid hs1
  clear hs1
  have a0 := cell_of_row _ _ 0 _ _ _ R1_0.out
  have a1 := cell_of_row _ _ 1 _ _ _ R1_0.out
  have b0 := cell_of_row _ _ 0 _ _ _ R1_1.out
  have b1 := cell_of_row _ _ 1 _ _ _ R1_1.out
  have k0 := cell_of_row _ _ 0 _ _ _ R1_2.out
  have k1 := cell_of_row _ _ 1 _ _ _ R1_2.out
  have k2 := cell_of_row _ _ 2 _ _ _ R1_2.out
  go_wp2_with fail
  refine (Cut07_any root L p cap v1 HL1.out).mono ?_
  rintro e v2 ⟨q, n, c, rfl, ⟨L', hn, h201, hgo⟩, hb⟩
  clear a0 a1 b0 b1 k0 k1 k2
  have R2_0 := Lib.hid ((hb.block _ (Array.getElem?_eq_some_iff.1 R1_0.out).1).trans R1_0.out)
  have R2_1 := Lib.hid ((hb.block _ (Array.getElem?_eq_some_iff.1 R1_1.out).1).trans R1_1.out)
  have R2_2 := Lib.hid ((hb.block _ (Array.getElem?_eq_some_iff.1 R1_2.out).1).trans R1_2.out)
  have HE2 := Lib.hid (HE1.out.below hb)
  have HB2 := Lib.hid (HB1.out.trans (hb.mono HB1.out.size))
  have HNa := Lib.hid hn
  have HZ12 := Lib.hid hb.size
  have HTa := Lib.hid h201
  have HGa2 := Lib.hid hgo
  clear hn h201 hgo
  clear hb
  have a0 := cell_of_row _ _ 0 _ _ _ R2_0.out
  have a1 := cell_of_row _ _ 1 _ _ _ R2_0.out
  have b0 := cell_of_row _ _ 0 _ _ _ R2_1.out
  have b1 := cell_of_row _ _ 1 _ _ _ R2_1.out
  have k0 := cell_of_row _ _ 0 _ _ _ R2_2.out
  have k1 := cell_of_row _ _ 1 _ _ _ R2_2.out
  have k2 := cell_of_row _ _ 2 _ _ _ R2_2.out
  have f0 := frozen_of_row _ _ 0 _ _ R2_0.out
  have f1 := frozen_of_row _ _ 1 _ _ R2_0.out
  go_upto_region 3 with fail
  obtain ⟨v3, hv⟩ : ∃ v, ((v2.setCell ⟨w.heap.size, 0, none⟩ (.int .i64 root)).setCell ⟨w.heap.size, 1, none⟩ (.slice q n c)) = v := ⟨_, rfl⟩
  rw [hv]
  have r := (heap_setCell_same _ (w.heap.size) 1 _ _ (.slice q n c) (heap_setCell_same v2 (w.heap.size) 0 _ _ (.int .i64 root) R2_0.out))
  rw [hv] at r
  have g : v2.grownBy v3 (some (w.heap.size)) := by rw [← hv]; exact (gB_setCell (gB_setCell (gB_refl _ _) _ _) _ _)
  have hbs : Below w.heap.size v2 v3 := below_of_grown g (by omega) HB2.out.size
  have R3_0 := Lib.hid r
  have R3_1 := Lib.hid ((g.block _ (Array.getElem?_eq_some_iff.1 R2_1.out).1 (by simp; try omega)).trans R2_1.out)
  have R3_2 := Lib.hid ((g.block _ (Array.getElem?_eq_some_iff.1 R2_2.out).1 (by simp; try omega)).trans R2_2.out)
  have HB3 := Lib.hid (HB2.out.trans hbs)
  have HE3 := Lib.hid (HEE.out.below HB3.out)
  have HGa3 : Hid (GO v1.heap.size v3 (.slice q n c) L') := Lib.hid (GO.keepB HGa2.out g (by have := HS1.out; omega))
  have HM3 := Lib.hid (HMM.out.below HB3.out)
  have HS3 := Lib.hid (show v1.heap.size ≤ v3.heap.size from Nat.le_trans HZ12.out hbs.size)
  clear a0 a1 b0 b1 k0 k1 k2
  clear f0 f1 hv r g hbs
  have a0 := cell_of_row _ _ 0 _ _ _ R3_0.out
  have a1 := cell_of_row _ _ 1 _ _ _ R3_0.out
  have b0 := cell_of_row _ _ 0 _ _ _ R3_1.out
  have b1 := cell_of_row _ _ 1 _ _ _ R3_1.out
  have k0 := cell_of_row _ _ 0 _ _ _ R3_2.out
  have k1 := cell_of_row _ _ 1 _ _ _ R3_2.out
  have k2 := cell_of_row _ _ 2 _ _ _ R3_2.out
  go_wp2_with fail
  refine (Cut07_any root2 L2 p2 cap2 v3 HM3.out).mono ?_
  rintro e v4 ⟨q2, n2, c2, rfl, ⟨L2', hn, h201, hgo⟩, hb⟩
  clear a0 a1 b0 b1 k0 k1 k2
  have R4_0 := Lib.hid ((hb.block _ (Array.getElem?_eq_some_iff.1 R3_0.out).1).trans R3_0.out)
  have R4_1 := Lib.hid ((hb.block _ (Array.getElem?_eq_some_iff.1 R3_1.out).1).trans R3_1.out)
  have R4_2 := Lib.hid ((hb.block _ (Array.getElem?_eq_some_iff.1 R3_2.out).1).trans R3_2.out)
  have HE4 := Lib.hid (HE3.out.below hb)
  have HB4 := Lib.hid (HB3.out.trans (hb.mono HB3.out.size))
  have HNb := Lib.hid hn
  have HTb := Lib.hid h201
  have HGb4 := Lib.hid hgo
  have HGa4 := Lib.hid (GO.keepT HGa3.out fun g _ hg => hb.block g hg)
  clear hn h201 hgo
  clear hb
  have a0 := cell_of_row _ _ 0 _ _ _ R4_0.out
  have a1 := cell_of_row _ _ 1 _ _ _ R4_0.out
  have b0 := cell_of_row _ _ 0 _ _ _ R4_1.out
  have b1 := cell_of_row _ _ 1 _ _ _ R4_1.out
  have k0 := cell_of_row _ _ 0 _ _ _ R4_2.out
  have k1 := cell_of_row _ _ 1 _ _ _ R4_2.out
  have k2 := cell_of_row _ _ 2 _ _ _ R4_2.out
  have f0 := frozen_of_row _ _ 0 _ _ R4_1.out
  have f1 := frozen_of_row _ _ 1 _ _ R4_1.out
  go_upto_region 4 with fail
  obtain ⟨v5, hv⟩ : ∃ v, ((v4.setCell ⟨w.heap.size + 1, 0, none⟩ (.int .i64 root2)).setCell ⟨w.heap.size + 1, 1, none⟩ (.slice q2 n2 c2)) = v := ⟨_, rfl⟩
  rw [hv]
  have r := (heap_setCell_same _ (w.heap.size + 1) 1 _ _ (.slice q2 n2 c2) (heap_setCell_same v4 (w.heap.size + 1) 0 _ _ (.int .i64 root2) R4_1.out))
  rw [hv] at r
  have g : v4.grownBy v5 (some (w.heap.size + 1)) := by rw [← hv]; exact (gB_setCell (gB_setCell (gB_refl _ _) _ _) _ _)
  have hbs : Below w.heap.size v4 v5 := below_of_grown g (by omega) HB4.out.size
  have R5_0 := Lib.hid ((g.block _ (Array.getElem?_eq_some_iff.1 R4_0.out).1 (by simp; try omega)).trans R4_0.out)
  have R5_1 := Lib.hid r
  have R5_2 := Lib.hid ((g.block _ (Array.getElem?_eq_some_iff.1 R4_2.out).1 (by simp; try omega)).trans R4_2.out)
  have HB5 := Lib.hid (HB4.out.trans hbs)
  have HE5 := Lib.hid (HEE.out.below HB5.out)
  have HGa5 : Hid (GO v1.heap.size v5 (.slice q n c) L') := Lib.hid (GO.keepB HGa4.out g (by have := HS1.out; omega))
  have HGb5 : Hid (GO v3.heap.size v5 (.slice q2 n2 c2) L2') := Lib.hid (GO.keepB HGb4.out g (by have := HS1.out; have := HS3.out; omega))
  clear a0 a1 b0 b1 k0 k1 k2
  clear f0 f1 hv r g hbs
  have HCX := Lib.hid fun w => Cut_any x w
  unfold aggS at HCX
  have hXs : (cutS x).2.2.size ≤ 100 := cutT_size _
  obtain ⟨X, hX⟩ : ∃ X, cutS x = X := ⟨_, rfl⟩
  rw [hX] at HCX hXs
  clear hX hXs
  have a0 := cell_of_row _ _ 0 _ _ _ R5_0.out
  have a1 := cell_of_row _ _ 1 _ _ _ R5_0.out
  have b0 := cell_of_row _ _ 0 _ _ _ R5_1.out
  have b1 := cell_of_row _ _ 1 _ _ _ R5_1.out
  have k0 := cell_of_row _ _ 0 _ _ _ R5_2.out
  have k1 := cell_of_row _ _ 1 _ _ _ R5_2.out
  have k2 := cell_of_row _ _ 2 _ _ _ R5_2.out
  go_wp2_with fail
  refine (HCX.out v5).mono ?_
  rintro e v6 ⟨rfl, hb⟩
  clear a0 a1 b0 b1 k0 k1 k2
  have R6_0 := Lib.hid ((hb.block _ (Array.getElem?_eq_some_iff.1 R5_0.out).1).trans R5_0.out)
  have R6_1 := Lib.hid ((hb.block _ (Array.getElem?_eq_some_iff.1 R5_1.out).1).trans R5_1.out)
  have R6_2 := Lib.hid ((hb.block _ (Array.getElem?_eq_some_iff.1 R5_2.out).1).trans R5_2.out)
  have HE6 := Lib.hid (HE5.out.below hb)
  have HB6 := Lib.hid (HB5.out.trans (hb.mono HB5.out.size))
  have HGa6 := Lib.hid (GO.keepT HGa5.out fun g _ hg => hb.block g hg)
  have HGb6 := Lib.hid (GO.keepT HGb5.out fun g _ hg => hb.block g hg)
  clear hb
  have a0 := cell_of_row _ _ 0 _ _ _ R6_0.out
  have a1 := cell_of_row _ _ 1 _ _ _ R6_0.out
  have b0 := cell_of_row _ _ 0 _ _ _ R6_1.out
  have b1 := cell_of_row _ _ 1 _ _ _ R6_1.out
  have k0 := cell_of_row _ _ 0 _ _ _ R6_2.out
  have k1 := cell_of_row _ _ 1 _ _ _ R6_2.out
  have k2 := cell_of_row _ _ 2 _ _ _ R6_2.out
  have f0 := frozen_of_row _ _ 0 _ _ R6_2.out
  have f1 := frozen_of_row _ _ 1 _ _ R6_2.out
  have f2 := frozen_of_row _ _ 2 _ _ R6_2.out
  go_upto_region 5 with fail
  obtain ⟨v7, hv⟩ : ∃ v, (((v6.setCell ⟨w.heap.size + 2, 0, none⟩ (.int .i64 X.1)).setCell ⟨w.heap.size + 2, 1, none⟩ (.int .i64 X.2.1)).setCell ⟨w.heap.size + 2, 2, none⟩ (.string X.2.2)) = v := ⟨_, rfl⟩
  rw [hv]
  have r := (heap_setCell_same _ (w.heap.size + 2) 2 _ _ (.string X.2.2) (heap_setCell_same _ (w.heap.size + 2) 1 _ _ (.int .i64 X.2.1) (heap_setCell_same v6 (w.heap.size + 2) 0 _ _ (.int .i64 X.1) R6_2.out)))
  rw [hv] at r
  have g : v6.grownBy v7 (some (w.heap.size + 2)) := by rw [← hv]; exact (gB_setCell (gB_setCell (gB_setCell (gB_refl _ _) _ _) _ _) _ _)
  have hbs : Below w.heap.size v6 v7 := below_of_grown g (by omega) HB6.out.size
  have R7_0 := Lib.hid ((g.block _ (Array.getElem?_eq_some_iff.1 R6_0.out).1 (by simp; try omega)).trans R6_0.out)
  have R7_1 := Lib.hid ((g.block _ (Array.getElem?_eq_some_iff.1 R6_1.out).1 (by simp; try omega)).trans R6_1.out)
  have R7_2 := Lib.hid r
  have HB7 := Lib.hid (HB6.out.trans hbs)
  have HE7 := Lib.hid (HEE.out.below HB7.out)
  have HGa7 : Hid (GO v1.heap.size v7 (.slice q n c) L') := Lib.hid (GO.keepB HGa6.out g (by have := HS1.out; omega))
  have HGb7 : Hid (GO v3.heap.size v7 (.slice q2 n2 c2) L2') := Lib.hid (GO.keepB HGb6.out g (by have := HS1.out; have := HS3.out; omega))
  clear a0 a1 b0 b1 k0 k1 k2
  clear f0 f1 f2 hv r g hbs
  have HP7 := Lib.hid (HGa7.out.gl HNa.out HTa.out)
  have HQ7 := Lib.hid (HGb7.out.gl HNb.out HTb.out)
  have HK := Lib.hid HGa7.out.k12
  have hDn : L'.toArray.size = n := by rw [List.size_toArray]; exact HNa.out
  have hDm : L2'.toArray.size = n2 := by rw [List.size_toArray]; exact HNb.out
  obtain ⟨D, hD⟩ : ∃ D, L'.toArray = D := ⟨_, rfl⟩
  obtain ⟨D2, hD2⟩ : ∃ D, L2'.toArray = D := ⟨_, rfl⟩
  rw [hD] at HP7 HK hDn
  rw [hD2] at HQ7 hDm
  have HDN := Lib.hid hDn
  have HDM := Lib.hid hDm
  have hCK := fun W E G => Check_any root D q c W E G
  have hCR := fun W G => Check13_any root D q c W G
  have hKD := fun W E G => Kids_any root D q c i W E G HK.out
  have hKR := fun W G => Kids15_any root D q c i W G
  have hKY := fun W E G => Keys_any root D q c i W E G
  have hYR := fun W G => Keys17_any root D q c i W G
  have hFI := fun W G => Find_any root D q c i X W G
  have hFR := fun W G => Find19_any root D q c i X W G
  have hSA := fun W G G2 => Same_any root root2 D D2 q q2 c c2 W G G2
  have hSR := fun W G G2 => Same21_any root root2 D D2 q q2 c c2 W G G2
  have hSS := fun W G => Same_any root root D D q q c c W G G
  rw [sameG_self] at hSS
  unfold aggS at hFI
  obtain ⟨⟨a1r, e1r⟩, hr1⟩ : ∃ r, checkG root D.toList = r := ⟨_, rfl⟩
  obtain ⟨⟨ds, de⟩, hr2⟩ : ∃ r, kidsG D i = r := ⟨_, rfl⟩
  obtain ⟨⟨ks, ke⟩, hr3⟩ : ∃ r, keysG D i = r := ⟨_, rfl⟩
  obtain ⟨⟨fz, fo⟩, hr4⟩ : ∃ r, findG D i X = r := ⟨_, rfl⟩
  obtain ⟨sb, hr5⟩ : ∃ r, sameG root root2 D D2 = r := ⟨_, rfl⟩
  rw [hr1] at hCK hCR
  rw [hr2] at hKD hKR
  rw [hr3] at hKY hYR
  rw [hr4] at hFI hFR
  rw [hr5] at hSA hSR
  rw [hDn] at hCK hCR hKD hKR hKY hYR hFI hFR hSA hSR hSS
  rw [hDm] at hSA hSR
  have HCK := Lib.hid hCK
  have HCR := Lib.hid hCR
  have HKD := Lib.hid hKD
  have HKR := Lib.hid hKR
  have HKY := Lib.hid hKY
  have HYR := Lib.hid hYR
  have HFI := Lib.hid hFI
  have HFR := Lib.hid hFR
  have HSA := Lib.hid hSA
  have HSR := Lib.hid hSR
  have HSS := Lib.hid hSS
  clear hCK hCR hKD hKR hKY hYR hFI hFR hSA hSR hSS hr1 hr2 hr3 hr4 hr5 hDn hDm hD hD2
  obtain ⟨nd, hnd⟩ : ∃ m, ds.length = m := ⟨_, rfl⟩
  obtain ⟨nk, hnk⟩ : ∃ m, ks.length = m := ⟨_, rfl⟩
  rw [hnd] at HKD HKR
  rw [hnk] at HKY HYR
  have HND := Lib.hid hnd
  have HNK := Lib.hid hnk
  clear hnd hnk
  have a0 := cell_of_row _ _ 0 _ _ _ R7_0.out
  have a1 := cell_of_row _ _ 1 _ _ _ R7_0.out
  have b0 := cell_of_row _ _ 0 _ _ _ R7_1.out
  have b1 := cell_of_row _ _ 1 _ _ _ R7_1.out
  have k0 := cell_of_row _ _ 0 _ _ _ R7_2.out
  have k1 := cell_of_row _ _ 1 _ _ _ R7_2.out
  have k2 := cell_of_row _ _ 2 _ _ _ R7_2.out
  go_wp2_with fail
  refine (HCK.out v7 HE7.out HP7.out).mono ?_
  rintro e v8 ⟨rfl, hb⟩
  clear a0 a1 b0 b1 k0 k1 k2
  have R8_0 := Lib.hid ((hb.block _ (Array.getElem?_eq_some_iff.1 R7_0.out).1).trans R7_0.out)
  have R8_1 := Lib.hid ((hb.block _ (Array.getElem?_eq_some_iff.1 R7_1.out).1).trans R7_1.out)
  have R8_2 := Lib.hid ((hb.block _ (Array.getElem?_eq_some_iff.1 R7_2.out).1).trans R7_2.out)
  have HE8 := Lib.hid (HE7.out.below hb)
  have HB8 := Lib.hid (HB7.out.trans (hb.mono HB7.out.size))
  have HP8 := Lib.hid (HP7.out.below hb)
  have HQ8 := Lib.hid (HQ7.out.below hb)
  clear hb
  have a0 := cell_of_row _ _ 0 _ _ _ R8_0.out
  have a1 := cell_of_row _ _ 1 _ _ _ R8_0.out
  have b0 := cell_of_row _ _ 0 _ _ _ R8_1.out
  have b1 := cell_of_row _ _ 1 _ _ _ R8_1.out
  have k0 := cell_of_row _ _ 0 _ _ _ R8_2.out
  have k1 := cell_of_row _ _ 1 _ _ _ R8_2.out
  have k2 := cell_of_row _ _ 2 _ _ _ R8_2.out
  go_wp2_with fail
  refine (HCR.out v8 HP8.out).mono ?_
  rintro e v9 ⟨rfl, hb⟩
  clear a0 a1 b0 b1 k0 k1 k2
  have R9_0 := Lib.hid ((hb.block _ (Array.getElem?_eq_some_iff.1 R8_0.out).1).trans R8_0.out)
  have R9_1 := Lib.hid ((hb.block _ (Array.getElem?_eq_some_iff.1 R8_1.out).1).trans R8_1.out)
  have R9_2 := Lib.hid ((hb.block _ (Array.getElem?_eq_some_iff.1 R8_2.out).1).trans R8_2.out)
  have HE9 := Lib.hid (HE8.out.below hb)
  have HB9 := Lib.hid (HB8.out.trans (hb.mono HB8.out.size))
  have HP9 := Lib.hid (HP8.out.below hb)
  have HQ9 := Lib.hid (HQ8.out.below hb)
  clear hb
  have a0 := cell_of_row _ _ 0 _ _ _ R9_0.out
  have a1 := cell_of_row _ _ 1 _ _ _ R9_0.out
  have b0 := cell_of_row _ _ 0 _ _ _ R9_1.out
  have b1 := cell_of_row _ _ 1 _ _ _ R9_1.out
  have k0 := cell_of_row _ _ 0 _ _ _ R9_2.out
  have k1 := cell_of_row _ _ 1 _ _ _ R9_2.out
  have k2 := cell_of_row _ _ 2 _ _ _ R9_2.out
  go_wp2_with fail
  refine (HKD.out v9 HE9.out HP9.out).mono ?_
  rintro e v10 ⟨dq, dc, rfl, hi, hb⟩
  clear a0 a1 b0 b1 k0 k1 k2
  have R10_0 := Lib.hid ((hb.block _ (Array.getElem?_eq_some_iff.1 R9_0.out).1).trans R9_0.out)
  have R10_1 := Lib.hid ((hb.block _ (Array.getElem?_eq_some_iff.1 R9_1.out).1).trans R9_1.out)
  have R10_2 := Lib.hid ((hb.block _ (Array.getElem?_eq_some_iff.1 R9_2.out).1).trans R9_2.out)
  have HE10 := Lib.hid (HE9.out.below hb)
  have HB10 := Lib.hid (HB9.out.trans (hb.mono HB9.out.size))
  have HP10 := Lib.hid (HP9.out.below hb)
  have HQ10 := Lib.hid (HQ9.out.below hb)
  have HIa10 := Lib.hid hi
  clear hi
  clear hb
  have a0 := cell_of_row _ _ 0 _ _ _ R10_0.out
  have a1 := cell_of_row _ _ 1 _ _ _ R10_0.out
  have b0 := cell_of_row _ _ 0 _ _ _ R10_1.out
  have b1 := cell_of_row _ _ 1 _ _ _ R10_1.out
  have k0 := cell_of_row _ _ 0 _ _ _ R10_2.out
  have k1 := cell_of_row _ _ 1 _ _ _ R10_2.out
  have k2 := cell_of_row _ _ 2 _ _ _ R10_2.out
  go_wp2_with fail
  refine (HKR.out v10 HP10.out).mono ?_
  rintro e v11 ⟨dq2, dc2, rfl, hi, hb⟩
  clear a0 a1 b0 b1 k0 k1 k2
  have R11_0 := Lib.hid ((hb.block _ (Array.getElem?_eq_some_iff.1 R10_0.out).1).trans R10_0.out)
  have R11_1 := Lib.hid ((hb.block _ (Array.getElem?_eq_some_iff.1 R10_1.out).1).trans R10_1.out)
  have R11_2 := Lib.hid ((hb.block _ (Array.getElem?_eq_some_iff.1 R10_2.out).1).trans R10_2.out)
  have HE11 := Lib.hid (HE10.out.below hb)
  have HB11 := Lib.hid (HB10.out.trans (hb.mono HB10.out.size))
  have HP11 := Lib.hid (HP10.out.below hb)
  have HQ11 := Lib.hid (HQ10.out.below hb)
  have HIa11 := Lib.hid (HIa10.out.below hb)
  have HIb11 := Lib.hid hi
  clear hi
  clear hb
  have a0 := cell_of_row _ _ 0 _ _ _ R11_0.out
  have a1 := cell_of_row _ _ 1 _ _ _ R11_0.out
  have b0 := cell_of_row _ _ 0 _ _ _ R11_1.out
  have b1 := cell_of_row _ _ 1 _ _ _ R11_1.out
  have k0 := cell_of_row _ _ 0 _ _ _ R11_2.out
  have k1 := cell_of_row _ _ 1 _ _ _ R11_2.out
  have k2 := cell_of_row _ _ 2 _ _ _ R11_2.out
  go_wp2_with fail
  refine (HKY.out v11 HE11.out HP11.out).mono ?_
  rintro e v12 ⟨kq, kc, rfl, hi, hb⟩
  clear a0 a1 b0 b1 k0 k1 k2
  have R12_0 := Lib.hid ((hb.block _ (Array.getElem?_eq_some_iff.1 R11_0.out).1).trans R11_0.out)
  have R12_1 := Lib.hid ((hb.block _ (Array.getElem?_eq_some_iff.1 R11_1.out).1).trans R11_1.out)
  have R12_2 := Lib.hid ((hb.block _ (Array.getElem?_eq_some_iff.1 R11_2.out).1).trans R11_2.out)
  have HE12 := Lib.hid (HE11.out.below hb)
  have HB12 := Lib.hid (HB11.out.trans (hb.mono HB11.out.size))
  have HP12 := Lib.hid (HP11.out.below hb)
  have HQ12 := Lib.hid (HQ11.out.below hb)
  have HIa12 := Lib.hid (HIa11.out.below hb)
  have HIb12 := Lib.hid (HIb11.out.below hb)
  have HYa12 := Lib.hid hi
  clear hi
  clear hb
  have a0 := cell_of_row _ _ 0 _ _ _ R12_0.out
  have a1 := cell_of_row _ _ 1 _ _ _ R12_0.out
  have b0 := cell_of_row _ _ 0 _ _ _ R12_1.out
  have b1 := cell_of_row _ _ 1 _ _ _ R12_1.out
  have k0 := cell_of_row _ _ 0 _ _ _ R12_2.out
  have k1 := cell_of_row _ _ 1 _ _ _ R12_2.out
  have k2 := cell_of_row _ _ 2 _ _ _ R12_2.out
  go_wp2_with fail
  refine (HYR.out v12 HP12.out).mono ?_
  rintro e v13 ⟨kq2, kc2, rfl, hi, hb⟩
  clear a0 a1 b0 b1 k0 k1 k2
  have R13_0 := Lib.hid ((hb.block _ (Array.getElem?_eq_some_iff.1 R12_0.out).1).trans R12_0.out)
  have R13_1 := Lib.hid ((hb.block _ (Array.getElem?_eq_some_iff.1 R12_1.out).1).trans R12_1.out)
  have R13_2 := Lib.hid ((hb.block _ (Array.getElem?_eq_some_iff.1 R12_2.out).1).trans R12_2.out)
  have HE13 := Lib.hid (HE12.out.below hb)
  have HB13 := Lib.hid (HB12.out.trans (hb.mono HB12.out.size))
  have HP13 := Lib.hid (HP12.out.below hb)
  have HQ13 := Lib.hid (HQ12.out.below hb)
  have HIa13 := Lib.hid (HIa12.out.below hb)
  have HIb13 := Lib.hid (HIb12.out.below hb)
  have HYa13 := Lib.hid (HYa12.out.below hb)
  have HYb13 := Lib.hid hi
  clear hi
  clear hb
  have a0 := cell_of_row _ _ 0 _ _ _ R13_0.out
  have a1 := cell_of_row _ _ 1 _ _ _ R13_0.out
  have b0 := cell_of_row _ _ 0 _ _ _ R13_1.out
  have b1 := cell_of_row _ _ 1 _ _ _ R13_1.out
  have k0 := cell_of_row _ _ 0 _ _ _ R13_2.out
  have k1 := cell_of_row _ _ 1 _ _ _ R13_2.out
  have k2 := cell_of_row _ _ 2 _ _ _ R13_2.out
  go_wp2_with fail
  refine (HFI.out v13 HP13.out).mono ?_
  rintro e v14 ⟨rfl, hb⟩
  clear a0 a1 b0 b1 k0 k1 k2
  have R14_0 := Lib.hid ((hb.block _ (Array.getElem?_eq_some_iff.1 R13_0.out).1).trans R13_0.out)
  have R14_1 := Lib.hid ((hb.block _ (Array.getElem?_eq_some_iff.1 R13_1.out).1).trans R13_1.out)
  have R14_2 := Lib.hid ((hb.block _ (Array.getElem?_eq_some_iff.1 R13_2.out).1).trans R13_2.out)
  have HE14 := Lib.hid (HE13.out.below hb)
  have HB14 := Lib.hid (HB13.out.trans (hb.mono HB13.out.size))
  have HP14 := Lib.hid (HP13.out.below hb)
  have HQ14 := Lib.hid (HQ13.out.below hb)
  have HIa14 := Lib.hid (HIa13.out.below hb)
  have HIb14 := Lib.hid (HIb13.out.below hb)
  have HYa14 := Lib.hid (HYa13.out.below hb)
  have HYb14 := Lib.hid (HYb13.out.below hb)
  clear hb
  have a0 := cell_of_row _ _ 0 _ _ _ R14_0.out
  have a1 := cell_of_row _ _ 1 _ _ _ R14_0.out
  have b0 := cell_of_row _ _ 0 _ _ _ R14_1.out
  have b1 := cell_of_row _ _ 1 _ _ _ R14_1.out
  have k0 := cell_of_row _ _ 0 _ _ _ R14_2.out
  have k1 := cell_of_row _ _ 1 _ _ _ R14_2.out
  have k2 := cell_of_row _ _ 2 _ _ _ R14_2.out
  go_wp2_with fail
  refine (HFR.out v14 HP14.out).mono ?_
  rintro e v15 ⟨rfl, hb⟩
  clear a0 a1 b0 b1 k0 k1 k2
  have R15_0 := Lib.hid ((hb.block _ (Array.getElem?_eq_some_iff.1 R14_0.out).1).trans R14_0.out)
  have R15_1 := Lib.hid ((hb.block _ (Array.getElem?_eq_some_iff.1 R14_1.out).1).trans R14_1.out)
  have R15_2 := Lib.hid ((hb.block _ (Array.getElem?_eq_some_iff.1 R14_2.out).1).trans R14_2.out)
  have HE15 := Lib.hid (HE14.out.below hb)
  have HB15 := Lib.hid (HB14.out.trans (hb.mono HB14.out.size))
  have HP15 := Lib.hid (HP14.out.below hb)
  have HQ15 := Lib.hid (HQ14.out.below hb)
  have HIa15 := Lib.hid (HIa14.out.below hb)
  have HIb15 := Lib.hid (HIb14.out.below hb)
  have HYa15 := Lib.hid (HYa14.out.below hb)
  have HYb15 := Lib.hid (HYb14.out.below hb)
  clear hb
  have hin := fun w' a b => ints_any ds.toArray ds.toArray dq dq2 dc dc2 w' a b
  have his := fun w' a b => sameS_any ks.toArray ks.toArray kq kq2 kc kc2 w' a b
  rw [decide_eq_true rfl, List.size_toArray, HND.out] at hin
  rw [decide_eq_true rfl, List.size_toArray, HNK.out] at his
  have HIN := Lib.hid hin
  have HIS := Lib.hid his
  clear hin his
  have a0 := cell_of_row _ _ 0 _ _ _ R15_0.out
  have a1 := cell_of_row _ _ 1 _ _ _ R15_0.out
  have b0 := cell_of_row _ _ 0 _ _ _ R15_1.out
  have b1 := cell_of_row _ _ 1 _ _ _ R15_1.out
  have k0 := cell_of_row _ _ 0 _ _ _ R15_2.out
  have k1 := cell_of_row _ _ 1 _ _ _ R15_2.out
  have k2 := cell_of_row _ _ 2 _ _ _ R15_2.out
  have hS : Hid (S4 w.heap.size root q n c root2 q2 n2 c2 v15 v15) := Lib.hid ⟨a0, a1, b0, b1, Below.refl _ _⟩
  have H20 : Hid (∀ W', Hid (S4 w.heap.size root q n c root2 q2 n2 c2 v15 W') → Calls Tryz.prog 20 #[.agg #[.int .i64 root, .slice q n c], .agg #[.int .i64 root2, .slice q2 n2 c2]] W' fun e W'' => e = .returned (.bool sb) ∧ Hid (S4 w.heap.size root q n c root2 q2 n2 c2 v15 W'')) :=
    Lib.hid fun W' h => (HSA.out W' (HP15.out.below h.out.2.2.2.2) (HQ15.out.below h.out.2.2.2.2)).mono fun e W'' hh => ⟨hh.1, Lib.hid (s4_step h.out hh.2)⟩
  have H21 : Hid (∀ W', Hid (S4 w.heap.size root q n c root2 q2 n2 c2 v15 W') → Calls Tryz.prog 21 #[.agg #[.int .i64 root, .slice q n c], .agg #[.int .i64 root2, .slice q2 n2 c2]] W' fun e W'' => e = .returned (.bool sb) ∧ Hid (S4 w.heap.size root q n c root2 q2 n2 c2 v15 W'')) :=
    Lib.hid fun W' h => (HSR.out W' (HP15.out.below h.out.2.2.2.2) (HQ15.out.below h.out.2.2.2.2)).mono fun e W'' hh => ⟨hh.1, Lib.hid (s4_step h.out hh.2)⟩
  have H20s : Hid (∀ W', Hid (S4 w.heap.size root q n c root2 q2 n2 c2 v15 W') → Calls Tryz.prog 20 #[.agg #[.int .i64 root, .slice q n c], .agg #[.int .i64 root, .slice q n c]] W' fun e W'' => e = .returned (.bool true) ∧ Hid (S4 w.heap.size root q n c root2 q2 n2 c2 v15 W'')) :=
    Lib.hid fun W' h => (HSS.out W' (HP15.out.below h.out.2.2.2.2)).mono fun e W'' hh => ⟨hh.1, Lib.hid (s4_step h.out hh.2)⟩
  have H22 : Hid (∀ W', Hid (S4 w.heap.size root q n c root2 q2 n2 c2 v15 W') → Calls Tryz.prog 22 #[.slice dq nd dc, .slice dq2 nd dc2] W' fun e W'' => e = .returned (.bool true) ∧ Hid (S4 w.heap.size root q n c root2 q2 n2 c2 v15 W'')) :=
    Lib.hid fun W' h => (HIN.out W' (HIa15.out.below h.out.2.2.2.2) (HIb15.out.below h.out.2.2.2.2)).mono fun e W'' hh => ⟨hh.1, Lib.hid (s4_step h.out hh.2)⟩
  have H23 : Hid (∀ W', Hid (S4 w.heap.size root q n c root2 q2 n2 c2 v15 W') → Calls Tryz.prog 23 #[.slice kq nk kc, .slice kq2 nk kc2] W' fun e W'' => e = .returned (.bool true) ∧ Hid (S4 w.heap.size root q n c root2 q2 n2 c2 v15 W'')) :=
    Lib.hid fun W' h => (HIS.out W' (HYa15.out.below h.out.2.2.2.2) (HYb15.out.below h.out.2.2.2.2)).mono fun e W'' hh => ⟨hh.1, Lib.hid (s4_step h.out hh.2)⟩
  clear a0 a1 b0 b1 k0 k1 k2
  go_wp2_with fail
  go_region_held3 (S4 w.heap.size root q n c root2 q2 n2 c2 v15) (first | exact Hid.out (by assumption) | exact s4_drew (Hid.out (by assumption))) (first
    | ((with_reducible refine (H20.out _ (by first | assumption | exact Lib.hid (s4_drew (Hid.out (by assumption))))).mono ?_); rintro e wq ⟨rfl, hbq⟩)
    | ((with_reducible refine (H21.out _ (by first | assumption | exact Lib.hid (s4_drew (Hid.out (by assumption))))).mono ?_); rintro e wq ⟨rfl, hbq⟩)
    | ((with_reducible refine (H20s.out _ (by first | assumption | exact Lib.hid (s4_drew (Hid.out (by assumption))))).mono ?_); rintro e wq ⟨rfl, hbq⟩)
    | ((with_reducible refine (H22.out _ (by first | assumption | exact Lib.hid (s4_drew (Hid.out (by assumption))))).mono ?_); rintro e wq ⟨rfl, hbq⟩)
    | ((with_reducible refine (H23.out _ (by first | assumption | exact Lib.hid (s4_drew (Hid.out (by assumption))))).mono ?_); rintro e wq ⟨rfl, hbq⟩))
  all_goals
    go_wp2_with fail
    go_ret
    exact ⟨rfl, HB15.out.trans ((Hid.out (by assumption) : S4 w.heap.size root q n c root2 q2 n2 c2 v15 _).2.2.2.2.mono HB15.out.size)⟩
end Go.Proofs.YtfpcjdopfodfnaaGreatDoor
