/- The statements' own check of some known values holds. Conditions: the library's tables lie as they are laid. -/
import Derived.Test.YtkliecngkcjieaaGreatDoorTxz
import Derived.Test.YtkliecngkcjieaaGreatDoorSfs
import Derived.Deep.RegionHeld
import Derived.Deep.RegionHeld3
set_option maxRecDepth 100000
namespace Go.Proofs.YtkliecngkcjieaaGreatDoor
open Go.RowKit Go.Shelf
open Pl Quo Scs
open Go.Sort (HoldsK)
abbrev scO (x : Sc) : Obj := .cells #[.int .i64 x.1, .int .i64 x.2.1, .string x.2.2] 23
def sh1 : Sc := (3, 0, ⟨#[97, 10]⟩)
def sh7 : Sc := (2, -7, ⟨#[]⟩)
def shL : List Sc := [(3, 0, ⟨#[]⟩), (2, 1, ⟨#[]⟩), (0, 0, ⟨#[]⟩)]
def shM : List Sc := [(0, 0, ⟨#[]⟩), (2, 1, ⟨#[]⟩), (3, 0, ⟨#[]⟩)]
theorem sh_sort : sortSc shL = shM := by
  refine (sort_unique (l := shM) (m := shL) ?_ ?_).symm
  · unfold shM shL
    exact ((List.Perm.swap _ _ _).trans ((List.Perm.swap _ _ _).cons _)).trans (List.Perm.swap _ _ _)
  · unfold shM
    simp [leSc, ltSc]
theorem sh_text : textT sh1 = ⟨#[34, 97, 92, 110, 34]⟩ ∧ textE sh1 = 0 := by
  constructor <;> decide +kernel
theorem sh_bad : textT (9, 0, ⟨#[]⟩) = ⟨#[]⟩ ∧ textE (9, 0, ⟨#[]⟩) = 60 := by
  constructor <;> decide +kernel
theorem itoa_m7 : Go.Lib.itoa (-7) = [45, 55] := by
  show 45 :: Go.Lib.decDigits 7 = _
  rw [Go.Lib.decDigits, dif_pos (by decide)]
  rfl
theorem sh_read : readS ⟨#[45, 55]⟩ = (sh7, 0) := by
  have h := read_text (right_int (-7) (by decide) (by decide))
  have e : textL (2, -7, ⟨#[]⟩) = [45, 55] := by
    show Go.Lib.itoa (-7) = _
    exact itoa_m7
  rw [e] at h
  exact h
theorem may_abc : mayR false [97, 98, 99] = true := by decide +kernel
theorem val_abc : valOf [97, 98, 99] = .text := by
  unfold valOf
  rw [show lookW [97, 98, 99] wordsW = none from rfl]
  simp only [show looksR [97, 98, 99] = false by decide +kernel, Bool.false_eq_true, if_false]
theorem sh_abc : readS ⟨#[97, 98, 99]⟩ = (zeroS, 60) := by
  have hr : resolveR ⟨#[97, 98, 99]⟩ = ⟨3, 0, ⟨#[97, 98, 99]⟩, 0⟩ := by
    unfold resolveR
    rw [if_neg (fun h => by have := h.2; rw [may_abc] at this; cases this), val_abc]
    rfl
  have hs : saidS ⟨#[97, 98, 99]⟩ = some (3, 0, ⟨#[97, 98, 99]⟩) := by
    unfold saidS
    rw [if_neg (by decide), hr]
    rfl
  unfold readS
  rw [hs]
  simp only
  rw [if_neg (by decide +kernel)]
theorem Read_plain (s : ByteArray) (hs : s.size ≤ 1000000) (h : s.data.toList.head? ≠ some 34) (w : World) (E : Env w) :
    Calls Tryz.prog 16 #[.string s] w fun e w' => e = .returned (.tuple #[aggS (readS s).1, .int .i64 (readS s).2]) ∧ Below w.heap.size w w' :=
  Read_of s hs (fun w E => said_plain s hs h w E) w E
/-- a row of scalars that was just laid -/
theorem sl_block {W : World} {b : Nat} {d : Array Sc} {cs : Array Value} (hb : W.heap[b]? = some (.cells cs 23 (0, 0))) (hc : cs.toList = flatS d.toList) (hs : d.size ≤ 1000000) (hz : ∀ t, t < d.size → d[t]!.2.2.size ≤ 1000000) : Sl W (some ⟨b, 0, none⟩) d := by
  refine ⟨hs, hz, .inr ⟨b, 0, rfl, (Array.getElem?_eq_some_iff.1 hb).1, ?_⟩⟩
  intro j hj
  rw [Go.Sort.size_flatK] at hj
  rw [Go.Sort.get_flatK _ _ _ _ hj]
  have h1 := flatS_get d.toList j (by rw [Array.length_toList]; exact hj)
  rw [← hc, Array.getElem?_toList] at h1
  refine ⟨?_, frozen_of_row _ _ _ _ _ hb⟩
  rw [cell_of_row _ _ _ _ _ _ hb, Nat.zero_add, h1]
  congr 3
  simp [getElem!_def]
/-- what lies ahead of the last line -/
structure Shs (w0 : World) (b1 g : Nat) (W : World) : Prop where
  env : Env W
  below : Below w0.heap.size w0 W
  r1 : W.heap[b1]? = some (.cells #[.int .i64 2, .int .i64 (-7), .string ⟨#[]⟩] 23 (0, 0))
  row : HoldsK encS 3 W g 0 shM.toArray
  lt : g < W.heap.size
theorem Shs.step {w0 W W' : World} {b1 g : Nat} (h : Shs w0 b1 g W) (hb : Below W.heap.size W W') : Shs w0 b1 g W' :=
  ⟨h.env.below hb, h.below.trans (hb.mono h.below.size), (hb.block _ (Array.getElem?_eq_some_iff.1 h.r1).1).trans h.r1, HoldsK_of h.row (hb.block g h.lt), Nat.lt_of_lt_of_le h.lt hb.size⟩
theorem Shs.sl {w0 W : World} {b1 g : Nat} (h : Shs w0 b1 g W) : Sl W (some ⟨g, 0, none⟩) shM.toArray :=
  ⟨by decide, fun t ht => by
    have : t < 3 := ht
    rcases (by omega : t = 0 ∨ t = 1 ∨ t = 2) with rfl | rfl | rfl <;> decide, .inr ⟨g, 0, rfl, h.lt, h.row⟩⟩
theorem shs_drew {w0 W : World} {b1 g : Nat} (h : Hid (Shs w0 b1 g W)) : Hid (Shs w0 b1 g W.drew) := Lib.hid (h.out.step (Below.refl _ _).drew)
theorem Shs.cells {w0 W : World} {b1 g : Nat} (h : Shs w0 b1 g W) : (W.cell? ⟨b1, 0, none⟩ = some (.int .i64 2) ∧ W.cell? ⟨b1, 1, none⟩ = some (.int .i64 (-7)) ∧ W.cell? ⟨b1, 2, none⟩ = some (.string ⟨#[]⟩)) ∧
    (W.cell? ⟨g, 0, none⟩ = some (.int .i64 0) ∧ W.cell? ⟨g, 1, none⟩ = some (.int .i64 0) ∧ W.cell? ⟨g, 2, none⟩ = some (.string ⟨#[]⟩)) ∧
    (W.cell? ⟨g, 3, none⟩ = some (.int .i64 2) ∧ W.cell? ⟨g, 4, none⟩ = some (.int .i64 1) ∧ W.cell? ⟨g, 5, none⟩ = some (.string ⟨#[]⟩)) ∧
    (W.cell? ⟨g, 6, none⟩ = some (.int .i64 3) ∧ W.cell? ⟨g, 7, none⟩ = some (.int .i64 0) ∧ W.cell? ⟨g, 8, none⟩ = some (.string ⟨#[]⟩)) := by
  refine ⟨⟨cell_of_row _ _ 0 _ _ _ h.r1, cell_of_row _ _ 1 _ _ _ h.r1, cell_of_row _ _ 2 _ _ _ h.r1⟩, ?_, ?_, ?_⟩
  · have := Sl.cells h.row 0 (by decide); simpa [shM] using this
  · have := Sl.cells h.row 1 (by decide); simpa [shM] using this
  · have := Sl.cells h.row 2 (by decide); simpa [shM] using this
abbrev ShS (b1 g : Nat) (W : World) : Prop := W.cell? ⟨b1, 0, none⟩ = some (.int .i64 2) ∧ W.cell? ⟨b1, 1, none⟩ = some (.int .i64 (-7)) ∧ W.cell? ⟨b1, 2, none⟩ = some (.string ⟨#[]⟩) ∧
    W.cell? ⟨g, 0, none⟩ = some (.int .i64 0) ∧ W.cell? ⟨g, 1, none⟩ = some (.int .i64 0) ∧ W.cell? ⟨g, 2, none⟩ = some (.string ⟨#[]⟩) ∧
    W.cell? ⟨g, 3, none⟩ = some (.int .i64 2) ∧ W.cell? ⟨g, 4, none⟩ = some (.int .i64 1) ∧ W.cell? ⟨g, 5, none⟩ = some (.string ⟨#[]⟩) ∧
    W.cell? ⟨g, 6, none⟩ = some (.int .i64 3) ∧ W.cell? ⟨g, 7, none⟩ = some (.int .i64 0) ∧ W.cell? ⟨g, 8, none⟩ = some (.string ⟨#[]⟩)
theorem shs_alloc {w0 W : World} {b1 g : Nat} {o : Obj} (h : Hid (Shs w0 b1 g W)) : Hid (Shs w0 b1 g (W.alloc o)) := Lib.hid (h.out.step ((Below.refl _ _).alloc (Nat.le_refl _) o))
theorem shS_of {w0 W : World} {b1 g : Nat} (h : Hid (Shs w0 b1 g W)) : ShS b1 g W := by
  obtain ⟨⟨d00, d01, d02⟩, ⟨d10, d11, d12⟩, ⟨d20, d21, d22⟩, d30, d31, d32⟩ := h.out.cells
  exact ⟨d00, d01, d02, d10, d11, d12, d20, d21, d22, d30, d31, d32⟩
set_option maxHeartbeats 8000000 in
theorem shown_any (w : World) (E : Env w) : Calls Tryz.prog 11 #[] w fun e w' => e = .returned (.bool true) ∧ Below w.heap.size w w' := by
  have t1 := fun w E => Text_any sh1 (by decide) w E
  rw [sh_text.1, sh_text.2] at t1
  have t2 := fun w E => Read_plain ⟨#[45, 55]⟩ (by decide) (by decide) w E
  rw [sh_read] at t2
  have t3 := fun w E => Read_plain ⟨#[97, 98, 99]⟩ (by decide) (by decide) w E
  rw [sh_abc] at t3
  have t4 := fun w E => Text_any (9, 0, ⟨#[]⟩) (by decide) w E
  rw [sh_bad.1, sh_bad.2] at t4
  unfold aggS sh1 at t1
  unfold aggS sh7 at t2
  unfold aggS zeroS at t3
  unfold aggS at t4
  have T1 := Lib.hid t1
  have T2 := Lib.hid t2
  have T3 := Lib.hid t3
  have T4 := Lib.hid t4
  have HE := Lib.hid E
  clear t1 t2 t3 t4 E
  go_enter Tryz.func11, Tryz.ntmps11
  go_wp2_with fail
  refine (T1.out _ HE.out).mono ?_
  rintro e w1 ⟨rfl, hb1⟩
  have HB1 := Lib.hid hb1
  have HE1 := Lib.hid (HE.out.below hb1)
  clear hb1
  go_wp2_with fail
  refine (T2.out _ HE1.out).mono ?_
  rintro e w2 ⟨rfl, hb2⟩
  have HB2 := Lib.hid (HB1.out.trans (hb2.mono HB1.out.size))
  have HE2 := Lib.hid (HE1.out.below hb2)
  clear hb2
  go_wp2_with fail
  obtain ⟨b1, hbe⟩ : ∃ b, w2.heap.size = b := ⟨_, rfl⟩
  obtain ⟨u2, hu2⟩ : ∃ u, w2.alloc (.cells #[.int .i64 2, .int .i64 (-7), .string ⟨#[]⟩] 23) = u := ⟨_, rfl⟩
  rw [hu2, hbe]
  have hr2 : u2.heap[b1]? = some (.cells #[.int .i64 2, .int .i64 (-7), .string ⟨#[]⟩] 23 (0, 0)) := by rw [← hu2, ← hbe]; exact heap_alloc_new w2 _
  have hbu : Below w2.heap.size w2 u2 := by rw [← hu2]; exact (Below.refl _ w2).alloc (Nat.le_refl _) _
  have HR2 := Lib.hid hr2
  have HBU := Lib.hid (HB2.out.trans (hbu.mono HB2.out.size))
  have HEU := Lib.hid (HE2.out.below hbu)
  clear hu2 hr2 hbu hbe HB2 HE2
  refine (T3.out _ HEU.out).mono ?_
  rintro e w3 ⟨rfl, hb3⟩
  have HR3 := Lib.hid ((hb3.block b1 (Array.getElem?_eq_some_iff.1 HR2.out).1).trans HR2.out)
  have HB3 := Lib.hid (HBU.out.trans (hb3.mono HBU.out.size))
  have HE3 := Lib.hid (HEU.out.below hb3)
  clear hb3
  go_wp2_with fail
  obtain ⟨u3, hu3⟩ : ∃ u, w3.alloc (.cells #[.int .i64 0, .int .i64 0, .string ⟨#[]⟩] 23) = u := ⟨_, rfl⟩
  rw [hu3]
  have hbu : Below w3.heap.size w3 u3 := by rw [← hu3]; exact (Below.refl _ w3).alloc (Nat.le_refl _) _
  have HRU3 := Lib.hid ((hbu.block b1 (Array.getElem?_eq_some_iff.1 HR3.out).1).trans HR3.out)
  have HBU3 := Lib.hid (HB3.out.trans (hbu.mono HB3.out.size))
  have HEU3 := Lib.hid (HE3.out.below hbu)
  clear hu3 hbu HB3 HE3 HR3
  refine (T4.out _ HEU3.out).mono ?_
  rintro e w4 ⟨rfl, hb4⟩
  have HR4 := Lib.hid ((hb4.block b1 (Array.getElem?_eq_some_iff.1 HRU3.out).1).trans HRU3.out)
  have HB4 := Lib.hid (HBU3.out.trans (hb4.mono HBU3.out.size))
  have HE4 := Lib.hid (HEU3.out.below hb4)
  clear hb4 HRU3 HBU3 HEU3
  go_wp2_with fail
  obtain ⟨u4, hu4⟩ : ∃ u, w4.alloc (.cells #[.int .i64 3, .int .i64 0, .string ⟨#[]⟩, .int .i64 2, .int .i64 1, .string ⟨#[]⟩, .int .i64 0, .int .i64 0, .string ⟨#[]⟩] 23) = u := ⟨_, rfl⟩
  rw [hu4]
  have hr4 : u4.heap[w4.heap.size]? = some (.cells #[.int .i64 3, .int .i64 0, .string ⟨#[]⟩, .int .i64 2, .int .i64 1, .string ⟨#[]⟩, .int .i64 0, .int .i64 0, .string ⟨#[]⟩] 23 (0, 0)) := by rw [← hu4]; exact heap_alloc_new w4 _
  have hs4 : Sl u4 (some ⟨w4.heap.size, 0, none⟩) shL.toArray := sl_block hr4 rfl (by decide) (fun t ht => by
    have : t < 3 := ht
    rcases (by omega : t = 0 ∨ t = 1 ∨ t = 2) with rfl | rfl | rfl <;> decide)
  have hbu : Below w4.heap.size w4 u4 := by rw [← hu4]; exact (Below.refl _ w4).alloc (Nat.le_refl _) _
  have hSo := Sort_any shL.toArray (some ⟨w4.heap.size, 0, none⟩) 3 u4 hs4
  rw [show shL.toArray.toList = shL from rfl, sh_sort, show shL.toArray.size = 3 from rfl] at hSo
  have HRU4 := Lib.hid ((hbu.block b1 (Array.getElem?_eq_some_iff.1 HR4.out).1).trans HR4.out)
  have HBU4 := Lib.hid (HB4.out.trans (hbu.mono HB4.out.size))
  have HEU4 := Lib.hid (HE4.out.below hbu)
  have HSO := Lib.hid hSo
  clear hu4 hbu hr4 hs4 hSo HB4 HE4 HR4
  refine HSO.out.mono ?_
  rintro e w5 ⟨g, c, rfl, hg, hgl, hH, hb5⟩
  have HF : Hid (Shs w b1 g w5) := Lib.hid ⟨HEU4.out.below hb5, HBU4.out.trans (hb5.mono HBU4.out.size), (hb5.block b1 (Array.getElem?_eq_some_iff.1 HRU4.out).1).trans HRU4.out, hH, hgl⟩
  clear hg hgl hH hb5 HSO HRU4 HBU4 HEU4 T1 T2 T3 T4 HE HB1 HE1 HBU HEU HR2
  go_upto_region 6 with (fail)
  have GC : Hid (∀ W, Hid (Shs w b1 g W) → Calls Tryz.prog 18 #[.agg #[.int .i64 2, .int .i64 1, .string ⟨#[]⟩], .agg #[.int .i64 3, .int .i64 0, .string ⟨#[]⟩]] W fun e W' => e = .returned (.int .i64 (-1)) ∧ Hid (Shs w b1 g W')) :=
    Lib.hid fun W hf => (Compare_below (2, 1, ⟨#[]⟩) (3, 0, ⟨#[]⟩) W).mono fun e W' hh => ⟨hh.1.trans (by rw [show cmpSc (2, 1, ⟨#[]⟩) (3, 0, ⟨#[]⟩) = -1 by decide]), Lib.hid (hf.out.step hh.2)⟩
  have GL : Hid (∀ W, Hid (Shs w b1 g W) → Calls Tryz.prog 24 #[.slice (some ⟨g, 0, none⟩) 3 c] W fun e W' => e = .returned (.bool false) ∧ Hid (Shs w b1 g W')) :=
    Lib.hid fun W hf => (Twice_any shM.toArray (some ⟨g, 0, none⟩) c W hf.out.sl).mono fun e W' hh => ⟨hh.1.trans (by rw [show twiceB shM.toArray.toList = false by decide]), Lib.hid (hf.out.step hh.2)⟩
  have GZ : Hid (∀ W, Hid (Shs w b1 g W) → Calls Tryz.prog 24 #[.slice (some ⟨W.heap.size, 0, none⟩) 2 2] (W.alloc (.cells #[.int .i64 0, .int .i64 0, .string ⟨#[]⟩, .int .i64 0, .int .i64 0, .string ⟨#[]⟩] 23)) fun e W' => e = .returned (.bool true) ∧ Hid (Shs w b1 g W')) :=
    Lib.hid fun W hf => by
      have hs : Sl (W.alloc (.cells #[.int .i64 0, .int .i64 0, .string ⟨#[]⟩, .int .i64 0, .int .i64 0, .string ⟨#[]⟩] 23)) (some ⟨W.heap.size, 0, none⟩) #[zeroS, zeroS] :=
        sl_block (heap_alloc_new W _) rfl (by decide) (fun t ht => by
          have : t < 2 := ht
          rcases (by omega : t = 0 ∨ t = 1) with rfl | rfl <;> decide)
      exact (Twice_any #[zeroS, zeroS] _ 2 _ hs).mono fun e W' hh => ⟨hh.1.trans (by rw [show twiceB #[zeroS, zeroS].toList = true by decide]), Lib.hid (hf.out.step (((Below.refl _ W).alloc (Nat.le_refl _) _).trans (hh.2.mono (by simp))))⟩
  have q := eq_sc
  have q2 := equal_sc
  have qg := guard_sc
  have sm1 : sameB 2 (-7) ⟨#[]⟩ 2 (-7) ⟨#[]⟩ = true := by decide
  have sm2 : sameB 0 0 ⟨#[]⟩ 0 0 ⟨#[]⟩ = true := by decide
  obtain ⟨⟨d00, d01, d02⟩, ⟨d10, d11, d12⟩, ⟨d20, d21, d22⟩, d30, d31, d32⟩ := HF.out.cells
  go_region_held3 (ShS b1 g) (first | exact ⟨d00, d01, d02, d10, d11, d12, d20, d21, d22, d30, d31, d32⟩ | exact shS_of (w0 := w) (by first | assumption | exact shs_drew (by assumption) | exact shs_alloc (by assumption) | exact shs_alloc (shs_drew (by assumption)))) (first
    | ((with_reducible refine (GC.out _ (by first | assumption | exact shs_drew (by assumption))).mono ?_); rintro e wq ⟨rfl, hf⟩; obtain ⟨⟨d00, d01, d02⟩, ⟨d10, d11, d12⟩, ⟨d20, d21, d22⟩, d30, d31, d32⟩ := hf.out.cells)
    | ((with_reducible refine (GL.out _ (by first | assumption | exact shs_drew (by assumption))).mono ?_); rintro e wq ⟨rfl, hf⟩; obtain ⟨⟨d00, d01, d02⟩, ⟨d10, d11, d12⟩, ⟨d20, d21, d22⟩, d30, d31, d32⟩ := hf.out.cells)
    | ((with_reducible refine (GZ.out _ (by first | assumption | exact shs_drew (by assumption))).mono ?_); rintro e wq ⟨rfl, hf⟩; obtain ⟨⟨d00, d01, d02⟩, ⟨d10, d11, d12⟩, ⟨d20, d21, d22⟩, d30, d31, d32⟩ := hf.out.cells))
  all_goals
    go_wp2
    go_ret
    exact ⟨rfl, by first | exact (hf : Hid _).out.below | exact (shs_drew hf).out.below⟩
end Go.Proofs.YtkliecngkcjieaaGreatDoor
