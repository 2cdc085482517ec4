/- A text's digits are told byte by byte. Conditions: the text is not longer than a machine's memory. Two texts are told to be the same just if they are. Conditions: neither is longer than a million bytes. A text's digits tell its bytes, or nothing. Conditions: the text is not longer than a million bytes. -/
import Derived.Test.YthojdcmkajmdjaaDoorTg
import Derived.Test.YthojdcmkajmdjaaDoorAdd
import Derived.Test.YthojdcmkajmdjaaDoorEndOf
import Derived.RangeFuncBox
import Derived.WalkMore
import Derived.RegionIn
import Derived.Test.YthojdcmkajmdjaaDoorHt
import Derived.Laws.RangeAny
import Derived.Lib.OthersKept
namespace Go.Proofs.YthojdcmkajmdjaaDoor
open Go.RowKit Go.Shelf
open Rd Dg Hx Seqs
open Go.Lib (strCells strCells_length strCells_oneCell)
attribute [local go_sem] Oper.semAt_some
/-- a row in the making: what is there, noughts behind it -/
def rowA (l : List UInt8) (c : Nat) : Array Value := (l.map cellOf ++ List.replicate (c - l.length) (Value.int .u8 0)).toArray
theorem rowA_size (l : List UInt8) (c : Nat) (h : l.length ≤ c) : (rowA l c).size = c := by simp [rowA]; omega
theorem rowA_get (l : List UInt8) (c j : Nat) (h : j < l.length) : (rowA l c)[j]? = some (cellOf l[j]) := by
  unfold rowA
  rw [List.getElem?_toArray, List.getElem?_append_left (by simpa using h)]
  simp [h]
theorem rowA_free (l : List UInt8) (c j : Nat) (h : l.length ≤ j) (hj : j < c) : (rowA l c)[j]? = some (.int .u8 0) := by
  unfold rowA
  rw [List.getElem?_toArray, List.getElem?_append_right (by simpa using h), List.getElem?_replicate_of_lt (by simp; omega)]
theorem rowA_two (l : List UInt8) (c n : Nat) (x y : UInt8) (hl : l.length = n) (h : n + 2 ≤ c) : ((rowA l c).setIfInBounds n (cellOf x)).setIfInBounds (n + 1) (cellOf y) = rowA (l ++ [x, y]) c := by
  obtain ⟨r, rfl⟩ : ∃ r, c = n + 2 + r := ⟨c - (n + 2), by omega⟩
  unfold rowA
  rw [hl, show n + 2 + r - n = r + 1 + 1 by omega, List.length_append, hl, show n + 2 + r - (n + [x, y].length) = r by simp]
  apply Array.ext'
  simp only [Array.toList_setIfInBounds, List.map_append, List.replicate_succ, List.append_assoc]
  have h1 : (l.map cellOf).length = n := by simpa using hl
  rw [List.set_append_right _ _ (by omega), List.set_append_right _ _ (by omega), h1, Nat.sub_self, show n + 1 - n = 1 by omega]
  rfl
theorem rowA_one (l : List UInt8) (c n : Nat) (x : UInt8) (hl : l.length = n) (h : n + 1 ≤ c) : (rowA l c).setIfInBounds n (cellOf x) = rowA (l ++ [x]) c := by
  obtain ⟨r, rfl⟩ : ∃ r, c = n + 1 + r := ⟨c - (n + 1), by omega⟩
  unfold rowA
  rw [hl, show n + 1 + r - n = r + 1 by omega, List.length_append, hl, show n + 1 + r - (n + [x].length) = r by simp]
  apply Array.ext'
  simp only [Array.toList_setIfInBounds, List.map_append, List.replicate_succ, List.append_assoc]
  have h1 : (l.map cellOf).length = n := by simpa using hl
  rw [List.set_append_right _ _ (by omega), h1, Nat.sub_self]
  rfl
/-- what the digits are at: a byte's upper and lower half -/
theorem digit_at (b : UInt8) (h : b < 16) : (⟨#[48, 49, 50, 51, 52, 53, 54, 55, 56, 57, 97, 98, 99, 100, 101, 102]⟩ : ByteArray).data.toList.getD b.toNat 0 = hexC b := by
  have key : ∀ n : Fin 256, UInt8.ofNat n.1 < 16 → (⟨#[48, 49, 50, 51, 52, 53, 54, 55, 56, 57, 97, 98, 99, 100, 101, 102]⟩ : ByteArray).data.toList.getD (UInt8.ofNat n.1).toNat 0 = hexC (UInt8.ofNat n.1) := by decide +kernel
  have k := key ⟨b.toNat, b.toNat_lt⟩
  simp only [UInt8.ofNat_toNat] at k
  exact k h
theorem idx_digit (x : UInt8) (h : x < 16) (w : World) : (Instr.index 9 (.string ⟨#[48, 49, 50, 51, 52, 53, 54, 55, 56, 57, 97, 98, 99, 100, 101, 102]⟩) (.int .u8 (x.toNat : Int))).run Tryd.prog w = .ok (.int .u8 ((hexC x).toNat : Int)) w := by
  have hx : x.toNat < 16 := by simpa [UInt8.lt_iff_toNat_lt] using h
  have h0 : (0 : Int) ≤ (x.toNat : Int) ∧ (x.toNat : Int) < 16 := by omega
  have e := digit_at x h
  rw [List.getD_eq_getElem?_getD, List.getElem?_eq_getElem (by simpa using hx)] at e
  simp only [Option.getD_some] at e
  rw [← e]
  have hu := Tryd.underlying9
  simp [Instr.index, asIntOf, run_underlying hu]
  rw [getElem?_pos (⟨#[48, 49, 50, 51, 52, 53, 54, 55, 56, 57, 97, 98, 99, 100, 101, 102]⟩ : ByteArray) x.toNat hx]
  rfl
theorem ix {w : World} (x v : Value) (h : (Instr.index 9 (.string ⟨#[48, 49, 50, 51, 52, 53, 54, 55, 56, 57, 97, 98, 99, 100, 101, 102]⟩) x).run Tryd.prog w = .ok v w) {ρ : Operand → Value} {o : Oper} {y : Operand} (ho : o.op = .index 9 (.const (.string ⟨#[48, 49, 50, 51, 52, 53, 54, 55, 56, 57, 97, 98, 99, 100, 101, 102]⟩)) y := by rfl) (hy : ρ y = x := by rfl) (hc : ρ (.const (.string ⟨#[48, 49, 50, 51, 52, 53, 54, 55, 56, 57, 97, 98, 99, 100, 101, 102]⟩)) = .string ⟨#[48, 49, 50, 51, 52, 53, 54, 55, 56, 57, 97, 98, 99, 100, 101, 102]⟩ := by rfl) : (execOp ρ o).run Tryd.prog w = .ok (.value v) w := by
  unfold execOp
  rw [ho]
  simp only [hy, hc, Sem.run_bind, h, Result.andThen]
  rfl
theorem shr4 (b : UInt8) : (b.toNat : Int) / 16 = ((b >>> 4).toNat : Int) ∧ b >>> 4 < 16 := by
  refine ⟨?_, ?_⟩
  · rw [UInt8.toNat_shiftRight, Nat.shiftRight_eq_div_pow]; simp
  · rw [UInt8.lt_iff_toNat_lt, UInt8.toNat_shiftRight, Nat.shiftRight_eq_div_pow]
    have := b.toNat_lt
    simp; omega
theorem and15 (b : UInt8) : bits .and .u8 (b.toNat : Int) 15 = ((b &&& 15).toNat : Int) ∧ b &&& 15 < 16 :=
  ⟨bits8_and b 15, all8 (fun b => b &&& 15 < 16) (by decide +kernel) b⟩
set_option maxRecDepth 100000 in
set_option maxHeartbeats 4000000 in
theorem Hex_in (s : ByteArray) (hs : s.size ≤ 1000000) (w : World) :
    CallsIn Fence.wide 6 Tryd.prog 16 #[.string s] w fun e w' => e = .returned (.string ⟨(hexL s.data.toList).toArray⟩) ∧ Below w.heap.size w w' := by
  obtain ⟨i0, hi, hz0, hz1, hz2⟩ := info_parts info5b
  obtain ⟨C, hC⟩ : ∃ C, 2 * s.size = C := ⟨_, rfl⟩
  have hCi : 2 * (s.size : Int) = (C : Int) := by omega
  have hmk := run_make (P := Tryd.prog) w 29 5 i0 (.int .u8 0) Tryd.underlying29 hi hz0 .i64 .i64 0 (C : Int) (by omega) (by omega) (by rw [hz2]; omega) (by omega)
  obtain ⟨Z, hZ⟩ : ∃ Z, madeCells (Value.int .u8 0).cells ((C : Int).toNat * i0.size) = Z := ⟨_, rfl⟩
  have hZr : Z = rowA [] C := by
    rw [← hZ, hz1, Nat.mul_one, Int.toNat_natCast]
    apply Array.ext'
    rw [made_u8]
    simp [rowA]
  rw [hZ, hZr, Int.toNat_natCast] at hmk
  have hmk' : (Instr.makeSlice 29 (.int .i64 0) (.int .i64 (C : Int))).run Tryd.prog w = .ok (.slice (some ⟨w.heap.size, 0, none⟩) 0 C) (w.alloc (.cells (rowA [] C) 5)) := hmk
  have HC := Lib.hid hC
  clear hC hZ hZr hmk
  refine callsIn_of_wp_marks Tryd.func16 rfl trivial ?_ rfl
  simp only [Tryd.ntmps16, List.size_toArray, List.length_cons, List.length_nil, Nat.reduceAdd, Nat.reduceSub, Array.replicate_succ, Array.replicate_zero, List.push_toArray, List.append_toArray, List.nil_append, List.cons_append]
  refine wpIn_wide.2 ?_
  go_wp2_with fail
  refine (bytesOf_any s _).mono ?_
  rintro e w' ⟨rfl, rfl⟩
  go_wp2_with fail
  obtain ⟨w3, hw3⟩ : ∃ w3, ((w.alloc (.cells (rowA [] C) 5)).alloc (.cells #[.slice (some ⟨w.heap.size, 0, none⟩) 0 C] 29)).alloc (.cells #[.string s] 9) = w3 := ⟨_, rfl⟩
  rw [hw3]
  have hz3 : w3.heap.size = w.heap.size + 3 := by rw [← hw3]; simp
  have hr3 : w3.heap[w.heap.size]? = some (.cells (rowA [] C) 5 (0, 0)) := by
    rw [← hw3, Below.heap_alloc _ _ _ (by simp; omega), Below.heap_alloc _ _ _ (by simp)]; exact heap_alloc_new w _
  have hx3 : w3.heap[w.heap.size + 1]? = some (.cells #[.slice (some ⟨w.heap.size, 0, none⟩) 0 C] 29 (0, 0)) := by
    rw [← hw3, Below.heap_alloc _ _ _ (by simp)]
    have h := heap_alloc_new (w.alloc (.cells (rowA [] C) 5)) (.cells #[.slice (some ⟨w.heap.size, 0, none⟩) 0 C] 29)
    rwa [World.size_alloc] at h
  have hs3 : w3.heap[w.heap.size + 2]? = some (.cells #[.string s] 9 (0, 0)) := by
    rw [← hw3]
    have h := heap_alloc_new ((w.alloc (.cells (rowA [] C) 5)).alloc (.cells #[.slice (some ⟨w.heap.size, 0, none⟩) 0 C] 29)) (.cells #[.string s] 9)
    rwa [World.size_alloc, World.size_alloc] at h
  have hb3 : Below w.heap.size w w3 := by rw [← hw3]; exact (((Below.refl _ w).alloc (Nat.le_refl _) _).alloc (by simp) _).alloc (by simp; omega) _
  clear hw3 hmk'
  obtain ⟨L, hL⟩ : ∃ L, s.data.toList = L := ⟨_, rfl⟩
  have hLs : L.length = s.size := by rw [← hL, Array.length_toList]; rfl
  refine (wpIn_wide (n := 6)).1 ?_
  refine wpIn_rangeFunc_run rfl (by decide) (gf := 41) (lb := #[.pointer (some ⟨w.heap.size + 1 + 1, 0, none⟩)]) rfl trivial (enters_of Tryd.func41 (by kernel_rfl) rfl)
    (bytes_run 5 s (by omega) (w.heap.size + 1 + 1)) (fun _ => rfl) .ret
    (fun t W => W.heap[w.heap.size]? = some (.cells (rowA (hexL (L.take t)) C) 5 (0, 0)) ∧ W.heap[w.heap.size + 1]? = some (.cells #[.slice (some ⟨w.heap.size, 0, none⟩) (2 * t) C] 29 (0, 0)) ∧ W.heap[w.heap.size + 2]? = some (.cells #[.string s] 9 (0, 0)) ∧ Below w.heap.size w W ∧ w3.heap.size ≤ W.heap.size)
    (fun _ => False) ?hI (fun _ _ _ h => h.elim) (fun t A h => cell_of_row A _ 0 _ _ _ h.2.2.1) (fun _ h => by cases h) ?h0
    (fun t => { tmps := #[Value.string s, undef, Value.string { data := #[] }, Value.pointer (some { block := w.heap.size + 1, off := 0 }), .int .u8 ((bt s t).toNat : Int), Value.string s, Value.int IntKind.i64 ↑s.size, Value.int IntKind.i64 ↑C, Value.slice (some { block := w.heap.size, off := 0 }) 0 C, Value.string s, Value.func (Fn.func 41) #[] #[Value.pointer (some { block := w.heap.size + 1 + 1, off := 0 })], .int .u8 ((bt s t).toNat : Int), undef, undef, undef, undef, undef, undef, undef, undef, undef, undef, undef], defers := [] })
    ?hassign ?hbody ?hdone (fun _ _ _ h => h.elim)
  case hI =>
    rintro t A D r ⟨h1, h2, h3, h4, h5⟩ hg hr
    have hr' : w3.heap.size ≤ r := by rcases hr with h | h; exact h; cases h
    exact ⟨(hg.block _ (by omega) (by simp; omega)).trans h1, (hg.block _ (by omega) (by simp; omega)).trans h2, (hg.block _ (by omega) (by simp; omega)).trans h3, h4.trans (below_of_grown hg (by omega) (by omega)), Nat.le_trans h5 hg.size⟩
  case h0 => exact ⟨hr3, hx3, hs3, hb3, Nat.le_refl _⟩
  case hassign =>
    intro l t W K _ hK
    gi_wp2
    exact hK
  case hbody =>
    rintro l t W ht ⟨h1, h2, h3, h4, h5⟩
    have hcx : W.cell? ⟨w.heap.size + 1, 0, none⟩ = some (.slice (some ⟨w.heap.size, 0, none⟩) (2 * t) C) := cell_of_row _ _ 0 _ _ _ h2
    have hfx := frozen_of_row _ _ 0 _ _ h2
    obtain ⟨b, hb⟩ : ∃ b, bt s t = b := ⟨_, rfl⟩
    rw [hb]
    have hlt := b.toNat_lt
    have H1 := Lib.hid h1
    have H2 := Lib.hid h2
    have H3 := Lib.hid h3
    have H4 := Lib.hid h4
    have H5 := Lib.hid h5
    have HB := Lib.hid hb
    obtain ⟨q1, q1'⟩ := shr4 b
    obtain ⟨q2, q2'⟩ := and15 b
    obtain ⟨d1, hd1⟩ : ∃ d, b >>> 4 = d := ⟨_, rfl⟩
    obtain ⟨d2, hd2⟩ : ∃ d, b &&& 15 = d := ⟨_, rfl⟩
    rw [hd1] at q1 q1'
    rw [hd2] at q2 q2'
    have x1 := idx_digit _ q1'
    have x2 := idx_digit _ q2'
    have HD1 := Lib.hid hd1
    have HD2 := Lib.hid hd2
    have HQ1 := Lib.hid q1
    have HQ2 := Lib.hid q2
    have HX1 := Lib.hid x1
    have HX2 := Lib.hid x2
    clear hd1 hd2 q1 q2 q1' q2' x1 x2
    have hlen : (hexL (L.take t)).length = 2 * t := by rw [hexL_length, List.length_take]; omega
    have hroom : 2 * t + 2 ≤ C := by have := HC.out; omega
    have c0 : W.cell? ⟨w.heap.size, 2 * t, none⟩ = some (.int .u8 0) := (cell_of_row _ _ _ _ _ _ h1).trans (rowA_free _ _ _ (by omega) (by omega))
    have c1 : W.cell? ⟨w.heap.size, 2 * t + 1, none⟩ = some (.int .u8 0) := (cell_of_row _ _ _ _ _ _ h1).trans (rowA_free _ _ _ (by omega) (by omega))
    have f0 := frozen_of_row _ _ (2 * t) _ _ h1
    have f1 := frozen_of_row _ _ (2 * t + 1) _ _ h1
    have g0 : w.heap.size < W.heap.size := by omega
    have g1 : w.heap.size + 1 < W.heap.size := by omega
    have g2 : w.heap.size + 2 < W.heap.size := by omega
    have HLEN := Lib.hid hlen
    clear h1 h2 h3 h4 h5 hb hr3 hx3 hs3 hb3 hlen
    have hEnd : ∀ a', bodyEnds .ret w3.heap.size none t (fun t W => W.heap[w.heap.size]? = some (.cells (rowA (hexL (L.take t)) C) 5 (0, 0)) ∧ W.heap[w.heap.size + 1]? = some (.cells #[.slice (some ⟨w.heap.size, 0, none⟩) (2 * t) C] 29 (0, 0)) ∧ W.heap[w.heap.size + 2]? = some (.cells #[.string s] 9 (0, 0)) ∧ Below w.heap.size w W ∧ w3.heap.size ≤ W.heap.size) (fun _ => False) W .normal a'
        (((((W.setCell ⟨w.heap.size, 2 * t, none⟩ (.int .u8 ((hexC d1).toNat : Int))).setCell ⟨w.heap.size, 2 * t + 1, none⟩ (.int .u8 ((hexC d2).toNat : Int))).setCell ⟨w.heap.size + 1, 0, none⟩ (.slice (some ⟨w.heap.size, 0, none⟩) (2 * t + 2) C)).alloc (.cells #[.int .u8 ((hexC d1).toNat : Int), .int .u8 ((hexC d2).toNat : Int)] 5)).drew) := by
      intro a'
      have hbb : hexC d1 :: hexC d2 :: [] = hexL [b] := by rw [← HD1.out, ← HD2.out]; rfl
      have hLt : L.take (t + 1) = L.take t ++ [b] := by
        rw [List.take_succ_eq_append_getElem (by omega), ← HB.out, bt_in s t ht]
        have e : L[t]'(by omega) = s[t] := (List.getElem_of_eq hL.symm (by omega)).trans rfl
        rw [e]
      have hrow := heap_setCell_same _ w.heap.size (2 * t + 1) _ _ (.int .u8 ((hexC d2).toNat : Int)) (heap_setCell_same W w.heap.size (2 * t) _ _ (.int .u8 ((hexC d1).toNat : Int)) H1.out)
      have hset : ((rowA (hexL (L.take t)) C).setIfInBounds (2 * t) (.int .u8 ((hexC d1).toNat : Int))).setIfInBounds (2 * t + 1) (.int .u8 ((hexC d2).toNat : Int)) = rowA (hexL (L.take (t + 1))) C := by
        rw [hLt, hexL_append, ← hbb]
        exact rowA_two _ C (2 * t) _ _ HLEN.out hroom
      rw [hset] at hrow
      obtain ⟨W1, hW1⟩ : ∃ W1, (W.setCell ⟨w.heap.size, 2 * t, none⟩ (.int .u8 ((hexC d1).toNat : Int))).setCell ⟨w.heap.size, 2 * t + 1, none⟩ (.int .u8 ((hexC d2).toNat : Int)) = W1 := ⟨_, rfl⟩
      rw [hW1] at hrow ⊢
      have hg1 : W.grownBy W1 (some w.heap.size) := by rw [← hW1]; exact gB_setCell (gB_setCell (gB_refl _ _) _ _) _ _
      have hs1 := hg1.size
      have hg2 : W1.grownBy ((((W1.setCell ⟨w.heap.size + 1, 0, none⟩ (.slice (some ⟨w.heap.size, 0, none⟩) (2 * t + 2) C)).alloc (.cells #[.int .u8 ((hexC d1).toNat : Int), .int .u8 ((hexC d2).toNat : Int)] 5)).drew)) (some (w.heap.size + 1)) := gB_drew (gB_alloc (gB_setCell (gB_refl _ _) _ _) _)
      have hx1 := (hg1.block (w.heap.size + 1) (by omega) (by simp)).trans H2.out
      have hx2 := heap_setCell_same W1 (w.heap.size + 1) 0 _ _ (.slice (some ⟨w.heap.size, 0, none⟩) (2 * t + 2) C) hx1
      refine ⟨⟨Nat.le_trans hs1 hg2.size, fun _ h => (by cases h), fun k hk hl => (hg2.block k (by omega) (by simp; omega)).trans (hg1.block k hl (by simp; omega))⟩, (hg2.block _ (by omega) (by simp)).trans hrow, ?_, ?_, ?_, ?_⟩
      · exact (Below.heap_alloc _ _ _ (by simp; omega)).trans hx2
      · exact (hg2.block _ (by omega) (by simp)).trans ((hg1.block _ (by omega) (by simp)).trans H3.out)
      · exact H4.out.trans ((below_of_grown (B := w.heap.size) hg1 (Nat.le_refl _) (by omega)).trans (below_of_grown (B := w.heap.size) hg2 (Nat.le_succ _) (by omega)))
      · have := hg2.size; have := H5.out; omega
    have HEND := Lib.hid hEnd
    clear hEnd
    gi_wp2
    refine region_round (by kernel_rfl) (by kernel_rfl) (by rintro ⟨_, _, h⟩; exact h) ?_
    refine wpAny_take (i := 1) (v := .int .u8 (b.toNat : Int)) rfl (by kernel_rfl) (by kernel_rfl) (by kernel_rfl) (fun _ _ _ h => h) (Or.inl ⟨by rfl, fun _ => rfl⟩) ?_
    refine wpAny_take (i := 2) (v := .int .u8 (d1.toNat : Int)) rfl (by kernel_rfl) (by kernel_rfl) (by kernel_rfl) (fun _ _ _ h => h) (Or.inl ⟨by rfl, fun w => ?_⟩) ?_
    · rw [← HQ1.out]; go_simp
    refine wpAny_take (i := 3) (v := .int .u8 ((hexC d1).toNat : Int)) rfl (by kernel_rfl) (by kernel_rfl) (by kernel_rfl) (fun _ _ _ h => h) (Or.inl ⟨by rfl, fun w => ?_⟩) ?_
    · exact ix _ _ (HX1.out w)
    refine wpAny_take (i := 4) (v := .int .u8 (b.toNat : Int)) rfl (by kernel_rfl) (by kernel_rfl) (by kernel_rfl) (fun _ _ _ h => h) (Or.inl ⟨by rfl, fun _ => rfl⟩) ?_
    refine wpAny_take (i := 5) (v := .int .u8 (d2.toNat : Int)) rfl (by kernel_rfl) (by kernel_rfl) (by kernel_rfl) (fun _ _ _ h => h) (Or.inl ⟨by rfl, fun w => ?_⟩) ?_
    · rw [← HQ2.out]; go_simp
    refine wpAny_take (i := 6) (v := .int .u8 ((hexC d2).toNat : Int)) rfl (by kernel_rfl) (by kernel_rfl) (by kernel_rfl) (fun _ _ _ h => h) (Or.inl ⟨by rfl, fun w => ?_⟩) ?_
    · exact ix _ _ (HX2.out w)
    refine wpAny_ready (rs := [0, 7]) (by kernel_rfl) (by simp) ?_
    refine AllReady.cons rfl (fun K hK => ?_) (AllReady.cons rfl (fun K hK => ?_) AllReady.nil)
    · go_simp
      refine hK _ _ ?_
      clear hK K
      refine wpAny_ready (rs := [7]) (by kernel_rfl) (by simp) ?_
      refine AllReady.cons rfl (fun K hK => ?_) AllReady.nil
      go_simp
      refine hK _ _ ?_
      clear hK K
      refine wpAny_ready (rs := [8]) (by kernel_rfl) (by simp) ?_
      refine AllReady.cons rfl (fun K hK => ?_) AllReady.nil
      go_simp
      refine hK _ _ ?_
      clear hK K
      refine wpAny_ready (rs := [9]) (by kernel_rfl) (by simp) ?_
      refine AllReady.cons rfl (fun K hK => ?_) AllReady.nil
      go_simp
      refine hK _ _ ?_
      clear hK K
      refine wpAny_done (by kernel_rfl) ?_ _
      exact HEND.out ⟨#[], []⟩
    · go_simp
      refine hK _ _ ?_
      clear hK K
      refine wpAny_ready (rs := [0]) (by kernel_rfl) (by simp) ?_
      refine AllReady.cons rfl (fun K hK => ?_) AllReady.nil
      go_simp
      refine hK _ _ ?_
      clear hK K
      refine wpAny_ready (rs := [8]) (by kernel_rfl) (by simp) ?_
      refine AllReady.cons rfl (fun K hK => ?_) AllReady.nil
      go_simp
      refine hK _ _ ?_
      clear hK K
      refine wpAny_ready (rs := [9]) (by kernel_rfl) (by simp) ?_
      refine AllReady.cons rfl (fun K hK => ?_) AllReady.nil
      go_simp
      refine hK _ _ ?_
      clear hK K
      refine wpAny_done (by kernel_rfl) ?_ _
      exact HEND.out ⟨#[], []⟩
  case hdone =>
    rintro D W hD ⟨h1, h2, h3, h4, h5⟩ hK
    have hcx : W.cell? ⟨w.heap.size + 1, 0, none⟩ = some (.slice (some ⟨w.heap.size, 0, none⟩) (2 * s.size) C) := cell_of_row _ _ 0 _ _ _ h2
    have hfull : L.take s.size = L := List.take_of_length_le (by omega)
    rw [hfull] at h1
    have hhl : (hexL L).length = 2 * s.size := by rw [hexL_length]; omega
    have hcv := run_convert_bytes_back (P := Tryd.prog) W 29 9 5 ⟨w.heap.size, 0, none⟩ C (hexL L) Tryd.underlying29 Tryd.underlying5 Tryd.underlying9 (fun j hj => by
      rw [addr_add, Nat.zero_add, cell_of_row _ _ _ _ _ _ h1, rowA_get _ _ _ hj]; rfl)
    rw [hhl] at hcv
    have H4 := Lib.hid h4
    have HK := Lib.hid hK
    clear h1 h2 h3 h4 h5 hK hr3 hx3 hs3 hb3
    go_wp2
    have hD1 : w.heap.size < D := by omega
    refine ⟨by simp, .inl ⟨_, _, rfl, run_takeDeferred HK.out, ?_⟩⟩
    refine ⟨_, by simp [results, Tryd.results16, go_sem, hL], rfl, H4.out.trans (below_of_grown (turn W D _) (by omega) (by have := H4.out.size; omega))⟩
theorem Hex_ok (s : ByteArray) (hs : s.size ≤ 1000000) (w : World) :
    Calls Tryd.prog 16 #[.string s] w fun e w' => e = .returned (.string ⟨(hexL s.data.toList).toArray⟩) ∧ Below w.heap.size w w' := callsIn_wide.1 (Hex_in s hs w)
end Go.Proofs.YthojdcmkajmdjaaDoor

namespace Go.Proofs.YthojdcmkajmdjaaDoor
open Go.RowKit Go.Shelf
open Rd Dg Hx Seqs
attribute [local go_sem] Oper.semAt_some
/-- how far two texts are the same -/
def sameTo (a b : ByteArray) (t : Nat) : Prop := a.size = b.size ∧ ∀ j, j < t → bt a j = bt b j
theorem sameTo_all (a b : ByteArray) : sameTo a b (max a.size b.size) ↔ a = b := by
  constructor
  · rintro ⟨h1, h2⟩
    apply ByteArray.ext
    apply Array.ext
    · exact h1
    · intro i hi hj
      have e := h2 i (by show i < max a.size b.size; have : i < a.size := hi; omega)
      rw [bt_in a i hi, bt_in b i hj] at e
      exact e
  · rintro rfl; exact ⟨rfl, fun _ _ => rfl⟩
theorem sameTo_succ (a b : ByteArray) (t : Nat) : sameTo a b (t + 1) ↔ sameTo a b t ∧ (bt a t ^^^ bt b t).toNat = 0 := by
  rw [xor8_zero]
  constructor
  · rintro ⟨h1, h2⟩; exact ⟨⟨h1, fun j hj => h2 j (by omega)⟩, h2 t (by omega)⟩
  · rintro ⟨⟨h1, h2⟩, h3⟩
    refine ⟨h1, fun j hj => ?_⟩
    rcases Nat.lt_or_ge j t with h | h
    · exact h2 j h
    · obtain rfl : j = t := by omega
      exact h3
set_option maxRecDepth 100000 in
set_option maxHeartbeats 4000000 in
theorem Equal_in (a b : ByteArray) (ha : a.size ≤ 1000000) (hb : b.size ≤ 1000000) (w : World) :
    CallsIn Fence.wide 6 Tryd.prog 18 #[.string a, .string b] w fun e w' => e = .returned (.bool (decide (a = b))) ∧ Below w.heap.size w w' := by
  obtain ⟨n0, hn0⟩ : ∃ n, a.size ^^^ b.size = n := ⟨_, rfl⟩
  obtain ⟨e1, _, hl1, _⟩ := bits64 a.size b.size (by omega) (by omega)
  rw [hn0] at e1 hl1
  have HN0 := Lib.hid hn0
  clear hn0
  refine callsIn_of_wp_marks Tryd.func18 rfl trivial ?_ rfl
  simp only [Tryd.ntmps18, List.size_toArray, List.length_cons, List.length_nil, Nat.reduceAdd, Nat.reduceSub, Array.replicate_succ, Array.replicate_zero, List.push_toArray, List.append_toArray, List.nil_append, List.cons_append]
  refine wpIn_wide.2 ?_
  go_wp2_with fail
  refine (beside_any a b _).mono ?_
  rintro e w' ⟨rfl, rfl⟩
  go_wp2_with fail
  obtain ⟨w3, hw3⟩ : ∃ w3, (((w.alloc (.cells #[.int .i64 (n0 : Int)] 3)).alloc (.cells #[.string a] 9)).alloc (.cells #[.string b] 9)) = w3 := ⟨_, rfl⟩
  rw [hw3]
  have hz3 : w3.heap.size = w.heap.size + 3 := by rw [← hw3]; simp
  have hx3 : w3.heap[w.heap.size]? = some (.cells #[.int .i64 (n0 : Int)] 3 (0, 0)) := by
    rw [← hw3, Below.heap_alloc _ _ _ (by simp; omega), Below.heap_alloc _ _ _ (by simp)]; exact heap_alloc_new w _
  have ha3 : w3.heap[w.heap.size + 1]? = some (.cells #[.string a] 9 (0, 0)) := by
    rw [← hw3, Below.heap_alloc _ _ _ (by simp)]
    have h := heap_alloc_new (w.alloc (.cells #[.int .i64 (n0 : Int)] 3)) (.cells #[.string a] 9)
    rwa [World.size_alloc] at h
  have hb3 : w3.heap[w.heap.size + 2]? = some (.cells #[.string b] 9 (0, 0)) := by
    rw [← hw3]
    have h := heap_alloc_new ((w.alloc (.cells #[.int .i64 (n0 : Int)] 3)).alloc (.cells #[.string a] 9)) (.cells #[.string b] 9)
    rwa [World.size_alloc, World.size_alloc] at h
  have hbl3 : Below w.heap.size w w3 := by rw [← hw3]; exact (((Below.refl _ w).alloc (Nat.le_refl _) _).alloc (by simp) _).alloc (by simp; omega) _
  have hst0 : n0 = 0 ↔ sameTo a b 0 := by
    rw [← HN0.out, xor_zero]
    exact ⟨fun h => ⟨h, fun j hj => absurd hj (Nat.not_lt_zero j)⟩, fun h => h.1⟩
  clear hw3 e1
  refine (wpIn_wide (n := 6)).1 ?_
  refine wpIn_rangeFunc_run rfl (by decide) (gf := 42) (lb := #[.pointer (some ⟨w.heap.size + 1, 0, none⟩), .pointer (some ⟨w.heap.size + 1 + 1, 0, none⟩)]) rfl trivial (enters_of Tryd.func42 (by kernel_rfl) rfl)
    (beside_run 5 a b ha hb (w.heap.size + 1) (w.heap.size + 1 + 1)) (fun _ => rfl) .ret
    (fun t W => (∃ n : Nat, n < 2 ^ 30 ∧ (n = 0 ↔ sameTo a b t) ∧ W.heap[w.heap.size]? = some (.cells #[.int .i64 (n : Int)] 3 (0, 0))) ∧ W.heap[w.heap.size + 1]? = some (.cells #[.string a] 9 (0, 0)) ∧ W.heap[w.heap.size + 2]? = some (.cells #[.string b] 9 (0, 0)) ∧ Below w.heap.size w W ∧ w3.heap.size ≤ W.heap.size)
    (fun _ => False) ?hI (fun _ _ _ h => h.elim) (fun t A h => ⟨cell_of_row A _ 0 _ _ _ h.2.1, cell_of_row A _ 0 _ _ _ h.2.2.1⟩) (fun _ h => by cases h) ?h0
    (fun t => { tmps := #[Value.string a, Value.string b, undef, undef, Value.bool false, Value.pointer (some { block := w.heap.size, off := 0 }), .int .u8 ((bt a t).toNat : Int), .int .u8 ((bt b t).toNat : Int), Value.string a, Value.int IntKind.i64 ↑a.size, Value.string b, Value.int IntKind.i64 ↑b.size, Value.int IntKind.i64 ↑n0, Value.string a, Value.string b, Value.func (Fn.func 42) #[] #[Value.pointer (some { block := w.heap.size + 1, off := 0 }), Value.pointer (some { block := w.heap.size + 1 + 1, off := 0 })], .int .u8 ((bt a t).toNat : Int), .int .u8 ((bt b t).toNat : Int), undef, undef, undef, undef, undef, undef, undef, undef], defers := [] })
    ?hassign ?hbody ?hdone (fun _ _ _ h => h.elim)
  case hI =>
    rintro t A D r ⟨⟨n, h0, h0', h1⟩, h2, h3, h4, h5⟩ hg hr
    have hr' : w3.heap.size ≤ r := by rcases hr with h | h; exact h; cases h
    exact ⟨⟨n, h0, h0', (hg.block _ (by omega) (by simp; omega)).trans h1⟩, (hg.block _ (by omega) (by simp; omega)).trans h2, (hg.block _ (by omega) (by simp; omega)).trans h3, h4.trans (below_of_grown hg (by omega) (by omega)), Nat.le_trans h5 hg.size⟩
  case h0 => exact ⟨⟨n0, by omega, hst0, hx3⟩, ha3, hb3, hbl3, Nat.le_refl _⟩
  case hassign =>
    intro l t W K _ hK
    gi_wp2
    exact hK
  case hbody =>
    rintro l t W ht ⟨⟨n, h0, h0', h1⟩, h2, h3, h4, h5⟩
    have hcx : W.cell? ⟨w.heap.size, 0, none⟩ = some (.int .i64 (n : Int)) := cell_of_row _ _ 0 _ _ _ h1
    have hfx := frozen_of_row _ _ 0 _ _ h1
    have hxx := bits8_xor (bt a t) (bt b t)
    have hsu := sameTo_succ a b t
    obtain ⟨x, hx⟩ : ∃ x, bt a t = x := ⟨_, rfl⟩
    obtain ⟨y, hy⟩ : ∃ y, bt b t = y := ⟨_, rfl⟩
    rw [hx, hy] at hxx hsu
    rw [hx, hy]
    obtain ⟨z, hz⟩ : ∃ z, x ^^^ y = z := ⟨_, rfl⟩
    rw [hz] at hxx hsu
    have hzl := z.toNat_lt
    obtain ⟨_, eo, _, hol⟩ := bits64 n z.toNat h0 (by omega)
    obtain ⟨m, hm⟩ : ∃ m, n ||| z.toNat = m := ⟨_, rfl⟩
    rw [hm] at eo hol
    rw [← (show wrap64 (z.toNat : Int) = (z.toNat : Int) by unfold wrap64; omega)] at eo
    have hm0 : m = 0 ↔ sameTo a b (t + 1) := by rw [← hm, or_zero, hsu, h0']
    have H1 := Lib.hid h1
    have H2 := Lib.hid h2
    have H3 := Lib.hid h3
    have H4 := Lib.hid h4
    have HM := Lib.hid hm0
    have HOL := Lib.hid hol
    have g0 : w.heap.size < W.heap.size := by omega
    have g2 : w.heap.size + 2 < W.heap.size := by omega
    have H5 := Lib.hid h5
    clear h0 h0' h1 h2 h3 h4 h5 hx hy hz hzl hm hol hm0 hsu hx3 ha3 hb3
    gi_wp2
    have hg : W.grownBy (W.setCell ⟨w.heap.size, 0, none⟩ (.int .i64 (m : Int))) (some w.heap.size) := gB_setCell (gB_refl _ _) _ _
    exact ⟨⟨hg.size, fun _ h => (by cases h), fun k hk hl => hg.block k hl (by simp; omega)⟩, ⟨m, HOL.out, HM.out, heap_setCell_same W w.heap.size 0 _ _ _ H1.out⟩, (hg.block _ (by omega) (by simp)).trans H2.out, (hg.block _ (by omega) (by simp)).trans H3.out, H4.out.trans (below_of_grown (B := w.heap.size) hg (Nat.le_refl _) (by omega)), Nat.le_trans H5.out hg.size⟩
  case hdone =>
    rintro D W hD ⟨⟨n, h0, h0', h1⟩, h2, h3, h4, h5⟩ hK
    have hcx : W.cell? ⟨w.heap.size, 0, none⟩ = some (.int .i64 (n : Int)) := cell_of_row _ _ 0 _ _ _ h1
    rw [sameTo_all] at h0'
    have hdec : decide (a = b) = decide ((n : Int) = 0) := by
      rw [decide_eq_decide, ← h0']; omega
    have hdec' : decide (a = b) = ((n : Int) == 0) := by rw [hdec]; rfl
    have H4 := Lib.hid h4
    have HK := Lib.hid hK
    have HD := Lib.hid hdec'
    clear h0 h0' h1 h2 h3 h4 h5 hK hx3 ha3 hb3 hdec hdec'
    go_wp2
    have hD1 : w.heap.size < D := by omega
    refine ⟨by simp, .inl ⟨_, _, rfl, run_takeDeferred HK.out, ?_⟩⟩
    refine ⟨.bool (decide (a = b)), by simp [results, Tryd.results18, go_sem, HD.out], rfl, H4.out.trans (below_of_grown (turn W D _) (by omega) (by have := H4.out.size; omega))⟩
theorem Equal_ok (a b : ByteArray) (ha : a.size ≤ 1000000) (hb : b.size ≤ 1000000) (w : World) :
    Calls Tryd.prog 18 #[.string a, .string b] w fun e w' => e = .returned (.bool (decide (a = b))) ∧ Below w.heap.size w w' := callsIn_wide.1 (Equal_in a b ha hb w)
end Go.Proofs.YthojdcmkajmdjaaDoor

namespace Go.Proofs.YthojdcmkajmdjaaDoor
open Go.RowKit Go.Shelf
open Rd Dg Hx Seqs
open Go.Lib (run_next_any_at run_next_end_at below_iterAt iterAt_heap iterAt_size)
attribute [local go_sem] Oper.semAt_some
theorem past_of_below {B : Nat} {bx : Option Nat} {W W' : World} (h : Below W.heap.size W W') (hbx : ∀ b, bx = some b → b < W.heap.size) : Past B bx W W' :=
  ⟨h.size, fun b hb => h.block b (hbx b hb), fun k _ hk => h.block k hk⟩
theorem valC_high (c : UInt8) (h : 128 ≤ c.toNat) : valC c = none := by
  have key : ∀ n : Fin 256, 128 ≤ n.1 → valC (UInt8.ofNat n.1) = none := by decide +kernel
  have k := key ⟨c.toNat, c.toNat_lt⟩ h
  simpa using k
theorem valR_high (r : Nat) (h : 128 ≤ r) : valR r = none := by
  unfold valR
  split
  · rename_i hr
    exact valC_high _ (by simp; omega)
  · rfl
theorem valR_low (c : UInt8) : valR c.toNat = valC c := by
  unfold valR
  rw [if_pos c.toNat_lt]
  simp
/-- a rune is worth what its first byte is, as a digit -/
theorem dec_val (s : ByteArray) (pos : Nat) (h : pos < s.size) : valR (Utf8.decode s pos).1 = valC s[pos] := by
  by_cases ha : (s[pos]'h).toNat < 128
  · rw [decode_ascii s pos h ha]; exact valR_low _
  · rw [valR_high _ (decode_high s pos h (by omega)).1, valC_high _ (by omega)]
theorem dec_some (s : ByteArray) (pos : Nat) (h : pos < s.size) (x : UInt8) (hx : valC s[pos] = some x) : Utf8.decode s pos = ((s[pos]'h).toNat, 1) := by
  have ha : (s[pos]'h).toNat < 128 := by
    rcases Nat.lt_or_ge (s[pos]'h).toNat 128 with h' | h'
    · exact h'
    · rw [valC_high _ h'] at hx; cases hx
  exact decode_ascii s pos h ha
theorem pr_size (s : ByteArray) (t : Nat) (h : 2 * t + 2 ≤ s.size) : (pr s t).size = 2 := by unfold pr; rw [ByteArray.size_extract]; omega
theorem pr_list (s : ByteArray) (t : Nat) (L : List UInt8) (hL : s.data.toList = L) (h : 2 * t + 1 < L.length) : ∃ h2 : (pr s t).size = 2, (pr s t)[0] = L[2 * t] ∧ (pr s t)[1] = L[2 * t + 1] := by
  subst hL
  have hs : 2 * t + 2 ≤ s.size := by rw [Array.length_toList] at h; exact h
  refine ⟨pr_size s t hs, ?_, ?_⟩
  · exact (ByteArray.getElem_extract (by rw [← pr, pr_size s t hs]; omega)).trans rfl
  · exact (ByteArray.getElem_extract (by rw [← pr, pr_size s t hs]; omega)).trans rfl
set_option maxRecDepth 100000 in
set_option maxHeartbeats 4000000 in
theorem Unhex_in (s : ByteArray) (hs : s.size ≤ 1000000) (w : World) :
    CallsIn Fence.wide 6 Tryd.prog 14 #[.string s] w fun e w' => e = .returned (match unL s.data.toList with | some o => .tuple #[.string ⟨o.toArray⟩, .int .i64 0] | none => .tuple #[.string ⟨#[]⟩, .int .i64 30]) ∧ Below w.heap.size w w' := by
  obtain ⟨L, hL⟩ : ∃ L, s.data.toList = L := ⟨_, rfl⟩
  have hLs : L.length = s.size := by rw [← hL, Array.length_toList]; rfl
  have HL := Lib.hid hL
  rw [hL]
  clear hL
  obtain ⟨V, hV⟩ : ∃ V : Value, (match unL L with | some o => .tuple #[.string ⟨o.toArray⟩, .int .i64 0] | none => .tuple #[.string ⟨#[]⟩, .int .i64 30]) = V := ⟨_, rfl⟩
  rw [hV]
  have HV := Lib.hid hV
  have HLS := Lib.hid hLs
  clear hV hLs
  obtain ⟨i0, hi, hz0, hz1, hz2⟩ := info_parts info5b
  obtain ⟨C, hC⟩ : ∃ C, s.size / 2 = C := ⟨_, rfl⟩
  have hCi : (s.size : Int) / 2 = (C : Int) := by omega
  have hmk := run_make (P := Tryd.prog) w 29 5 i0 (.int .u8 0) Tryd.underlying29 hi hz0 .i64 .i64 0 (C : Int) (by omega) (by omega) (by rw [hz2]; omega) (by omega)
  obtain ⟨Z, hZ⟩ : ∃ Z, madeCells (Value.int .u8 0).cells ((C : Int).toNat * i0.size) = Z := ⟨_, rfl⟩
  have hZr : Z = rowA [] C := by
    rw [← hZ, hz1, Nat.mul_one, Int.toNat_natCast]
    apply Array.ext'
    rw [made_u8]
    simp [rowA]
  rw [hZ, hZr, Int.toNat_natCast] at hmk
  have hmk' : (Instr.makeSlice 29 (.int .i64 0) (.int .i64 (C : Int))).run Tryd.prog w = .ok (.slice (some ⟨w.heap.size, 0, none⟩) 0 C) (w.alloc (.cells (rowA [] C) 5)) := hmk
  have HC := Lib.hid hC
  clear hC hZ hZr hmk
  refine callsIn_of_wp_marks Tryd.func14 rfl trivial ?_ rfl
  simp only [Tryd.ntmps14, List.size_toArray, List.length_cons, List.length_nil, Nat.reduceAdd, Nat.reduceSub, Array.replicate_succ, Array.replicate_zero, List.push_toArray, List.append_toArray, List.nil_append, List.cons_append]
  refine wpIn_wide.2 ?_
  go_wp2_with fail
  go_step3
  go_wp2_with fail
  go_step3
  go_wp2_with fail
  refine (pairs_any s _).mono ?_
  rintro e w' ⟨rfl, rfl⟩
  go_wp2_with fail
  obtain ⟨w3, hw3⟩ : ∃ w3, ((w.alloc (.cells (rowA [] C) 5)).alloc (.cells #[.slice (some ⟨w.heap.size, 0, none⟩) 0 C] 29)).alloc (.cells #[.string s] 9) = w3 := ⟨_, rfl⟩
  rw [hw3]
  have hz3 : w3.heap.size = w.heap.size + 3 := by rw [← hw3]; simp
  have hr3 : w3.heap[w.heap.size]? = some (.cells (rowA [] C) 5 (0, 0)) := by
    rw [← hw3, Below.heap_alloc _ _ _ (by simp; omega), Below.heap_alloc _ _ _ (by simp)]; exact heap_alloc_new w _
  have hx3 : w3.heap[w.heap.size + 1]? = some (.cells #[.slice (some ⟨w.heap.size, 0, none⟩) 0 C] 29 (0, 0)) := by
    rw [← hw3, Below.heap_alloc _ _ _ (by simp)]
    have h := heap_alloc_new (w.alloc (.cells (rowA [] C) 5)) (.cells #[.slice (some ⟨w.heap.size, 0, none⟩) 0 C] 29)
    rwa [World.size_alloc] at h
  have hs3 : w3.heap[w.heap.size + 2]? = some (.cells #[.string s] 9 (0, 0)) := by
    rw [← hw3]
    have h := heap_alloc_new ((w.alloc (.cells (rowA [] C) 5)).alloc (.cells #[.slice (some ⟨w.heap.size, 0, none⟩) 0 C] 29)) (.cells #[.string s] 9)
    rwa [World.size_alloc, World.size_alloc] at h
  have hrest0 : rest s 0 = s := by
    unfold rest
    rw [Nat.mul_zero]
    exact ByteArray.extract_zero_size
  have hb3 : Below w.heap.size w w3 := by rw [← hw3]; exact (((Below.refl _ w).alloc (Nat.le_refl _) _).alloc (by simp) _).alloc (by simp; omega) _
  clear hw3 hmk'
  refine (wpIn_wide (n := 6)).1 ?_
  refine wpIn_rangeFunc_run rfl (by decide) (gf := 40) (lb := #[.pointer (some ⟨w.heap.size + 1 + 1, 0, none⟩)]) rfl trivial (enters_of Tryd.func40 (by kernel_rfl) rfl)
    (pairs_run 5 s (by omega) (w.heap.size + 1 + 1)) (fun _ => rfl) (.exit 0)
    (fun t W => (∃ o, upTo L t o ∧ W.heap[w.heap.size]? = some (.cells (rowA o C) 5 (0, 0))) ∧ W.heap[w.heap.size + 1]? = some (.cells #[.slice (some ⟨w.heap.size, 0, none⟩) t C] 29 (0, 0)) ∧ Below w.heap.size w W ∧ w3.heap.size ≤ W.heap.size)
    (fun W => unL L = none ∧ (∃ t, t < s.size / 2 ∧ W.heap[w.heap.size + 1]? = some (.cells #[.slice (some ⟨w.heap.size, 0, none⟩) t C] 29 (0, 0))) ∧ Below w.heap.size w W ∧ w3.heap.size ≤ W.heap.size)
    ?hI ?hIx (fun _ _ _ => trivial) ?hbx ?h0
    (fun t => { tmps := #[Value.string s, undef, Value.string { data := #[] }, Value.int IntKind.i64 0, Value.pointer (some { block := w.heap.size + 1, off := 0 }), .string (pr s t), undef, undef, undef, undef, undef, Value.string s, Value.int IntKind.i64 ↑s.size, Value.int IntKind.i64 ↑C, Value.slice (some { block := w.heap.size, off := 0 }) 0 C, Value.string s, Value.func (Fn.func 40) #[] #[Value.pointer (some { block := w.heap.size + 1 + 1, off := 0 })], .string (pr s t), undef, undef, undef, undef, undef, undef, undef, undef, undef, undef, undef, undef, undef, undef, undef, undef, undef, undef, undef, undef, undef, undef, undef, undef, undef, undef, undef, undef], defers := [] })
    ?hassign ?hbody ?hdone ?hstop
  case hI =>
    rintro t A D r ⟨⟨o, h0, h1⟩, h2, h4, h5⟩ hg hr
    have hr' : w.heap.size + 2 ≤ r := by
      rcases hr with h | h
      · omega
      · have := Option.some.inj h; omega
    exact ⟨⟨o, h0, (hg.block _ (by omega) (by simp; omega)).trans h1⟩, (hg.block _ (by omega) (by simp; omega)).trans h2, h4.trans (below_of_grown hg (by omega) (by omega)), Nat.le_trans h5 hg.size⟩
  case hIx =>
    rintro A D r ⟨h0, ⟨t, ht, h1⟩, h4, h5⟩ hg hr
    exact ⟨h0, ⟨t, ht, (hg.block _ (by omega) (by simp; omega)).trans h1⟩, h4.trans (below_of_grown hg (by omega) (by omega)), Nat.le_trans h5 hg.size⟩
  case hbx =>
    rintro b h
    obtain rfl := Option.some.inj h
    rw [hrest0]; exact hs3
  case h0 => exact ⟨⟨[], upTo_zero L, hr3⟩, hx3, hb3, Nat.le_refl _⟩
  case hassign =>
    intro l t W K _ hK
    gi_wp2
    exact hK
  case hbody =>
    rintro l t W ht ⟨⟨o, h0, h1⟩, h2, h4, h5⟩
    have hcx : W.cell? ⟨w.heap.size + 1, 0, none⟩ = some (.slice (some ⟨w.heap.size, 0, none⟩) t C) := cell_of_row _ _ 0 _ _ _ h2
    have hfx := frozen_of_row _ _ 0 _ _ h2
    have htl : 2 * t + 1 < L.length := by have := HLS.out; omega
    have g9 : w.heap.size + 3 ≤ W.heap.size := by omega
    obtain ⟨hps, hp0, hp1⟩ := pr_list s t L HL.out htl
    have d0 := dec_val (pr s t) 0 (by omega)
    have d1 := dec_val (pr s t) 1 (by omega)
    have s0 := dec_some (pr s t) 0 (by omega)
    have s1 := dec_some (pr s t) 1 (by omega)
    have l0 := decode_le (pr s t) 0
    have l1 := decode_le (pr s t) 1
    rw [hp0] at d0 s0
    rw [hp1] at d1 s1
    clear hp0 hp1
    obtain ⟨P, hP⟩ : ∃ P, pr s t = P := ⟨_, rfl⟩
    rw [hP] at hps d0 d1 s0 s1 l0 l1
    rw [hP]
    obtain ⟨W1, hW1⟩ : ∃ W1, W.iter P 0 = W1 := ⟨_, rfl⟩
    have hk1 : W1.heap[W.heap.size]? = some (.stringIter P 0) := by rw [← hW1]; exact World.iter_heap W P 0
    have hz1' : W1.heap.size = W.heap.size + 1 := by rw [← hW1]; exact World.size_alloc _ _
    have hb1 : Below W.heap.size W W1 := by rw [← hW1]; exact (Below.refl _ W).alloc (Nat.le_refl _) _
    have n1 := fun ty => run_next_any_at (P := Tryd.prog) W1 W.heap.size P 0 ty hk1 (by omega)
    cases hv0 : valC L[2 * t] with
    | none =>
      rw [hv0] at d0
      have hbad : unL L = none := upTo_bad htl (by unfold two; rw [hv0])
      obtain ⟨r0, hr0⟩ : ∃ r, (Utf8.decode P 0).1 = r := ⟨_, rfl⟩
      obtain ⟨q0, hq0⟩ : ∃ q, 0 + (Utf8.decode P 0).2 = q := ⟨_, rfl⟩
      rw [hr0] at d0 l0
      rw [hr0, hq0] at n1
      have hb2 := below_iterAt hb1 (Nat.le_refl _) P q0
      have hval := value_none r0 l0 d0 (W1.iterAt W.heap.size P q0)
      have H0 := Lib.hid hbad
      have H2 := Lib.hid h2
      have H4 := Lib.hid h4
      have H5 := Lib.hid h5
      have HB := Lib.hid hb2
      have HVAL := Lib.hid hval
      have HZ := Lib.hid hz1'
      clear h0 h1 h2 h4 h5 hb1 hb2 hval d0 d1 s0 s1 l0 l1 hps hP hk1 hr3 hx3 hs3 hb3 hv0 hrest0 hbad hz1' hr0 hq0
      gi_wp2
      refine wpIn_loop_rounds 3 ?_
      rw [roundsIn_succ]
      gi_wp2_with fail
      refine ⟨trivial, ?_⟩
      refine (CallsIn.inRound l (callsIn_wide.2 HVAL.out)).mono ?_
      rintro e w' ⟨rfl, rfl⟩
      gi_wp2
      exact ⟨rfl, past_of_below HB.out (fun b h => by have := Option.some.inj h; omega), H0.out, ⟨t, ht, (HB.out.block _ (by omega)).trans H2.out⟩, H4.out.trans (HB.out.mono (by omega)), by have := HB.out.size; have := H5.out; omega⟩
    | some x0 =>
      rw [hv0] at d0
      have e0 := s0 x0 hv0
      obtain ⟨r0, hr0⟩ : ∃ r, (Utf8.decode P 0).1 = r := ⟨_, rfl⟩
      have hq0 : 0 + (Utf8.decode P 0).2 = 1 := (congrArg (fun d => 0 + d.2) e0).trans rfl
      rw [hr0] at d0
      rw [hr0, hq0] at n1
      obtain ⟨W2, hW2⟩ : ∃ W2, W1.iterAt W.heap.size P 1 = W2 := ⟨_, rfl⟩
      have hk2 : W2.heap[W.heap.size]? = some (.stringIter P 1) := by rw [← hW2]; exact iterAt_heap W1 _ P 0 1 hk1
      have hb2 : Below W.heap.size W W2 := by rw [← hW2]; exact below_iterAt hb1 (Nat.le_refl _) P 1
      rw [hW2] at n1
      have n2 := fun ty => run_next_any_at (P := Tryd.prog) W2 W.heap.size P 1 ty hk2 (by omega)
      have hval0 := value_some r0 x0 d0 W2
      have o0 : bits .or .u8 0 (x0.toNat : Int) = (x0.toNat : Int) := by
        have h := bits8_or 0 x0
        have e : (0 : UInt8) ||| x0 = x0 := UInt8.zero_or
        rw [e] at h
        exact h
      have HVAL0 := Lib.hid hval0
      cases hv1 : valC L[2 * t + 1] with
      | none =>
        rw [hv1] at d1
        have hbad : unL L = none := upTo_bad htl (by unfold two; rw [hv0, hv1])
        obtain ⟨r1, hr1⟩ : ∃ r, (Utf8.decode P 1).1 = r := ⟨_, rfl⟩
        obtain ⟨q1, hq1⟩ : ∃ q, 1 + (Utf8.decode P 1).2 = q := ⟨_, rfl⟩
        rw [hr1] at d1 l1
        rw [hr1, hq1] at n2
        have hb3' := below_iterAt hb2 (Nat.le_refl _) P q1
        have hval := value_none r1 l1 d1 (W2.iterAt W.heap.size P q1)
        have H0 := Lib.hid hbad
        have H2 := Lib.hid h2
        have H4 := Lib.hid h4
        have H5 := Lib.hid h5
        have HB := Lib.hid hb3'
        have HVAL := Lib.hid hval
        have HZ := Lib.hid hz1'
        clear h0 h1 h2 h4 h5 hb1 hb2 hb3' hval hval0 d0 d1 s0 s1 l0 l1 hps hP hk1 hk2 hr3 hx3 hs3 hb3 hv0 hv1 hrest0 hbad hz1' hr0 hq0 hr1 hq1 e0 hW2
        gi_wp2
        refine wpIn_loop_rounds 3 ?_
        rw [roundsIn_succ]
        gi_wp2_with fail
        refine ⟨trivial, ?_⟩
        refine (CallsIn.inRound l (callsIn_wide.2 HVAL0.out)).mono ?_
        rintro e w' ⟨rfl, rfl⟩
        gi_wp2_with fail
        rw [roundsIn_succ]
        gi_wp2_with fail
        refine ⟨trivial, ?_⟩
        refine (CallsIn.inRound l (callsIn_wide.2 HVAL.out)).mono ?_
        rintro e w' ⟨rfl, rfl⟩
        gi_wp2
        exact ⟨rfl, past_of_below HB.out (fun b h => by have := Option.some.inj h; omega), H0.out, ⟨t, ht, (HB.out.block _ (by omega)).trans H2.out⟩, H4.out.trans (HB.out.mono (by omega)), by have := HB.out.size; have := H5.out; omega⟩
      | some x1 =>
        rw [hv1] at d1
        have e1 := s1 x1 hv1
        obtain ⟨r1, hr1⟩ : ∃ r, (Utf8.decode P 1).1 = r := ⟨_, rfl⟩
        have hq1 : 1 + (Utf8.decode P 1).2 = 2 := (congrArg (fun d => 1 + d.2) e1).trans rfl
        rw [hr1] at d1
        rw [hr1, hq1] at n2
        obtain ⟨W3, hW3⟩ : ∃ W3, W2.iterAt W.heap.size P 2 = W3 := ⟨_, rfl⟩
        have hk3 : W3.heap[W.heap.size]? = some (.stringIter P 2) := by rw [← hW3]; exact iterAt_heap W2 _ P 1 2 hk2
        have hb3' : Below W.heap.size W W3 := by rw [← hW3]; exact below_iterAt hb2 (Nat.le_refl _) P 2
        rw [hW3] at n2
        have n3 := fun ty => run_next_end_at (P := Tryd.prog) W3 W.heap.size P 2 ty hk3 (by omega)
        have hval1 := value_some r1 x1 d1 W3
        have htwo : two L[2 * t] L[2 * t + 1] = some (x0 <<< 4 ||| x1) := by unfold two; rw [hv0, hv1]
        have hup := upTo_succ h0 htl htwo
        have hol := h0.2
        have c3 : W3.cell? ⟨w.heap.size, t, none⟩ = some (.int .u8 0) := (hb3'.cell (p := ⟨w.heap.size, t, none⟩) (by simp; omega)).trans ((cell_of_row _ _ _ _ _ _ h1).trans (rowA_free _ _ _ (by omega) (by have := HC.out; omega)))
        have f3 : W3.frozen? ⟨w.heap.size, t, none⟩ = false := (hb3'.frozen (p := ⟨w.heap.size, t, none⟩) (by simp; omega)).trans (frozen_of_row _ _ t _ _ h1)
        have x3 : W3.cell? ⟨w.heap.size + 1, 0, none⟩ = some (.slice (some ⟨w.heap.size, 0, none⟩) t C) := (hb3'.cell (p := ⟨w.heap.size + 1, 0, none⟩) (by simp; omega)).trans hcx
        have y3 : W3.frozen? ⟨w.heap.size + 1, 0, none⟩ = false := (hb3'.frozen (p := ⟨w.heap.size + 1, 0, none⟩) (by simp; omega)).trans hfx
        have g3 : w.heap.size < W3.heap.size := by have := hb3'.size; omega
        have g4 : w.heap.size + 1 < W3.heap.size := by have := hb3'.size; omega
        have hroom : t + 1 ≤ C := by have := HC.out; omega
        obtain ⟨z, hz⟩ : ∃ z, x0 <<< 4 ||| x1 = z := ⟨_, rfl⟩
        have oz : bits .or .u8 ((x0.toNat : Int) * 16 % 256) (x1.toNat : Int) = (z.toNat : Int) := by
          rw [← hz, ← bits8_or]
          congr 1
          rw [UInt8.toNat_shiftLeft, Nat.shiftLeft_eq]
          simp
        rw [hz] at hup
        clear hz
        have HVAL1 := Lib.hid hval1
        have HUP := Lib.hid hup
        have HOL := Lib.hid hol
        have H1 := Lib.hid h1
        have H2 := Lib.hid h2
        have H4 := Lib.hid h4
        have H5 := Lib.hid h5
        have HB := Lib.hid hb3'
        have HZ := Lib.hid hz1'
        clear h0 h1 h2 h4 h5 hb1 hb2 hb3' hval0 hval1 d0 d1 s0 s1 l0 l1 hps hP hk1 hk2 hk3 hr3 hx3 hs3 hb3 hv0 hv1 hrest0 hz1' hr0 hq0 hr1 hq1 e0 e1 hW2 hW3 htwo hup hol
        gi_wp2
        refine wpIn_loop_rounds 3 ?_
        rw [roundsIn_succ]
        gi_wp2_with fail
        refine ⟨trivial, ?_⟩
        refine (CallsIn.inRound l (callsIn_wide.2 HVAL0.out)).mono ?_
        rintro e w' ⟨rfl, rfl⟩
        gi_wp2_with fail
        rw [roundsIn_succ]
        gi_wp2_with fail
        refine ⟨trivial, ?_⟩
        refine (CallsIn.inRound l (callsIn_wide.2 HVAL1.out)).mono ?_
        rintro e w' ⟨rfl, rfl⟩
        gi_wp2_with fail
        rw [roundsIn_succ]
        gi_wp2_with fail
        have hg1 : w'.grownBy (w'.setCell ⟨w.heap.size, t, none⟩ (.int .u8 (z.toNat : Int))) (some w.heap.size) := gB_setCell (gB_refl _ _) _ _
        have hrow := heap_setCell_same w' w.heap.size t _ _ (.int .u8 (z.toNat : Int)) ((HB.out.block _ (by omega)).trans H1.out)
        rw [show (Value.int .u8 (z.toNat : Int)) = cellOf z from rfl, rowA_one o C t z HOL.out hroom] at hrow
        obtain ⟨W4, hW4⟩ : ∃ W4, w'.setCell ⟨w.heap.size, t, none⟩ (.int .u8 (z.toNat : Int)) = W4 := ⟨_, rfl⟩
        rw [show (cellOf z) = Value.int .u8 (z.toNat : Int) from rfl] at hrow
        rw [hW4] at hrow hg1 ⊢
        have hs1 := hg1.size
        have hg2 : W4.grownBy ((W4.setCell ⟨w.heap.size + 1, 0, none⟩ (.slice (some ⟨w.heap.size, 0, none⟩) (t + 1) C)).alloc (.cells #[.int .u8 (z.toNat : Int)] 5)) (some (w.heap.size + 1)) := gB_alloc (gB_setCell (gB_refl _ _) _ _) _
        have hx1 := (hg1.block (w.heap.size + 1) (by omega) (by simp)).trans ((HB.out.block _ (by omega)).trans H2.out)
        have hx2 := heap_setCell_same W4 (w.heap.size + 1) 0 _ _ (.slice (some ⟨w.heap.size, 0, none⟩) (t + 1) C) hx1
        have hsw := HB.out.size
        have hkeep : ∀ k, k < W.heap.size → k ≠ w.heap.size → k ≠ w.heap.size + 1 → ((W4.setCell ⟨w.heap.size + 1, 0, none⟩ (.slice (some ⟨w.heap.size, 0, none⟩) (t + 1) C)).alloc (.cells #[.int .u8 (z.toNat : Int)] 5)).heap[k]? = W.heap[k]? := fun k hk h1 h2 =>
          (hg2.block k (by omega) (by simp; omega)).trans ((hg1.block k (by omega) (by simp; omega)).trans (HB.out.block k hk))
        refine ⟨⟨by have := hg2.size; omega, fun b h => ?_, fun k hk hl => hkeep k hl (by omega) (by omega)⟩, ⟨_, HUP.out, (hg2.block _ (by omega) (by simp)).trans hrow⟩, ?_, ?_, ?_⟩
        · obtain rfl := Option.some.inj h
          exact hkeep _ (by omega) (by omega) (by omega)
        · exact (Below.heap_alloc _ _ _ (by simp; omega)).trans hx2
        · exact H4.out.trans ((HB.out.mono (by omega)).trans ((below_of_grown (B := w.heap.size) hg1 (Nat.le_refl _) (by omega)).trans (below_of_grown (B := w.heap.size) hg2 (Nat.le_succ _) (by omega))))
        · have := hg2.size; have := H5.out; omega
  case hdone =>
    rintro D W hD ⟨⟨o, h0, h1⟩, h2, h4, h5⟩ hK
    have hcx : W.cell? ⟨w.heap.size + 1, 0, none⟩ = some (.slice (some ⟨w.heap.size, 0, none⟩) (s.size / 2) C) := cell_of_row _ _ 0 _ _ _ h2
    have hls := HLS.out
    have hul := upTo_end (show upTo L (L.length / 2) o by rw [hls]; exact h0)
    have hol : o.length = s.size / 2 := h0.2
    have hv := HV.out
    rw [hul] at hv
    by_cases heq : 2 * o.length = L.length
    · rw [if_pos heq] at hv
      have hne : 2 * ((s.size / 2 : Nat) : Int) = (s.size : Int) := by omega
      have hcv := run_convert_bytes_back (P := Tryd.prog) W 29 9 5 ⟨w.heap.size, 0, none⟩ C o Tryd.underlying29 Tryd.underlying5 Tryd.underlying9 (fun j hj => by
        rw [addr_add, Nat.zero_add, cell_of_row _ _ _ _ _ _ h1, rowA_get _ _ _ hj]; rfl)
      rw [hol] at hcv
      obtain ⟨q, hq⟩ : ∃ q, s.size / 2 = q := ⟨_, rfl⟩
      have hqb : q ≤ 1000000 := by omega
      rw [hq] at hcv hcx hne
      have hnb : (2 * (q : Int) == (s.size : Int)) = true := by simpa using hne
      have HVV := Lib.hid hv
      have H4 := Lib.hid h4
      have HK := Lib.hid hK
      clear h0 h1 h2 h4 h5 hK hr3 hx3 hs3 hb3 hrest0 hv hul hol hls heq hq HC HV
      go_wp2
      have hD1 : w.heap.size < D := by omega
      refine ⟨by simp, .inl ⟨_, _, rfl, run_takeDeferred HK.out, ?_⟩⟩
      exact ⟨.tuple #[.string ⟨o.toArray⟩, .int .i64 0], by simp [results, Tryd.results14, go_sem], by rw [← HVV.out], H4.out.trans (below_of_grown (turn W D _) (by omega) (by have := H4.out.size; omega))⟩
    · rw [if_neg heq] at hv
      have hne : ¬ 2 * ((s.size / 2 : Nat) : Int) = (s.size : Int) := by omega
      obtain ⟨q, hq⟩ : ∃ q, s.size / 2 = q := ⟨_, rfl⟩
      have hqb : q ≤ 1000000 := by omega
      rw [hq] at hcx hne
      have hne' : (2 * (q : Int) == (s.size : Int)) = false := beq_eq_false_iff_ne.2 hne
      have HVV := Lib.hid hv
      have H4 := Lib.hid h4
      have HK := Lib.hid hK
      clear h0 h1 h2 h4 h5 hK hr3 hx3 hs3 hb3 hrest0 hv hul hol hls heq hq HC HV
      go_wp2
      have hD1 : w.heap.size < D := by omega
      refine ⟨by simp, .inl ⟨_, _, rfl, run_takeDeferred HK.out, ?_⟩⟩
      exact ⟨.tuple #[.string ⟨#[]⟩, .int .i64 30], by simp [results, Tryd.results14, go_sem], by rw [← HVV.out], H4.out.trans (below_of_grown (turn W D _) (by omega) (by have := H4.out.size; omega))⟩
  case hstop =>
    rintro D W hD ⟨h0, ⟨t, ht, h1⟩, h4, h5⟩ hK
    have hcx : W.cell? ⟨w.heap.size + 1, 0, none⟩ = some (.slice (some ⟨w.heap.size, 0, none⟩) t C) := cell_of_row _ _ 0 _ _ _ h1
    have hne : ¬ (2 * (t : Int) = (s.size : Int)) := by omega
    have hne' : (2 * (t : Int) == (s.size : Int)) = false := beq_eq_false_iff_ne.2 hne
    have hv := HV.out
    rw [h0] at hv
    have HVV := Lib.hid hv
    have H4 := Lib.hid h4
    have HK := Lib.hid hK
    clear h0 h1 h4 h5 hK hr3 hx3 hs3 hb3 hrest0 hv
    refine wpIn_wide.2 ?_
    go_wp2
    have hD1 : w.heap.size < D := by omega
    refine ⟨by simp, .inl ⟨_, _, rfl, run_takeDeferred HK.out, ?_⟩⟩
    exact ⟨.tuple #[.string ⟨#[]⟩, .int .i64 30], by simp [results, Tryd.results14, go_sem], by rw [← HVV.out], H4.out.trans (below_of_grown (turn W D _) (by omega) (by have := H4.out.size; omega))⟩
theorem Unhex_ok (s : ByteArray) (hs : s.size ≤ 1000000) (w : World) :
    Calls Tryd.prog 14 #[.string s] w fun e w' => e = .returned (match unL s.data.toList with | some o => .tuple #[.string ⟨o.toArray⟩, .int .i64 0] | none => .tuple #[.string ⟨#[]⟩, .int .i64 30]) ∧ Below w.heap.size w w' := callsIn_wide.1 (Unhex_in s hs w)
end Go.Proofs.YthojdcmkajmdjaaDoor
