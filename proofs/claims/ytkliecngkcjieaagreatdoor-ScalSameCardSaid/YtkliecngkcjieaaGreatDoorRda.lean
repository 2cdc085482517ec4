/- Read tells the scalar whose text that is, or that there is none, as the document tells it. Conditions: what the text says is told so; the library's tables lie as they are laid; the text is not too long. -/
import Derived.Test.YtkliecngkcjieaaGreatDoorSad
set_option maxRecDepth 100000
namespace Go.Proofs.YtkliecngkcjieaaGreatDoor
open Go.RowKit Go.Shelf
open Pl Quo Scs
theorem encode_len (n : Int) : (Go.Lib.encodeRune n).length ≤ 4 := by
  have h := Go.Lib.runeCells_length n
  have h2 := Go.Lib.encodeRuneZ_length n
  have h3 : (Go.Lib.runeCells n).length = (Go.Lib.encodeRuneZ n).length := by simp [Go.Lib.runeCells]
  omega
theorem escB_len {t p : List UInt8} {k : Nat} (h : escB t = some (p, k)) : p.length ≤ k + 1 ∧ k ≤ t.length ∧ 1 ≤ k := by
  cases t with
  | nil => cases h
  | cons c t =>
    simp only [escB] at h
    have dig : ∀ j, digitsB j t = some (p, k) → 2 ≤ j → p.length ≤ k + 1 ∧ k ≤ t.length + 1 ∧ 1 ≤ k := by
      intro j hd hj
      unfold digitsB at hd
      split at hd
      · cases hd
      · split at hd
        · cases hd
        · split at hd
          · cases hd
            have := encode_len (by assumption : Nat)
            omega
          · cases hd
    rw [List.length_cons]
    have d2 := fun hd => dig 2 hd (by omega)
    have d4 := fun hd => dig 4 hd (by omega)
    obtain ⟨D2, hD2⟩ : ∃ D, digitsB 2 t = D := ⟨_, rfl⟩
    obtain ⟨D4, hD4⟩ : ∃ D, digitsB 4 t = D := ⟨_, rfl⟩
    rw [hD2] at h d2
    rw [hD4] at h d4
    repeat' split at h
    all_goals first
      | (cases h; refine ⟨?_, ?_, ?_⟩ <;> simp; done)
      | exact d2 h
      | exact d4 h
      | cases h
theorem readL_len : ∀ (m : Nat) (l T : List UInt8) (n : Nat), l.length ≤ m → readL l = .ok T n → T.length ≤ l.length
  | 0, l, T, n, hm, h => by
    have : l = [] := List.eq_nil_of_length_eq_zero (by omega)
    subst this; cases h
  | m + 1, [], T, n, hm, h => by cases h
  | m + 1, b :: t, T, n, hm, h => by
    rw [readL_cons] at h
    rw [List.length_cons] at hm ⊢
    split at h
    · cases h; simp
    · split at h
      · split at h
        · cases h
        · rename_i p k he
          obtain ⟨h1, h2, h3⟩ := escB_len he
          cases hr : readL (t.drop k) with
          | err e => rw [hr] at h; cases h
          | ok T' n' =>
            rw [hr] at h
            cases h
            have ih := readL_len m (t.drop k) T' n' (by rw [List.length_drop]; omega) hr
            rw [List.length_drop] at ih
            rw [List.length_append]
            omega
      · split at h
        · cases hr : readL t with
          | err e => rw [hr] at h; cases h
          | ok T' n' =>
            rw [hr] at h
            cases h
            have ih := readL_len m t T' n' (by omega) hr
            simp; omega
        · cases h
theorem res_size (s : ByteArray) : (resolveR s).s.size ≤ s.size := by
  unfold resolveR
  split
  · exact Nat.zero_le _
  · cases valOf s.data.toList <;> first | exact Nat.zero_le _ | exact Nat.le_refl _
theorem said_size {s : ByteArray} {x : Sc} (h : saidS s = some x) : x.2.2.size ≤ s.size := by
  unfold saidS at h
  split at h
  · split at h
    · split at h
      · rename_i T n hr
        cases h
        have h1 := readL_len _ _ _ _ (Nat.le_refl _) hr
        rw [List.length_drop] at h1
        have h2 : s.data.toList.length = s.size := by rw [Array.length_toList]; rfl
        show T.toArray.size ≤ _
        rw [List.size_toArray]
        omega
      · cases h
    · cases h
  · split at h
    · cases h; exact res_size s
    · cases h
theorem said_quoted {s : ByteArray} {x : Sc} (h : saidS s = some x) (hq : s.data.toList.head? = some 34) : x = (3, 0, x.2.2) := by
  unfold saidS at h
  rw [if_pos hq] at h
  split at h
  · split at h
    · cases h; rfl
    · cases h
  · cases h
theorem said_kinds {s : ByteArray} {x : Sc} (h : saidS s = some x) : (x.1 = 0 ∨ x.1 = 1 ∨ x.1 = 2 ∨ x.1 = 3) ∧ -9223372036854775808 ≤ x.2.1 ∧ x.2.1 ≤ 9223372036854775807 := by
  rcases said_kind h with ⟨T, rfl⟩ | h
  · simp
  · exact right_kinds h
theorem scalarOf_said (s : ByteArray) (w : World) : Calls Tryz.prog 32 #[saidV s] w fun e w' => e = .returned (.tuple #[aggS ((saidS s).getD zeroS), .bool (saidS s).isSome]) ∧ Below w.heap.size w w' := by
  unfold saidV
  cases h : saidS s with
  | none => exact scalarOf_none w
  | some x =>
    simp only [Option.getD_some, Option.isSome_some]
    by_cases hq : s.data.toList.head? = some 34
    · rw [if_pos hq]
      have := scalarOf_text x.2.2 w
      rw [← said_quoted h hq] at this
      exact this
    · rw [if_neg hq]
      exact scalarOf_sc x w
theorem text_same (x : Sc) (s : ByteArray) : ((textO x).toList == s.toList) = decide (textL x = s.data.toList) := by
  rw [ByteArray.toList_eq, ByteArray.toList_eq]
  unfold textO
  rw [ofL_list]
  by_cases h : textL x = s.data.toList
  · rw [decide_eq_true h, h]; simp
  · rw [decide_eq_false h]
    exact beq_eq_false_iff_ne.2 h
set_option maxHeartbeats 4000000 in
theorem Read_of (s : ByteArray) (hs : s.size ≤ 1000000) (hS : ∀ w, Env w → Calls Tryz.prog 33 #[.string s] w fun e w' => e = .returned (saidV s) ∧ Below w.heap.size w w') (w : World) (E : Env w) :
    Calls Tryz.prog 16 #[.string s] w fun e w' => e = .returned (.tuple #[aggS (readS s).1, .int .i64 (readS s).2]) ∧ Below w.heap.size w w' := by
  have hC := fun w => scalarOf_said s w
  have E0 := E.below ((Below.refl _ w).alloc (Nat.le_refl _) zero3)
  have hS0 := hS _ E0
  have HE0 := Lib.hid E0
  have HS := Lib.hid hS0
  unfold readS
  obtain ⟨V, hV⟩ : ∃ V, saidV s = V := ⟨_, rfl⟩
  rw [hV] at HS hC
  cases hx : saidS s with
  | none =>
    rw [hx] at hC
    have HC := Lib.hid hC
    clear hC hS hS0 hV hx E E0
    simp only [Option.getD_none, Option.isSome_none] at HC ⊢
    unfold aggS zeroS at HC ⊢
    go_enter Tryz.func16, Tryz.ntmps16
    go_wp2_with fail
    refine HS.out.mono ?_
    rintro e w1 ⟨rfl, hb1⟩
    obtain ⟨hx1, hz1, hbb1⟩ := res_cells hb1
    have HX1 := Lib.hid hx1
    have HB1 := Lib.hid hbb1
    clear hb1 hx1 hbb1
    go_wp2_with fail
    refine (HC.out _).mono ?_
    rintro e w2 ⟨rfl, hb2⟩
    have hx2 := (hb2.block w.heap.size hz1).trans HX1.out
    have c0 := cell_of_row _ _ 0 _ _ _ hx2
    have c1 := cell_of_row _ _ 1 _ _ _ hx2
    have c2 := cell_of_row _ _ 2 _ _ _ hx2
    have f0 := frozen_of_row _ _ 0 _ _ hx2
    have f1 := frozen_of_row _ _ 1 _ _ hx2
    have f2 := frozen_of_row _ _ 2 _ _ hx2
    simp at c0 c1 c2
    have hz2 : w.heap.size < w2.heap.size := by have := hb2.size; omega
    have HB2 := Lib.hid (HB1.out.trans (hb2.mono (by omega)))
    have HX2 := Lib.hid hx2
    clear hb2 hx2
    go_wp2_with fail
    have hr := store3 HX2.out (.int .i64 0) (.int .i64 0) (.string ⟨#[]⟩)
    have hbb := ((HB2.out.setCell (p := ⟨w.heap.size, 0, none⟩) (Nat.le_refl _) (.int .i64 0)).setCell (p := ⟨w.heap.size, 1, none⟩) (Nat.le_refl _) (.int .i64 0)).setCell (p := ⟨w.heap.size, 2, none⟩) (Nat.le_refl _) (.string ⟨#[]⟩)
    clear c0 c1 c2 f0 f1 f2
    have hsz : (((w2.setCell ⟨w.heap.size, 0, none⟩ (.int .i64 0)).setCell ⟨w.heap.size, 1, none⟩ (.int .i64 0)).setCell ⟨w.heap.size, 2, none⟩ (.string ⟨#[]⟩)).heap.size = w2.heap.size := by simp
    generalize ((w2.setCell ⟨w.heap.size, 0, none⟩ (.int .i64 0)).setCell ⟨w.heap.size, 1, none⟩ (.int .i64 0)).setCell ⟨w.heap.size, 2, none⟩ (.string ⟨#[]⟩) = wz at hr hbb hsz ⊢
    have hr' := keep_alloc (o' := .cells #[.int .i64 0, .int .i64 0, .string ⟨#[]⟩] 23) hr
    have hb' := hbb.alloc (by omega) (.cells #[.int .i64 0, .int .i64 0, .string ⟨#[]⟩] 23)
    generalize wz.alloc (.cells #[.int .i64 0, .int .i64 0, .string ⟨#[]⟩] 23) = wy at hr' hb' ⊢
    have r0 := cell_of_row _ _ 0 _ _ _ hr'
    have r1 := cell_of_row _ _ 1 _ _ _ hr'
    have r2 := cell_of_row _ _ 2 _ _ _ hr'
    exact bodyPost_ret (v := .tuple #[.agg #[.int .i64 0, .int .i64 0, .string ⟨#[]⟩], .int .i64 60]) (by simp [results, Tryz.results16, go_sem, r0, r1, r2]) rfl ⟨rfl, hb'⟩
  | some x =>
    rw [hx] at hC
    obtain ⟨hk, hn1, hn2⟩ := said_kinds hx
    have hxs := said_size hx
    have hT := fun w E => textOf_any x hk hn1 hn2 (by omega) w E
    have hsame := text_same x s
    have HC := Lib.hid hC
    have HT := Lib.hid hT
    clear hC hS hS0 hV hx E E0 hT hk hn1 hn2 hxs
    simp only [Option.getD_some, Option.isSome_some] at HC ⊢
    unfold aggS at HC HT
    have EW : ∀ B : Bool, ((textO x).toList == s.toList) = B → (∀ Y : Sc × Int, (if textL x = s.data.toList then (x, (0 : Int)) else (zeroS, 60)) = Y → Y = if B = true then (x, 0) else (zeroS, 60)) := by
      intro B hB Y hY
      rw [hsame] at hB
      subst hB
      rw [← hY]
      by_cases h : textL x = s.data.toList
      · rw [if_pos h, if_pos (decide_eq_true h)]
      · rw [if_neg h, if_neg (by rw [decide_eq_false h]; decide)]
    cases hB : ((textO x).toList == s.toList)
    · rw [EW false hB _ rfl, if_neg (by decide)]
      have hne : (!((textO x).toList == s.toList)) = true := by rw [hB]; rfl
      clear EW hsame
      unfold aggS zeroS
      go_enter Tryz.func16, Tryz.ntmps16
      go_wp2_with fail
      refine HS.out.mono ?_
      rintro e w1 ⟨rfl, hb1⟩
      obtain ⟨hx1, hz1, hbb1⟩ := res_cells hb1
      have HX1 := Lib.hid hx1
      have HB1 := Lib.hid hbb1
      have HE1 := Lib.hid (HE0.out.below hb1)
      clear hb1 hx1 hbb1
      go_wp2_with fail
      refine (HC.out _).mono ?_
      rintro e w2 ⟨rfl, hb2⟩
      have hx2 := (hb2.block w.heap.size hz1).trans HX1.out
      have hz2 : w.heap.size < w2.heap.size := by have := hb2.size; omega
      have HB2 := Lib.hid (HB1.out.trans (hb2.mono (by omega)))
      have HE2 := Lib.hid (HE1.out.below hb2)
      have HX2 := Lib.hid hx2
      clear hb2 hx2
      go_wp2_with fail
      obtain ⟨u2, hu2⟩ : ∃ u, w2.alloc (.cells #[.int .i64 x.1, .int .i64 x.2.1, .string x.2.2] 23) = u := ⟨_, rfl⟩
      rw [hu2]
      have hy2 : u2.heap[w2.heap.size]? = some (.cells #[.int .i64 x.1, .int .i64 x.2.1, .string x.2.2] 23 (0, 0)) := by rw [← hu2]; exact heap_alloc_new w2 _
      have hx3 : u2.heap[w.heap.size]? = some zero3 := by rw [← hu2]; exact keep_alloc HX2.out
      have hbu : Below w2.heap.size w2 u2 := by rw [← hu2]; exact (Below.refl _ w2).alloc (Nat.le_refl _) _
      have hus : u2.heap.size = w2.heap.size + 1 := by rw [← hu2]; simp
      have HE3 := Lib.hid (HE2.out.below hbu)
      have HB3 := Lib.hid (HB2.out.trans (hbu.mono (by omega)))
      have HX3 := Lib.hid hx3
      have HY3 := Lib.hid hy2
      clear hu2 hy2 hx3 hbu
      refine (HT.out _ HE3.out).mono ?_
      rintro e w4 ⟨rfl, hb4⟩
      have hx4 := (hb4.block w.heap.size (by omega)).trans HX3.out
      have hy4 := (hb4.block w2.heap.size (by omega)).trans HY3.out
      have hz4 : w2.heap.size < w4.heap.size := by have := hb4.size; omega
      have HB4 := Lib.hid (HB3.out.trans (hb4.mono (by omega)))
      have c0 := cell_of_row _ _ 0 _ _ _ hx4
      have c1 := cell_of_row _ _ 1 _ _ _ hx4
      have c2 := cell_of_row _ _ 2 _ _ _ hx4
      have f0 := frozen_of_row _ _ 0 _ _ hx4
      have f1 := frozen_of_row _ _ 1 _ _ hx4
      have f2 := frozen_of_row _ _ 2 _ _ hx4
      have y0 : w4.cell? ⟨w2.heap.size, 0, none⟩ = some (.int .i64 x.1) := cell_of_row _ _ 0 _ _ _ hy4
      have y1 : w4.cell? ⟨w2.heap.size, 1, none⟩ = some (.int .i64 x.2.1) := cell_of_row _ _ 1 _ _ _ hy4
      have y2 : w4.cell? ⟨w2.heap.size, 2, none⟩ = some (.string x.2.2) := cell_of_row _ _ 2 _ _ _ hy4
      simp at c0 c1 c2
      have HX4 := Lib.hid hx4
      clear hb4 hx4 hy4
      go_wp2_with fail
      have hr := store3 HX4.out (.int .i64 0) (.int .i64 0) (.string ⟨#[]⟩)
      have hbb := ((HB4.out.setCell (p := ⟨w.heap.size, 0, none⟩) (Nat.le_refl _) (.int .i64 0)).setCell (p := ⟨w.heap.size, 1, none⟩) (Nat.le_refl _) (.int .i64 0)).setCell (p := ⟨w.heap.size, 2, none⟩) (Nat.le_refl _) (.string ⟨#[]⟩)
      clear c0 c1 c2 f0 f1 f2 y0 y1 y2
      generalize ((w4.setCell ⟨w.heap.size, 0, none⟩ (.int .i64 0)).setCell ⟨w.heap.size, 1, none⟩ (.int .i64 0)).setCell ⟨w.heap.size, 2, none⟩ (.string ⟨#[]⟩) = wz at hr hbb ⊢
      have r0 := cell_of_row _ _ 0 _ _ _ hr
      have r1 := cell_of_row _ _ 1 _ _ _ hr
      have r2 := cell_of_row _ _ 2 _ _ _ hr
      exact bodyPost_ret (v := .tuple #[.agg #[.int .i64 0, .int .i64 0, .string ⟨#[]⟩], .int .i64 60]) (by simp [results, Tryz.results16, go_sem, r0, r1, r2]) rfl ⟨rfl, hbb⟩
    · rw [EW true hB _ rfl, if_pos rfl]
      have hne : (!((textO x).toList == s.toList)) = false := by rw [hB]; rfl
      clear EW hsame
      unfold aggS
      go_enter Tryz.func16, Tryz.ntmps16
      go_wp2_with fail
      refine HS.out.mono ?_
      rintro e w1 ⟨rfl, hb1⟩
      obtain ⟨hx1, hz1, hbb1⟩ := res_cells hb1
      have HX1 := Lib.hid hx1
      have HB1 := Lib.hid hbb1
      have HE1 := Lib.hid (HE0.out.below hb1)
      clear hb1 hx1 hbb1
      go_wp2_with fail
      refine (HC.out _).mono ?_
      rintro e w2 ⟨rfl, hb2⟩
      have hx2 := (hb2.block w.heap.size hz1).trans HX1.out
      have hz2 : w.heap.size < w2.heap.size := by have := hb2.size; omega
      have HB2 := Lib.hid (HB1.out.trans (hb2.mono (by omega)))
      have HE2 := Lib.hid (HE1.out.below hb2)
      have HX2 := Lib.hid hx2
      clear hb2 hx2
      go_wp2_with fail
      obtain ⟨u2, hu2⟩ : ∃ u, w2.alloc (.cells #[.int .i64 x.1, .int .i64 x.2.1, .string x.2.2] 23) = u := ⟨_, rfl⟩
      rw [hu2]
      have hy2 : u2.heap[w2.heap.size]? = some (.cells #[.int .i64 x.1, .int .i64 x.2.1, .string x.2.2] 23 (0, 0)) := by rw [← hu2]; exact heap_alloc_new w2 _
      have hx3 : u2.heap[w.heap.size]? = some zero3 := by rw [← hu2]; exact keep_alloc HX2.out
      have hbu : Below w2.heap.size w2 u2 := by rw [← hu2]; exact (Below.refl _ w2).alloc (Nat.le_refl _) _
      have hus : u2.heap.size = w2.heap.size + 1 := by rw [← hu2]; simp
      have HE3 := Lib.hid (HE2.out.below hbu)
      have HB3 := Lib.hid (HB2.out.trans (hbu.mono (by omega)))
      have HX3 := Lib.hid hx3
      have HY3 := Lib.hid hy2
      clear hu2 hy2 hx3 hbu
      refine (HT.out _ HE3.out).mono ?_
      rintro e w4 ⟨rfl, hb4⟩
      have hx4 := (hb4.block w.heap.size (by omega)).trans HX3.out
      have hy4 := (hb4.block w2.heap.size (by omega)).trans HY3.out
      have hz4 : w2.heap.size < w4.heap.size := by have := hb4.size; omega
      have HB4 := Lib.hid (HB3.out.trans (hb4.mono (by omega)))
      have c0 := cell_of_row _ _ 0 _ _ _ hx4
      have c1 := cell_of_row _ _ 1 _ _ _ hx4
      have c2 := cell_of_row _ _ 2 _ _ _ hx4
      have f0 := frozen_of_row _ _ 0 _ _ hx4
      have f1 := frozen_of_row _ _ 1 _ _ hx4
      have f2 := frozen_of_row _ _ 2 _ _ hx4
      have y0 : w4.cell? ⟨w2.heap.size, 0, none⟩ = some (.int .i64 x.1) := cell_of_row _ _ 0 _ _ _ hy4
      have y1 : w4.cell? ⟨w2.heap.size, 1, none⟩ = some (.int .i64 x.2.1) := cell_of_row _ _ 1 _ _ _ hy4
      have y2 : w4.cell? ⟨w2.heap.size, 2, none⟩ = some (.string x.2.2) := cell_of_row _ _ 2 _ _ _ hy4
      simp at c0 c1 c2
      have HX4 := Lib.hid hx4
      clear hb4 hx4 hy4
      go_wp2_with fail
      have hr := store3 HX4.out (.int .i64 x.1) (.int .i64 x.2.1) (.string x.2.2)
      have hbb := ((HB4.out.setCell (p := ⟨w.heap.size, 0, none⟩) (Nat.le_refl _) (.int .i64 x.1)).setCell (p := ⟨w.heap.size, 1, none⟩) (Nat.le_refl _) (.int .i64 x.2.1)).setCell (p := ⟨w.heap.size, 2, none⟩) (Nat.le_refl _) (.string x.2.2)
      clear c0 c1 c2 f0 f1 f2 y0 y1 y2
      generalize ((w4.setCell ⟨w.heap.size, 0, none⟩ (.int .i64 x.1)).setCell ⟨w.heap.size, 1, none⟩ (.int .i64 x.2.1)).setCell ⟨w.heap.size, 2, none⟩ (.string x.2.2) = wz at hr hbb ⊢
      have r0 := cell_of_row _ _ 0 _ _ _ hr
      have r1 := cell_of_row _ _ 1 _ _ _ hr
      have r2 := cell_of_row _ _ 2 _ _ _ hr
      exact bodyPost_ret (v := .tuple #[.agg #[.int .i64 x.1, .int .i64 x.2.1, .string x.2.2], .int .i64 0]) (by simp [results, Tryz.results16, go_sem, r0, r1, r2]) rfl ⟨rfl, hbb⟩
end Go.Proofs.YtkliecngkcjieaaGreatDoor
