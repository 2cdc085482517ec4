/- The library's sort of scalars' rows, over the package's comparison, lays them in order. Conditions: the row's block is new to nobody else. Scalars are put in order as the document tells it. Conditions: the scalars lie in a row. -/
import Derived.Test.YtepelpmkmhhokaaGreatDoorRux
import Derived.Test.YtepelpmkmhhokaaGreatDoorClx
import Derived.Shelf.SlSortCmp.NoneTotal
import Derived.Laws.AppendOwn
import Derived.Test.YtepelpmkmhhokaaGreatDoorMtw
import Derived.Deep.DeepAppendRoom
import Derived.Deep.AppendLies
set_option maxRecDepth 100000
namespace Go.Proofs.YtepelpmkmhhokaaGreatDoor
open Go.RowKit Go.Shelf
open Scs
open Go.Sort (HoldsK flatK grow)
/-- scalars' cells, one behind the other -/
def flatS (L : List Sc) : List Value := L.flatMap encS
theorem flatS_snoc (L : List Sc) (x : Sc) : flatS (L ++ [x]) = flatS L ++ [.int .i64 x.1, .int .i64 x.2.1, .string x.2.2] := by simp [flatS, encS]
theorem flatS_len : ∀ L : List Sc, (flatS L).length = L.length * 3
  | [] => rfl
  | x :: t => by
    have := flatS_len t
    unfold flatS at this ⊢
    rw [List.flatMap_cons, List.length_append, this, List.length_cons]
    show 3 + _ = _
    omega
theorem flatS_get : ∀ (L : List Sc) (j : Nat), j < L.length * 3 → (flatS L)[j]? = some ((encS L[j / 3]!)[j % 3]!)
  | [], j, h => by simp at h
  | x :: t, j, h => by
    by_cases hj : j < 3
    · have e1 : j / 3 = 0 := by omega
      have e2 : j % 3 = j := by omega
      rw [e1, e2]
      have hl : (flatS (x :: t))[j]? = (encS x)[j]? := by
        unfold flatS
        rw [List.flatMap_cons, List.getElem?_append_left (by show j < 3; exact hj)]
      rw [hl]
      show (encS x)[j]? = some ((encS x)[j]!)
      have hlen : j < (encS x).length := hj
      rw [List.getElem?_eq_getElem hlen, List.getElem!_eq_getElem?_getD, List.getElem?_eq_getElem hlen]
      rfl
    · have e1 : j / 3 = (j - 3) / 3 + 1 := by omega
      have e2 : j % 3 = (j - 3) % 3 := by omega
      have ih := flatS_get t (j - 3) (by simp at h; omega)
      rw [e1, e2]
      have hl : (flatS (x :: t))[j]? = (flatS t)[j - 3]? := by
        unfold flatS
        rw [List.flatMap_cons, List.getElem?_append_right (by show 3 ≤ j; omega)]
        rfl
      rw [hl, ih]
      rfl
theorem holds_row {W : World} {g n : Nat} {d : Array Sc} {c : Nat} {b : Nat} (h : W.ownsRow b 48 3 (.slice (some ⟨g, 0, none⟩) n c) n (flatS d.toList)) (hn : n = d.size) : HoldsK encS 3 W g 0 d := by
  subst hn
  rcases h with ⟨_, ⟨h1, _⟩ | ⟨g', c', cur, hv, _, hg, hnc, _, hcs, htake⟩⟩
  · cases h1
  · obtain rfl : g = g' := by injection hv with h _ _; injection h with h; injection h
    intro j hj
    rw [Go.Sort.size_flatK] at hj
    rw [Go.Sort.get_flatK _ _ _ _ hj]
    have h1 := flatS_get d.toList j (by rw [Array.length_toList]; exact hj)
    rw [← htake, List.getElem?_take_of_lt hj, Array.getElem?_toList] at h1
    refine ⟨?_, frozen_of_row _ _ _ _ _ hg⟩
    rw [cell_of_row _ _ _ _ _ _ hg, Nat.zero_add, h1]
    congr 3
    simp [getElem!_def]
theorem grown_sortK {w : World} {g n : Nat} {os : Array Obj} (d : Array Sc) : w.grownBy (sortWorldK encS 3 w g 0 n d os) (some g) := by
  unfold sortWorldK Go.Sort.putRowK
  refine ⟨rfl, rfl, rfl, by simp [grow], fun k hk hne => ?_⟩
  rw [Go.Sort.heap_grow_old _ _ (by simpa using hk)]
  have : g ≠ k := fun e => hne (by rw [e])
  simp [Go.Sort.putRow, Go.Sort.mapBlock, Go.Sort.ahead, Array.getElem?_modify, this]
theorem cmp_lays (blk off size : Nat) (w : World) : Go.Proofs.CmpLays Tryz.prog 87 #[] encS 3 cmpSc blk off size w :=
  fun _ _ _ _ x y => Compare_any x y _
theorem leSc_eq : (fun x y : Sc => !(ltOf cmpSc) y x) = leSc := by
  funext x y
  unfold leSc ltOf
  rw [ltOf_cmp]
theorem swo' : Go.Sort.SWO (ltOf cmpSc) := swo
theorem SortFunc_any (g cap : Nat) (d : Array Sc) (w : World) (hH : HoldsK encS 3 w g 0 d) (hg : g < w.heap.size) (hs : d.size ≤ 1000000) :
    Calls Tryz.prog 86 #[.slice (some ⟨g, 0, none⟩) d.size cap, .func (.func 87) #[] #[]] w fun e w' => e = .returned (.tuple #[]) ∧ HoldsK encS 3 w' g 0 (sortSc d.toList).toArray ∧ w.grownBy w' (some g) := by
  have eg : ∀ args w, (callFunc 87 args).run Tryz.prog w = .ok (.enter 87 args) w := enters_of Tryz.func87 (by kernel_rfl) rfl
  have h := AnyQ.slices_SortFunc_total Tryz.sortS 3 (fun w => Tryz.isAgg48 w) (fun w => Tryz.sizeOf48 w) encS (fun _ => rfl)
    (fun x v hv => by simp [encS] at hv; rcases hv with rfl | rfl | rfl <;> rfl) cmpSc swo' 87 #[] g 0 cap d w eg (cmp_lays g 0 d.size w) hH hg (by omega)
    (fun x y h1 h2 => by unfold ltOf at h1 h2; rw [ltOf_cmp] at h1 h2; exact lt_conn h1 h2)
  refine h.mono ?_
  rintro e w' ⟨rfl, n, os, rfl⟩
  rw [leSc_eq]
  exact ⟨rfl, holdsK_sortWorldK_c encS 3 w g 0 d _ n os hH hg (by simp), grown_sortK _⟩
end Go.Proofs.YtepelpmkmhhokaaGreatDoor

set_option maxRecDepth 100000
namespace Go.Proofs.YtepelpmkmhhokaaGreatDoor
open Go.RowKit Go.Shelf
open Scs Seqo
open Go.Sort (HoldsK)
attribute [local go_sem] Oper.semAt_some
theorem info23 : (Tryz.prog.info? 48).map (fun i => (i.zero, i.size, i.bytes)) = some (some (.agg #[.int .i64 0, .int .i64 0, .string ⟨#[]⟩]), 3, 32) := by kernel_rfl
theorem own_keep {W W' : World} {b n c : Nat} {xs : List Value} (h : W.ownsRow b 48 3 (.slice (some ⟨b, 0, none⟩) n c) n xs) (hb : W'.heap[b]? = W.heap[b]?) : W'.ownsRow b 48 3 (.slice (some ⟨b, 0, none⟩) n c) n xs := by
  rcases h with ⟨ha, ⟨h1, _⟩ | ⟨g, c', cur, hv, hbg, hg2, hr2⟩⟩
  · cases h1
  · refine ⟨ha, .inr ⟨g, c', cur, hv, hbg, ?_, hr2⟩⟩
    obtain rfl : b = g := by injection hv with h _ _; injection h with h; injection h
    exact hb.trans hg2
set_option maxHeartbeats 4000000 in
theorem Sort_in (d : Array Sc) (p : Option Addr) (cap : Nat) (w : World) (hs : Sl w p d) :
    CallsIn Fence.wide 6 Tryz.prog 77 #[.slice p d.size cap] w fun e w' => ∃ g c, e = .returned (.slice (some ⟨g, 0, none⟩) d.size c) ∧ w.heap.size ≤ g ∧ g < w'.heap.size ∧ HoldsK encS 3 w' g 0 (sortSc d.toList).toArray ∧ Below w.heap.size w w' := by
  have hsm := hs.small
  have HSH := Lib.hid hs.short
  have HSL := Lib.hid hs
  obtain ⟨i0, hi, hz0, hz1, hz2⟩ := info_parts info23
  have hmk := run_make (P := Tryz.prog) w 49 48 i0 (.agg #[.int .i64 0, .int .i64 0, .string ⟨#[]⟩]) Tryz.underlying49 hi hz0 .i64 .i64 0 d.size (by omega) (by omega) (by rw [hz2]; omega) (by omega)
  clear hs
  refine callsIn_of_wp_marks Tryz.func77 rfl trivial ?_ rfl
  simp only [Tryz.ntmps77, List.size_toArray, List.length_cons, List.length_nil, Nat.reduceAdd, Nat.reduceSub, Array.replicate_succ, Array.replicate_zero, List.push_toArray, List.append_toArray, List.nil_append, List.cons_append]
  refine wpIn_wide.2 ?_
  go_wp2_with fail
  refine (each_any p _ cap _).mono ?_
  rintro e w' ⟨rfl, rfl⟩
  go_wp2_with fail
  obtain ⟨w3, hw3⟩ : ∃ w3, (((w.alloc (.cells (madeCells #[.int .i64 0, .int .i64 0, .string ⟨#[]⟩] (d.size * 3)) 48)).alloc (.cells #[.slice (some ⟨w.heap.size, 0, none⟩) 0 d.size] 49)).alloc (.cells #[.slice p d.size cap] 49)) = w3 := ⟨_, rfl⟩
  rw [hw3]
  have hz3 : w3.heap.size = w.heap.size + 3 := by rw [← hw3]; simp
  have hx3 : w3.heap[w.heap.size]? = some (.cells (madeCells #[.int .i64 0, .int .i64 0, .string ⟨#[]⟩] (d.size * 3)) 48 (0, 0)) := by
    rw [← hw3, Below.heap_alloc _ _ _ (by simp; omega), Below.heap_alloc _ _ _ (by simp)]; exact heap_alloc_new w _
  have ho3 : w3.ownsRow w.heap.size 48 3 (.slice (some ⟨w.heap.size, 0, none⟩) 0 d.size) 0 (flatS (d.toList.take 0)) :=
    ⟨rfl, .inr ⟨w.heap.size, d.size, _, rfl, Nat.le_refl _, hx3, by omega, by unfold maxLen; omega, by simp [madeCells], rfl⟩⟩
  have hb3 : w3.heap[w.heap.size + 1]? = some (.cells #[.slice (some ⟨w.heap.size, 0, none⟩) 0 d.size] 49 (0, 0)) := by
    rw [← hw3, Below.heap_alloc _ _ _ (by simp)]
    have h := heap_alloc_new (w.alloc (.cells (madeCells #[.int .i64 0, .int .i64 0, .string ⟨#[]⟩] (d.size * 3)) 48)) (.cells #[.slice (some ⟨w.heap.size, 0, none⟩) 0 d.size] 49)
    rwa [World.size_alloc] at h
  have hs3 : w3.heap[w.heap.size + 2]? = some (.cells #[.slice p d.size cap] 49 (0, 0)) := by
    rw [← hw3]
    have h := heap_alloc_new ((w.alloc (.cells (madeCells #[.int .i64 0, .int .i64 0, .string ⟨#[]⟩] (d.size * 3)) 48)).alloc (.cells #[.slice (some ⟨w.heap.size, 0, none⟩) 0 d.size] 49)) (.cells #[.slice p d.size cap] 49)
    rwa [World.size_alloc, World.size_alloc] at h
  have hbl3 : Below w.heap.size w w3 := by rw [← hw3]; exact (((Below.refl _ w).alloc (Nat.le_refl _) _).alloc (by simp) _).alloc (by simp; omega) _
  clear hw3 hmk hx3
  refine (wpIn_wide (n := 6)).1 ?_
  refine wpIn_rangeFunc_seqo rfl (by decide) (gf := 99) (lb := #[.pointer (some ⟨w.heap.size + 1 + 1, 0, none⟩)]) rfl trivial (enters_of Tryz.func99 (by kernel_rfl) rfl)
    (each_run 5 d p cap (w.heap.size + 1 + 1)) (fun _ => rfl) (.exit 0)
    (fun t W => W.ownsRow w.heap.size 48 3 (.slice (some ⟨w.heap.size, 0, none⟩) t d.size) t (flatS (d.toList.take t)) ∧ W.heap[w.heap.size + 1]? = some (.cells #[.slice (some ⟨w.heap.size, 0, none⟩) t d.size] 49 (0, 0)) ∧ W.heap[w.heap.size + 2]? = some (.cells #[.slice p d.size cap] 49 (0, 0)) ∧ Below w.heap.size w W ∧ w3.heap.size ≤ W.heap.size)
    (fun W => False)
    ?hI ?hIx (fun t A h => ⟨cell_of_row A _ 0 _ _ _ h.2.2.1, HSL.out.below h.2.2.2.1⟩) ⟨ho3, hb3, hs3, hbl3, Nat.le_refl _⟩
    (fun t a' W => ∃ Bx, w3.heap.size ≤ Bx ∧ W.heap[Bx]? = some (.cells #[.int .i64 d[t]!.1, .int .i64 d[t]!.2.1, .string d[t]!.2.2] 48 (0, 0)) ∧
      a' = { tmps := #[.slice p d.size cap, undef, .slice none 0 0, .pointer (some ⟨w.heap.size + 1, 0, none⟩), .pointer (some ⟨Bx, 0, none⟩), .slice p d.size cap, .int .i64 d.size, .slice (some ⟨w.heap.size, 0, none⟩) 0 d.size, .slice p d.size cap, .func (.func 99) #[] #[.pointer (some ⟨w.heap.size + 1 + 1, 0, none⟩)], aggS d[t]!, undef, undef, undef, undef, undef, undef, undef, undef, undef, undef, undef], defers := [] })
    ?hAx ?hassign ?hbody ?hdone ?hstop
  case hI =>
    rintro t A D r ⟨h1, h2, h3, h5, h6⟩ hg hr
    exact ⟨own_keep h1 (hg.block _ (by omega) (by simp; omega)), (hg.block _ (by omega) (by simp; omega)).trans h2, (hg.block _ (by omega) (by simp; omega)).trans h3, h5.trans (below_of_grown hg (by omega) (by omega)), Nat.le_trans h6 hg.size⟩
  case hIx =>
    rintro A D r h _ _
    exact h
  case hAx =>
    rintro t a A D r ⟨Bx, h0, h1, h2⟩ hg hne
    refine ⟨Bx, h0, (hg.block Bx (Array.getElem?_eq_some_iff.1 h1).1 (fun e => ?_)).trans h1, h2⟩
    obtain rfl : Bx = r := by simpa using e
    exact hne _ _ _ h1
  case hassign =>
    intro l t W K ht hi hK
    obtain ⟨_, _, _, _, h6⟩ := hi
    obtain ⟨x, hx⟩ : ∃ x, d[t]! = x := ⟨_, rfl⟩
    rw [hx] at hK ⊢
    unfold aggS at hK ⊢
    have HKK := Lib.hid hK
    clear hK hx ho3
    gi_wp2
    exact HKK.out _ _ (gB_of_below ((Below.refl _ W).alloc (Nat.le_refl _) _) none) ⟨W.heap.size, h6, heap_alloc_new W _, rfl⟩
  case hbody =>
    rintro l t a' W ht ⟨h1, h2, h3, h5, h6⟩ ⟨Bx, hBx, hbx, rfl⟩
    have htk := take_get d t ht
    have hss := HSH.out t ht
    obtain ⟨x, hx⟩ : ∃ x, d[t]! = x := ⟨_, rfl⟩
    obtain ⟨L, hL⟩ : ∃ L, d.toList.take t = L := ⟨_, rfl⟩
    rw [hx] at hbx htk hss ⊢
    rw [hL] at h1 htk
    have p2 : W.cell? ⟨Bx, 2, none⟩ = some (.string x.2.2) := cell_of_row _ _ 2 _ _ _ hbx
    unfold aggS
    have hC := clone_any x.2.2 (by omega) W
    have HC := Lib.hid hC
    have H1 := Lib.hid h1
    have H2 := Lib.hid h2
    have H3 := Lib.hid h3
    have H5 := Lib.hid h5
    have H6 := Lib.hid h6
    have HTK := Lib.hid htk
    have HX := Lib.hid hx
    have HBX := Lib.hid hbx
    have hBW : Bx < W.heap.size := (Array.getElem?_eq_some_iff.1 hbx).1
    clear hbx htk hx h1 h2 h3 h5 h6 ho3 hb3 hs3 hbl3 hC
    gi_wp2
    refine ⟨trivial, ?_⟩
    refine (CallsIn.inRound l (callsIn_wide.2 HC.out)).mono ?_
    rintro e w5 ⟨rfl, hb5⟩
    have hx5 := (hb5.block Bx hBW).trans HBX.out
    have c0 : w5.cell? ⟨Bx, 0, none⟩ = some (.int .i64 x.1) := cell_of_row _ _ 0 _ _ _ hx5
    have c1 : w5.cell? ⟨Bx, 1, none⟩ = some (.int .i64 x.2.1) := cell_of_row _ _ 1 _ _ _ hx5
    have c2 : w5.cell? ⟨Bx, 2, none⟩ = some (.string x.2.2) := cell_of_row _ _ 2 _ _ _ hx5
    have f2 := frozen_of_row _ _ 2 _ _ hx5
    have hz5 := hb5.size
    have hz6 := H6.out
    have ho5 := (hb5.block (w.heap.size + 1) (by omega)).trans H2.out
    have co : w5.cell? ⟨w.heap.size + 1, 0, none⟩ = some (.slice (some ⟨w.heap.size, 0, none⟩) t d.size) := cell_of_row _ _ 0 _ _ _ ho5
    have hne1 : ¬ Bx = w.heap.size + 1 := by omega
    have hne2 : ¬ w.heap.size + 1 = Bx := by omega
    obtain ⟨w6, hw6⟩ : ∃ w6, w5.setCell ⟨Bx, 2, none⟩ (.string x.2.2) = w6 := ⟨_, rfl⟩
    have hs6 : w6.heap.size = w5.heap.size := by rw [← hw6]; simp
    have hx6 : w6.heap[Bx]? = some (.cells #[.int .i64 x.1, .int .i64 x.2.1, .string x.2.2] 48 (0, 0)) := by rw [← hw6]; exact heap_setCell_same w5 Bx 2 _ _ (.string x.2.2) hx5
    have hg6 : w5.grownBy w6 (some Bx) := by rw [← hw6]; exact gB_setCell (gB_refl _ _) _ _
    have hK6 : Keeps w3.heap.size W w6 := ⟨by omega, fun k hk hkl => by
      by_cases h : k = Bx
      · rw [h, hx6, HBX.out]
      · exact (hg6.block k (by omega) (by simpa using h)).trans (hb5.block k hkl)⟩
    have hB6 : Below w.heap.size w w6 := (H5.out.trans (hb5.mono H5.out.size)).trans (below_of_grown hg6 (by omega) (by omega))
    have e0 : w6.cell? ⟨Bx, 0, none⟩ = some (.int .i64 x.1) := cell_of_row _ _ 0 _ _ _ hx6
    have e1 : w6.cell? ⟨Bx, 1, none⟩ = some (.int .i64 x.2.1) := cell_of_row _ _ 1 _ _ _ hx6
    have e2 : w6.cell? ⟨Bx, 2, none⟩ = some (.string x.2.2) := cell_of_row _ _ 2 _ _ _ hx6
    have ho6 := (hg6.block (w.heap.size + 1) (by omega) (by simp; omega)).trans ho5
    have eo : w6.cell? ⟨w.heap.size + 1, 0, none⟩ = some (.slice (some ⟨w.heap.size, 0, none⟩) t d.size) := cell_of_row _ _ 0 _ _ _ ho6
    have hown6 : w6.ownsRow w.heap.size 48 3 (.slice (some ⟨w.heap.size, 0, none⟩) t d.size) t (flatS L) :=
      own_keep H1.out ((hg6.block w.heap.size (by omega) (by simp; omega)).trans (hb5.block w.heap.size (by omega)))
    have h36 := (hg6.block (w.heap.size + 2) (by omega) (by simp; omega)).trans ((hb5.block (w.heap.size + 2) (by omega)).trans H3.out)
    obtain ⟨w7, hw7⟩ : ∃ w7, w6.alloc (.cells #[.int .i64 x.1, .int .i64 x.2.1, .string x.2.2] 48) = w7 := ⟨_, rfl⟩
    have hx7 : w7.heap[w6.heap.size]? = some (.cells #[.int .i64 x.1, .int .i64 x.2.1, .string x.2.2] 48 (0, 0)) := by rw [← hw7]; exact heap_alloc_new w6 _
    have hown7 : w7.ownsRow w.heap.size 48 3 (.slice (some ⟨w.heap.size, 0, none⟩) t d.size) t (flatS L) := by rw [← hw7]; exact hown6.alloc _
    have hg7 : w6.grownBy w7 (some w6.heap.size) := by rw [← hw7]; exact gB_alloc (gB_refl _ _) _
    have hs7 : w7.heap.size = w6.heap.size + 1 := by rw [← hw7]; simp
    have ho7 := (hg7.block (w.heap.size + 1) (by omega) (by simp; omega)).trans ho6
    have h37 := (hg7.block (w.heap.size + 2) (by omega) (by simp; omega)).trans h36
    have HO7 := Lib.hid ho7
    have H37 := Lib.hid h37
    have HX7 := Lib.hid hx7
    have HOWN7 := Lib.hid hown7
    have HK6 := Lib.hid hK6
    have HB6 := Lib.hid hB6
    have HG7 := Lib.hid hg7
    have HS6 := Lib.hid hs6
    have HS7 := Lib.hid hs7
    have HW6 := Lib.hid hw6
    have HW7 := Lib.hid hw7
    clear hx5 hb5 p2 hx6 hg6 hK6 hB6 ho6 hown6 h36 hx7 hown7 hg7 hw7 ho7 h37 ho5 hs6 hs7 hw6
    gi_wp2_with (first
      | (gi_at_builtin
         rw [HW6.out, HW7.out, ← HS6.out]
         refine wpListIn_append_fits _ rfl _ _ 49 rfl w.heap.size 48 i0 3 Tryz.underlying49 hi hz1 w.heap.size t d.size (flatS L) rfl HOWN7.out ⟨w6.heap.size, 0, none⟩ 1 1 [.int .i64 x.1, .int .i64 x.2.1, .string x.2.2] rfl rfl (World.news_of_block HX7.out) (by intro u hu; simp at hu; rcases hu with rfl | rfl | rfl <;> rfl) (by omega) ?_
         intro w8 hown8 hg8
         have hsz7 := HS7.out
         have hsz6 := HS6.out
         have ho8 := (hg8.block (w.heap.size + 1) (by omega) (by simp)).trans HO7.out
         have c8 : w8.cell? ⟨w.heap.size + 1, 0, none⟩ = some (.slice (some ⟨w.heap.size, 0, none⟩) t d.size) := cell_of_row _ _ 0 _ _ _ ho8
         have f8 := frozen_of_row _ _ 0 _ _ ho8
         have HO8 := Lib.hid ho8
         have HOWN8 := Lib.hid hown8
         have HG8 := Lib.hid hg8
         clear ho8 hown8 hg8))
    have hsz7 := HS7.out
    have hsz6 := HS6.out
    have hg8 := HG8.out
    have hz8 := hg8.size
    have h9 := heap_setCell_same w8 (w.heap.size + 1) 0 _ _ (.slice (some ⟨w.heap.size, 0, none⟩) (t + 1) d.size) HO8.out
    have hg9 : w8.grownBy (w8.setCell ⟨w.heap.size + 1, 0, none⟩ (.slice (some ⟨w.heap.size, 0, none⟩) (t + 1) d.size)) (some (w.heap.size + 1)) := gB_setCell (gB_refl _ _) _ _
    refine ⟨((HK6.out.trans (Keeps.of_below (below_of_grown HG7.out (Nat.le_refl _) (Nat.le_refl _)))).trans (Keeps.of_grown hg8 (by omega))).trans (Keeps.of_grown hg9 (by omega)), ?_, h9, ?_, ?_, ?_⟩
    · rw [HTK.out, flatS_snoc]
      exact own_keep HOWN8.out (hg9.block _ (by omega) (by simp))
    · exact (hg9.block _ (by omega) (by simp)).trans ((hg8.block _ (by omega) (by simp)).trans H37.out)
    · exact ((HB6.out.trans (below_of_grown HG7.out (by omega) (by omega))).trans (below_of_grown hg8 (by omega) (by omega))).trans (below_of_grown hg9 (by omega) (by omega))
    · have h1 := hg9.size
      omega
  case hdone =>
    rintro D W hD ⟨h1, h2, h3, h5, h6⟩ hK
    rw [show d.toList.take d.size = d.toList from List.take_length] at h1
    have hH := holds_row h1 rfl
    have c1 : W.cell? ⟨w.heap.size + 1, 0, none⟩ = some (.slice (some ⟨w.heap.size, 0, none⟩) d.size d.size) := cell_of_row _ _ 0 _ _ _ h2
    have hS := SortFunc_any w.heap.size d.size d W hH (by omega) hsm
    have HC := Lib.hid hS
    have H2 := Lib.hid h2
    have H5 := Lib.hid h5
    have HK := Lib.hid hK
    clear h1 h2 h3 h5 hK hH hS hb3 hs3 hbl3 ho3
    go_wp2_with fail
    refine (HC.out).mono ?_
    rintro e w6 ⟨rfl, hH6, hg6⟩
    have h26 := (hg6.block (w.heap.size + 1) (by omega) (by simp)).trans H2.out
    have c6 : w6.cell? ⟨w.heap.size + 1, 0, none⟩ = some (.slice (some ⟨w.heap.size, 0, none⟩) d.size d.size) := cell_of_row _ _ 0 _ _ _ h26
    have HH6 := Lib.hid hH6
    have HG6 := Lib.hid hg6
    clear h26 hH6 hg6 c1
    go_wp2_with fail
    have hDW := (Array.getElem?_eq_some_iff.1 HK.out).1
    have hK6 := (HG6.out.block D hDW (by simp; omega)).trans HK.out
    have hz6 := HG6.out.size
    have hz5 := H5.out.size
    refine ⟨by simp, .inl ⟨_, _, rfl, run_takeDeferred hK6, ?_⟩⟩
    have hgD := turn w6 D (.deferred none)
    refine ⟨.slice (some ⟨w.heap.size, 0, none⟩) d.size d.size, by simp [results, Tryz.results77, go_sem], w.heap.size, d.size, rfl, Nat.le_refl _, ?_, ?_, ?_⟩
    · simp; omega
    · exact HoldsK_of HH6.out (hgD.block _ (by omega) (by simp; omega))
    · exact (H5.out.trans (below_of_grown HG6.out (Nat.le_refl _) (by omega))).trans (below_of_grown hgD (by omega) (by omega))
  case hstop =>
    rintro D W hD h hK
    exact h.elim
theorem Sort_any (d : Array Sc) (p : Option Addr) (cap : Nat) (w : World) (hs : Sl w p d) :
    Calls Tryz.prog 77 #[.slice p d.size cap] w fun e w' => ∃ g c, e = .returned (.slice (some ⟨g, 0, none⟩) d.size c) ∧ w.heap.size ≤ g ∧ g < w'.heap.size ∧ HoldsK encS 3 w' g 0 (sortSc d.toList).toArray ∧ Below w.heap.size w w' :=
  callsIn_wide.1 (Sort_in d p cap w hs)
end Go.Proofs.YtepelpmkmhhokaaGreatDoor
