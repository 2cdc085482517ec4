/- The first kid under a key is found. Conditions: the map lies. The kid under a key is told. Conditions: the surroundings; the graph lies. -/
import Derived.Test.YtfpcjdopfodfnaaGreatDoorAtx
import Derived.Test.YtfpcjdopfodfnaaGreatDoorApr
set_option maxRecDepth 100000
namespace Go.Proofs.YtfpcjdopfodfnaaGreatDoor
open Go.RowKit Go.Shelf
open Scs Seqo
open Go.Sort (HoldsK)
attribute [local go_sem] Oper.semAt_some
/-- the first kid, from place t on, under a key -/
def underFrom (f : Fn) (x : Sc) : Nat → Nat → Option Int
  | 0, _ => none
  | n + 1, t => if (pairAt f t).1 = x then some (pairAt f t).2 else underFrom f x n (t + 1)
def underG (f : Fn) (x : Sc) : Option Int := underFrom f x (pairsN f) 0
def underR : Option Int → Int × Bool
  | some z => (z, true)
  | none => (0, false)
theorem at5 (w : World) (o0 o1 o2 o3 o4 : Obj) : ∃ W, (((((w.alloc o0).alloc o1).alloc o2).alloc o3).alloc o4) = W ∧ W.heap.size = w.heap.size + 5 ∧ Below w.heap.size w W ∧
    W.heap[w.heap.size]? = some o0 ∧ W.heap[w.heap.size + 1]? = some o1 ∧ W.heap[w.heap.size + 2]? = some o2 ∧ W.heap[w.heap.size + 3]? = some o3 ∧ W.heap[w.heap.size + 4]? = some o4 := by
  refine ⟨_, rfl, by simp, ((((((Below.refl _ w).alloc (Nat.le_refl _) _).alloc (by simp) _).alloc (by first | (simp; done) | (simp; omega)) _).alloc (by first | (simp; done) | (simp; omega)) _).alloc (by first | (simp; done) | (simp; omega)) _), ?_, ?_, ?_, ?_, ?_⟩
  · rw [Below.heap_alloc _ _ _ (by first | (simp; done) | (simp; omega)), Below.heap_alloc _ _ _ (by first | (simp; done) | (simp; omega)), Below.heap_alloc _ _ _ (by first | (simp; done) | (simp; omega)), Below.heap_alloc _ _ _ (by simp)]
    exact heap_alloc_new w o0
  · rw [Below.heap_alloc _ _ _ (by first | (simp; done) | (simp; omega)), Below.heap_alloc _ _ _ (by first | (simp; done) | (simp; omega)), Below.heap_alloc _ _ _ (by simp)]
    have h := heap_alloc_new (w.alloc o0) o1
    rwa [World.size_alloc] at h
  · rw [Below.heap_alloc _ _ _ (by first | (simp; done) | (simp; omega)), Below.heap_alloc _ _ _ (by simp)]
    have h := heap_alloc_new ((w.alloc o0).alloc o1) o2
    rwa [World.size_alloc, World.size_alloc] at h
  · rw [Below.heap_alloc _ _ _ (by simp)]
    have h := heap_alloc_new (((w.alloc o0).alloc o1).alloc o2) o3
    rwa [World.size_alloc, World.size_alloc, World.size_alloc] at h
  · have h := heap_alloc_new ((((w.alloc o0).alloc o1).alloc o2).alloc o3) o4
    rwa [World.size_alloc, World.size_alloc, World.size_alloc, World.size_alloc] at h
theorem under_step (f : Fn) (x : Sc) (t : Nat) (h : t < pairsN f) : underFrom f x (pairsN f - t) t = if (pairAt f t).1 = x then some (pairAt f t).2 else underFrom f x (pairsN f - (t + 1)) (t + 1) := by
  obtain ⟨m, hm⟩ : ∃ m, pairsN f - t = m + 1 := ⟨pairsN f - t - 1, by omega⟩
  rw [hm, show pairsN f - (t + 1) = m by omega]
  rfl
theorem cell4 {W : World} {b : Nat} {a0 a1 a2 a3 : Value} {T : TypeId} (h : W.heap[b]? = some (.cells #[a0, a1, a2, a3] T (0, 0))) :
    W.cell? ⟨b, 0, none⟩ = some a0 ∧ W.cell? ⟨b, 1, none⟩ = some a1 ∧ W.cell? ⟨b, 2, none⟩ = some a2 ∧ W.cell? ⟨b, 3, none⟩ = some a3 :=
  ⟨cell_of_row _ _ 0 _ _ _ h, cell_of_row _ _ 1 _ _ _ h, cell_of_row _ _ 2 _ _ _ h, cell_of_row _ _ 3 _ _ _ h⟩
theorem cell3 {W : World} {b : Nat} {a0 a1 a2 : Value} {T : TypeId} (h : W.heap[b]? = some (.cells #[a0, a1, a2] T (0, 0))) :
    W.cell? ⟨b, 0, none⟩ = some a0 ∧ W.cell? ⟨b, 1, none⟩ = some a1 ∧ W.cell? ⟨b, 2, none⟩ = some a2 :=
  ⟨cell_of_row _ _ 0 _ _ _ h, cell_of_row _ _ 1 _ _ _ h, cell_of_row _ _ 2 _ _ _ h⟩
set_option maxHeartbeats 4000000 in
theorem under_in (f : Fn) (n : Int) (x : Sc) (w : World) (hg : Nl w f) :
    CallsIn Fence.wide 6 Tryz.prog 35 #[vV f n, aggS x] w fun e w' => e = .returned (.tuple #[.int .i64 (underR (underG f x)).1, .bool (underR (underG f x)).2]) ∧ Below w.heap.size w w' := by
  have HG := Lib.hid hg
  clear hg
  unfold vV aggS
  refine callsIn_of_wp_marks Tryz.func35 rfl trivial ?_ rfl
  simp only [Tryz.ntmps35, List.size_toArray, List.length_cons, List.length_nil, Nat.reduceAdd, Nat.reduceSub, Array.replicate_succ, Array.replicate_zero, List.push_toArray, List.append_toArray, List.nil_append, List.cons_append]
  refine wpIn_wide.2 ?_
  go_wp2_with fail
  go_step3
  go_wp2_with fail
  go_step3
  go_wp2_with (go_at_call 51; refine (pairs_any f n _).mono ?_; rintro e w' ⟨rfl, rfl⟩)
  obtain ⟨w3, hw3, hz3, hbl3, y0, y1, y2, y3, y4⟩ := at5 w (.cells #[.int .i64 f.k, .int .i64 f.x.1, .int .i64 f.x.2.1, .string f.x.2.2, .slice f.pk f.keys.size f.ck, .slice f.pd f.kids.size f.cd, .int .i64 n] 58) (.cells #[.int .i64 x.1, .int .i64 x.2.1, .string x.2.2] 26) (.cells #[.int .i64 0] 3) (.cells #[.bool false] 4) (.cells #[.int .i64 f.k, .int .i64 f.x.1, .int .i64 f.x.2.1, .string f.x.2.2, .slice f.pk f.keys.size f.ck, .slice f.pd f.kids.size f.cd, .int .i64 n] 58)
  rw [hw3]
  clear hw3 y0
  refine (wpIn_wide (n := 6)).1 ?_
  refine wpIn_rangeFunc_seqo rfl (by decide) (gf := 70) (lb := #[.pointer (some ⟨w.heap.size + 1 + 1 + 1 + 1, 0, none⟩)]) rfl trivial (enters_of Tryz.func70 (by kernel_rfl) rfl)
    (pairs_run 5 f n (w.heap.size + 1 + 1 + 1 + 1)) (fun _ => rfl) (.exit 0)
    (fun t W => W.heap[w.heap.size + 1]? = some (.cells #[.int .i64 x.1, .int .i64 x.2.1, .string x.2.2] 26 (0, 0)) ∧ W.heap[w.heap.size + 2]? = some (.cells #[.int .i64 0] 3 (0, 0)) ∧ W.heap[w.heap.size + 3]? = some (.cells #[.bool false] 4 (0, 0)) ∧ W.heap[w.heap.size + 4]? = some (.cells #[.int .i64 f.k, .int .i64 f.x.1, .int .i64 f.x.2.1, .string f.x.2.2, .slice f.pk f.keys.size f.ck, .slice f.pd f.kids.size f.cd, .int .i64 n] 58 (0, 0)) ∧ underFrom f x (pairsN f - t) t = underG f x ∧ Below w.heap.size w W ∧ w3.heap.size ≤ W.heap.size)
    (fun W => (∃ z, underG f x = some z ∧ W.heap[w.heap.size + 2]? = some (.cells #[.int .i64 z] 3 (0, 0)) ∧ W.heap[w.heap.size + 3]? = some (.cells #[.bool true] 4 (0, 0))) ∧ Below w.heap.size w W ∧ w3.heap.size ≤ W.heap.size)
    ?hI ?hIx (fun t A h => ⟨h.2.2.2.1, HG.out.below h.2.2.2.2.2.1⟩) ⟨y1, y2, y3, y4, rfl, hbl3, Nat.le_refl _⟩
    (fun t a' W => ∃ Bx, w3.heap.size ≤ Bx ∧ W.heap[Bx]? = some (.cells #[.int .i64 (pairAt f t).1.1, .int .i64 (pairAt f t).1.2.1, .string (pairAt f t).1.2.2, .int .i64 (pairAt f t).2] 88 (0, 0)) ∧
      a' = { tmps := #[.agg #[.int .i64 f.k, .int .i64 f.x.1, .int .i64 f.x.2.1, .string f.x.2.2, .slice f.pk f.keys.size f.ck, .slice f.pd f.kids.size f.cd, .int .i64 n], .agg #[.int .i64 x.1, .int .i64 x.2.1, .string x.2.2], .pointer (some ⟨w.heap.size, 0, none⟩), .pointer (some ⟨w.heap.size + 1, 0, none⟩), .pointer (some ⟨w.heap.size + 1 + 1, 0, none⟩), .pointer (some ⟨w.heap.size + 1 + 1 + 1, 0, none⟩), .pointer (some ⟨Bx, 0, none⟩), .agg #[.int .i64 f.k, .int .i64 f.x.1, .int .i64 f.x.2.1, .string f.x.2.2, .slice f.pk f.keys.size f.ck, .slice f.pd f.kids.size f.cd, .int .i64 n], .func (.func 70) #[] #[.pointer (some ⟨w.heap.size + 1 + 1 + 1 + 1, 0, none⟩)], .agg #[.int .i64 (pairAt f t).1.1, .int .i64 (pairAt f t).1.2.1, .string (pairAt f t).1.2.2, .int .i64 (pairAt f t).2], undef, undef, undef, undef, undef, undef, undef, undef], defers := [] })
    ?hAx ?hassign ?hbody ?hdone ?hstop
  case hI =>
    rintro t A D r ⟨h1, h2, h3, h4, h5, h6, h7⟩ hg hr
    exact ⟨(hg.block _ (by omega) (by simp; omega)).trans h1, (hg.block _ (by omega) (by simp; omega)).trans h2, (hg.block _ (by omega) (by simp; omega)).trans h3, (hg.block _ (by omega) (by simp; omega)).trans h4, h5, h6.trans (below_of_grown hg (by omega) (by omega)), Nat.le_trans h7 hg.size⟩
  case hIx =>
    rintro A D r ⟨⟨z, h0, h1, h2⟩, h3, h4⟩ hg hr
    exact ⟨⟨z, h0, (hg.block _ (by omega) (by simp; omega)).trans h1, (hg.block _ (by omega) (by simp; omega)).trans h2⟩, h3.trans (below_of_grown hg (by omega) (by omega)), Nat.le_trans h4 hg.size⟩
  case hAx =>
    rintro t a A D r ⟨Bx, h0, h1, h2⟩ hg hne
    refine ⟨Bx, h0, (hg.block Bx (Array.getElem?_eq_some_iff.1 h1).1 (fun e => ?_)).trans h1, h2⟩
    obtain rfl : Bx = r := by simpa using e
    exact hne _ _ _ h1
  case hassign =>
    intro l t W K ht hi hK
    have hz7 := hi.2.2.2.2.2.2
    unfold pV at hK ⊢
    obtain ⟨⟨⟨q0, q1, q2⟩, q3⟩, hq⟩ : ∃ x, pairAt f t = x := ⟨_, rfl⟩
    rw [hq] at hK ⊢
    have HKK := Lib.hid hK
    clear hK hi hq
    gi_wp2
    exact HKK.out _ _ (gB_of_below ((Below.refl _ W).alloc (Nat.le_refl _) _) none) ⟨W.heap.size, hz7, heap_alloc_new W _, rfl⟩
  case hbody =>
    rintro l t a' W ht ⟨h1, h2, h3, h4, h5, h6, h7⟩ ⟨Bx, hBx, hbx, rfl⟩
    have hst := under_step f x t ht
    rw [h5] at hst
    obtain ⟨⟨⟨q0, q1, q2⟩, q3⟩, hq⟩ : ∃ x, pairAt f t = x := ⟨_, rfl⟩
    obtain ⟨x0, x1, x2⟩ := x
    rw [hq] at hbx hst ⊢
    obtain ⟨p0, p1, p2, p3⟩ := cell4 hbx
    obtain ⟨e0, e1, e2⟩ := cell3 h1
    have eqq := fun w => eq_sc q0 q1 q2 x0 x1 x2 w
    rw [sameB_iff] at eqq
    have H1 := Lib.hid h1
    have H2 := Lib.hid h2
    have H3 := Lib.hid h3
    have H4 := Lib.hid h4
    have H6 := Lib.hid h6
    have H7 := Lib.hid h7
    have c2 : W.cell? ⟨w.heap.size + 1 + 1, 0, none⟩ = some (.int .i64 0) := cell_of_row _ _ 0 _ _ _ h2
    have f2 : W.frozen? ⟨w.heap.size + 1 + 1, 0, none⟩ = false := frozen_of_row _ _ 0 _ _ h2
    have c3 : W.cell? ⟨w.heap.size + 1 + 1 + 1, 0, none⟩ = some (.bool false) := cell_of_row _ _ 0 _ _ _ h3
    have f3 : W.frozen? ⟨w.heap.size + 1 + 1 + 1, 0, none⟩ = false := frozen_of_row _ _ 0 _ _ h3
    by_cases he : ((q0, q1, q2) : Sc) = (x0, x1, x2)
    · rw [decide_eq_true he] at eqq
      rw [if_pos he] at hst
      have HST := Lib.hid hst
      have HLT := Lib.hid (Array.getElem?_eq_some_iff.1 h3).1
      clear he hst h1 h2 h3 h4 h5 h6 h7 hbx hq y1 y2 y3 y4 hbl3
      gi_wp2
      have hz7 := H7.out
      have g1 : W.grownBy (W.setCell ⟨w.heap.size + 1 + 1, 0, none⟩ (.int .i64 q3)) (some (w.heap.size + 2)) := gB_setCell (gB_refl _ _) _ _
      have x1' := heap_setCell_same W (w.heap.size + 1 + 1) 0 _ _ (.int .i64 q3) H2.out
      have g2 : (W.setCell ⟨w.heap.size + 1 + 1, 0, none⟩ (.int .i64 q3)).grownBy ((W.setCell ⟨w.heap.size + 1 + 1, 0, none⟩ (.int .i64 q3)).setCell ⟨w.heap.size + 1 + 1 + 1, 0, none⟩ (.bool true)) (some (w.heap.size + 3)) := gB_setCell (gB_refl _ _) _ _
      have x3 := (g1.block (w.heap.size + 3) HLT.out (by simp)).trans H3.out
      have x4 := heap_setCell_same _ (w.heap.size + 1 + 1 + 1) 0 _ _ (.bool true) x3
      have z1 := g1.size
      exact ⟨rfl, (Keeps.of_grown g1 (by omega)).trans (Keeps.of_grown g2 (by omega)), ⟨q3, HST.out, (g2.block (w.heap.size + 2) (by omega) (by simp)).trans x1', x4⟩, (H6.out.trans (below_of_grown g1 (by omega) (by omega))).trans (below_of_grown g2 (by omega) (by omega)), (by have h1 := g1.size; have h2 := g2.size; omega)⟩
    · rw [decide_eq_false he] at eqq
      rw [if_neg he] at hst
      have HST := Lib.hid hst
      clear he hst h1 h2 h3 h4 h5 h6 h7 hbx hq y1 y2 y3 y4 hbl3
      gi_wp2
      exact ⟨Keeps.refl _ _, H1.out, H2.out, H3.out, H4.out, HST.out.symm, H6.out, (by have := H7.out; omega)⟩
  case hdone =>
    rintro D W hD ⟨h1, h2, h3, h4, h5, h6, h7⟩ hK
    have c2 : W.cell? ⟨w.heap.size + 1 + 1, 0, none⟩ = some (.int .i64 0) := cell_of_row _ _ 0 _ _ _ h2
    have f2 : W.frozen? ⟨w.heap.size + 1 + 1, 0, none⟩ = false := frozen_of_row _ _ 0 _ _ h2
    have c3 : W.cell? ⟨w.heap.size + 1 + 1 + 1, 0, none⟩ = some (.bool false) := cell_of_row _ _ 0 _ _ _ h3
    have f3 : W.frozen? ⟨w.heap.size + 1 + 1 + 1, 0, none⟩ = false := frozen_of_row _ _ 0 _ _ h3
    rw [Nat.sub_self] at h5
    have H2 := Lib.hid h2
    have H3 := Lib.hid h3
    have H5 := Lib.hid h5
    have H6 := Lib.hid h6
    have HK := Lib.hid hK
    have H7 := Lib.hid h7
    clear h1 h2 h3 h4 h5 h6 h7 hK y1 y2 y3 y4 hbl3
    go_wp2_with fail
    go_region
    obtain ⟨W2, hW2⟩ : ∃ W2, ((W.setCell ⟨w.heap.size + 1 + 1, 0, none⟩ (.int .i64 0)).setCell ⟨w.heap.size + 1 + 1 + 1, 0, none⟩ (.bool false)).drew = W2 := ⟨_, rfl⟩
    have hz7 := H7.out
    have g1 : W.grownBy (W.setCell ⟨w.heap.size + 1 + 1, 0, none⟩ (.int .i64 0)) (some (w.heap.size + 2)) := gB_setCell (gB_refl _ _) _ _
    have x2' := heap_setCell_same W (w.heap.size + 1 + 1) 0 _ _ (.int .i64 0) H2.out
    have x3 := (g1.block (w.heap.size + 3) (by omega) (by simp)).trans H3.out
    have x4 := heap_setCell_same _ (w.heap.size + 1 + 1 + 1) 0 _ _ (.bool false) x3
    have g2 : (W.setCell ⟨w.heap.size + 1 + 1, 0, none⟩ (.int .i64 0)).grownBy W2 (some (w.heap.size + 3)) := by rw [← hW2]; exact gB_drew (gB_setCell (gB_refl _ _) _ _)
    have z1 := g1.size
    have z2 := g2.size
    have hbW : Below w.heap.size w W2 := (H6.out.trans (below_of_grown g1 (by omega) (by omega))).trans (below_of_grown g2 (by omega) (by omega))
    have k2 := (g2.block (w.heap.size + 2) (by omega) (by simp)).trans x2'
    have k3 : W2.heap[w.heap.size + 3]? = some (.cells #[.bool false] 4 (0, 0)) := by rw [← hW2]; exact x4
    have hDl := (Array.getElem?_eq_some_iff.1 HK.out).1
    have kD := (g2.block D (by omega) (by simp; omega)).trans ((g1.block D (by omega) (by simp; omega)).trans HK.out)
    have c2' : W2.cell? ⟨w.heap.size + 1 + 1, 0, none⟩ = some (.int .i64 0) := cell_of_row _ _ 0 _ _ _ k2
    have c3' : W2.cell? ⟨w.heap.size + 1 + 1 + 1, 0, none⟩ = some (.bool false) := cell_of_row _ _ 0 _ _ _ k3
    have n2 : ¬ D = w.heap.size + 1 + 1 := by omega
    have n3 : ¬ D = w.heap.size + 1 + 1 + 1 := by omega
    rw [hW2]
    clear hW2
    go_wp2_with fail
    rw [Exit.noGoto_ret]
    refine ⟨by simp, .inl ⟨_, _, rfl, run_takeDeferred kD, ?_⟩⟩
    have gD : W2.grownBy (W2.putObj D (.deferred none)) (some D) := turn W2 D _
    have zD := gD.size
    have d2 := cell_of_row _ _ 0 _ _ _ ((gD.block (w.heap.size + 1 + 1) (by omega) (by simp; omega)).trans k2)
    have d3 := cell_of_row _ _ 0 _ _ _ ((gD.block (w.heap.size + 1 + 1 + 1) (by omega) (by simp; omega)).trans k3)
    refine ⟨.tuple #[.int .i64 0, .bool false], by simp [results, Tryz.results35, go_sem, d2, d3], by rw [← H5.out]; rfl, hbW.trans (below_of_grown gD (by omega) (by omega))⟩
  case hstop =>
    rintro D W hD ⟨⟨z, h0, h2, h3⟩, h6, h7⟩ hK
    have c2 : W.cell? ⟨w.heap.size + 1 + 1, 0, none⟩ = some (.int .i64 z) := cell_of_row _ _ 0 _ _ _ h2
    have f2 : W.frozen? ⟨w.heap.size + 1 + 1, 0, none⟩ = false := frozen_of_row _ _ 0 _ _ h2
    have c3 : W.cell? ⟨w.heap.size + 1 + 1 + 1, 0, none⟩ = some (.bool true) := cell_of_row _ _ 0 _ _ _ h3
    have f3 : W.frozen? ⟨w.heap.size + 1 + 1 + 1, 0, none⟩ = false := frozen_of_row _ _ 0 _ _ h3
    have H2 := Lib.hid h2
    have H3 := Lib.hid h3
    have H0 := Lib.hid h0
    have H6 := Lib.hid h6
    have HK := Lib.hid hK
    have H7 := Lib.hid h7
    clear h0 h2 h3 h6 h7 hK y1 y2 y3 y4 hbl3
    refine wpIn_wide.2 ?_
    go_wp2_with fail
    go_region
    obtain ⟨W2, hW2⟩ : ∃ W2, ((W.setCell ⟨w.heap.size + 1 + 1, 0, none⟩ (.int .i64 z)).setCell ⟨w.heap.size + 1 + 1 + 1, 0, none⟩ (.bool true)).drew = W2 := ⟨_, rfl⟩
    have hz7 := H7.out
    have g1 : W.grownBy (W.setCell ⟨w.heap.size + 1 + 1, 0, none⟩ (.int .i64 z)) (some (w.heap.size + 2)) := gB_setCell (gB_refl _ _) _ _
    have x2' := heap_setCell_same W (w.heap.size + 1 + 1) 0 _ _ (.int .i64 z) H2.out
    have x3 := (g1.block (w.heap.size + 3) (by omega) (by simp)).trans H3.out
    have x4 := heap_setCell_same _ (w.heap.size + 1 + 1 + 1) 0 _ _ (.bool true) x3
    have g2 : (W.setCell ⟨w.heap.size + 1 + 1, 0, none⟩ (.int .i64 z)).grownBy W2 (some (w.heap.size + 3)) := by rw [← hW2]; exact gB_drew (gB_setCell (gB_refl _ _) _ _)
    have z1 := g1.size
    have z2 := g2.size
    have hbW : Below w.heap.size w W2 := (H6.out.trans (below_of_grown g1 (by omega) (by omega))).trans (below_of_grown g2 (by omega) (by omega))
    have k2 := (g2.block (w.heap.size + 2) (by omega) (by simp)).trans x2'
    have k3 : W2.heap[w.heap.size + 3]? = some (.cells #[.bool true] 4 (0, 0)) := by rw [← hW2]; exact x4
    have hDl := (Array.getElem?_eq_some_iff.1 HK.out).1
    have kD := (g2.block D (by omega) (by simp; omega)).trans ((g1.block D (by omega) (by simp; omega)).trans HK.out)
    have c2' : W2.cell? ⟨w.heap.size + 1 + 1, 0, none⟩ = some (.int .i64 z) := cell_of_row _ _ 0 _ _ _ k2
    have c3' : W2.cell? ⟨w.heap.size + 1 + 1 + 1, 0, none⟩ = some (.bool true) := cell_of_row _ _ 0 _ _ _ k3
    have n2 : ¬ D = w.heap.size + 1 + 1 := by omega
    have n3 : ¬ D = w.heap.size + 1 + 1 + 1 := by omega
    rw [hW2]
    clear hW2
    go_wp2_with fail
    rw [Exit.noGoto_ret]
    refine ⟨by simp, .inl ⟨_, _, rfl, run_takeDeferred kD, ?_⟩⟩
    have gD : W2.grownBy (W2.putObj D (.deferred none)) (some D) := turn W2 D _
    have zD := gD.size
    have d2 := cell_of_row _ _ 0 _ _ _ ((gD.block (w.heap.size + 1 + 1) (by omega) (by simp; omega)).trans k2)
    have d3 := cell_of_row _ _ 0 _ _ _ ((gD.block (w.heap.size + 1 + 1 + 1) (by omega) (by simp; omega)).trans k3)
    refine ⟨.tuple #[.int .i64 z, .bool true], by simp [results, Tryz.results35, go_sem, d2, d3], by rw [H0.out]; rfl, hbW.trans (below_of_grown gD (by omega) (by omega))⟩
end Go.Proofs.YtfpcjdopfodfnaaGreatDoor

set_option maxRecDepth 100000
namespace Go.Proofs.YtfpcjdopfodfnaaGreatDoor
open Go.RowKit Go.Shelf
open Scs Seqo
theorem under_any (f : Fn) (n : Int) (x : Sc) (w : World) (hg : Nl w f) :
    Calls Tryz.prog 35 #[vV f n, aggS x] w fun e w' => e = .returned (.tuple #[.int .i64 (underR (underG f x)).1, .bool (underR (underG f x)).2]) ∧ Below w.heap.size w w' :=
  callsIn_wide.1 (under_in f n x w hg)
def findG (L : Array Fn) (i : Int) (x : Sc) : Int × Bool := if plB i L.size = true then underR (underG L[i.toNat]! x) else (0, false)
theorem vrowX {w w' : World} {b : Nat} {x : Sc} (h : w.heap[b]? = some (.cells #[.int .i64 x.1, .int .i64 x.2.1, .string x.2.2] 26 (0, 0))) (hb : Below w.heap.size w w') :
    w'.heap[b]? = some (.cells #[.int .i64 x.1, .int .i64 x.2.1, .string x.2.2] 26 (0, 0)) := (hb.block b (Array.getElem?_eq_some_iff.1 h).1).trans h
set_option maxHeartbeats 4000000 in
theorem Find_any (root : Int) (L : Array Fn) (p : Option Addr) (cap : Nat) (i : Int) (x : Sc) (w : World) (hg : Gl w p L) :
    Calls Tryz.prog 18 #[.agg #[.int .i64 root, .slice p L.size cap], .int .i64 i, aggS x] w fun e w' => e = .returned (.tuple #[.int .i64 (findG L i x).1, .bool (findG L i x).2]) ∧ Below w.heap.size w w' := by
  obtain ⟨x0, x1, x2⟩ := x
  have hb1 : ∀ o o' : Obj, Below w.heap.size w ((w.alloc o).alloc o') := fun o o' => ((Below.refl _ w).alloc (Nat.le_refl _) _).alloc (by simp) _
  have hx : ∀ o : Obj, ((w.alloc o).alloc (.cells #[.int .i64 x0, .int .i64 x1, .string x2] 26)).heap[w.heap.size + 1]? = some (.cells #[.int .i64 x0, .int .i64 x1, .string x2] 26 (0, 0)) := fun o => by
    have h := heap_alloc_new (w.alloc o) (.cells #[.int .i64 x0, .int .i64 x1, .string x2] 26)
    rwa [World.size_alloc] at h
  unfold aggS
  have HX := Lib.hid hx
  have HB1 := Lib.hid hb1
  cases hi : plB i L.size
  · have hk : findG L i (x0, x1, x2) = (0, false) := by unfold findG; rw [hi]; rfl
    rw [hk]
    have HV := Lib.hid fun w => viewAt_no root L p cap i w hi
    clear hi hk hg hb1 hx
    go_enter Tryz.func18, Tryz.ntmps18
    go_wp2_with fail
    refine (HV.out _).mono ?_
    rintro e w5 ⟨⟨why, rfl⟩, hb5⟩
    have HB5 := Lib.hid ((HB1.out _ _).trans (hb5.mono (by simp; omega)))
    clear hb5
    unfold faultV
    go_wp2_with fail
    go_ret2
    exact ⟨rfl, HB5.out.alloc HB5.out.size _⟩
  · obtain ⟨t, rfl, ht⟩ := noPlace hi
    have hk : findG L t (x0, x1, x2) = underR (underG L[t]! (x0, x1, x2)) := by unfold findG; rw [hi]; rfl
    rw [hk]
    have hv := fun w hg => viewAt_yes root L p cap t w hg ht
    have hnl := hg.nodes t ht
    obtain ⟨f, hf⟩ : ∃ f, L[t]! = f := ⟨_, rfl⟩
    rw [hf] at hv hnl ⊢
    have HV := Lib.hid fun o o' => hv ((w.alloc o).alloc o') (hg.below (hb1 o o'))
    have HN := Lib.hid hnl
    have HU := Lib.hid fun w h => under_any f L.size (x0, x1, x2) w h
    obtain ⟨n, hn⟩ : ∃ f, L.size = f := ⟨_, rfl⟩
    obtain ⟨R, hR⟩ : ∃ R, underR (underG f (x0, x1, x2)) = R := ⟨_, rfl⟩
    unfold vV at HV HU
    unfold aggS at HU
    rw [hn] at HV HU ⊢
    rw [hR] at HU ⊢
    clear hi hk hg hb1 hv hnl hf hn ht hx hR
    go_enter Tryz.func18, Tryz.ntmps18
    go_wp2_with fail
    refine (HV.out _ _).mono ?_
    rintro e w5 ⟨rfl, hb5⟩
    have hx5 := (vrowX (x := (x0, x1, x2)) (HX.out _) (hb5))
    obtain ⟨e0, e1, e2⟩ := cell3 hx5
    have HB5 := Lib.hid ((HB1.out _ _).trans (hb5.mono (by simp; omega)))
    have hlt : w.heap.size + 1 < w5.heap.size := (Array.getElem?_eq_some_iff.1 hx5).1
    simp only at e0 e1 e2
    clear hb5 hx5
    go_wp2_with fail
    refine (HU.out _ (HN.out.below (HB5.out.alloc HB5.out.size _))).mono ?_
    rintro e w6 ⟨rfl, hb6⟩
    have HB6 := Lib.hid ((HB5.out.alloc HB5.out.size _).trans (hb6.mono (by have := HB5.out.size; simp; omega)))
    clear hb6
    go_wp2_with fail
    go_ret2
    exact ⟨rfl, HB6.out⟩
end Go.Proofs.YtfpcjdopfodfnaaGreatDoor
