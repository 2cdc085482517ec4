/- The first kid under a key is found. Conditions: the map lies. A map's pairs are collected into a row of their own. Conditions: the map lies. -/
import Derived.Test.YtepelpmkmhhokaaGreatDoorAtx
import Derived.Test.YtepelpmkmhhokaaGreatDoorApx
import Derived.Maps.OwnIn
import Derived.Deep.AppendLies
import Derived.OwnWalkIn
set_option maxRecDepth 100000
namespace Go.Proofs.YtepelpmkmhhokaaGreatDoor
open Go.RowKit Go.Shelf
open Scs Seqo
open Go.Sort (HoldsK)
attribute [local go_sem] Oper.semAt_some
/-- the first kid, from place t on, under a key -/
def underFrom (f : Fn) (x : Sc) : Nat → Nat → Option Int
  | 0, _ => none
  | n + 1, t => if (pairAt f t).1 = x then some (pairAt f t).2 else underFrom f x n (t + 1)
def underG (f : Fn) (x : Sc) : Option Int := underFrom f x (pairsN f) 0
def underR : Option Int → Int × Bool
  | some z => (z, true)
  | none => (0, false)
theorem at5 (w : World) (o0 o1 o2 o3 o4 : Obj) : ∃ W, (((((w.alloc o0).alloc o1).alloc o2).alloc o3).alloc o4) = W ∧ W.heap.size = w.heap.size + 5 ∧ Below w.heap.size w W ∧
    W.heap[w.heap.size]? = some o0 ∧ W.heap[w.heap.size + 1]? = some o1 ∧ W.heap[w.heap.size + 2]? = some o2 ∧ W.heap[w.heap.size + 3]? = some o3 ∧ W.heap[w.heap.size + 4]? = some o4 := by
  refine ⟨_, rfl, by simp, ((((((Below.refl _ w).alloc (Nat.le_refl _) _).alloc (by simp) _).alloc (by first | (simp; done) | (simp; omega)) _).alloc (by first | (simp; done) | (simp; omega)) _).alloc (by first | (simp; done) | (simp; omega)) _), ?_, ?_, ?_, ?_, ?_⟩
  · rw [Below.heap_alloc _ _ _ (by first | (simp; done) | (simp; omega)), Below.heap_alloc _ _ _ (by first | (simp; done) | (simp; omega)), Below.heap_alloc _ _ _ (by first | (simp; done) | (simp; omega)), Below.heap_alloc _ _ _ (by simp)]
    exact heap_alloc_new w o0
  · rw [Below.heap_alloc _ _ _ (by first | (simp; done) | (simp; omega)), Below.heap_alloc _ _ _ (by first | (simp; done) | (simp; omega)), Below.heap_alloc _ _ _ (by simp)]
    have h := heap_alloc_new (w.alloc o0) o1
    rwa [World.size_alloc] at h
  · rw [Below.heap_alloc _ _ _ (by first | (simp; done) | (simp; omega)), Below.heap_alloc _ _ _ (by simp)]
    have h := heap_alloc_new ((w.alloc o0).alloc o1) o2
    rwa [World.size_alloc, World.size_alloc] at h
  · rw [Below.heap_alloc _ _ _ (by simp)]
    have h := heap_alloc_new (((w.alloc o0).alloc o1).alloc o2) o3
    rwa [World.size_alloc, World.size_alloc, World.size_alloc] at h
  · have h := heap_alloc_new ((((w.alloc o0).alloc o1).alloc o2).alloc o3) o4
    rwa [World.size_alloc, World.size_alloc, World.size_alloc, World.size_alloc] at h
theorem under_step (f : Fn) (x : Sc) (t : Nat) (h : t < pairsN f) : underFrom f x (pairsN f - t) t = if (pairAt f t).1 = x then some (pairAt f t).2 else underFrom f x (pairsN f - (t + 1)) (t + 1) := by
  obtain ⟨m, hm⟩ : ∃ m, pairsN f - t = m + 1 := ⟨pairsN f - t - 1, by omega⟩
  rw [hm, show pairsN f - (t + 1) = m by omega]
  rfl
theorem cell4 {W : World} {b : Nat} {a0 a1 a2 a3 : Value} {T : TypeId} (h : W.heap[b]? = some (.cells #[a0, a1, a2, a3] T (0, 0))) :
    W.cell? ⟨b, 0, none⟩ = some a0 ∧ W.cell? ⟨b, 1, none⟩ = some a1 ∧ W.cell? ⟨b, 2, none⟩ = some a2 ∧ W.cell? ⟨b, 3, none⟩ = some a3 :=
  ⟨cell_of_row _ _ 0 _ _ _ h, cell_of_row _ _ 1 _ _ _ h, cell_of_row _ _ 2 _ _ _ h, cell_of_row _ _ 3 _ _ _ h⟩
theorem cell3 {W : World} {b : Nat} {a0 a1 a2 : Value} {T : TypeId} (h : W.heap[b]? = some (.cells #[a0, a1, a2] T (0, 0))) :
    W.cell? ⟨b, 0, none⟩ = some a0 ∧ W.cell? ⟨b, 1, none⟩ = some a1 ∧ W.cell? ⟨b, 2, none⟩ = some a2 :=
  ⟨cell_of_row _ _ 0 _ _ _ h, cell_of_row _ _ 1 _ _ _ h, cell_of_row _ _ 2 _ _ _ h⟩
end Go.Proofs.YtepelpmkmhhokaaGreatDoor

set_option maxRecDepth 100000
namespace Go.Proofs.YtepelpmkmhhokaaGreatDoor
open Go.RowKit Go.Shelf
open Scs Seqo
open Seqz
attribute [local go_sem] Oper.semAt_some
def flatP (L : List Pr) : List Value := L.flatMap encP
def pairsL (f : Fn) (t : Nat) : List Pr := (List.range t).map (pairAt f)
theorem pairsL_succ (f : Fn) (t : Nat) : pairsL f (t + 1) = pairsL f t ++ [pairAt f t] := by simp [pairsL, List.range_succ]
theorem flatP_snoc (L : List Pr) (x : Pr) : flatP (L ++ [x]) = flatP L ++ [.int .i64 x.1.1, .int .i64 x.1.2.1, .string x.1.2.2, .int .i64 x.2] := by simp [flatP, encP]
theorem own_keepG {W W' : World} {b T k : Nat} {v : Value} {n : Nat} {xs : List Value} (h : W.ownsRow b T k v n xs) (hb : ∀ g, v.ownBlock = some g → W'.heap[g]? = W.heap[g]?) : W'.ownsRow b T k v n xs := by
  rcases h with ⟨ha, h1 | ⟨g, c', cur, hv, hbg, hg2, hr2⟩⟩
  · exact ⟨ha, .inl h1⟩
  · exact ⟨ha, .inr ⟨g, c', cur, hv, hbg, (hb g (by rw [hv]; rfl)).trans hg2, hr2⟩⟩
theorem own_low {W : World} {b b' T k : Nat} {v : Value} {n : Nat} {xs : List Value} (h : W.ownsRow b T k v n xs) (hb : b' ≤ b) : W.ownsRow b' T k v n xs := by
  rcases h with ⟨ha, h1 | ⟨g, c', cur, hv, hbg, hg2, hr2⟩⟩
  · exact ⟨ha, .inl h1⟩
  · exact ⟨ha, .inr ⟨g, c', cur, hv, Nat.le_trans hb hbg, hg2, hr2⟩⟩
theorem own_lt {W : World} {b T k : Nat} {v : Value} {n : Nat} {xs : List Value} (h : W.ownsRow b T k v n xs) (g : Nat) (hg : v.ownBlock = some g) : b ≤ g ∧ g < W.heap.size := by
  rcases h with ⟨ha, ⟨h1, _⟩ | ⟨g', c', cur, hv, hbg, hg2, hr2⟩⟩
  · rw [h1] at hg; cases hg
  · rw [hv] at hg
    obtain rfl : g' = g := by injection hg
    exact ⟨hbg, (Array.getElem?_eq_some_iff.1 hg2).1⟩
theorem info88 : (Tryz.prog.info? 192).map (fun i => (i.zero, i.size, i.bytes)) = some (some (.agg #[.int .i64 0, .int .i64 0, .string ⟨#[]⟩, .int .i64 0]), 4, 40) := by kernel_rfl
set_option maxHeartbeats 4000000 in
theorem appendSeq_in (f : Fn) (n : Int) (Bs : Nat) (w : World) (hg : Nl w f) (hbs : w.heap[Bs]? = some (.cells #[.int .i64 f.k, .int .i64 f.x.1, .int .i64 f.x.2.1, .string f.x.2.2, .slice f.pk f.keys.size f.ck, .slice f.pd f.kids.size f.cd, .int .i64 n] 151 (0, 0))) :
    CallsIn Fence.wide 6 Tryz.prog 127 #[.slice none 0 0, .func (.func 128) #[] #[.pointer (some ⟨Bs, 0, none⟩)]] w fun e w' => (∃ v, e = .returned v ∧ w'.ownsRow w.heap.size 192 4 v (pairsN f) (flatP (pairsL f (pairsN f)))) ∧ Below w.heap.size w w' := by
  obtain ⟨i0, hi, hz0, hz1, hz2⟩ := info_parts info88
  have hpn : pairsN f ≤ 1000000 := by
    have := hg.ks.small
    unfold pairsN
    split <;> omega
  have HG := Lib.hid hg
  have HBS := Lib.hid hbs
  have hBl : Bs < w.heap.size := (Array.getElem?_eq_some_iff.1 hbs).1
  clear hg hbs
  refine callsIn_of_wp_marks Tryz.func127 rfl trivial ?_ rfl
  simp only [Tryz.ntmps127, List.size_toArray, List.length_cons, List.length_nil, Nat.reduceAdd, Nat.reduceSub, Array.replicate_succ, Array.replicate_zero, List.push_toArray, List.append_toArray, List.nil_append, List.cons_append]
  refine wpIn_wide.2 ?_
  go_wp2_with fail
  obtain ⟨w3, hw3⟩ : ∃ w3, w.alloc (.cells #[.slice none 0 0] 189) = w3 := ⟨_, rfl⟩
  rw [hw3]
  have hz3 : w3.heap.size = w.heap.size + 1 := by rw [← hw3]; simp
  have hb3 : w3.heap[w.heap.size]? = some (.cells #[.slice none 0 0] 189 (0, 0)) := by rw [← hw3]; exact heap_alloc_new w _
  have hbl3 : Below w.heap.size w w3 := by rw [← hw3]; exact (Below.refl _ w).alloc (Nat.le_refl _) _
  clear hw3
  refine (wpIn_wide (n := 6)).1 ?_
  refine wpIn_rangeFunc_seqz rfl (by decide) (gf := 128) (lb := #[.pointer (some ⟨Bs, 0, none⟩)]) rfl trivial (enters_of Tryz.func128 (by kernel_rfl) rfl)
    (pairs_runz 5 f n Bs) (fun _ => rfl) (.exit 0)
    (fun t W => (∃ v, W.heap[w.heap.size]? = some (.cells #[v] 189 (0, 0)) ∧ W.ownsRow (w.heap.size + 3) 192 4 v t (flatP (pairsL f t))) ∧ Below w.heap.size w W ∧ w.heap.size + 1 ≤ W.heap.size)
    (fun _ => False)
    ?hI (fun _ _ h _ => h) (fun t A h => ⟨let ⟨v, a, b⟩ := h.1; ⟨v, a, own_keepG b fun _ _ => rfl⟩, h.2.1.drew, h.2.2⟩) (fun t A h => ⟨(h.2.1.block Bs hBl).trans HBS.out, HG.out.below h.2.1⟩) ⟨⟨_, hb3, World.ownsRow_nil _ _ _ _⟩, hbl3, by omega⟩
    (fun t a' W => ∃ Bx, w.heap.size + 3 ≤ Bx ∧ W.heap[Bx]? = some (.cells #[.int .i64 (pairAt f t).1.1, .int .i64 (pairAt f t).1.2.1, .string (pairAt f t).1.2.2, .int .i64 (pairAt f t).2] 192 (0, 0)) ∧ a' = { tmps := #[.slice none 0 0, .func (.func 128) #[] #[.pointer (some ⟨Bs, 0, none⟩)], .pointer (some ⟨w.heap.size, 0, none⟩), undef, .slice none 0 0, .pointer (some ⟨Bx, 0, none⟩), .func (.func 128) #[] #[.pointer (some ⟨Bs, 0, none⟩)], pV (pairAt f t), undef, undef, undef, undef, undef], defers := [] })
    ?hAx ?hassign ?hbody ?hdone (fun _ h _ => h.elim)
  case hI =>
    rintro t A D r ⟨⟨v, h1, h2⟩, h3, h4⟩ hg hr
    rw [hz3] at hr
    have hsz := h3.size
    refine ⟨⟨v, (hg.block _ (by omega) (by simp; omega)).trans h1, own_keepG h2 fun g hv => ?_⟩, h3.trans (below_of_grown hg (by omega) (by omega)), Nat.le_trans h4 hg.size⟩
    obtain ⟨k1, k2⟩ := own_lt h2 g hv
    exact hg.block g k2 (by simp; omega)
  case hAx =>
    rintro t a A D ⟨Bx, h0, h1, h2⟩ hg hz
    rw [hz3] at hg
    exact ⟨Bx, h0, (hg.block Bx (Array.getElem?_eq_some_iff.1 h1).1 (by simp; omega)).trans h1, h2⟩
  case hassign =>
    rintro l t W K ht ⟨⟨v, h1, h2⟩, h3, h4⟩ hz hK
    rw [hz3] at hz
    unfold pV at hK ⊢
    obtain ⟨⟨⟨q0, q1, q2⟩, q3⟩, hq⟩ : ∃ x, pairAt f t = x := ⟨_, rfl⟩
    rw [hq] at hK ⊢
    have hI2 : ∀ o : Obj, (∃ v, (W.alloc o).heap[w.heap.size]? = some (.cells #[v] 189 (0, 0)) ∧ (W.alloc o).ownsRow (w.heap.size + 3) 192 4 v t (flatP (pairsL f t))) ∧ Below w.heap.size w (W.alloc o) ∧ w.heap.size + 1 ≤ (W.alloc o).heap.size :=
      fun o => ⟨⟨v, (Below.heap_alloc _ _ _ (by omega)).trans h1, h2.alloc o⟩, h3.alloc (by omega) o, by simp; omega⟩
    have HKK := Lib.hid hK
    have HI2 := Lib.hid hI2
    clear hK hI2 hq h1 h2 h3 h4 hb3 hbl3
    gi_wp2
    exact HKK.out _ _ (gB_of_below ((Below.refl _ W).alloc (Nat.le_refl _) _) none) (HI2.out _) ⟨W.heap.size, by omega, heap_alloc_new W _, rfl⟩
  case hbody =>
    rintro l t a' W ht ⟨⟨v, h1, h2⟩, h3, h4⟩ ⟨Bx, hBx, hbx, rfl⟩ hz
    rw [hz3] at hz
    have hsucc := pairsL_succ f t
    unfold pV
    obtain ⟨⟨⟨q0, q1, q2⟩, q3⟩, hq⟩ : ∃ x, pairAt f t = x := ⟨_, rfl⟩
    rw [hq] at hbx hsucc ⊢
    obtain ⟨p0, p1, p2, p3⟩ := cell4 hbx
    have c1 : W.cell? ⟨w.heap.size, 0, none⟩ = some v := cell_of_row _ _ 0 _ _ _ h1
    have H1 := Lib.hid h1
    have H2 := Lib.hid h2
    have H3 := Lib.hid h3
    have HS := Lib.hid hsucc
    have htt : t ≤ 1000000 := by omega
    clear h1 h2 h3 h4 hbx hq hsucc hb3 hbl3
    gi_wp2_with (first
      | (gi_at_builtin
         refine wpListIn_append_own_at _ rfl _ _ 189 rfl (w.heap.size + 3) 192 i0 (.agg #[.int .i64 0, .int .i64 0, .string ⟨#[]⟩, .int .i64 0]) 4 40 Tryz.underlying189 hi hz0 hz1 hz2 rfl (by decide) v t (flatP (pairsL f t)) rfl (H2.out.alloc _) ⟨W.heap.size, 0, none⟩ 1 1 [.int .i64 q0, .int .i64 q1, .string q2, .int .i64 q3] rfl rfl (World.news_of_block (heap_alloc_new W _)) (by intro u hu; simp at hu; rcases hu with rfl | rfl | rfl | rfl <;> rfl) (by unfold maxLen; omega) (by omega) (by simp; omega) ?_
         intro v8 w8 hown8 hg8 _ hat8
         obtain ⟨g8, cap8, rfl, hb8, hl8⟩ := hown8.form (by omega)
         have x8 := (hg8.block w.heap.size (by simp; omega) (fun e => by have := (own_lt H2.out _ e.symm).1; omega)).trans ((Below.heap_alloc W _ w.heap.size (by omega)).trans H1.out)
         have c8 : w8.cell? ⟨w.heap.size, 0, none⟩ = some v := cell_of_row _ _ 0 _ _ _ x8
         have f8 := frozen_of_row _ _ 0 _ _ x8
         have X8 := Lib.hid x8
         have HOW8 := Lib.hid hown8
         have HG8 := Lib.hid hg8
         clear x8 hown8 hg8 hat8))
    have h9 := heap_setCell_same w8 w.heap.size 0 _ _ (.slice (some ⟨g8, 0, none⟩) (t + 1) cap8) X8.out
    have hg9 : w8.grownBy (w8.setCell ⟨w.heap.size, 0, none⟩ (.slice (some ⟨g8, 0, none⟩) (t + 1) cap8)) (some w.heap.size) := gB_setCell (gB_refl _ _) _ _
    have hz8 := HG8.out.size
    simp only [World.size_alloc] at hz8
    have hlow := fun g hv => (own_lt H2.out g hv).1
    have hkd : KeepsD w3.heap.size W w8 := ⟨by omega, (HG8.out.block _ (by simp; omega) (fun e => by have := hlow _ e.symm; omega)).trans (Below.heap_alloc W _ _ (by omega)), (HG8.out.block _ (by simp; omega) (fun e => by have := hlow _ e.symm; omega)).trans (Below.heap_alloc W _ _ (by omega))⟩
    have hb8 : Below w.heap.size w w8 := by
      refine (H3.out.alloc H3.out.size (.cells #[.int .i64 q0, .int .i64 q1, .string q2, .int .i64 q3] 192)).grown HG8.out (by have := H3.out.size; simp; omega) fun q hq => ?_
      have := hlow q hq
      omega
    rw [hz3] at hkd
    refine ⟨hkd.trans (KeepsD.of_grown hg9 (by omega) (by omega) (by omega)), ⟨_, h9, ?_⟩, hb8.trans (below_of_grown hg9 (Nat.le_refl _) hb8.size), by have := hg9.size; omega⟩
    rw [HS.out, flatP_snoc]
    exact own_keepG HOW8.out fun g hv => hg9.block g (own_lt HOW8.out g hv).2 (by have := (own_lt HOW8.out g hv).1; simp; omega)
  case hdone =>
    rintro W ⟨⟨v, h1, h2⟩, h3, h4⟩ hz hK
    have c1 : W.cell? ⟨w.heap.size, 0, none⟩ = some v := cell_of_row _ _ 0 _ _ _ h1
    have H2 := Lib.hid h2
    have H3 := Lib.hid h3
    have HK := Lib.hid hK
    clear h1 h2 h3 h4 hK hb3 hbl3
    go_wp2
    refine ⟨by simp, .inl ⟨_, _, rfl, run_takeDeferred HK.out, ?_⟩⟩
    have gD : W.grownBy (W.putObj w3.heap.size (.deferred none)) (some w3.heap.size) := turn W _ _
    refine ⟨v, by simp [results, Tryz.results127, go_sem], ⟨_, rfl, own_low (own_keepG H2.out fun g hv => ?_) (by omega)⟩, H3.out.trans (below_of_grown gD (by omega) (by have := H3.out.size; omega))⟩
    obtain ⟨k1, k2⟩ := own_lt H2.out g hv
    exact gD.block g k2 (by simp; omega)
theorem collect_any (f : Fn) (n : Int) (Bs : Nat) (w : World) (hg : Nl w f) (hbs : w.heap[Bs]? = some (.cells #[.int .i64 f.k, .int .i64 f.x.1, .int .i64 f.x.2.1, .string f.x.2.2, .slice f.pk f.keys.size f.ck, .slice f.pd f.kids.size f.cd, .int .i64 n] 151 (0, 0))) :
    Calls Tryz.prog 103 #[.func (.func 128) #[] #[.pointer (some ⟨Bs, 0, none⟩)]] w fun e w' => (∃ v, e = .returned v ∧ w'.ownsRow w.heap.size 192 4 v (pairsN f) (flatP (pairsL f (pairsN f)))) ∧ Below w.heap.size w w' := by
  have HC := Lib.hid (callsIn_wide.1 (appendSeq_in f n Bs w hg hbs))
  clear hg hbs
  go_enter Tryz.func103, Tryz.ntmps103
  go_wp2_with fail
  refine HC.out.mono ?_
  rintro e w5 ⟨⟨v, rfl, ho⟩, hb⟩
  have HB := Lib.hid hb
  have HO := Lib.hid ho
  clear hb ho
  go_wp2_with fail
  go_ret
  exact ⟨⟨v, rfl, HO.out⟩, HB.out⟩
end Go.Proofs.YtepelpmkmhhokaaGreatDoor
