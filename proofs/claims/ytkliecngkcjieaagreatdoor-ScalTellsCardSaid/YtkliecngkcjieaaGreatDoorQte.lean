/- A text is quoted as the document tells it. Conditions: the library's tables of texts lie as they are laid; the text is not too long. -/
import Derived.Test.YtkliecngkcjieaaGreatDoorLap
import Derived.Test.YtkliecngkcjieaaGreatDoorSgs
import Derived.Test.YtkliecngkcjieaaGreatDoorMay
set_option maxRecDepth 100000
namespace Go.Proofs.YtkliecngkcjieaaGreatDoor
open Go.RowKit Go.Shelf
open Pl Quo Seqx
open Seqo (turn)
attribute [local go_sem] Oper.semAt_some
theorem own_keep5 {W W' : World} {b n e sz : Nat} {v : Value} {xs : List Value} (h : W.ownsRow b e sz v n xs) (hb : ∀ g, v.ownBlock = some g → W'.heap[g]? = W.heap[g]?) : W'.ownsRow b e sz v n xs := by
  rcases h with ⟨ha, h1 | ⟨g, c', cur, hv, hbg, hg2, hr2⟩⟩
  · exact ⟨ha, .inl h1⟩
  · exact ⟨ha, .inr ⟨g, c', cur, hv, hbg, (hb g (by rw [hv]; rfl)).trans hg2, hr2⟩⟩
/-- a row of bytes: its block, as long as it has one -/
theorem own_block {W : World} {b n : Nat} {v : Value} {xs : List Value} (h : W.ownsRow b 5 1 v n xs) (hn : 0 < n) : ∃ g cur, v.ownBlock = some g ∧ b ≤ g ∧ g < W.heap.size ∧ W.heap[g]? = some (.cells cur 5 (0, 0)) := by
  rcases h with ⟨ha, ⟨_, h1⟩ | ⟨g, c', cur, hv, hbg, hg2, hr2⟩⟩
  · omega
  · exact ⟨g, cur, by rw [hv]; rfl, hbg, (Array.getElem?_eq_some_iff.1 hg2).1, hg2⟩
theorem own_slice {W : World} {b n : Nat} {v : Value} {xs : List Value} (h : W.ownsRow b 5 1 v n xs) (hn : 0 < n) : ∃ g c cur, v = .slice (some ⟨g, 0, none⟩) n c ∧ b ≤ g ∧ g < W.heap.size ∧ W.heap[g]? = some (.cells cur 5 (0, 0)) := by
  rcases h with ⟨ha, ⟨_, h1⟩ | ⟨g, c', cur, hv, hbg, hg2, hr2⟩⟩
  · omega
  · exact ⟨g, c', cur, hv, hbg, (Array.getElem?_eq_some_iff.1 hg2).1, hg2⟩
theorem conv_row {W : World} {b n c g : Nat} {l : List UInt8} (h : W.ownsRow b 5 1 (.slice (some ⟨g, 0, none⟩) n c) n (bc l)) (hn : n = l.length) :
    (convert 92 9 (.slice (some ⟨g, 0, none⟩) n c)).run Tryz.prog W = .ok (.string ⟨l.toArray⟩) W := by
  subst hn
  refine run_convert_bytes_back W 92 9 5 ⟨g, 0, none⟩ c l Tryz.underlying92 Tryz.underlying5 Tryz.underlying9 (fun j hj => ?_)
  rcases h with ⟨ha, ⟨h1, _⟩ | ⟨g', c', cur, hv, hbg, hg2, hnc, _, hcs, htake⟩⟩
  · cases h1
  · obtain rfl : g = g' := by injection hv with h _ _; injection h with h; injection h
    have hadd : (⟨g, 0, none⟩ : Addr).add j = ⟨g, j, none⟩ := by unfold Addr.add; split <;> simp_all
    rw [hadd, cell_of_row _ _ _ _ _ _ hg2]
    have h1 : (bc l)[j]? = some (.int .u8 (l[j].toNat : Int)) := by simp [bc, Go.Lib.byteCells, hj]
    rw [← htake, List.getElem?_take_of_lt (by omega), Array.getElem?_toList] at h1
    exact h1
/-- where a row of bytes lies, behind an append: in none of the blocks that are no rows of bytes -/
theorem own_loc {W W' : World} {b n' : Nat} {v v' : Value} {xs : List Value} {o : Obj} (hg : (W.alloc o).grownBy W' v.ownBlock) (h' : W'.ownsRow b 5 1 v' n' xs) (k : Nat) (hk : k < W.heap.size) (hnb : NB W k) (hv : v.ownBlock ≠ some k) : v'.ownBlock ≠ some k := by
  intro e
  rcases h' with ⟨_, ⟨h1, _⟩ | ⟨g, c', cur, hv', _, hg2, _⟩⟩
  · rw [h1] at e; cases e
  · rw [hv'] at e
    obtain rfl : g = k := by injection e
    have := hg.block g (by simp; omega) (fun e => hv e.symm)
    rw [hg2, Below.heap_alloc _ _ _ hk] at this
    exact hnb _ _ this.symm
/-- what holds of a turn of the quoting: the first blocks, and the row -/
def QI (w : World) (M : Nat) (s : ByteArray) (t : Nat) (O : List Nat) (W : World) : Prop :=
  W.heap[M]? = some (.map (entI lettersP 0).toArray 5) ∧ W.heap[M + 1]? = some (.cells #[.map (some M)] 121 (0, 0)) ∧ W.heap[M + 4]? = some (.cells #[.string s] 9 (0, 0)) ∧ Below w.heap.size w W ∧ M + 5 ≤ W.heap.size ∧
  (∀ k ∈ O, M + 5 ≤ k ∧ k < W.heap.size ∧ NB W k) ∧
  ∃ v, W.heap[M + 3]? = some (.cells #[v] 92 (0, 0)) ∧ (∀ k ∈ O, v.ownBlock ≠ some k) ∧ W.ownsRow (M + 2) 5 1 v (1 + (((runesOf s.data.toList).take t).flatMap qr).length) (bc (34 :: ((runesOf s.data.toList).take t).flatMap qr))
theorem QI_stab (w : World) (M : Nat) (s : ByteArray) (hM : w.heap.size ≤ M) : Stab (QI w M s) := by
  refine ⟨?_, ?_⟩
  · rintro t O A B r ⟨h1, h2, h3, h4, h5, h6, v, h7, h8, h9⟩ hg hr hnb
    have hr5 := (h6 r hr).1
    have keep : ∀ k, k < A.heap.size → k ≠ r → B.heap[k]? = A.heap[k]? := fun k hk hne => hg.block k hk (by simpa using hne)
    refine ⟨(keep _ (by omega) (by omega)).trans h1, (keep _ (by omega) (by omega)).trans h2, (keep _ (by omega) (by omega)).trans h3, h4.trans (below_of_grown hg (by omega) (by have := h4.size; omega)), Nat.le_trans h5 hg.size, fun k hk => ?_, v, (keep _ (by omega) (by omega)).trans h7, h8, own_keep5 h9 fun g hv => ?_⟩
    · obtain ⟨a, b, c⟩ := h6 k hk
      refine ⟨a, Nat.lt_of_lt_of_le b hg.size, ?_⟩
      by_cases e : k = r
      · subst e; exact hnb
      · exact fun cs fr h => c cs fr (by rw [← keep k b e]; exact h)
    · obtain ⟨g', cur, hv', _, hlt, _⟩ := own_block h9 (by omega)
      rw [hv'] at hv
      obtain rfl : g' = g := by injection hv
      exact keep g' hlt (fun e => h8 r hr (by rw [hv', e]))
  · rintro t O A B r ⟨h1, h2, h3, h4, h5, h6, v, h7, h8, h9⟩ hg hr hlt hnb
    have keep : ∀ k, k < A.heap.size → B.heap[k]? = A.heap[k]? := fun k hk => hg.block k hk (by simp; omega)
    obtain ⟨g', cur, hv', _, hlt', _⟩ := own_block h9 (by omega)
    refine ⟨(keep _ (by omega)).trans h1, (keep _ (by omega)).trans h2, (keep _ (by omega)).trans h3, h4.trans (below_of_grown hg (by have := h4.size; omega) (by have := h4.size; omega)), Nat.le_trans h5 hg.size, fun k hk => ?_, v, (keep _ (by omega)).trans h7, fun k hk => ?_, own_keep5 h9 fun g hv => ?_⟩
    · rcases List.mem_cons.1 hk with rfl | hk
      · exact ⟨by omega, hlt, hnb⟩
      · obtain ⟨a, b, c⟩ := h6 k hk
        exact ⟨a, Nat.lt_of_lt_of_le b hg.size, fun cs fr h => c cs fr (by rw [← keep k b]; exact h)⟩
    · rcases List.mem_cons.1 hk with rfl | hk
      · rw [hv']; intro e
        obtain rfl : g' = k := by injection e
        omega
      · exact h8 k hk
    · rw [hv'] at hv
      obtain rfl : g' = g := by injection hv
      exact keep g' hlt'
theorem take_runes (l : List Int) (t : Nat) (ht : t < l.length) : l.take (t + 1) = l.take t ++ [at0 l t] := by
  rw [List.take_add_one, List.getElem?_eq_getElem ht]
  unfold at0
  rw [List.getD_eq_getElem?_getD, List.getElem?_eq_getElem ht]; rfl
theorem qr_sum : ∀ l : List Int, (l.flatMap qr).length ≤ 4 * l.length
  | [] => Nat.zero_le _
  | r :: t => by
    have := qr_sum t
    have h := qr_len r
    rw [List.flatMap_cons, List.length_append, List.length_cons]
    omega
theorem runes_len : ∀ (n : Nat) (l : List UInt8), l.length ≤ n → (runesOf l).length ≤ l.length
  | 0, l, h => by
    have : l = [] := List.eq_nil_of_length_eq_zero (by omega)
    subst this; simp [runesOf_nil]
  | n + 1, l, h => by
    by_cases hne : l = []
    · subst hne; simp [runesOf_nil]
    · have hw := Go.Lib.decodeL_width l
      have hl : 0 < l.length := List.length_pos_iff.2 hne
      have ih := runes_len n (l.drop (Go.Lib.decodeL l).2) (by rw [List.length_drop]; omega)
      rw [runesOf_step l hne, List.length_cons]
      rw [List.length_drop] at ih
      omega
set_option maxHeartbeats 4000000 in
theorem Quote_yes (s : ByteArray) (hs : s.size ≤ 1000000) (hv : Go.Lib.validD s.data.toList = true) (w : World) (E : Env w) :
    CallsIn Fence.wide 6 Tryz.prog 69 #[.string s] w fun e w' => e = .returned (.tuple #[.string ⟨(quoteL s.data.toList).toArray⟩, .int .i64 0]) ∧ Below w.heap.size w w' := by
  have hR := right_any s (by omega) w E
  rw [hv] at hR
  have HR := Lib.hid hR
  have HE := Lib.hid E
  clear hR E
  refine callsIn_of_wp_marks Tryz.func69 rfl trivial ?_ rfl
  simp only [Tryz.ntmps69, List.size_toArray, List.length_cons, List.length_nil, Nat.reduceAdd, Nat.reduceSub, Array.replicate_succ, Array.replicate_zero, List.push_toArray, List.append_toArray, List.nil_append, List.cons_append]
  refine wpIn_wide.2 ?_
  go_wp2_with fail
  refine HR.out.mono ?_
  rintro e w1 ⟨rfl, hb1⟩
  have HB1 := Lib.hid hb1
  clear hb1
  go_wp2_with (first
    | (go_at_call 102; refine (letters_any _).mono ?_; rintro e w' ⟨rfl, rfl⟩)
    | (go_at_call 103; refine (signs_any s _).mono ?_; rintro e w' ⟨rfl, rfl⟩))
  obtain ⟨M, hM⟩ : ∃ M, w1.heap.size = M := ⟨_, rfl⟩
  obtain ⟨w5, hw5⟩ : ∃ w5, (((((w1.alloc (.map (entI lettersP 0).toArray 5)).alloc (.cells #[.map (some w1.heap.size)] 121)).alloc (.cells #[.int .u8 34] 5)).alloc (.cells #[.slice (some ⟨w1.heap.size + 1 + 1, 0, none⟩) 1 1] 92)).alloc (.cells #[.string s] 9)) = w5 := ⟨_, rfl⟩
  rw [hw5, hM]
  rw [hM] at hw5
  have hz5 : w5.heap.size = M + 5 := by rw [← hw5, ← hM]; simp
  have g0 : w5.heap[M]? = some (.map (entI lettersP 0).toArray 5) := by
    rw [← hw5]
    iterate 4 rw [Below.heap_alloc _ _ _ (by simp [hM]; try omega)]
    rw [← hM]; exact heap_alloc_new w1 _
  have g1 : w5.heap[M + 1]? = some (.cells #[.map (some M)] 121 (0, 0)) := by
    rw [← hw5]
    iterate 3 rw [Below.heap_alloc _ _ _ (by simp [hM]; try omega)]
    have h := heap_alloc_new (w1.alloc (.map (entI lettersP 0).toArray 5)) (.cells #[.map (some M)] 121)
    rwa [World.size_alloc, hM] at h
  have g2 : w5.heap[M + 2]? = some (.cells #[.int .u8 34] 5 (0, 0)) := by
    rw [← hw5]
    iterate 2 rw [Below.heap_alloc _ _ _ (by simp [hM]; try omega)]
    have h := heap_alloc_new ((w1.alloc (.map (entI lettersP 0).toArray 5)).alloc (.cells #[.map (some M)] 121)) (.cells #[.int .u8 34] 5)
    rwa [World.size_alloc, World.size_alloc, hM] at h
  have g3 : w5.heap[M + 3]? = some (.cells #[.slice (some ⟨M + 1 + 1, 0, none⟩) 1 1] 92 (0, 0)) := by
    rw [← hw5]
    iterate 1 rw [Below.heap_alloc _ _ _ (by simp [hM]; try omega)]
    have h := heap_alloc_new (((w1.alloc (.map (entI lettersP 0).toArray 5)).alloc (.cells #[.map (some M)] 121)).alloc (.cells #[.int .u8 34] 5)) (.cells #[.slice (some ⟨M + 1 + 1, 0, none⟩) 1 1] 92)
    rwa [World.size_alloc, World.size_alloc, World.size_alloc, hM] at h
  have g4 : w5.heap[M + 4]? = some (.cells #[.string s] 9 (0, 0)) := by
    rw [← hw5]
    have h := heap_alloc_new ((((w1.alloc (.map (entI lettersP 0).toArray 5)).alloc (.cells #[.map (some M)] 121)).alloc (.cells #[.int .u8 34] 5)).alloc (.cells #[.slice (some ⟨M + 1 + 1, 0, none⟩) 1 1] 92)) (.cells #[.string s] 9)
    rwa [World.size_alloc, World.size_alloc, World.size_alloc, World.size_alloc, hM] at h
  have hwM : w.heap.size ≤ M := by rw [← hM]; exact HB1.out.size
  have hbl5 : Below w.heap.size w w5 := by
    rw [← hw5]
    have h := HB1.out
    exact ((((h.alloc (by omega) _).alloc (by simp; omega) _).alloc (by simp; omega) _).alloc (by simp; omega) _).alloc (by simp; omega) _
  have hQ0 : QI w M s 0 [] w5 := ⟨g0, g1, g4, hbl5, by omega, fun k hk => absurd hk (by simp), .slice (some ⟨M + 1 + 1, 0, none⟩) 1 1, g3, fun k hk => absurd hk (by simp),
    ⟨rfl, .inr ⟨M + 2, 1, _, rfl, Nat.le_refl _, g2, Nat.le_refl _, by decide, rfl, rfl⟩⟩⟩
  have hN : (runesOf s.data.toList).length ≤ 1000000 := by
    have h1 := runes_len _ s.data.toList (Nat.le_refl _)
    have h2 : s.data.toList.length = s.size := by rw [Array.length_toList]; rfl
    omega
  have HRS := Lib.hid (runes_in s.data.toList _ (Nat.le_refl _))
  obtain ⟨i0, hi, hz0, hz1, hz2⟩ := info_parts info5
  clear hw5 g0 g1 g2 g3 g4 hbl5
  refine (wpIn_wide (n := 6)).1 ?_
  refine wpIn_rangeFunc_seqx rfl (by decide) (gf := 128) (lb := #[.pointer (some ⟨M + 1 + 1 + 1 + 1, 0, none⟩)]) rfl trivial (enters_of Tryz.func128 (by kernel_rfl) rfl)
    (signs_run 5 s (by omega) (M + 1 + 1 + 1 + 1)) (fun _ => rfl) (.exit 0) (QI w M s) (fun _ => False) (QI_stab w M s hwM) (fun _ _ h _ => h)
    (fun t O A h => cell_of_row A _ 0 _ _ _ h.2.2.1) hQ0
    (fun t => { tmps := #[.string s, undef, .string ⟨#[]⟩, .int .i64 0, .pointer (some ⟨M + 1, 0, none⟩), .pointer (some ⟨M + 1 + 1 + 1, 0, none⟩), undef, .int .i32 (at0 (runesOf s.data.toList) t), .string s, .bool true, .bool false, .map (some M), .slice (some ⟨M + 1 + 1, 0, none⟩) 1 1, .string s, .func (.func 128) #[] #[.pointer (some ⟨M + 1 + 1 + 1 + 1, 0, none⟩)],
      .int .i64 (posAt s.data.toList t), .int .i32 (at0 (runesOf s.data.toList) t), undef, undef, undef, undef, undef, undef, undef, undef], defers := [] })
    ?hassign ?hbody ?hdone ?hstop
  case hassign =>
    intro l t W K ht hK
    unfold signV
    have HKK := Lib.hid hK
    clear hK hQ0
    gi_wp2
    exact HKK.out
  case hbody =>
    rintro l t O W ht ⟨h1, h2, h3, h4, h5, h6, v, h7, h8, h9⟩ hD hD1 hz
    have htk := take_runes (runesOf s.data.toList) t ht
    have hr := HRS.out (at0 (runesOf s.data.toList) t) (by unfold at0; rw [List.getD_eq_getElem?_getD, List.getElem?_eq_getElem ht]; exact List.getElem_mem _)
    have hlen := qr_sum ((runesOf s.data.toList).take t)
    rw [List.length_take] at hlen
    obtain ⟨r, hrr⟩ : ∃ r, at0 (runesOf s.data.toList) t = r := ⟨_, rfl⟩
    rw [hrr] at hr htk ⊢
    obtain ⟨L, hL⟩ : ∃ L, ((runesOf s.data.toList).take t).flatMap qr = L := ⟨_, rfl⟩
    rw [hL] at h9 hlen
    have hL2 : ((runesOf s.data.toList).take (t + 1)).flatMap qr = L ++ qr r := by rw [htk, List.flatMap_append, hL]; simp
    have c1 : W.cell? ⟨M + 1, 0, none⟩ = some (.map (some M)) := cell_of_row _ _ 0 _ _ _ h2
    have c3 : W.cell? ⟨M + 1 + 1 + 1, 0, none⟩ = some v := cell_of_row _ _ 0 _ _ _ h7
    have hC := appendQuoted_any (M + 2) v (1 + L.length) _ r M W h9 (by omega) (by omega) h1 hr.1 hr.2
    obtain ⟨g, cur, hvg, hg2, hglt, hgc⟩ := own_block h9 (by omega)
    have HC := Lib.hid hC
    have H1 := Lib.hid h1
    have H2 := Lib.hid h2
    have H3 := Lib.hid h3
    have H4 := Lib.hid h4
    have H5 := Lib.hid h5
    have H6 := Lib.hid h6
    have H7 := Lib.hid h7
    have H8 := Lib.hid h8
    have HL2 := Lib.hid hL2
    have HV := Lib.hid hvg
    have HGC := Lib.hid hgc
    have HD := Lib.hid hD
    have HD1 := Lib.hid hD1
    clear htk hrr hL hC h1 h2 h3 h4 h5 h6 h7 h8 h9 hL2 hlen hvg hgc hD hD1 hQ0
    gi_wp2
    refine ⟨trivial, ?_⟩
    refine (CallsIn.inRound l (callsIn_wide.2 HC.out)).mono ?_
    rintro e W2 ⟨v', rfl, hown', o, hgr⟩
    obtain ⟨g', cap', cur', hv', hg2', hglt', hgc'⟩ := own_slice hown' (by omega)
    subst hv'
    have hz5' := H5.out
    have hgne : ∀ k, (∃ T cs, W.heap[k]? = some (.cells cs T (0, 0)) ∧ T ≠ 5) ∨ NB W k → g ≠ k := by
      rintro k (⟨T, cs, h, hT⟩ | h) e
      · subst e; rw [HGC.out] at h; injection h with h; injection h with _ h _; exact hT h.symm
      · subst e; exact h _ _ HGC.out
    have keep : ∀ k, k < W.heap.size → g ≠ k → W2.heap[k]? = W.heap[k]? := fun k hk hne =>
      (hgr.block k (by simp; omega) (by rw [HV.out]; intro e; exact hne (Option.some.inj e).symm)).trans (Below.heap_alloc _ _ _ hk)
    have x7 := (keep (M + 3) (by omega) (hgne _ (.inl ⟨92, _, H7.out, by decide⟩))).trans H7.out
    have x1 := (keep M (by omega) (hgne _ (.inr (fun cs fr h => by rw [H1.out] at h; cases h)))).trans H1.out
    have x2 := (keep (M + 1) (by omega) (hgne _ (.inl ⟨121, _, H2.out, by decide⟩))).trans H2.out
    have x3 := (keep (M + 4) (by omega) (hgne _ (.inl ⟨9, _, H3.out, by decide⟩))).trans H3.out
    have hsz2 := hgr.size
    rw [World.size_alloc] at hsz2
    have c3' : W2.cell? ⟨M + 1 + 1 + 1, 0, none⟩ = some v := cell_of_row _ _ 0 _ _ _ x7
    have f3' := frozen_of_row W2 (M + 1 + 1 + 1) 0 _ _ x7
    have X7 := Lib.hid x7
    have X1 := Lib.hid x1
    have X2 := Lib.hid x2
    have X3 := Lib.hid x3
    have HGR := Lib.hid hgr
    have HOWN := Lib.hid hown'
    have HKP := Lib.hid keep
    have HGN := Lib.hid hgne
    have HGC' := Lib.hid hgc'
    clear x7 x1 x2 x3 hgr hown' keep hgne c1 c3 hgc'
    gi_wp2
    have hg9 : W2.grownBy (W2.setCell ⟨M + 1 + 1 + 1, 0, none⟩ (.slice (some ⟨g', 0, none⟩) (1 + L.length + (qr r).length) cap')) (some (M + 3)) := gB_setCell (gB_refl _ _) _ _
    have keep2 : ∀ k, k < W2.heap.size → k ≠ M + 3 → (W2.setCell ⟨M + 1 + 1 + 1, 0, none⟩ (.slice (some ⟨g', 0, none⟩) (1 + L.length + (qr r).length) cap')).heap[k]? = W2.heap[k]? := fun k hk hne => hg9.block k hk (by simpa using hne)
    have hO : ∀ k ∈ O, (W2.setCell ⟨M + 1 + 1 + 1, 0, none⟩ (.slice (some ⟨g', 0, none⟩) (1 + L.length + (qr r).length) cap')).heap[k]? = W.heap[k]? := fun k hk => by
      obtain ⟨a, b, c⟩ := H6.out k hk
      exact (keep2 k (by omega) (by omega)).trans (HKP.out k b (HGN.out k (.inr c)))
    refine ⟨⟨by have := hg9.size; omega, hO⟩, (keep2 _ (by omega) (by omega)).trans X1.out, (keep2 _ (by omega) (by omega)).trans X2.out, (keep2 _ (by omega) (by omega)).trans X3.out, ?_, by have := hg9.size; omega, fun k hk => ?_, _, heap_setCell_same W2 (M + 3) 0 _ _ _ X7.out, fun k hk => ?_, ?_⟩
    · have hb2 : Below w.heap.size W W2 := ⟨HGR.out.os, HGR.out.tape, HGR.out.output, by omega, fun k hk => HKP.out k (by have := H4.out.size; omega) (by omega)⟩
      exact (H4.out.trans hb2).trans (below_of_grown hg9 (by omega) (by have := H4.out.size; omega))
    · obtain ⟨a, b, c⟩ := H6.out k hk
      exact ⟨a, by have := hg9.size; omega, fun cs fr h => c cs fr (by rw [← hO k hk]; exact h)⟩
    · obtain ⟨a, b, c⟩ := H6.out k hk
      exact own_loc HGR.out HOWN.out k b c (H8.out k hk)
    · rw [HL2.out]
      have e : bc (34 :: (L ++ qr r)) = bc (34 :: L) ++ bc (qr r) := by simp [bc, Go.Lib.byteCells]
      rw [e, List.length_append, ← Nat.add_assoc]
      refine own_keep5 HOWN.out fun k hk => keep2 k ?_ ?_
      · obtain rfl : g' = k := Option.some.inj hk
        exact hglt'
      · rintro rfl
        obtain rfl : g' = M + 3 := Option.some.inj hk
        have := X7.out
        rw [HGC'.out] at this
        injection this with h; injection h with _ h _
        exact absurd h (by decide)
  case hdone =>
    rintro O W ⟨h1, h2, h3, h4, h5, h6, v, h7, h8, h9⟩ hD hD1 hK
    rw [List.take_length, quote_runes' _ hv] at h9
    have hlen := qr_sum (runesOf s.data.toList)
    rw [quote_runes' _ hv] at hlen
    obtain ⟨L, hL⟩ : ∃ L, s.data.toList.flatMap qb = L := ⟨_, rfl⟩
    have hq : quoteL s.data.toList = 34 :: (L ++ [34]) := by unfold quoteL; rw [hL]
    rw [hL] at h9 hlen
    have HQ := Lib.hid hq
    obtain ⟨g, c, cur, rfl, hg2, hglt, hgc⟩ := own_slice h9 (by omega)
    have c3 : W.cell? ⟨M + 1 + 1 + 1, 0, none⟩ = some (.slice (some ⟨g, 0, none⟩) (1 + L.length) c) := cell_of_row _ _ 0 _ _ _ h7
    have hwW := h4.size
    have H4 := Lib.hid h4
    have H9 := Lib.hid h9
    have HK := Lib.hid hK
    clear h1 h2 h3 h4 h6 h7 h8 h9 hK hD hD1 hq hL hQ0
    go_wp2_with (first
      | (at_builtin
         refine wpList_append_lies _ rfl _ _ 92 rfl (M + 2) 5 i0 (.int .u8 0) 1 1 Tryz.underlying92 hi hz0 hz1 hz2 rfl (by decide) _ _ _ rfl (H9.out.alloc _) ⟨W.heap.size, 0, none⟩ 1 1 [.int .u8 34] rfl rfl (World.news_of_block (heap_alloc_new W _)) (by intro u hu; simp at hu; subst hu; rfl) (by decide) (by unfold maxLen; omega) (by omega) (by simp; omega) _ rfl ?_
         intro g9 cap9 w9 hown9 hgr9 _ _
         have e9 : bc (34 :: L) ++ [.int .u8 34] = bc (34 :: (L ++ [34])) := by simp [bc, Go.Lib.byteCells]
         rw [e9] at hown9
         have hcv := conv_row hown9 (by simp; omega)
         have HGR9 := Lib.hid hgr9
         clear e9 hown9 hgr9))
    have hK := HK.out
    rw [hz5] at hK
    have hgne : g ≠ M + 5 := by rintro rfl; rw [hgc] at hK; cases hK
    have hDW := (Array.getElem?_eq_some_iff.1 hK).1
    have hg9 := HGR9.out
    have hs9 := hg9.size
    rw [World.size_alloc] at hs9
    have hK9 : w9.heap[M + 5]? = some (.deferred (some [])) := (hg9.block _ (by simp; omega) (by show some (M + 5) ≠ some g; intro e; exact hgne (Option.some.inj e).symm)).trans ((Below.heap_alloc _ _ _ hDW).trans hK)
    refine ⟨by simp, .inl ⟨_, _, rfl, run_takeDeferred hK9, ?_⟩⟩
    have hgD := turn w9 (M + 5) (.deferred none)
    have hbw9 : Below w.heap.size W w9 := ⟨hg9.os, hg9.tape, hg9.output, by omega, fun k hk => (hg9.block k (by simp; omega) (by show some k ≠ some g; intro e; have := Option.some.inj e; omega)).trans (Below.heap_alloc _ _ _ (by omega))⟩
    refine ⟨.tuple #[.string ⟨(34 :: (L ++ [34])).toArray⟩, .int .i64 0], by simp [results, Tryz.results69, go_sem], by rw [HQ.out], ?_⟩
    exact (H4.out.trans hbw9).trans (below_of_grown hgD (by omega) (by omega))
  case hstop =>
    rintro W h hK
    exact h.elim

theorem Quote_no (s : ByteArray) (hs : s.size ≤ 1000000) (hv : Go.Lib.validD s.data.toList = false) (w : World) (E : Env w) :
    Calls Tryz.prog 69 #[.string s] w fun e w' => e = .returned (.tuple #[.string ⟨#[]⟩, .int .i64 40]) ∧ Below w.heap.size w w' := by
  have hR := right_any s (by omega) w E
  rw [hv] at hR
  have HR := Lib.hid hR
  clear hR E
  go_enter Tryz.func69, Tryz.ntmps69
  go_wp2_with fail
  refine HR.out.mono ?_
  rintro e w1 ⟨rfl, hb1⟩
  have HB1 := Lib.hid hb1
  clear hb1
  go_wp2_with fail
  exact bodyPost_ret (v := .tuple #[.string ⟨#[]⟩, .int .i64 40]) (by simp [results, Tryz.results69, go_sem]) rfl ⟨rfl, HB1.out⟩
/-- what Quote answers -/
def quoteT (s : ByteArray) : ByteArray := if Go.Lib.validD s.data.toList = true then ⟨(quoteL s.data.toList).toArray⟩ else ⟨#[]⟩
def quoteE (s : ByteArray) : Int := if Go.Lib.validD s.data.toList = true then 0 else 40
theorem Quote_any (s : ByteArray) (hs : s.size ≤ 1000000) (w : World) (E : Env w) :
    Calls Tryz.prog 69 #[.string s] w fun e w' => e = .returned (.tuple #[.string (quoteT s), .int .i64 (quoteE s)]) ∧ Below w.heap.size w w' := by
  unfold quoteT quoteE
  cases hv : Go.Lib.validD s.data.toList
  · rw [if_neg (by decide), if_neg (by decide)]
    exact Quote_no s hs hv w E
  · rw [if_pos rfl, if_pos rfl]
    exact callsIn_wide.1 (Quote_yes s hs hv w E)
end Go.Proofs.YtkliecngkcjieaaGreatDoor
