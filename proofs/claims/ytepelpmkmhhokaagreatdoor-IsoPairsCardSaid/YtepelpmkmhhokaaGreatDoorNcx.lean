/- A walker goes through what is reached, as the walk by recursion comes to it. Conditions: the graph is right and lies. What a walker goes through is collected into a row of its own. Conditions: the graph is right and lies. -/
import Derived.Test.YtepelpmkmhhokaaGreatDoorKbx
import Derived.Test.YtepelpmkmhhokaaGreatDoorWdx
import Derived.Sort.CutIn
import Derived.Test.YtepelpmkmhhokaaGreatDoorRix
set_option maxRecDepth 100000
namespace Go.Proofs.YtepelpmkmhhokaaGreatDoor
open Go.RowKit Go.Shelf
open Scs Dfs Seqk
attribute [local go_sem] Oper.semAt_some
/-- the last number of a row of one's own -/
theorem own_top {W : World} {b k c : Nat} {q : Option Addr} {st : List Int} {x : Int} (h : W.ownsRow b 3 1 (.slice q (k + 1) c) (k + 1) (ints (st ++ [x]))) (hk : st.length = k) :
    ∃ g, q = some ⟨g, 0, none⟩ ∧ W.cell? ⟨g, k, none⟩ = some (.int .i64 x) ∧ W.ownsRow b 3 1 (.slice q k c) k (ints st) ∧ k + 1 ≤ c := by
  rcases h with ⟨ha, ⟨h1, h2⟩ | ⟨g, c', cur, hv, hbg, hg, hnc, hcm, hcs, htake⟩⟩
  · omega
  · injection hv with hq _ hc
    subst hq hc
    refine ⟨g, rfl, ?_, ⟨?_, .inr ⟨g, c, cur, rfl, hbg, hg, ?_, hcm, hcs, ?_⟩⟩, ?_⟩
    · have h1 : (ints (st ++ [x]))[k]? = some (.int .i64 x) := by
        unfold ints
        rw [List.getElem?_map, List.getElem?_append_right (by omega), hk, Nat.sub_self]
        rfl
      rw [cell_of_row _ _ _ _ _ _ hg, ← Array.getElem?_toList]
      rw [← htake, List.getElem?_take_of_lt (by omega)] at h1
      exact h1
    · simp [ints, hk]
    · omega
    · have h1 := congrArg (List.take (k * 1)) htake
      rw [List.take_take, Nat.min_eq_left (by omega)] at h1
      rw [h1]
      simp [ints, hk]
    · exact hnc
/-- a row's block is no map -/
theorem own_neM {W : World} {b T k : Nat} {v : Value} {n : Nat} {xs : List Value} {X cl : Nat} {es : Array MapEntry} (h : W.ownsRow b T k v n xs) (hX : W.heap[X]? = some (.map es cl)) : ∀ g, v.ownBlock = some g → g ≠ X := by
  intro g hg e
  subst e
  rcases h with ⟨ha, ⟨h1, _⟩ | ⟨g', c', cur, hv, hbg, hg2, hr2⟩⟩
  · rw [h1] at hg; cases hg
  · rw [hv] at hg
    obtain rfl : g' = g := by injection hg
    rw [hX] at hg2
    cases hg2
/-- the kids of a right graph's node, as numbers -/
theorem kn_cast {L : Array Fn} (hb : badFrom L.size L.toList 0 = none) {i : Nat} (hi : i < L.size) : (KN L i).map (fun j : Nat => (j : Int)) = kidsOf L[i]! := by
  unfold KN
  rw [List.map_map]
  conv => rhs; rw [← List.map_id (kidsOf L[i]!)]
  refine List.map_congr_left fun z hz => ?_
  have h := kidsOf_mem (right_at hb hi) z hz
  simp only [Function.comp, id]
  omega
/-- what is left to be looked at: read off the blocks of a walk's row and map -/
def muW (kids : Nat → List Nat) (R : List Nat) (n X C : Nat) (w : World) : Nat :=
  (match w.cell? ⟨X, 0, none⟩ with | some (.slice _ k _) => k | _ => 0) + rest kids (R.take (match w.heap[C]? with | some (.map es _) => es.size | _ => 0)) n
/-- what a walk has come to, as its map has it -/
def cm (o : List Nat) : List (Int × Value) := o.map fun i : Nat => ((i : Int), Value.bool true)
theorem cm_in {o : List Nat} {x : Nat} (h : x ∈ o) : findI (x : Int) (cm o) = some (.bool true) := by
  induction o with
  | nil => simp at h
  | cons y t ih =>
    unfold cm findI
    rw [List.map_cons]
    by_cases e : x = y
    · simp [e]
    · simp only [Int.natCast_inj, e, if_false]
      rcases List.mem_cons.1 h with h | h
      · exact absurd h e
      · exact ih h
theorem cm_out {o : List Nat} {x : Nat} (h : x ∉ o) : findI (x : Int) (cm o) = none := by
  induction o with
  | nil => rfl
  | cons y t ih =>
    unfold cm findI
    rw [List.map_cons]
    have h' : x ≠ y ∧ x ∉ t := by simpa [not_or] using h
    simp only [Int.natCast_inj, h'.1, if_false]
    exact ih h'.2
theorem cm_snoc (o : List Nat) (x : Nat) : cm (o ++ [x]) = cm o ++ [((x : Int), .bool true)] := by simp [cm]
/-- what is next, as its row has it -/
def stI (s : List Nat) : List Int := s.reverse.map fun j : Nat => (j : Int)
theorem stI_cons (x : Nat) (s : List Nat) : stI (x :: s) = stI s ++ [(x : Int)] := by simp [stI]
theorem stI_append (l s : List Nat) : stI (l ++ s) = stI s ++ (l.map fun j : Nat => (j : Int)).reverse := by simp [stI]
theorem stI_len (s : List Nat) : (stI s).length = s.length := by simp [stI]
theorem laid_shape {X b : Nat} {v : Value} {st : List Int} {W : World} (h : Laid X b v st W) : ∃ q c, v = .slice q st.length c := by
  rcases h.own with ⟨_, ⟨h1, h2⟩ | ⟨g, c', cur, hv, _⟩⟩
  · exact ⟨none, 0, by rw [h1, h2]⟩
  · exact ⟨_, _, hv⟩
theorem muW_eq {kids : Nat → List Nat} {R : List Nat} {n X C b t : Nat} {v : Value} {s : List Nat} {W : World} (h : Laid X b v (stI s) W) (hC : HasM W C (cm (R.take t))) : muW kids R n X C W = s.length + rest kids (R.take t) n := by
  obtain ⟨q, c, rfl⟩ := laid_shape h
  have h1 := cell_of_row _ _ 0 _ _ _ h.box
  have h2 : R.take (entI (cm (R.take t)) 0).length = R.take t := by
    rw [entI_len, cm, List.length_map, List.length_take]
    by_cases e : t ≤ R.length
    · rw [Nat.min_eq_left e]
    · rw [Nat.min_eq_right (by omega), List.take_of_length_le (Nat.le_refl _), List.take_of_length_le (by omega)]
  unfold muW
  rw [h1]
  unfold HasM at hC
  rw [hC]
  simp only [List.size_toArray, stI_len]
  rw [h2]
  rfl
/-- what a round of the walk finds -/
structure Wlk (L : Array Fn) (R : List Nat) (K X C b b0 : Nat) (J : Nat → (Nat → Prop) → World → Prop) (t : Nat) (v : Value) (s : List Nat) (M : List (Int × Value)) (O Ok : Nat → Prop) (W : World) : Prop where
  j : J t O W
  here : t ≤ R.length
  rest_ : visits (KN L) (L.size + 1) s (R.take t) = R
  few : ∀ y ∈ s, y < L.size
  small : s.length + rest (KN L) (R.take t) L.size ≤ 1000000000
  laid : Laid X b v (stI s) W
  come : HasM W C (cm (R.take t))
  known : Kn L K M Ok W
  ours : ∀ k, Ok k → O k
  oX : O X
  oC : O C
  oK : O K
  oV : ∀ g, v.ownBlock = some g → O g
  offX : ¬ Ok X
  offC : ¬ Ok C
  offV : ∀ g, v.ownBlock = some g → ¬ Ok g
  high : ∀ k, Ok k → k < W.heap.size
  lt : ∀ k, O k → k < W.heap.size
  base : b0 ≤ W.heap.size
theorem at3o (w : World) (o0 o1 o2 : Obj) : ∃ W, (((w.alloc o0).alloc o1).alloc o2) = W ∧ W.heap.size = w.heap.size + 3 ∧ Below w.heap.size w W ∧ W.heap[w.heap.size]? = some o0 ∧ W.heap[w.heap.size + 1]? = some o1 ∧ W.heap[w.heap.size + 1 + 1]? = some o2 := by
  refine ⟨_, rfl, by simp, (((Below.refl _ w).alloc (Nat.le_refl _) _).alloc (by simp) _).alloc (by simp; omega) _, ?_, ?_, ?_⟩
  · rw [Below.heap_alloc _ _ _ (by simp; omega), Below.heap_alloc _ _ _ (by simp)]
    exact heap_alloc_new w o0
  · rw [Below.heap_alloc _ _ _ (by simp)]
    have h := heap_alloc_new (w.alloc o0) o1
    rwa [World.size_alloc] at h
  · have h := heap_alloc_new ((w.alloc o0).alloc o1) o2
    rwa [World.size_alloc, World.size_alloc] at h
/-- a set, and what is new -/
def wid (O : Nat → Prop) (w w' : World) : Nat → Prop := fun k => O k ∨ (w.heap.size ≤ k ∧ k < w'.heap.size)
set_option maxHeartbeats 16000000 in
theorem nodes_in (L : Array Fn) (r m : Nat) (p : Option Addr) (cap K Bw : Nat) (w0 : World) (hm : L.size = m) (E : Env w0) (hg : Gl w0 p L) (h12 : ∀ t, t < L.size → L[t]!.keys.size ≤ 12) (hb : badFrom L.size L.toList 0 = none) (hr : r < L.size) (h200 : L.size ≤ 200)
    (l : Nat) (J : Nat → (Nat → Prop) → World → Prop) (Jx : World → Prop) (W : World)
    (hJ : Stab J) (hS : ∀ t O A, J t O A → Below w0.heap.size w0 A ∧ A.heap[Bw]? = some (.cells #[.int .i64 r, .slice p m cap, .map (some K)] 78 (0, 0)))
    (hY : ∀ t O A, t < (wk L r).length → J t O A → (∀ k, O k → k < A.heap.size) → YieldAt Fence.wide 4 Tryz.prog l #[.int .i64 ((wk L r)[t]! : Nat)] A fun e B =>
      (e = .returned (.bool true) ∧ J (t + 1) O B ∧ KeepsP O A B) ∨ (e = .returned (.bool false) ∧ Jx B))
    (h0 : J 0 (fun k => k = K) W) (hZ : HasM W K []) :
    CallsIn Fence.wide 5 Tryz.prog 57 #[.func (.yield l) #[] #[], .pointer (some ⟨Bw, 0, none⟩)] W fun e W' => (∃ v, e = .returned v) ∧ ((∃ O, J (wk L r).length O W' ∧ O K ∧ ∃ M, Kn L K M O W') ∨ Jx W') := by
  obtain ⟨hbl0, hcs0⟩ := hS _ _ _ h0
  have hKl : K < W.heap.size := (Array.getElem?_eq_some_iff.1 hZ).1
  have hBl : Bw < W.heap.size := (Array.getElem?_eq_some_iff.1 hcs0).1
  obtain ⟨q0, q1, q2⟩ := cell3 hcs0
  obtain ⟨R, hR⟩ : ∃ R, wk L r = R := ⟨_, rfl⟩
  rw [hR] at hY ⊢
  have HS := Lib.hid hS
  have HJ := Lib.hid hJ
  have HY := Lib.hid hY
  have H0 := Lib.hid h0
  have HZ := Lib.hid hZ
  have HE := Lib.hid E
  have HG := Lib.hid hg
  have HM := Lib.hid hm
  clear hS hJ hY h0 hZ E hg hm hbl0
  refine callsIn_of_wp Tryz.func57 rfl trivial ?_ rfl
  simp only [Tryz.ntmps57, List.size_toArray, List.length_cons, List.length_nil, Nat.reduceAdd, Nat.reduceSub, Array.replicate_succ, Array.replicate_zero, List.push_toArray, List.append_toArray, List.nil_append, List.cons_append]
  have hmm := @run_makeMap Tryz.prog
  obtain ⟨w3, hw3, hz3, hb3, hc3, hx3, hn3⟩ := at3o W (.map #[] 0) (.cells #[.slice none 0 0] 41) (.cells #[.int .i64 r] 3)
  have hla3 : Laid (W.heap.size + 1) W.heap.size (.slice none 0 0) [] w3 := ⟨hx3, World.ownsRow_nil _ _ _ _⟩
  have hil3 : Il w3 (some ⟨W.heap.size + 1 + 1, 0, none⟩) #[(r : Int)] := ⟨by simp, .inr ⟨_, 0, rfl, by omega, fun i hi => by
    have : i = 0 := by simp at hi; omega
    subst this
    rw [cell_of_row _ _ _ _ _ _ hn3]
    rfl⟩⟩
  have HLY := Lib.hid (lay_any (some ⟨W.heap.size + 1 + 1, 0, none⟩) #[(r : Int)] 1 1 (W.heap.size + 1) W.heap.size (.slice none 0 0) [] w3 rfl hil3 hla3 (.inr ⟨_, 0, rfl, by simp [Value.ownBlock], by omega⟩) (by simp) (by omega))
  have HW3 := Lib.hid hw3
  have HZ3 := Lib.hid hz3
  have HB3 := Lib.hid hb3
  have HC3 := Lib.hid hc3
  clear hw3 hz3 hb3 hc3 hx3 hn3 hla3 hil3
  gi_wp2
  refine ⟨trivial, ?_⟩
  rw [HW3.out]
  refine (callsIn_wide.2 HLY.out).mono ?_
  rintro e w5 ⟨⟨u, rfl⟩, v5, hla5, hgr5, hfar5⟩
  have HLA5 := Lib.hid hla5
  have HGR5 := Lib.hid hgr5
  have HFAR5 := Lib.hid hfar5
  clear hla5 hgr5 hfar5 q0 q1 q2
  gi_wp2
  gi_loopw [6, 7] (fun _ _ wr => ∃ t v s M O Ok, Wlk L R K (W.heap.size + 1) W.heap.size W.heap.size W.heap.size J t v s M O Ok wr) (fun _ _ wr => muW (KN L) R L.size (W.heap.size + 1) W.heap.size wr)
  case atStart =>
    have hz3 := HZ3.out
    have hz5 := HGR5.out.size
    have hb5 : Below W.heap.size W w5 := HB3.out.trans (HGR5.out.below (by omega) (by
      rintro k (e | e)
      · omega
      · simp [Value.ownBlock] at e))
    have hK5 := hb5.block K hKl
    have hj5 := HJ.out 0 (fun k => k = K) (wid (fun k => k = K) W w5) W w5 H0.out (Grw.of_below hb5) fun _ e => e
    have hown5 := fun g hg => own_lt HLA5.out.own g hg
    refine ⟨0, v5, [r], [], _, fun _ => False, hj5, Nat.zero_le _, ?_, ?_, ?_, ?_, ?_, ⟨HZ.out.keep hK5, fun x v e => ?_⟩, fun _ e => e.elim, ?_, ?_, .inl rfl, ?_, fun e => e, fun e => e, fun _ _ e => e, fun _ e => e.elim, ?_, ?_⟩
    · exact hR
    · intro y hy
      simp at hy
      omega
    · have h1 := rest_le (kids := KN L) (o := []) (m := 1000000) L.size fun i hi => by
        have h2 := kidsG_len L (i : Int) w0 p HG.out
        rw [kids_yes hi] at h2
        simpa [KN] using h2
      have h3 : L.size * 1000000 ≤ 200 * 1000000 := Nat.mul_le_mul_right _ h200
      rw [List.take_zero]
      simp only [List.length_cons, List.length_nil]
      omega
    · exact HLA5.out
    · rw [List.take_zero]
      refine (HGR5.out.block _ (by omega) ?_).trans HC3.out
      rintro (e | e)
      · omega
      · simp [Value.ownBlock] at e
    · simp [findI] at e
    · exact .inr (by omega)
    · exact .inr (by omega)
    · intro g hg
      exact .inr ⟨(hown5 g hg).1, (hown5 g hg).2⟩
    · rintro k (e | e)
      · omega
      · omega
    · omega
  case round =>
    obtain ⟨t, v, s, M, O, Ok, hwl⟩ := hrel
    obtain ⟨q, c, rfl⟩ := laid_shape hwl.laid
    have hmu := muW_eq (kids := KN L) (n := L.size) hwl.laid hwl.come
    have c1 : wr.cell? ⟨W.heap.size + 1, 0, none⟩ = some (.slice q (stI s).length c) := cell_of_row _ _ 0 _ _ _ hwl.laid.box
    have HWL := Lib.hid hwl
    have HMU := Lib.hid hmu
    cases s with
    | nil =>
      have htk : R.take t = R := hwl.rest_
      have htN : t = R.length := by
        have h1 := congrArg List.length htk
        rw [List.length_take] at h1
        have h2 := hwl.here
        omega
      have HJW := Lib.hid hwl.j
      have HT := Lib.hid htN
      rw [show (stI []).length = 0 from rfl] at c1
      clear hwl hmu htk htN
      gi_wp2
      go_end0
      exact ⟨⟨_, rfl⟩, .inl ⟨O, by rw [← HT.out]; exact HJW.out, HWL.out.oK, M, HWL.out.known.mono HWL.out.ours⟩⟩
    | cons x s' =>
      have hxl : x < L.size := hwl.few x (by simp)
      have hsl : (stI (x :: s')).length = s'.length + 1 := by rw [stI_len]; rfl
      rw [hsl] at c1
      have hown := hwl.laid.own
      rw [hsl, stI_cons] at hown
      obtain ⟨g, rfl, htop, hown1, hkc⟩ := own_top hown (stI_len s')
      have f1 := frozen_of_row _ _ 0 _ _ hwl.laid.box
      obtain ⟨k, hk⟩ : ∃ k, s'.length = k := ⟨_, rfl⟩
      rw [hk] at c1 htop hown1 hkc
      have hkm : k ≤ 1000000000 := by have := hwl.small; simp at this; omega
      have h0k : (0 : Int) < ((k + 1 : Nat) : Int) := by omega
      have HOWN := Lib.hid hown1
      have HK := Lib.hid hk
      have HF1 := Lib.hid f1
      have hgX : g ≠ W.heap.size + 1 := own_neX hwl.laid.own hwl.laid.box (by decide) g rfl
      have hkk : (k : Int) < ((k + 1 : Nat) : Int) := by omega
      have hk0 : (0 : Int) ≤ (k : Int) := by omega
      clear hwl hmu hown hown1 hk hsl
      gi_upto_region 8 with fail
      obtain ⟨w1, hw1⟩ : ∃ w1, wr.setCell ⟨W.heap.size + 1, 0, none⟩ (.slice (some ⟨g, 0, none⟩) k c) = w1 := ⟨_, rfl⟩
      rw [hw1]
      have hg1 : wr.grownBy w1 (some (W.heap.size + 1)) := by rw [← hw1]; exact gB_setCell (gB_refl _ _) _ _
      have hbx1 : w1.heap[W.heap.size + 1]? = some (.cells #[.slice (some ⟨g, 0, none⟩) k c] 41 (0, 0)) := by rw [← hw1]; exact heap_setCell_same _ _ 0 _ _ _ HWL.out.laid.box
      have hla1 : Laid (W.heap.size + 1) W.heap.size (.slice (some ⟨g, 0, none⟩) k c) (stI s') w1 := by
        refine ⟨hbx1, ?_⟩
        rw [stI_len, HK.out]
        exact own_keepG HOWN.out fun g' hg' => hg1.block g' (own_lt HOWN.out g' hg').2 (by injection hg' with hg'; subst hg'; simpa using hgX)
      have hCl := (Array.getElem?_eq_some_iff.1 HWL.out.come).1
      have hco1 : HasM w1 W.heap.size (cm (R.take t)) := HWL.out.come.keep (hg1.block _ hCl (by simp))
      have hlk := look_int Tryz.underlying115 w1 W.heap.size (x : Int) (cm (R.take t)) (z := .bool false) (by kernel_rfl) hco1
      have hz1 := hg1.size
      have hkn1 : Kn L K M Ok w1 := HWL.out.known.keep hz1 (hg1.block K (by omega) (by simp; omega)) fun k' hk' hkl => hg1.block k' hkl (by simp; intro e; exact HWL.out.offX (e ▸ hk'))
      have hj1 : J t O w1 := HJ.out t O O wr w1 HWL.out.j (Grw.of_grown hg1 HWL.out.oX) fun _ h => .inl h
      have HG1 := Lib.hid hg1
      have HLA1 := Lib.hid hla1
      have HCO1 := Lib.hid hco1
      have HKN1 := Lib.hid hkn1
      have HJ1 := Lib.hid hj1
      have HHK := Lib.hid hkk
      have HXL := Lib.hid hxl
      clear hg1 hbx1 hla1 hco1 hkn1 hj1 hw1 c1 htop f1 hkk hk0 h0k hgX hcs0
      have hfew : Few L.size (R.take t) := by
        have hw := walk_went (KN_lt hb) hr
        rw [show walk (KN L) L.size r = R from hR] at hw
        exact ⟨(List.take_sublist t R).nodup hw.few.1, fun y hy => hw.few.2 y (List.mem_of_mem_take hy)⟩
      have hsf : ∀ y ∈ s', y < L.size := fun y hy => HWL.out.few y (by simp [hy])
      by_cases hin : x ∈ R.take t
      · rw [cm_in hin] at hlk
        simp only [Option.getD] at hlk
        have HIN := Lib.hid hin
        clear hin
        gi_wp2
        go_roundw
        case rel =>
          refine ⟨t, .slice (some ⟨g, 0, none⟩) k c, s', M, O, Ok, ?_⟩
          have h := HWL.out
          refine ⟨HJ1.out, h.here, ?_, hsf, ?_, HLA1.out, HCO1.out, HKN1.out, h.ours, h.oX, h.oC, h.oK, h.oV, h.offX, h.offC, h.offV, fun k' hk' => Nat.lt_of_lt_of_le (h.high k' hk') hz1, fun k' hk' => Nat.lt_of_lt_of_le (h.lt k' hk') hz1, Nat.le_trans h.base hz1⟩
          · have := h.rest_
            rw [next_in HIN.out] at this
            exact this
          · have := h.small
            simp at this
            omega
        case measure =>
          have h1 := HMU.out
          rw [muW_eq HLA1.out HCO1.out, h1]
          simp
      · rw [cm_out hin] at hlk
        simp only [Option.getD] at hlk
        have hat := next_at (KN_lt hb) hxl hsf hfew hin HWL.out.rest_
        have htl : (R.take t).length = t := by rw [List.length_take]; have := HWL.out.here; omega
        rw [htl] at hat
        have htR : t < R.length := (List.getElem?_eq_some_iff.1 hat).1
        have htk : R.take (t + 1) = R.take t ++ [x] := by rw [List.take_add_one, hat]; rfl
        have hgx : R[t]! = x := by rw [getElem!_pos R t htR]; exact (List.getElem?_eq_some_iff.1 hat).2
        have hput := put_int Tryz.underlying115 w1 W.heap.size (x : Int) (.bool true) (cm (R.take t)) HCO1.out (cm_out hin)
        have hhas := HCO1.out.put ((x : Int), .bool true)
        obtain ⟨w2, hw2⟩ : ∃ w2, w1.putObj W.heap.size (.map (entI (cm (R.take t) ++ [((x : Int), .bool true)]) 0).toArray (cm (R.take t) ++ [((x : Int), Value.bool true)]).length) = w2 := ⟨_, rfl⟩
        rw [hw2] at hput hhas
        have hg2 : w1.grownBy w2 (some W.heap.size) := by rw [← hw2]; exact Seqo.turn w1 _ _
        have hz2 := hg2.size
        rw [← cm_snoc, ← htk] at hhas
        have hj2 : J t O w2 := HJ.out t O O w1 w2 HJ1.out (Grw.of_grown hg2 HWL.out.oC) fun _ h => .inl h
        have hlt2 : ∀ k', O k' → k' < w2.heap.size := fun k' hk' => by have := HWL.out.lt k' hk'; omega
        have hla2 : Laid (W.heap.size + 1) W.heap.size (.slice (some ⟨g, 0, none⟩) k c) (stI s') w2 := HLA1.out.keep (hg2.block _ (by have := (Array.getElem?_eq_some_iff.1 HLA1.out.box).1; omega) (by simp)) fun g' hg' => hg2.block g' (own_lt HLA1.out.own g' hg').2 (by simpa using own_neM HLA1.out.own HCO1.out g' hg')
        have hkn2 : Kn L K M Ok w2 := HKN1.out.keep hz2 (hg2.block K (by omega) (by simp; omega)) fun k' hk' hkl => hg2.block k' hkl (by simp; intro e; exact HWL.out.offC (e ▸ hk'))
        obtain ⟨fn, tmps, assign, body, hy, hR3⟩ := HY.out t O w2 htR hj2 hlt2
        rw [hgx] at hy
        have HR := Lib.hid hR3
        have HAT := Lib.hid hat
        have HTK := Lib.hid htk
        have HHAS := Lib.hid hhas
        have HG2 := Lib.hid hg2
        have HJ2 := Lib.hid hj2
        have HLA2 := Lib.hid hla2
        have HKN2 := Lib.hid hkn2
        have HNIN := Lib.hid hin
        clear hR3 hat htk hhas hg2 hj2 hla2 hkn2 hw2 hin hgx htl hlt2
        gi_wp2
        refine HR.out.mono ?_
        rintro e W3 (⟨rfl, hj3, hk3⟩ | ⟨rfl, hJx3⟩)
        · obtain ⟨hbl3, hcs3⟩ := HS.out _ _ _ hj3
          obtain ⟨p0, p1, p2⟩ := cell3 hcs3
          have hz3 := hk3.1
          have hkn3 : Kn L K M Ok W3 := HKN2.out.keep hz3 (hk3.2 K HWL.out.oK) fun k' hk' _ => hk3.2 k' (HWL.out.ours k' hk')
          have hla3 : Laid (W.heap.size + 1) W.heap.size (.slice (some ⟨g, 0, none⟩) k c) (stI s') W3 := HLA2.out.keep (hk3.2 _ HWL.out.oX) fun g' hg' => hk3.2 g' (HWL.out.oV g' hg')
          have hco3 : HasM W3 W.heap.size (cm (R.take (t + 1))) := HHAS.out.keep (hk3.2 _ HWL.out.oC)
          have hkd := kids_any (r : Int) L m p cap K x M Ok W3 HM.out (HE.out.below hbl3) (HG.out.below hbl3) h12 HXL.out hkn3
          have hks2 := kn_cast hb HXL.out
          obtain ⟨ks, hks⟩ : ∃ ks, kidsOf L[x]! = ks := ⟨_, rfl⟩
          rw [hks] at hkd hks2
          obtain ⟨nk, hnk⟩ : ∃ nk, ks.length = nk := ⟨_, rfl⟩
          rw [hnk] at hkd
          have HKD := Lib.hid hkd
          have HKS2 := Lib.hid hks2
          have HNK := Lib.hid hnk
          have HSF := Lib.hid hsf
          have HFEW := Lib.hid hfew
          have HB := Lib.hid hb
          have HR0 := Lib.hid hr
          have HRR := Lib.hid hR
          clear hkd hks hks2 hnk hsf hfew hb hr hR h12 hmm
          have HKN3 := Lib.hid hkn3
          have HLA3 := Lib.hid hla3
          have HCO3 := Lib.hid hco3
          have HJ3 := Lib.hid hj3
          have HZ3' := Lib.hid hz3
          clear hkn3 hla3 hco3 hj3 hk3 hbl3 hcs3 hy hlk hput hz3
          gi_upto_region 11 with fail
          gi_wp2
          refine ⟨trivial, ?_⟩
          refine (callsIn_wide.2 HKD.out).mono ?_
          rintro e w4 ⟨q4, c4, M4, rfl, hil4, hio4, hkn4, hgr4⟩
          have hz4 := hgr4.size
          have hx3 := (Array.getElem?_eq_some_iff.1 HLA3.out.box).1
          have hgl3 := fun g' hg' => own_lt HLA3.out.own g' hg'
          have hla4 : Laid (W.heap.size + 1) W.heap.size (.slice (some ⟨g, 0, none⟩) k c) (stI s') w4 := HLA3.out.keep (hgr4.block _ hx3 (by omega)) fun g' hg' => hgr4.block g' (hgl3 g' hg').2 (by have := (hgl3 g' hg').1; omega)
          have hio5 : InO (fun k' => (Value.slice (some ⟨g, 0, none⟩) k c).ownBlock ≠ some k' ∧ k' ≠ W.heap.size + 1) q4 nk := hio4.mono fun k' hk' => by
            rcases hk' with h | h
            · exact ⟨fun e => HWL.out.offV k' e h, fun e => HWL.out.offX (e ▸ h)⟩
            · exact ⟨fun e => by have := (hgl3 k' e).2; omega, by omega⟩
          have hly4 := lay_any q4 ks.toArray nk c4 (W.heap.size + 1) W.heap.size (.slice (some ⟨g, 0, none⟩) k c) (stI s') w4 (by rw [List.size_toArray]; exact HNK.out) hil4 hla4 hio5 (by rw [stI_len, HK.out]; exact hkm) (by have := HWL.out.base; have := HG1.out.size; have := HG2.out.size; have := HZ3'.out; omega)
          have HLY4 := Lib.hid hly4
          have HKN4 := Lib.hid hkn4
          have HGR4 := Lib.hid hgr4
          have HLA4 := Lib.hid hla4
          clear hil4 hio4 hkn4 hgr4 hla4 hio5 hly4 p0 p1 p2 hgl3 hx3
          gi_wp2
          refine ⟨trivial, ?_⟩
          refine (callsIn_wide.2 HLY4.out).mono ?_
          rintro e w6 ⟨⟨u6, rfl⟩, v6, hla6, hgr6, hfar6⟩
          have HLA6 := Lib.hid hla6
          have HGR6 := Lib.hid hgr6
          have HFAR6 := Lib.hid hfar6
          clear hla6 hgr6 hfar6
          gi_wp2
          go_roundw
          case rel =>
            have h := HWL.out
            have hz3 := HZ3'.out
            have hz6 := HGR6.out.size
            have hx3 := (Array.getElem?_eq_some_iff.1 HLA3.out.box).1
            have hgl3 := fun g' hg' => own_lt HLA3.out.own g' hg'
            have hbs := h.base
            have hgO : O g := h.oV g rfl
            have hg36 : Grw O W3 w6 := (HGR4.out.wide fun k' _ e => by rw [e]; exact h.oK).trans (HGR6.out.wide fun k' _ e => by
              rcases e with e | e
              · rw [e]; exact h.oX
              · exact h.oV k' e)
            have hK6 : w6.heap[K]? = w4.heap[K]? := HGR6.out.block K (by omega) (by
              rintro (e | e)
              · omega
              · have := (hgl3 K e).1; omega)
            have hC6 : w6.heap[W.heap.size]? = W3.heap[W.heap.size]? := (HGR6.out.block _ (by omega) (by
              rintro (e | e)
              · omega
              · exact own_neM HLA3.out.own HCO3.out _ e rfl)).trans (HGR4.out.block _ (by omega) (by omega))
            have hlaid : Laid (W.heap.size + 1) W.heap.size v6 (stI (KN L x ++ s')) w6 := by
              rw [stI_append, HKS2.out]
              exact HLA6.out
            refine ⟨t + 1, v6, KN L x ++ s', M4, wid O W3 w6, wid Ok W3 w4, ?_⟩
            refine ⟨HJ.out (t + 1) O _ W3 w6 HJ3.out hg36 fun _ e => e, ?_, ?_, ?_, ?_, hlaid, HCO3.out.keep hC6, HKN4.out.keep hz6 hK6 ?_, ?_, .inl h.oX, .inl h.oC, .inl h.oK, ?_, ?_, ?_, ?_, ?_, ?_, ?_⟩
            · have := (List.getElem?_eq_some_iff.1 HAT.out).1; omega
            · rw [HTK.out, ← next_new (KN_lt HB.out) HXL.out HFEW.out HNIN.out]
              exact h.rest_
            · intro y hy
              rcases List.mem_append.1 hy with hy | hy
              · exact KN_lt HB.out x HXL.out y hy
              · exact HSF.out y hy
            · have h1 := h.small
              have h2 := rest_snoc (kids := KN L) HNIN.out L.size HXL.out
              rw [HTK.out, List.length_append]
              simp only [List.length_cons] at h1
              omega
            · rintro k' (hk' | hk') hkl
              · exact HGR6.out.block k' hkl (by
                  rintro (e | e)
                  · exact h.offX (e ▸ hk')
                  · exact h.offV k' e hk')
              · exact HGR6.out.block k' hkl (by
                  rintro (e | e)
                  · omega
                  · have := (hgl3 k' e).2; omega)
            · rintro k' (hk' | hk')
              · exact .inl (h.ours k' hk')
              · exact .inr (by omega)
            · intro g' hg'
              have hlt := (own_lt HLA6.out.own g' hg').2
              rcases HFAR6.out g' hg' with e | e
              · exact .inl (h.oV g' e)
              · exact .inr (by omega)
            · rintro (e | e)
              · exact h.offX e
              · omega
            · rintro (e | e)
              · exact h.offC e
              · omega
            · intro g' hg' e
              rcases HFAR6.out g' hg' with e2 | e2
              · rcases e with e | e
                · exact h.offV g' e2 e
                · have := (hgl3 g' e2).2; omega
              · rcases e with e | e
                · have h1 := h.high g' e
                  have := HG1.out.size
                  have := HG2.out.size
                  omega
                · omega
            · rintro k' (hk' | hk')
              · have h1 := h.high k' hk'
                have := HG1.out.size
                have := HG2.out.size
                omega
              · omega
            · rintro k' (hk' | hk')
              · have h1 := h.lt k' hk'
                have := HG1.out.size
                have := HG2.out.size
                omega
              · omega
            · omega
          case measure =>
            have hlaid : Laid (W.heap.size + 1) W.heap.size v6 (stI (KN L x ++ s')) w6 := by
              rw [stI_append, HKS2.out]
              exact HLA6.out
            have hz3 := HZ3'.out
            have hx3 := (Array.getElem?_eq_some_iff.1 HLA3.out.box).1
            have hC6 : w6.heap[W.heap.size]? = W3.heap[W.heap.size]? := (HGR6.out.block _ (by omega) (by
              rintro (e | e)
              · omega
              · exact own_neM HLA3.out.own HCO3.out _ e rfl)).trans (HGR4.out.block _ (by omega) (by omega))
            have h1 := HMU.out
            have h2 := rest_snoc (kids := KN L) HNIN.out L.size HXL.out
            rw [muW_eq hlaid (HCO3.out.keep hC6), h1, HTK.out, List.length_append]
            simp only [List.length_cons]
            omega
        · have HJx3 := Lib.hid hJx3
          clear hJx3 hy hlk hput
          gi_wp2
          refine bodyPost_ret (results_none rfl _ _ _) rfl ?_
          exact ⟨⟨_, rfl⟩, .inr HJx3.out⟩
end Go.Proofs.YtepelpmkmhhokaaGreatDoor

set_option maxRecDepth 100000
namespace Go.Proofs.YtepelpmkmhhokaaGreatDoor
open Go.RowKit Go.Shelf
open Scs Dfs Seqk
attribute [local go_sem] Oper.semAt_some
/-- what a walker's walk is told by: a right graph that lay before the walker was made -/
structure Wkr (w0 : World) (L : Array Fn) (r m : Nat) (p : Option Addr) (cap K : Nat) : Prop where
  hm : L.size = m
  env : Env w0
  gl : Gl w0 p L
  k12 : ∀ t, t < L.size → L[t]!.keys.size ≤ 12
  bad : badFrom L.size L.toList 0 = none
  root : r < L.size
  few : L.size ≤ 200
  new : w0.heap.size ≤ K
/-- the walker's cells in a block -/
def BoxW (Bw : Nat) (r m : Nat) (p : Option Addr) (cap K : Nat) (A : World) : Prop := A.heap[Bw]? = some (.cells #[.int .i64 r, .slice p m cap, .map (some K)] 78 (0, 0))
theorem nodes_run {w0 : World} {L : Array Fn} {r m : Nat} {p : Option Addr} {cap K : Nat} (H : Wkr w0 L r m p cap K) (Bw : Nat) :
    SeqK Fence.wide 5 Tryz.prog 57 #[.pointer (some ⟨Bw, 0, none⟩)] (fun t => #[.int .i64 ((wk L r)[t]! : Nat)]) (wk L r).length (fun A => Below w0.heap.size w0 A ∧ BoxW Bw r m p cap K A) (fun k => k = K) (fun A => HasM A K []) (fun O A => O K ∧ ∃ M, Kn L K M O A) :=
  fun l J Jx W hJ hS hY h0 hZ => nodes_in L r m p cap K Bw w0 H.hm H.env H.gl H.k12 H.bad H.root H.few l J Jx W hJ hS hY h0 hZ
theorem nodes_any (r m : Nat) (p : Option Addr) (cap K : Nat) (w : World) : Calls Tryz.prog 39 #[.agg #[.int .i64 r, .slice p m cap, .map (some K)]] w fun e w' => e = .returned (.func (.func 57) #[] #[.pointer (some ⟨w.heap.size, 0, none⟩)]) ∧ w' = w.alloc (.cells #[.int .i64 r, .slice p m cap, .map (some K)] 78) := by
  go_enter Tryz.func39, Tryz.ntmps39
  go_wp2
  go_ret
  exact ⟨rfl, rfl⟩
theorem kn_E {L : Array Fn} {K : Nat} (O : Nat → Prop) (A B : World) (r : Nat) (h : O K ∧ ∃ M, Kn L K M O A) (hg : A.grownBy B (some r)) (hr : ¬ O r) : O K ∧ ∃ M, Kn L K M O B := by
  obtain ⟨hK, M, hk⟩ := h
  exact ⟨hK, M, hk.keep hg.size (hg.block K (Array.getElem?_eq_some_iff.1 hk.has).1 (by simp; intro e; exact hr (e ▸ hK))) fun k hk hkl => hg.block k hkl (by simp; intro e; exact hr (e ▸ hk))⟩
set_option maxHeartbeats 16000000 in
theorem collectW_in {w0 : World} {L : Array Fn} {r m : Nat} {p : Option Addr} {cap K : Nat} (H : Wkr w0 L r m p cap K) (Bw : Nat) (w : World) (hb : Below w0.heap.size w0 w) (hbx : BoxW Bw r m p cap K w) (hZ : HasM w K []) :
    CallsIn Fence.wide 6 Tryz.prog 56 #[.slice none 0 0, .func (.func 57) #[] #[.pointer (some ⟨Bw, 0, none⟩)]] w fun e w' => ∃ v O M, e = .returned v ∧ w'.ownsRow w.heap.size 3 1 v (wk L r).length (ints (natI (wk L r))) ∧
      Kn L K M O w' ∧ (∀ k, O k → k = K ∨ w.heap.size ≤ k) ∧ Grw (fun k => k = K) w w' := by
  obtain ⟨i0, hi, hz0, hz1, hz2⟩ := info_parts info3
  obtain ⟨w3, hw3, hz3, hb3, hr3⟩ := at1 w (.cells #[.slice none 0 0] 41)
  have hKl : K < w.heap.size := (Array.getElem?_eq_some_iff.1 hZ).1
  have hBl : Bw < w.heap.size := (Array.getElem?_eq_some_iff.1 hbx).1
  have hBK : Bw ≠ K := by
    intro e
    unfold BoxW at hbx
    unfold HasM at hZ
    rw [e, hZ] at hbx
    cases hbx
  obtain ⟨R, hR⟩ : ∃ R, wk L r = R := ⟨_, rfl⟩
  have hrun := nodes_run H Bw
  have hRl : R.length ≤ 200 := by
    rw [← hR]
    exact Nat.le_trans (few_len _ _ (walk_went (KN_lt H.bad) H.root).few) H.few
  rw [hR] at hrun ⊢
  have HRUN := Lib.hid hrun
  have HB := Lib.hid hb
  have HBX := Lib.hid hbx
  have HZ := Lib.hid hZ
  have HW3 := Lib.hid hw3
  have hK0 := H.new
  have hw0 := hb.size
  have HW := Lib.hid H
  clear hrun hb hbx hZ hw3 hR H
  refine callsIn_of_wp_marks Tryz.func56 rfl trivial ?_ rfl
  simp only [Tryz.ntmps56, List.size_toArray, List.length_cons, List.length_nil, Nat.reduceAdd, Nat.reduceSub, Array.replicate_succ, Array.replicate_zero, List.push_toArray, List.append_toArray, List.nil_append, List.cons_append]
  refine wpIn_wide.2 ?_
  go_wp2_with fail
  rw [HW3.out]
  refine (wpIn_wide (n := 6)).1 ?_
  refine wpIn_rangeFunc_seqk rfl (by decide) (gf := 57) (lb := #[.pointer (some ⟨Bw, 0, none⟩)]) rfl trivial (enters_of Tryz.func57 (by kernel_rfl) rfl)
    HRUN.out (fun _ => rfl) (.exit 0) (by intro k hk; omega) (fun B hB => HZ.out.keep ((hB.block K (by omega)).trans (hb3.block K hKl))) kn_E
    (fun t O W => (∃ v, Laid w.heap.size w.heap.size v (natI (R.take t)) W ∧ ∀ g, v.ownBlock = some g → ¬ O g) ∧ ¬ O w.heap.size ∧ Grw (fun k => k = K) w W ∧ (∀ k, O k → k = K ∨ w.heap.size ≤ k))
    (fun _ => False) ?hI (fun _ _ _ h _ _ => h) ?hS ?h0
    (fun t => { tmps := #[.slice none 0 0, .func (.func 57) #[] #[.pointer (some ⟨Bw, 0, none⟩)], .pointer (some ⟨w.heap.size, 0, none⟩), undef, .slice none 0 0, .int .i64 (R[t]! : Nat), .func (.func 57) #[] #[.pointer (some ⟨Bw, 0, none⟩)], .int .i64 (R[t]! : Nat), undef, undef, undef, undef, undef], defers := [] })
    ?hassign ?hbody ?hdone (fun _ h _ => h.elim)
  case hI =>
    rintro t O O' A B ⟨⟨v, hla, hv⟩, hx, hg, hO⟩ hgr hO'
    have hxl := (Array.getElem?_eq_some_iff.1 hla.box).1
    have hzz := hg.size
    refine ⟨⟨v, hla.keep (hgr.block _ hxl hx) fun g hg => hgr.block g (own_lt hla.own g hg).2 (hv g hg), fun g hg e => ?_⟩, fun e => ?_, ⟨hgr.os.trans hg.os, hgr.tape.trans hg.tape, hgr.output.trans hg.output, Nat.le_trans hg.size hgr.size, fun k hk hne => (hgr.block k (by omega) fun e => ?_).trans (hg.block k hk hne)⟩, fun k hk => ?_⟩
    · have := (own_lt hla.own g hg).2
      rcases hO' g e with e | e
      · exact hv g hg e
      · omega
    · rcases hO' _ e with e | e
      · exact hx e
      · omega
    · rcases hO k e with e | e
      · exact hne e
      · omega
    · rcases hO' k hk with e | e
      · exact hO k e
      · exact .inr (by omega)
  case hS =>
    rintro t O A ⟨_, _, hg, _⟩
    exact ⟨⟨hg.os.trans HB.out.os, hg.tape.trans HB.out.tape, hg.output.trans HB.out.output, Nat.le_trans HB.out.size hg.size, fun k hk => (hg.block k (by omega) (by omega)).trans (HB.out.block k hk)⟩, (hg.block Bw hBl hBK).trans HBX.out⟩
  case h0 => exact ⟨⟨_, ⟨hr3, World.ownsRow_nil _ _ _ _⟩, fun g hg => by cases hg⟩, by omega, Grw.of_below hb3, fun k hk => .inl hk⟩
  case hassign =>
    intro l t W K' ht hK'
    obtain ⟨x, hx⟩ : ∃ x : Nat, R[t]! = x := ⟨_, rfl⟩
    simp only [hx] at hK' ⊢
    have HKK := Lib.hid hK'
    clear hK' ht hx
    gi_wp2
    exact HKK.out
  case hbody =>
    rintro l t O W ht ⟨⟨v, hla, hv⟩, hx, hg, hO⟩ hOW
    have hz' := hOW _ (.inr (.inr rfl))
    have hwz := hg.size
    have hrt : natI (R.take (t + 1)) = natI (R.take t) ++ [((R[t]! : Nat) : Int)] := by
      rw [List.take_succ_eq_append_getElem ht, getElem!_pos R t ht]
      unfold natI
      rw [List.map_append]
      rfl
    have htl : (natI (R.take t)).length = t := by rw [natI_len, List.length_take]; omega
    obtain ⟨x, hx'⟩ : ∃ x : Nat, R[t]! = x := ⟨_, rfl⟩
    obtain ⟨st', hst'⟩ : ∃ s, natI (R.take t) = s := ⟨_, rfl⟩
    simp only [hx'] at hrt ⊢
    rw [hst'] at hla hrt htl
    have hsl : st'.length ≤ 200 := by omega
    have c1 : W.cell? ⟨w.heap.size, 0, none⟩ = some v := cell_of_row _ _ 0 _ _ _ hla.box
    have hgx' := own_neX hla.own hla.box (by decide)
    have hxl := (Array.getElem?_eq_some_iff.1 hla.box).1
    have H2 := Lib.hid hla
    have HV := Lib.hid hv
    have HX := Lib.hid hx
    have HG := Lib.hid hg
    have HO := Lib.hid hO
    have HOW := Lib.hid hOW
    have HRT := Lib.hid hrt
    clear hla hv hx hg hO hOW hrt hst' hx' hr3 htl
    gi_wp2_with (first
      | (gi_at_builtin
         refine wpListIn_append_own_at _ rfl _ _ 41 rfl w.heap.size 3 i0 (.int .i64 0) 1 8 Tryz.underlying41 hi hz0 hz1 hz2 rfl (by decide) v st'.length (ints st') rfl (H2.out.own.alloc _) ⟨W.heap.size, 0, none⟩ 1 1 [.int .i64 (x : Int)] rfl rfl (World.news_of_block (heap_alloc_new W _)) (by intro u hu; simp at hu; subst hu; rfl) (by unfold maxLen; omega) (by omega) (by simp; omega) ?_
         intro v8 w8 hown8 hg8 _ hat8
         obtain ⟨g8, cap8, rfl, hb8, hl8⟩ := hown8.form (by omega)
         have x8 := (hg8.block w.heap.size (by simp; omega) (fun e => hgx' _ e.symm rfl)).trans ((Below.heap_alloc W _ w.heap.size (by omega)).trans H2.out.box)
         have c8 : w8.cell? ⟨w.heap.size, 0, none⟩ = some v := cell_of_row _ _ 0 _ _ _ x8
         have f8 := frozen_of_row _ _ 0 _ _ x8
         have X8 := Lib.hid x8
         have HOW8 := Lib.hid hown8
         have HG8 := Lib.hid hg8
         have HAT8 := Lib.hid hat8
         clear x8 hown8 hg8 hat8))
    have h9 := heap_setCell_same w8 w.heap.size 0 _ _ (.slice (some ⟨g8, 0, none⟩) (st'.length + 1) cap8) X8.out
    obtain ⟨w9, hw9⟩ : ∃ w9, w8.setCell ⟨w.heap.size, 0, none⟩ (.slice (some ⟨g8, 0, none⟩) (st'.length + 1) cap8) = w9 := ⟨_, rfl⟩
    have hg9 : w8.grownBy w9 (some w.heap.size) := by rw [← hw9]; exact gB_setCell (gB_refl _ _) _ _
    rw [hw9] at h9 ⊢
    have hz8 := HG8.out.size
    have hz9 := hg9.size
    simp only [World.size_alloc] at hz8
    have hKK : ∀ k, k < W.heap.size → k ≠ w.heap.size → v.ownBlock ≠ some k → w9.heap[k]? = W.heap[k]? := fun k hk h1 h2 =>
      (hg9.block k (by omega) (by simpa using h1)).trans ((HG8.out.block k (by simp; omega) (fun e => h2 e.symm)).trans (Below.heap_alloc W _ k hk))
    have hlow : ∀ k, k < w.heap.size → v.ownBlock ≠ some k := fun k hk e => by have := (own_lt H2.out.own k e).1; omega
    refine ⟨⟨by omega, fun k hk => hKK k (HOW.out k hk) (fun e => HX.out (e ▸ hk)) fun e => HV.out k e hk⟩, ⟨_, ⟨h9, ?_⟩, ?_⟩, HX.out, ⟨?_, ?_, ?_, by omega, fun k hk hne => (hKK k (by omega) (by omega) (hlow k hk)).trans (HG.out.block k hk hne)⟩, HO.out⟩
    · rw [HRT.out, List.length_append, ints_snoc]
      exact own_keepG HOW8.out fun g hg => hg9.block g (own_lt HOW8.out g hg).2 (by simpa using own_neX HOW8.out X8.out (by decide) g hg)
    · intro g hg e
      rcases HAT8.out with e2 | e2
      · exact HV.out g (by rw [← e2]; exact hg) e
      · rw [hg] at e2
        injection e2 with e2
        have := HOW.out g e
        rw [e2, World.size_alloc] at this
        omega
    · exact hg9.os.trans (HG8.out.os.trans HG.out.os)
    · exact hg9.tape.trans (HG8.out.tape.trans HG.out.tape)
    · exact hg9.output.trans (HG8.out.output.trans HG.out.output)
  case hdone =>
    rintro O W ⟨⟨v, hla, hv⟩, hx, hg, hO⟩ ⟨hOK, M, hkn⟩ hz hnD hK'
    rw [List.take_of_length_le (Nat.le_refl _)] at hla
    have c1 : W.cell? ⟨w.heap.size, 0, none⟩ = some v := cell_of_row _ _ 0 _ _ _ hla.box
    have H2 := Lib.hid hla
    have HV := Lib.hid hv
    have HG := Lib.hid hg
    have HO := Lib.hid hO
    have HK := Lib.hid hK'
    have HKN := Lib.hid (show O K ∧ ∃ M, Kn L K M O W from ⟨hOK, M, hkn⟩)
    have HND := Lib.hid hnD
    clear hla hv hx hg hO hOK hkn hnD hK' hr3
    go_wp2
    refine ⟨by simp, .inl ⟨_, _, rfl, run_takeDeferred HK.out, ?_⟩⟩
    have gD : W.grownBy (W.putObj w3.heap.size (.deferred none)) (some w3.heap.size) := Seqo.turn W _ _
    obtain ⟨_, M', hkn'⟩ := kn_E O _ _ _ HKN.out gD HND.out
    refine ⟨v, by simp [results, Tryz.results56, go_sem], v, O, M', rfl, ?_, hkn', fun k hk => HO.out k (.inl hk), HG.out.more gD (by omega)⟩
    have hl := H2.out.own
    rw [natI_len] at hl
    exact own_keepG hl fun g hg => gD.block g (own_lt hl g hg).2 (by simp; intro e; exact HV.out g hg (.inr (.inl e)))
end Go.Proofs.YtepelpmkmhhokaaGreatDoor
