/- The package's iterator yields a graph's nodes by their places. Conditions: the graph lies as it is. What is wrong with a graph is found as the document tells it. Conditions: the surroundings; the graph lies. -/
import Derived.Test.YtepelpmkmhhokaaGreatDoorArq
set_option maxRecDepth 100000
namespace Go.Proofs.YtepelpmkmhhokaaGreatDoor
open Go.RowKit Go.Shelf
open Scs Seqo
open Go.Sort (HoldsK)
attribute [local go_sem] Oper.semAt_some
set_option maxHeartbeats 4000000 in
theorem views_in (n : Nat) (L : Array Fn) (p : Option Addr) (cap : Nat) (l Bs : Nat) (J : Nat → World → Prop) (Jx : World → Prop) (W : World)
    (hJ : ∀ t A B r, J t A → A.grownBy B (some r) → W.heap.size ≤ r → J t B)
    (hS : ∀ t A, J t A → A.cell? ⟨Bs, 1, none⟩ = some (.slice p L.size cap) ∧ Gl A p L)
    (hY : ∀ t A, t < L.size → J t A → W.heap.size ≤ A.heap.size → YieldAt Fence.wide (n - 1) Tryz.prog l #[.int .i64 t, vV L[t]! L.size] A fun e B =>
      (e = .returned (.bool true) ∧ J (t + 1) B ∧ Keeps W.heap.size A B) ∨ (e = .returned (.bool false) ∧ Jx B))
    (h0 : J 0 W) :
    CallsIn Fence.wide n Tryz.prog 95 #[.func (.yield l) #[] #[], .pointer (some ⟨Bs, 0, none⟩)] W fun e W' => (∃ v, e = .returned v) ∧ (J L.size W' ∨ Jx W') := by
  obtain ⟨hc0, hs0⟩ := hS 0 W h0
  have hsm := hs0.small
  have HS := Lib.hid hS
  have HJ := Lib.hid hJ
  have HY := Lib.hid hY
  have H0 := Lib.hid h0
  clear hS hY h0 hJ hs0
  refine callsIn_of_wp Tryz.func95 rfl trivial ?_ rfl
  simp only [Tryz.ntmps95, List.size_toArray, List.length_cons, List.length_nil, Nat.reduceAdd, Nat.reduceSub, Array.replicate_succ, Array.replicate_zero, List.push_toArray, List.append_toArray, List.nil_append, List.cons_append]
  gi_wp2
  gi_loopw [8, 3, 4] (fun i _ _ wr => ∃ t : Nat, t ≤ L.size ∧ i = .int .i64 t ∧ J t wr ∧ W.heap.size ≤ wr.heap.size) (fun i _ _ _ => L.size - (intOf i).toNat)
  case atStart => exact ⟨0, by omega, rfl, H0.out, Nat.le_refl _⟩
  case round =>
    obtain ⟨t, ht, rfl, hj, hz⟩ := hrel
    clear hc0
    obtain ⟨hcs, hs⟩ := HS.out t wr hj
    by_cases hlt : t < L.size
    · have hlti : (t : Int) < (L.size : Int) := by omega
      obtain ⟨blk, off, rfl, hbl, c0, c1, c2, c3, c4, c5⟩ := hs.at t hlt
      obtain ⟨f, hf⟩ : ∃ f, L[t]! = f := ⟨_, rfl⟩
      rw [hf] at c0 c1 c2 c3 c4 c5
      have hj2 := HJ.out t wr (wr.alloc (.cells #[.int .i64 f.k, .int .i64 f.x.1, .int .i64 f.x.2.1, .string f.x.2.2, .slice f.pk f.keys.size f.ck, .slice f.pd f.kids.size f.cd] 51)) wr.heap.size hj (gB_alloc (gB_refl wr _) _) hz
      obtain ⟨hcs2, _⟩ := HS.out t _ hj2
      obtain ⟨fn, tmps, assign, body, hy, hR⟩ := HY.out t _ hlt hj2 (by simp; omega)
      rw [hf] at hy
      unfold vV at hy
      have HR := Lib.hid hR
      clear hj hR hs hf hj2
      gi_wp2
      refine ⟨fun h => absurd h (by decide), ?_⟩
      refine HR.out.mono ?_
      rintro e W3 (⟨rfl, hJ3, hk3⟩ | ⟨rfl, hJx3⟩)
      · have HJ3 := Lib.hid hJ3
        have hz3 : W.heap.size ≤ W3.heap.size := by have h1 := hk3.1; simp only [World.size_alloc] at h1; omega
        clear hJ3 hy c0 c1 c2 c3 c4 c5 hk3 hcs hcs2
        gi_wp2
        go_roundw
        case rel => exact ⟨t + 1, by omega, by go_num, HJ3.out, hz3⟩
        case measure => simp [intOf]; omega
      · have HJx3 := Lib.hid hJx3
        clear hJx3 hy c0 c1 c2 c3 c4 c5 hcs hcs2
        gi_wp2
        refine bodyPost_ret (results_none rfl _ _ _) rfl ?_
        exact ⟨⟨_, rfl⟩, .inr HJx3.out⟩
    · have htN : t = L.size := by omega
      have HJW := Lib.hid hj
      have HT := Lib.hid htN
      clear hj htN hs hsm hcs
      gi_wp2
      go_end0
      exact ⟨⟨_, rfl⟩, .inl (by rw [← HT.out]; exact HJW.out)⟩
theorem views_run (n : Nat) (L : Array Fn) (p : Option Addr) (cap : Nat) (Bs : Nat) :
    SeqOwn Fence.wide n Tryz.prog 95 #[.pointer (some ⟨Bs, 0, none⟩)] (fun t => #[.int .i64 t, vV L[t]! L.size]) L.size (fun A => A.cell? ⟨Bs, 1, none⟩ = some (.slice p L.size cap) ∧ Gl A p L) :=
  fun l J Jx W hJ hS hY h0 => views_in n L p cap l Bs J Jx W hJ hS hY h0
theorem views_any (root : Int) (p : Option Addr) (m c : Nat) (w : World) : Calls Tryz.prog 82 #[.agg #[.int .i64 root, .slice p m c]] w fun e w' => e = .returned (.func (.func 95) #[] #[.pointer (some ⟨w.heap.size, 0, none⟩)]) ∧ w' = w.alloc (.cells #[.int .i64 root, .slice p m c] 24) := by
  go_enter Tryz.func82, Tryz.ntmps82
  go_wp2
  go_ret
  exact ⟨rfl, rfl⟩
end Go.Proofs.YtepelpmkmhhokaaGreatDoor

set_option maxRecDepth 100000
namespace Go.Proofs.YtepelpmkmhhokaaGreatDoor
open Go.RowKit Go.Shelf
open Scs Seqo
open Go.Sort (HoldsK)
attribute [local go_sem] Oper.semAt_some
/-- a fault, as an error -/
def faultV (at_ no : Int) (why : ByteArray) : Value := .iface 158 (.agg #[.int .i64 at_, .int .i64 no, .string why])
/-- the first place, from t on, of a node that is not right -/
def badFrom (n : Int) : List Fn → Nat → Option Nat
  | [], _ => none
  | f :: r, t => if rightF f n = true then badFrom n r (t + 1) else some t
def checkG (root : Int) (L : List Fn) : Int × Int :=
  if 200 < L.length then (0, 71) else if plB root L.length = true then (match badFrom L.length L 0 with | some t => ((t : Int), 70) | none => (0, 0)) else (-1, 70)
/-- what a call of check answers: the error of that place and number, or none -/
def ErrOf (v : Value) (r : Int × Int) : Prop := if r.2 = 0 then r = (0, 0) ∧ v = .nilIface else ∃ why, v = faultV r.1 r.2 why
theorem bad_step (n : Int) : ∀ (l : List Fn) (t : Nat) (h : t < l.length), ∀ s, badFrom n (l.drop t) s = if rightF l[t] n = true then badFrom n (l.drop (t + 1)) (s + 1) else some s := by
  intro l t h s
  rw [List.drop_eq_getElem_cons h]
  rfl
theorem cell7 {W : World} {b : Nat} {a0 a1 a2 a3 a4 a5 a6 : Value} {T : TypeId} (h : W.heap[b]? = some (.cells #[a0, a1, a2, a3, a4, a5, a6] T (0, 0))) :
    W.cell? ⟨b, 0, none⟩ = some a0 ∧ W.cell? ⟨b, 1, none⟩ = some a1 ∧ W.cell? ⟨b, 2, none⟩ = some a2 ∧ W.cell? ⟨b, 3, none⟩ = some a3 ∧ W.cell? ⟨b, 4, none⟩ = some a4 ∧ W.cell? ⟨b, 5, none⟩ = some a5 ∧ W.cell? ⟨b, 6, none⟩ = some a6 :=
  ⟨cell_of_row _ _ 0 _ _ _ h, cell_of_row _ _ 1 _ _ _ h, cell_of_row _ _ 2 _ _ _ h, cell_of_row _ _ 3 _ _ _ h, cell_of_row _ _ 4 _ _ _ h, cell_of_row _ _ 5 _ _ _ h, cell_of_row _ _ 6 _ _ _ h⟩
set_option maxHeartbeats 8000000 in
theorem check_in (root : Int) (L : Array Fn) (p : Option Addr) (cap : Nat) (w : World) (E : Env w) (hg : Gl w p L) (h200 : ¬ 200 < L.size) (hroot : plB root L.size = true) :
    CallsIn Fence.wide 6 Tryz.prog 70 #[.agg #[.int .i64 root, .slice p L.size cap]] w fun e w' => (∃ v, e = .returned v ∧ ErrOf v (match badFrom L.size L.toList 0 with | some t => ((t : Int), 70) | none => (0, 0))) ∧ Below w.heap.size w w' := by
  have hsm := hg.small
  have HG := Lib.hid hg
  have HE := Lib.hid E
  have hrr := hroot
  clear hg E hroot
  refine callsIn_of_wp_marks Tryz.func70 rfl trivial ?_ rfl
  simp only [Tryz.ntmps70, List.size_toArray, List.length_cons, List.length_nil, Nat.reduceAdd, Nat.reduceSub, Array.replicate_succ, Array.replicate_zero, List.push_toArray, List.append_toArray, List.nil_append, List.cons_append]
  refine wpIn_wide.2 ?_
  have hP : ∀ W, Calls Tryz.prog 81 #[.int .i64 root, .int .i64 (L.size : Int)] W fun e W' => e = .returned (.bool true) ∧ W' = W := fun W => by have h := isPlace_any root L.size W; rwa [hrr] at h
  have HP := Lib.hid hP
  clear hP hrr
  have i1 : (L.size : Int) ≤ 200 := by omega
  have hq : decide (200 < (L.size : Int)) = false := decide_eq_false (by omega)
  go_wp2_with (first
    | (go_at_call 81; refine (HP.out _).mono ?_; rintro e w' ⟨rfl, rfl⟩)
    | (go_at_call 82; refine (views_any _ _ _ _ _).mono ?_; rintro e w' ⟨rfl, rfl⟩))
  go_step3
  go_wp2_with (first
    | (go_at_call 81; refine (HP.out _).mono ?_; rintro e w' ⟨rfl, rfl⟩)
    | (go_at_call 82; refine (views_any _ _ _ _ _).mono ?_; rintro e w' ⟨rfl, rfl⟩))
  go_step3
  go_wp2_with (first
    | (go_at_call 82; refine (views_any _ _ _ _ _).mono ?_; rintro e w' ⟨rfl, rfl⟩))
  obtain ⟨w3, hw3⟩ : ∃ w3, (((w.alloc (.cells #[.int .i64 root, .slice p L.size cap] 24)).alloc (.cells #[.nilIface] 63)).alloc (.cells #[.int .i64 root, .slice p L.size cap] 24)) = w3 := ⟨_, rfl⟩
  rw [hw3]
  have hz3 : w3.heap.size = w.heap.size + 3 := by rw [← hw3]; simp
  have hb3 : w3.heap[w.heap.size + 1]? = some (.cells #[.nilIface] 63 (0, 0)) := by
    rw [← hw3, Below.heap_alloc _ _ _ (by simp)]
    have h := heap_alloc_new (w.alloc (.cells #[.int .i64 root, .slice p L.size cap] 24)) (.cells #[.nilIface] 63)
    rwa [World.size_alloc] at h
  have hs3 : w3.heap[w.heap.size + 2]? = some (.cells #[.int .i64 root, .slice p L.size cap] 24 (0, 0)) := by
    rw [← hw3]
    have h := heap_alloc_new ((w.alloc (.cells #[.int .i64 root, .slice p L.size cap] 24)).alloc (.cells #[.nilIface] 63)) (.cells #[.int .i64 root, .slice p L.size cap] 24)
    rwa [World.size_alloc, World.size_alloc] at h
  have hbl3 : Below w.heap.size w w3 := by rw [← hw3]; exact (((Below.refl _ w).alloc (Nat.le_refl _) _).alloc (by simp) _).alloc (by simp; omega) _
  clear hw3
  refine (wpIn_wide (n := 6)).1 ?_
  refine wpIn_rangeFunc_seqo rfl (by decide) (gf := 95) (lb := #[.pointer (some ⟨w.heap.size + 1 + 1, 0, none⟩)]) rfl trivial (enters_of Tryz.func95 (by kernel_rfl) rfl)
    (views_run 5 L p cap (w.heap.size + 1 + 1)) (fun _ => rfl) (.exit 0)
    (fun t W => W.heap[w.heap.size + 1]? = some (.cells #[.nilIface] 63 (0, 0)) ∧ W.heap[w.heap.size + 2]? = some (.cells #[.int .i64 root, .slice p L.size cap] 24 (0, 0)) ∧ badFrom L.size (L.toList.drop t) t = badFrom L.size L.toList 0 ∧ Below w.heap.size w W ∧ w3.heap.size ≤ W.heap.size)
    (fun W => (∃ t, t < L.size ∧ badFrom L.size L.toList 0 = some t ∧ W.heap[w.heap.size + 1]? = some (.cells #[faultV t 70 ⟨#[97, 32, 110, 111, 100, 101, 32, 105, 115, 32, 110, 111, 116, 32, 114, 105, 103, 104, 116]⟩] 63 (0, 0))) ∧ Below w.heap.size w W ∧ w3.heap.size ≤ W.heap.size)
    ?hI ?hIx (fun t A h => ⟨cell_of_row A _ 1 _ _ _ h.2.1, HG.out.below h.2.2.2.1⟩) ⟨hb3, hs3, rfl, hbl3, Nat.le_refl _⟩
    (fun t a' W => ∃ Bx, W.heap[Bx]? = some (.cells #[.int .i64 L[t]!.k, .int .i64 L[t]!.x.1, .int .i64 L[t]!.x.2.1, .string L[t]!.x.2.2, .slice L[t]!.pk L[t]!.keys.size L[t]!.ck, .slice L[t]!.pd L[t]!.kids.size L[t]!.cd, .int .i64 L.size] 151 (0, 0)) ∧
      a' = { tmps := #[.agg #[.int .i64 root, .slice p L.size cap], .pointer (some ⟨w.heap.size, 0, none⟩), .nilIface, .pointer (some ⟨w.heap.size + 1, 0, none⟩), .int .i64 t, .pointer (some ⟨Bx, 0, none⟩), .pointer (some ⟨w.heap.size, 1, none⟩), .slice p L.size cap, .int .i64 L.size, .bool false, undef, undef, .pointer (some ⟨w.heap.size, 0, none⟩), .int .i64 root, .pointer (some ⟨w.heap.size, 1, none⟩), .slice p L.size cap, .int .i64 L.size, .bool true, .bool false, undef, undef, .agg #[.int .i64 root, .slice p L.size cap], .func (.func 95) #[] #[.pointer (some ⟨w.heap.size + 1 + 1, 0, none⟩)], .int .i64 t, vV L[t]! L.size, undef, undef, undef, undef, undef, undef, undef], defers := [] })
    ?hAx ?hassign ?hbody ?hdone ?hstop
  case hI =>
    rintro t A D r ⟨h1, h2, h3, h4, h5⟩ hg hr
    exact ⟨(hg.block _ (by omega) (by simp; omega)).trans h1, (hg.block _ (by omega) (by simp; omega)).trans h2, h3, h4.trans (below_of_grown hg (by omega) (by omega)), Nat.le_trans h5 hg.size⟩
  case hIx =>
    rintro A D r ⟨⟨t, ht, h0, h1⟩, h2, h3⟩ hg hr
    exact ⟨⟨t, ht, h0, (hg.block _ (by omega) (by simp; omega)).trans h1⟩, h2.trans (below_of_grown hg (by omega) (by omega)), Nat.le_trans h3 hg.size⟩
  case hAx =>
    rintro t a A D r ⟨Bx, h1, h2⟩ hg hne
    refine ⟨Bx, (hg.block Bx (Array.getElem?_eq_some_iff.1 h1).1 (fun e => ?_)).trans h1, h2⟩
    obtain rfl : Bx = r := by simpa using e
    exact hne _ _ _ h1
  case hassign =>
    intro l t W K ht hi hK
    unfold vV at hK ⊢
    obtain ⟨f, hf⟩ : ∃ x, L[t]! = x := ⟨_, rfl⟩
    rw [hf] at hK ⊢
    have HKK := Lib.hid hK
    clear hK hi hf
    gi_wp2
    exact HKK.out _ _ (gB_of_below ((Below.refl _ W).alloc (Nat.le_refl _) _) none) ⟨W.heap.size, heap_alloc_new W _, rfl⟩
  case hbody =>
    rintro l t a' W ht ⟨h1, h2, h3, h4, h5⟩ ⟨Bx, hbx, rfl⟩
    have hNl := (HG.out.below h4).nodes t ht
    have hst := bad_step L.size L.toList t (by rw [Array.length_toList]; exact ht) t
    rw [h3, show L.toList[t]'(by rw [Array.length_toList]; exact ht) = L[t]! by rw [Array.getElem_toList, getElem!_pos L t ht]] at hst
    unfold vV
    obtain ⟨f, hf⟩ : ∃ x, L[t]! = x := ⟨_, rfl⟩
    rw [hf] at hbx hNl hst ⊢
    have hC := isRight_any f L.size W (HE.out.below h4) hNl
    have hp := cell7 hbx
    have H1 := Lib.hid h1
    have H2 := Lib.hid h2
    have H4 := Lib.hid h4
    have H5 := Lib.hid h5
    have HC := Lib.hid hC
    clear hC hNl h1 h2 h3 h4 h5 hf hbx hb3 hs3 hbl3
    obtain ⟨p0, p1, p2, p3, p4, p5, p6⟩ := hp
    cases hr : rightF f L.size
    · rw [hr] at HC
      rw [hr, if_neg (by decide)] at hst
      have HST := Lib.hid hst
      clear hst hr
      gi_wp2
      refine ⟨trivial, ?_⟩
      refine (CallsIn.inRound l (callsIn_wide.2 HC.out)).mono ?_
      rintro e w5 ⟨rfl, hb5⟩
      have x5 := (hb5.block _ (by have := H5.out; omega)).trans H1.out
      have c5 : w5.cell? ⟨w.heap.size + 1, 0, none⟩ = some .nilIface := cell_of_row _ _ 0 _ _ _ x5
      have f5 := frozen_of_row _ _ 0 _ _ x5
      have X5 := Lib.hid x5
      have HB5 := Lib.hid hb5
      clear x5 hb5 p0 p1 p2 p3 p4 p5 p6
      gi_wp2
      have hz6 := H5.out
      have hw5 := HB5.out.size
      have hg : w5.grownBy (w5.setCell ⟨w.heap.size + 1, 0, none⟩ (faultV t 70 ⟨#[97, 32, 110, 111, 100, 101, 32, 105, 115, 32, 110, 111, 116, 32, 114, 105, 103, 104, 116]⟩)) (some (w.heap.size + 1)) := gB_setCell (gB_refl _ _) _ _
      exact ⟨rfl, (Keeps.of_below HB5.out).trans (Keeps.of_grown hg (by omega)), ⟨t, ht, HST.out, heap_setCell_same w5 _ 0 _ _ _ X5.out⟩, (H4.out.trans (HB5.out.mono H4.out.size)).trans (below_of_grown hg (by omega) (by omega)), Nat.le_trans hz6 (Nat.le_trans hw5 hg.size)⟩
    · rw [hr] at HC
      rw [hr, if_pos rfl] at hst
      have HST := Lib.hid hst
      clear hst hr
      gi_wp2
      refine ⟨trivial, ?_⟩
      refine (CallsIn.inRound l (callsIn_wide.2 HC.out)).mono ?_
      rintro e w5 ⟨rfl, hb5⟩
      have HB5 := Lib.hid hb5
      clear hb5 p0 p1 p2 p3 p4 p5 p6
      gi_wp2
      have hz6 := H5.out
      exact ⟨Keeps.of_below HB5.out, (HB5.out.block _ (by omega)).trans H1.out, (HB5.out.block _ (by omega)).trans H2.out, HST.out.symm, H4.out.trans (HB5.out.mono H4.out.size), Nat.le_trans hz6 HB5.out.size⟩
  case hdone =>
    rintro D W hD ⟨h1, h2, h3, h4, h5⟩ hK
    have c1 : W.cell? ⟨w.heap.size + 1, 0, none⟩ = some .nilIface := cell_of_row _ _ 0 _ _ _ h1
    rw [show L.toList.drop L.size = [] by rw [← Array.length_toList]; exact List.drop_length] at h3
    have H3 := Lib.hid h3
    have H4 := Lib.hid h4
    have HK := Lib.hid hK
    clear h1 h2 h3 h4 h5 hK hb3 hs3 hbl3
    go_wp2
    rw [Exit.noGoto_ret]
    refine ⟨by simp, .inl ⟨_, _, rfl, run_takeDeferred HK.out, ?_⟩⟩
    refine ⟨.nilIface, by simp [results, Tryz.results70, go_sem], ⟨_, rfl, ?_⟩, H4.out.trans (below_of_grown (turn W D _) (by omega) (by have := H4.out.size; omega))⟩
    rw [← H3.out]
    exact ⟨rfl, rfl⟩
  case hstop =>
    rintro D W hD ⟨⟨t, ht, h0, h1⟩, h2, h3⟩ hK
    have c1 : W.cell? ⟨w.heap.size + 1, 0, none⟩ = some (faultV t 70 ⟨#[97, 32, 110, 111, 100, 101, 32, 105, 115, 32, 110, 111, 116, 32, 114, 105, 103, 104, 116]⟩) := cell_of_row _ _ 0 _ _ _ h1
    have H0 := Lib.hid h0
    have H2 := Lib.hid h2
    have HK := Lib.hid hK
    clear h0 h1 h2 h3 hK hb3 hs3 hbl3
    refine wpIn_wide.2 ?_
    unfold faultV at c1
    go_wp2_with fail
    rw [Exit.noGoto_ret]
    refine ⟨by simp, .inl ⟨_, _, rfl, run_takeDeferred HK.out, ?_⟩⟩
    refine ⟨faultV t 70 ⟨#[97, 32, 110, 111, 100, 101, 32, 105, 115, 32, 110, 111, 116, 32, 114, 105, 103, 104, 116]⟩, by simp [results, Tryz.results70, go_sem, faultV], ⟨_, rfl, ?_⟩, H2.out.trans (below_of_grown (turn W D _) (by omega) (by have := H2.out.size; omega))⟩
    rw [H0.out]
    exact ⟨_, rfl⟩
end Go.Proofs.YtepelpmkmhhokaaGreatDoor
