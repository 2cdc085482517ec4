/- The package's iterator yields a text's signs, each with those beside it, in their order, and comes to an end. Conditions: the box stays as it is. -/
import Derived.Test.YtkliecngkcjieaaGreatDoorRows
import Derived.Test.YtkliecngkcjieaaGreatDoorRul
import Derived.Test.YtkliecngkcjieaaGreatDoorOwx
import Derived.Shelf.Abstract
import Derived.Shelf.RegionOpen
import Derived.WalkKit
import Derived.OwnWalkIn
import Derived.TacticsInMore
import Derived.LoopNIn
import Derived.LoopIn
import Derived.ControlIn
import Derived.WalkLawsBesides
import Derived.WalkSpells
import Derived.Outline
import Derived.Lib.Hide
import Derived.Lib.OthersKept
import Derived.Deep.QuietTactic
import Derived.BigQuiet
import Derived.Deep.RegionWith
import Derived.Deep.DeepCutAuto
import Derived.Laws.Rows
set_option maxRecDepth 100000
namespace Go.Proofs.YtkliecngkcjieaaGreatDoor
open Go.RowKit Go.Shelf
open Pl Seqo
attribute [local go_sem] Oper.semAt_some
/-- what stands at a place, or nothing -/
def at0 (l : List Int) (k : Nat) : Int := l.getD k (-1)
/-- the place of turn t, as the program passes it -/
def placeV (l : List Int) (t : Nat) : Value := .agg #[.int .i32 (if t = 0 then -1 else at0 l (t - 1)), .int .i32 (at0 l t), .int .i32 (at0 l (t + 1))]
theorem runes_in (l : List UInt8) : ∀ n, l.length ≤ n → ∀ x ∈ runesOf l, 0 ≤ x ∧ x ≤ 1114111
  | 0, h, x, hx => by
    have : l = [] := List.eq_nil_of_length_eq_zero (by omega)
    subst this
    simp [runesOf_nil] at hx
  | n + 1, h, x, hx => by
    by_cases hne : l = []
    · subst hne; simp [runesOf_nil] at hx
    · have hw := Go.Lib.decodeL_width l
      have hr := Go.Lib.decodeL_rune l
      have hl : 0 < l.length := List.length_pos_iff.2 hne
      rw [runesOf_step l hne] at hx
      rcases List.mem_cons.1 hx with rfl | hx
      · omega
      · exact runes_in (l.drop (Go.Lib.decodeL l).2) n (by rw [List.length_drop]; omega) x hx
set_option maxRecDepth 100000 in
set_option maxHeartbeats 2000000 in
theorem places_in (n : Nat) (s : ByteArray) (_hs : s.size ≤ 1099511627776) (l Bs : Nat) (J : Nat → World → Prop) (Jx : World → Prop) (W : World)
    (hJ : ∀ t A B r, J t A → A.grownBy B (some r) → W.heap.size ≤ r → J t B)
    (hS : ∀ t A, J t A → A.cell? ⟨Bs, 0, none⟩ = some (.string s))
    (hY : ∀ t A, t < (runesOf s.data.toList).length → J t A → W.heap.size ≤ A.heap.size → YieldAt Fence.wide (n - 1) Tryz.prog l #[placeV (runesOf s.data.toList) t] A fun e B =>
      (e = .returned (.bool true) ∧ J (t + 1) B ∧ Keeps W.heap.size A B) ∨ (e = .returned (.bool false) ∧ Jx B))
    (h0 : J 0 W) :
    CallsIn Fence.wide n Tryz.prog 119 #[.func (.yield l) #[] #[], .pointer (some ⟨Bs, 0, none⟩)] W fun e W' => (∃ v, e = .returned v) ∧ (J (runesOf s.data.toList).length W' ∨ Jx W') := by
  have hc0 := hS 0 W h0
  have HR := Lib.hid (runes_in s.data.toList _ (Nat.le_refl _))
  obtain ⟨rs, hrs⟩ : ∃ rs, runesOf s.data.toList = rs := ⟨_, rfl⟩
  rw [hrs] at hY HR ⊢
  have HJ := Lib.hid hJ
  have HY := Lib.hid hY
  have H0 := Lib.hid h0
  have HRS := Lib.hid hrs
  clear hS hY h0 hJ hrs
  refine callsIn_of_wp Tryz.func119 rfl trivial ?_ rfl
  simp only [Tryz.ntmps119, List.size_toArray, List.length_cons, List.length_nil, Nat.reduceAdd, Nat.reduceSub, Array.replicate_succ, Array.replicate_zero, List.push_toArray, List.append_toArray, List.nil_append, List.cons_append]
  gi_wp2
  gi_loopw [3, 4] (fun a g wr => ∃ k pos : Nat, k ≤ rs.length ∧ runesOf (s.data.toList.drop pos) = rs.drop k ∧ wr.heap[W.heap.size]? = some (.stringIter s pos) ∧ J (k - 1) wr ∧
    a = .int .i32 (if k - 1 = 0 then -1 else at0 rs (k - 1 - 1)) ∧ g = .int .i32 (if k = 0 then -1 else at0 rs (k - 1))) (fun _ _ wr => s.size - wr.iterPos W.heap.size)
  case atStart => exact ⟨0, 0, Nat.zero_le _, by rw [List.drop_zero, List.drop_zero]; exact HRS.out, World.iter_heap W s 0, HJ.out 0 W _ _ H0.out (gB_alloc (gB_refl W _) _) (Nat.le_refl _), rfl, rfl⟩
  case round =>
    obtain ⟨k, pos, hk, hdr, hit, hj, rfl, rfl⟩ := hrel
    by_cases hlt : pos < s.size
    · have hne : s.data.toList.drop pos ≠ [] := by
        intro h
        have := congrArg List.length h
        rw [List.length_drop, List.length_nil] at this
        have e : s.data.toList.length = s.size := by rw [Array.length_toList]; rfl
        omega
      have hst := runesOf_step _ hne
      rw [hdr, Go.Lib.decodeL_drop, List.drop_drop] at hst
      have hnx : ∀ ty, (Instr.next (.pointer (some ⟨W.heap.size, 0, none⟩)) true ty).run Tryz.prog wr = _ := fun ty => Go.Lib.run_next_any_at wr W.heap.size s pos ty hit hlt
      have hwd := Go.Lib.width_pos s pos
      obtain ⟨R, hR⟩ : ∃ R, (Utf8.decode s pos).1 = R := ⟨_, rfl⟩
      obtain ⟨K, hK⟩ : ∃ K, (Utf8.decode s pos).2 = K := ⟨_, rfl⟩
      rw [hR, hK] at hnx hst
      rw [hK] at hwd
      have hklt : k < rs.length := by
        have := congrArg List.length hst
        rw [List.length_drop, List.length_cons] at this
        omega
      have hat : at0 rs k = (R : Int) := by
        unfold at0
        have := congrArg (fun l : List Int => l[0]?) hst
        simp only [List.getElem?_drop, Nat.add_zero, List.getElem?_cons_zero] at this
        rw [List.getD_eq_getElem?_getD, this]; rfl
      have hdr2 : runesOf (s.data.toList.drop (pos + K)) = rs.drop (k + 1) := by
        have := congrArg List.tail hst
        rw [List.tail_drop, List.tail_cons] at this
        exact this.symm
      have hit2 := Go.Lib.iterAt_heap wr W.heap.size s pos (pos + K) hit
      have hg2 : wr.grownBy (wr.iterAt W.heap.size s (pos + K)) (some W.heap.size) := ⟨rfl, rfl, rfl, by rw [Go.Lib.iterAt_size]; exact Nat.le_refl _, fun j _ hj => Go.Lib.iterAt_other wr _ _ _ _ (fun e => hj (by rw [e]))⟩
      have hj2 := HJ.out _ _ _ _ hj hg2 (Nat.le_refl _)
      obtain ⟨W2, hW2⟩ : ∃ W2, wr.iterAt W.heap.size s (pos + K) = W2 := ⟨_, rfl⟩
      rw [hW2] at hnx hit2 hj2
      have hltW : W.heap.size < W2.heap.size := (Array.getElem?_eq_some_iff.1 hit2).1
      have hip : wr.iterPos W.heap.size = pos := by simp [World.iterPos, hit]
      have HIT2 := Lib.hid hit2
      have HJ2 := Lib.hid hj2
      have HDR2 := Lib.hid hdr2
      have HAT := Lib.hid hat
      have HIP := Lib.hid hip
      clear hit hj hdr hst hne hR hK hat hit2 hj2 hdr2 hg2 hip
      by_cases hk0 : k = 0
      · subst hk0
        gi_wp2
        refine ⟨(fun f h => by cases h), ?_⟩
        gi_wp2
        refine ⟨⟨1, pos + K, by omega, HDR2.out, HIT2.out, HJ2.out, rfl, by rw [← HAT.out]; rfl⟩, ?_⟩
        rw [HIP.out]; simp [World.iterPos, HIT2.out]; omega
      · obtain ⟨t, rfl⟩ : ∃ t, k = t + 1 := ⟨k - 1, by omega⟩
        have hsg := HR.out (at0 rs t) (by unfold at0; rw [List.getD_eq_getElem?_getD, List.getElem?_eq_getElem (by omega)]; exact List.getElem_mem _)
        obtain ⟨fn, tmps, assign, body, hy, hRd⟩ := HY.out t W2 (by omega) HJ2.out (Nat.le_of_lt hltW)
        unfold placeV at hy
        rw [HAT.out] at hy
        simp only [Nat.add_sub_cancel, Nat.succ_ne_zero, if_false] at hy ⊢
        obtain ⟨A, hA⟩ : ∃ A, (if t = 0 then (-1 : Int) else at0 rs (t - 1)) = A := ⟨_, rfl⟩
        rw [hA] at hy ⊢
        obtain ⟨G, hG⟩ : ∃ G, at0 rs t = G := ⟨_, rfl⟩
        rw [hG] at hy hsg ⊢
        have hG1 : (G == -1) = false := beq_eq_false_iff_ne.2 (by omega)
        have hG3 : (G != -1) = true := by simp [bne, hG1]
        have HRD := Lib.hid hRd
        have HG := Lib.hid hG
        clear hRd hG hA hsg
        gi_wp2
        refine ⟨fun h => absurd h (by decide), ?_⟩
        refine HRD.out.mono ?_
        rintro e W3 (⟨rfl, hJ3, hk3⟩ | ⟨rfl, hJx3⟩)
        · have HJ3 := Lib.hid hJ3
          have HIT3 := Lib.hid ((hk3.2 W.heap.size (Nat.le_refl _) hltW).trans HIT2.out)
          clear hJ3 hk3 hy
          gi_wp2
          refine ⟨⟨t + 1 + 1, pos + K, by omega, HDR2.out, HIT3.out, HJ3.out, ?_, by simp [HAT.out]⟩, ?_⟩
          · rw [← HG.out]; simp
          · rw [HIP.out]; simp [World.iterPos, HIT3.out]; omega
        · have HJx3 := Lib.hid hJx3
          clear hJx3 hy
          gi_wp2
          refine bodyPost_ret (results_none rfl _ _ _) rfl ?_
          exact ⟨⟨_, rfl⟩, .inr HJx3.out⟩
    · have hnx : ∀ ty, (Instr.next (.pointer (some ⟨W.heap.size, 0, none⟩)) true ty).run Tryz.prog wr = _ := fun ty => Go.Lib.run_next_end_at wr W.heap.size s pos ty hit hlt
      have hkN : rs.length ≤ k := by
        have h1 : s.data.toList.drop pos = [] := List.drop_eq_nil_of_le (by have e : s.data.toList.length = s.size := (by rw [Array.length_toList]; rfl); omega)
        rw [h1, runesOf_nil] at hdr
        have := congrArg List.length hdr
        rw [List.length_drop, List.length_nil] at this
        omega
      obtain rfl : k = rs.length := by omega
      have HJW := Lib.hid hj
      have HRS2 := HRS.out
      have hltW : W.heap.size < wr.heap.size := (Array.getElem?_eq_some_iff.1 hit).1
      by_cases hk0 : rs.length = 0
      · obtain ⟨N, hN⟩ : ∃ N, rs.length = N := ⟨_, rfl⟩
        have HN := Lib.hid hN
        rw [hN] at hk0 HJW ⊢
        subst hk0
        clear hit hj hdr hkN hk hN
        gi_wp2
        go_end0
        exact ⟨⟨_, rfl⟩, .inl (by rw [HN.out]; exact HJW.out)⟩
      · obtain ⟨t, ht⟩ : ∃ t, rs.length = t + 1 := ⟨rs.length - 1, by omega⟩
        have hsg := HR.out (at0 rs t) (by unfold at0; rw [List.getD_eq_getElem?_getD, List.getElem?_eq_getElem (by omega)]; exact List.getElem_mem _)
        have hlast : at0 rs (t + 1) = -1 := by unfold at0; rw [List.getD_eq_getElem?_getD, List.getElem?_eq_none (by omega)]; rfl
        rw [ht] at HJW ⊢
        obtain ⟨fn, tmps, assign, body, hy, hRd⟩ := HY.out t wr (by omega) HJW.out (Nat.le_of_lt hltW)
        unfold placeV at hy
        rw [hlast] at hy
        simp only [Nat.add_sub_cancel, Nat.succ_ne_zero, if_false] at hy ⊢
        obtain ⟨A, hA⟩ : ∃ A, (if t = 0 then (-1 : Int) else at0 rs (t - 1)) = A := ⟨_, rfl⟩
        rw [hA] at hy ⊢
        obtain ⟨G, hG⟩ : ∃ G, at0 rs t = G := ⟨_, rfl⟩
        rw [hG] at hy hsg ⊢
        have hG1 : (G == -1) = false := beq_eq_false_iff_ne.2 (by omega)
        have hG3 : (G != -1) = true := by simp [bne, hG1]
        have HRD := Lib.hid hRd
        have HT := Lib.hid ht
        clear hRd hG hA hsg hit hj hdr hkN hk ht hlast HRS2
        gi_wp2
        refine ⟨fun h => absurd h (by decide), ?_⟩
        refine HRD.out.mono ?_
        rintro e W3 (⟨rfl, hJ3, _⟩ | ⟨rfl, hJx3⟩)
        · have HJ3 := Lib.hid hJ3
          clear hJ3 hy
          gi_wp2
          go_end0
          exact ⟨⟨_, rfl⟩, .inl (by rw [HT.out]; exact HJ3.out)⟩
        · have HJx3 := Lib.hid hJx3
          clear hJx3 hy
          gi_wp2
          go_end0
          exact ⟨⟨_, rfl⟩, .inr HJx3.out⟩
theorem places_run (n : Nat) (s : ByteArray) (hs : s.size ≤ 1099511627776) (Bs : Nat) :
    SeqOwn Fence.wide n Tryz.prog 119 #[.pointer (some ⟨Bs, 0, none⟩)] (fun t => #[placeV (runesOf s.data.toList) t]) (runesOf s.data.toList).length (fun A => A.cell? ⟨Bs, 0, none⟩ = some (.string s)) :=
  fun l J Jx W hJ hS hY h0 => places_in n s hs l Bs J Jx W hJ hS hY h0
end Go.Proofs.YtkliecngkcjieaaGreatDoor
