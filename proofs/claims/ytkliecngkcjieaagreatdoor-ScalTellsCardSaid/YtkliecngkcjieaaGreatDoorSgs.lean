/- The package's iterator yields a text's signs, each with its place, in their order, and comes to an end. Conditions: the box stays as it is. -/
import Derived.Test.YtkliecngkcjieaaGreatDoorOwx
import Derived.Test.YtkliecngkcjieaaGreatDoorPlc
set_option maxRecDepth 100000
namespace Go.Proofs.YtkliecngkcjieaaGreatDoor
open Go.RowKit Go.Shelf
open Pl Seqx
attribute [local go_sem] Oper.semAt_some
/-- the place of a sign, by bytes -/
def posAt : List UInt8 → Nat → Nat
  | _, 0 => 0
  | l, t + 1 => if l = [] then 0 else (Go.Lib.decodeL l).2 + posAt (l.drop (Go.Lib.decodeL l).2) t
theorem posAt_nil : ∀ t, posAt [] t = 0
  | 0 => rfl
  | _ + 1 => by simp [posAt]
theorem posAt_drop : ∀ (t : Nat) (l : List UInt8), runesOf (l.drop (posAt l t)) = (runesOf l).drop t
  | 0, l => by simp [posAt]
  | t + 1, l => by
    by_cases hne : l = []
    · subst hne; simp [posAt_nil, runesOf_nil]
    · have hw := Go.Lib.decodeL_width l
      have e : posAt l (t + 1) = (Go.Lib.decodeL l).2 + posAt (l.drop (Go.Lib.decodeL l).2) t := by simp [posAt, hne]
      rw [runesOf_step l hne, List.drop_succ_cons, ← posAt_drop t (l.drop (Go.Lib.decodeL l).2), e, List.drop_drop]
theorem posAt_succ : ∀ (t : Nat) (l : List UInt8), l.drop (posAt l t) ≠ [] → posAt l (t + 1) = posAt l t + (Go.Lib.decodeL (l.drop (posAt l t))).2
  | 0, l, h => by
    have hne : l ≠ [] := by simpa [posAt] using h
    simp [posAt, hne]
  | t + 1, l, h => by
    by_cases hne : l = []
    · subst hne; simp at h
    · have e : posAt l (t + 1) = (Go.Lib.decodeL l).2 + posAt (l.drop (Go.Lib.decodeL l).2) t := by simp [posAt, hne]
      have h' : (l.drop (Go.Lib.decodeL l).2).drop (posAt (l.drop (Go.Lib.decodeL l).2) t) ≠ [] := by rw [List.drop_drop, ← e]; exact h
      have ih := posAt_succ t _ h'
      have e2 : posAt l (t + 1 + 1) = (Go.Lib.decodeL l).2 + posAt (l.drop (Go.Lib.decodeL l).2) (t + 1) := by
        conv => lhs; unfold posAt
        rw [if_neg hne]
      rw [e2, ih, e, List.drop_drop]
      omega
def signV (l : List UInt8) (t : Nat) : Array Value := #[.int .i64 (posAt l t), .int .i32 (at0 (runesOf l) t)]
set_option maxHeartbeats 2000000 in
theorem signs_in (n : Nat) (s : ByteArray) (hs : s.size ≤ 1099511627776) (l Bs : Nat) (J : Nat → List Nat → World → Prop) (Jx : World → Prop) (W : World)
    (hJ : Stab J) (hS : ∀ t O A, J t O A → A.cell? ⟨Bs, 0, none⟩ = some (.string s))
    (hY : ∀ t O A, t < (runesOf s.data.toList).length → J t O A → YieldAt Fence.wide (n - 1) Tryz.prog l (signV s.data.toList t) A fun e B =>
      (e = .returned (.bool true) ∧ J (t + 1) O B ∧ KeepsO O A B) ∨ (e = .returned (.bool false) ∧ Jx B))
    (h0 : J 0 [] W) :
    CallsIn Fence.wide n Tryz.prog 128 #[.func (.yield l) #[] #[], .pointer (some ⟨Bs, 0, none⟩)] W fun e W' => (∃ v, e = .returned v) ∧ ((∃ O, J (runesOf s.data.toList).length O W') ∨ Jx W') := by
  have hc0 := hS 0 [] W h0
  have HJ := Lib.hid hJ
  have HY := Lib.hid hY
  have H0 := Lib.hid h0
  clear hS hY h0 hJ
  refine callsIn_of_wp Tryz.func128 rfl trivial ?_ rfl
  simp only [Tryz.ntmps128, List.size_toArray, List.length_cons, List.length_nil, Nat.reduceAdd, Nat.reduceSub, Array.replicate_succ, Array.replicate_zero, List.push_toArray, List.append_toArray, List.nil_append, List.cons_append]
  gi_wp2
  gi_loopw [] (fun wr => ∃ (k : Nat) (O : List Nat), k ≤ (runesOf s.data.toList).length ∧ W.heap.size ∈ O ∧ wr.heap[W.heap.size]? = some (.stringIter s (posAt s.data.toList k)) ∧ J k O wr) (fun wr => s.size - wr.iterPos W.heap.size)
  case atStart => exact ⟨0, [W.heap.size], Nat.zero_le _, by simp, World.iter_heap W s 0, HJ.out.new 0 [] W _ _ H0.out (gB_alloc (gB_refl W _) _) (Nat.le_refl _) (Array.getElem?_eq_some_iff.1 (World.iter_heap W s 0)).1 (fun cs fr h => by rw [World.iter_heap W s 0] at h; cases h)⟩
  case round =>
    obtain ⟨k, O, hk, hO, hit, hj⟩ := hrel
    have hdr := posAt_drop k s.data.toList
    have hsc := posAt_succ k s.data.toList
    obtain ⟨pos, hpos⟩ : ∃ pos, posAt s.data.toList k = pos := ⟨_, rfl⟩
    rw [hpos] at hdr hsc hit
    by_cases hlt : pos < s.size
    · have hne : s.data.toList.drop pos ≠ [] := by
        intro h
        have := congrArg List.length h
        rw [List.length_drop, List.length_nil] at this
        have e : s.data.toList.length = s.size := by rw [Array.length_toList]; rfl
        omega
      have hst := runesOf_step _ hne
      have hsc := hsc hne
      rw [Go.Lib.decodeL_drop] at hsc
      rw [hdr, Go.Lib.decodeL_drop, List.drop_drop] at hst
      have hnx : ∀ ty, (Instr.next (.pointer (some ⟨W.heap.size, 0, none⟩)) true ty).run Tryz.prog wr = _ := fun ty => Go.Lib.run_next_any_at wr W.heap.size s pos ty hit hlt
      have hwd := Go.Lib.width_pos s pos
      obtain ⟨R, hR⟩ : ∃ R, (Utf8.decode s pos).1 = R := ⟨_, rfl⟩
      obtain ⟨K, hK⟩ : ∃ K, (Utf8.decode s pos).2 = K := ⟨_, rfl⟩
      rw [hR, hK] at hnx hst
      rw [hK] at hwd hsc
      have hklt : k < (runesOf s.data.toList).length := by
        have := congrArg List.length hst
        rw [List.length_drop, List.length_cons] at this
        omega
      have hat : at0 (runesOf s.data.toList) k = (R : Int) := by
        unfold at0
        have := congrArg (fun l : List Int => l[0]?) hst
        simp only [List.getElem?_drop, Nat.add_zero, List.getElem?_cons_zero] at this
        rw [List.getD_eq_getElem?_getD, this]; rfl
      have hit2 := Go.Lib.iterAt_heap wr W.heap.size s pos (pos + K) hit
      have hg2 : wr.grownBy (wr.iterAt W.heap.size s (pos + K)) (some W.heap.size) := ⟨rfl, rfl, rfl, by rw [Go.Lib.iterAt_size]; exact Nat.le_refl _, fun j _ hj => Go.Lib.iterAt_other wr _ _ _ _ (fun e => hj (by rw [e]))⟩
      have hj2 := HJ.out.own _ _ _ _ _ hj hg2 hO (fun cs fr h => by rw [hit2] at h; cases h)
      obtain ⟨W2, hW2⟩ : ∃ W2, wr.iterAt W.heap.size s (pos + K) = W2 := ⟨_, rfl⟩
      rw [hW2] at hnx hit2 hj2
      have hltW : W.heap.size < W2.heap.size := (Array.getElem?_eq_some_iff.1 hit2).1
      have hip : wr.iterPos W.heap.size = pos := by simp [World.iterPos, hit]
      have hposs : (pos : Int) ≤ 1099511627776 := by omega
      obtain ⟨fn, tmps, assign, body, hy, hRd⟩ := HY.out k O W2 hklt hj2
      unfold signV at hy
      rw [hat, hpos] at hy
      have HRD := Lib.hid hRd
      have HIT2 := Lib.hid hit2
      have HIP := Lib.hid hip
      have HSC := Lib.hid hsc
      clear hit hj hst hne hR hK hat hit2 hj2 hg2 hip hdr hsc hRd
      gi_wp2
      refine ⟨fun h => absurd h (by decide), ?_⟩
      refine HRD.out.mono ?_
      rintro e W3 (⟨rfl, hJ3, hk3⟩ | ⟨rfl, hJx3⟩)
      · have HJ3 := Lib.hid hJ3
        have HIT3 := Lib.hid ((hk3.2 W.heap.size hO).trans HIT2.out)
        clear hJ3 hk3 hy
        gi_wp2
        refine ⟨⟨k + 1, O, by omega, hO, by rw [HSC.out]; exact HIT3.out, HJ3.out⟩, ?_⟩
        rw [HIP.out]; simp [World.iterPos, HIT3.out]; omega
      · have HJx3 := Lib.hid hJx3
        clear hJx3 hy
        gi_wp2
        refine bodyPost_ret (results_none rfl _ _ _) rfl ?_
        exact ⟨⟨_, rfl⟩, .inr HJx3.out⟩
    · have hnx : ∀ ty, (Instr.next (.pointer (some ⟨W.heap.size, 0, none⟩)) true ty).run Tryz.prog wr = _ := fun ty => Go.Lib.run_next_end_at wr W.heap.size s pos ty hit hlt
      have hkN : (runesOf s.data.toList).length ≤ k := by
        have h1 : s.data.toList.drop pos = [] := List.drop_eq_nil_of_le (by have e : s.data.toList.length = s.size := (by rw [Array.length_toList]; rfl); omega)
        rw [h1, runesOf_nil] at hdr
        have := congrArg List.length hdr
        rw [List.length_drop, List.length_nil] at this
        omega
      obtain rfl : k = (runesOf s.data.toList).length := by omega
      have HJW := Lib.hid hj
      clear hit hj hdr hkN hk hsc
      gi_wp2
      go_end0
      exact ⟨⟨_, rfl⟩, .inl ⟨O, HJW.out⟩⟩
theorem signs_run (n : Nat) (s : ByteArray) (hs : s.size ≤ 1099511627776) (Bs : Nat) :
    SeqX Fence.wide n Tryz.prog 128 #[.pointer (some ⟨Bs, 0, none⟩)] (signV s.data.toList) (runesOf s.data.toList).length (fun A => A.cell? ⟨Bs, 0, none⟩ = some (.string s)) :=
  fun l J Jx W hJ hS hY h0 => signs_in n s hs l Bs J Jx W hJ hS hY h0
theorem signs_any (s : ByteArray) (w : World) : Calls Tryz.prog 103 #[.string s] w fun e w' => e = .returned (.func (.func 128) #[] #[.pointer (some ⟨w.heap.size, 0, none⟩)]) ∧ w' = w.alloc (.cells #[.string s] 9) := by
  go_enter Tryz.func103, Tryz.ntmps103
  go_wp2
  go_ret
  exact ⟨rfl, rfl⟩
end Go.Proofs.YtkliecngkcjieaaGreatDoor
