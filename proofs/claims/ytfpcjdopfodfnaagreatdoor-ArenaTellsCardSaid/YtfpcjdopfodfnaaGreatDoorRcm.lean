/- The reference's order of two scalars is the order. Conditions: none. -/
import Derived.Test.YtfpcjdopfodfnaaGreatDoorOrdx
set_option maxRecDepth 100000
namespace Go.Proofs.YtfpcjdopfodfnaaGreatDoor
open Go.RowKit Go.Shelf Go.Sort
open Scs
theorem lt_self (x : Sc) : ltSc x x = false := by
  unfold ltSc
  rw [if_pos rfl, if_pos rfl, decide_eq_false_iff_not]
  exact List.lt_irrefl _
theorem cmp_lt {x y : Sc} (h : ltSc x y = true) : cmpSc x y = -1 := by
  unfold cmpSc
  by_cases e : x = y
  · subst e
    rw [lt_self] at h
    cases h
  · simp [e, h]
theorem cmp_gt {x y : Sc} (h : ltSc y x = true) : cmpSc x y = 1 := by
  have hne : ¬ x = y := fun e => by subst e; rw [lt_self] at h; cases h
  have hn : ltSc x y = false := by
    rw [Bool.eq_false_iff]
    intro h2
    obtain ⟨k, n, s⟩ := x
    obtain ⟨k2, n2, s2⟩ := y
    unfold ltSc at h h2
    simp only at h h2
    by_cases h1 : k = k2
    · subst h1
      rw [if_pos rfl] at h h2
      by_cases h3 : n = n2
      · subst h3
        rw [if_pos rfl] at h h2
        simp only [decide_eq_true_eq] at h h2
        exact absurd h2 (List.lt_asymm h)
      · rw [if_neg h3] at h2
        rw [if_neg (fun e => h3 e.symm)] at h
        simp only [decide_eq_true_eq] at h h2
        omega
    · rw [if_neg h1] at h2
      rw [if_neg (fun e => h1 e.symm)] at h
      simp only [decide_eq_true_eq] at h h2
      omega
  unfold cmpSc
  simp [hne, hn]
theorem gtr_bool (a b : ByteArray) : (!Op.bytesLess a.toList b.toList && !(a.toList == b.toList)) = Op.bytesLess b.toList a.toList := by
  rw [less_ba, less_ba, ByteArray.toList_eq, ByteArray.toList_eq]
  generalize a.data.toList = x
  generalize b.data.toList = y
  by_cases h : x = y
  · subst h
    simp [List.lt_irrefl]
  · by_cases h1 : x < y
    · have h2 : ¬ y < x := List.lt_asymm h1
      simp [h1, h2]
    · have h2 : y < x := by
        rcases List.le_iff_lt_or_eq.1 (List.not_lt.1 h1) with h3 | h3
        · exact h3
        · exact absurd h3.symm h
      simp [h1, h2, h]
theorem gtr_str (t : TypeId) (a b : ByteArray) (w : World) : (binOp .gtr t (.string a) (.string b)).run Tryz.prog w = .ok (.bool (Op.bytesLess b.toList a.toList)) w := by
  rw [← gtr_bool]
  simp [binOp, Op.stringOp]
set_option maxHeartbeats 2000000 in
theorem Compare_ref (x y : Sc) (w : World) : Calls Tryz.prog 47 #[aggS x, aggS y] w fun e w' => e = .returned (.int .i64 (cmpSc x y)) ∧ Below w.heap.size w w' := by
  have hB : ∀ o1 o2 : Obj, Below w.heap.size w ((w.alloc o1).alloc o2) := fun o1 o2 => ((Below.refl _ w).alloc (Nat.le_refl _) _).alloc (by simp) _
  unfold aggS
  obtain ⟨k, n, s⟩ := x
  obtain ⟨k2, n2, s2⟩ := y
  rcases Int.lt_trichotomy k k2 with h1 | h1 | h1
  · rw [cmp_lt (x := (k, n, s)) (y := (k2, n2, s2)) (by unfold ltSc; rw [if_neg (by simp only; omega)]; simpa using h1)]
    go_enter Tryz.func47, Tryz.ntmps47
    go_wp2
    go_ret
    exact ⟨rfl, hB _ _⟩
  · have g1 : ¬ k < k2 := by omega
    have g2 : ¬ k2 < k := by omega
    rcases Int.lt_trichotomy n n2 with h2 | h2 | h2
    · rw [cmp_lt (x := (k, n, s)) (y := (k2, n2, s2)) (by unfold ltSc; rw [if_pos h1, if_neg (by simp only; omega)]; simpa using h2)]
      clear h1
      go_enter Tryz.func47, Tryz.ntmps47
      go_wp2
      go_ret
      exact ⟨rfl, hB _ _⟩
    · have g3 : ¬ n < n2 := by omega
      have g4 : ¬ n2 < n := by omega
      have qg := gtr_str
      cases h3 : Op.bytesLess s.toList s2.toList with
      | true =>
        rw [cmp_lt (x := (k, n, s)) (y := (k2, n2, s2)) (by unfold ltSc; rw [if_pos h1, if_pos h2]; rw [less_ba] at h3; exact h3)]
        clear h1 h2
        go_enter Tryz.func47, Tryz.ntmps47
        go_wp2
        go_ret
        exact ⟨rfl, hB _ _⟩
      | false =>
        cases h4 : Op.bytesLess s2.toList s.toList with
        | true =>
          rw [cmp_gt (x := (k, n, s)) (y := (k2, n2, s2)) (by unfold ltSc; rw [if_pos h1.symm, if_pos h2.symm]; rw [less_ba] at h4; exact h4)]
          clear h1 h2
          go_enter Tryz.func47, Tryz.ntmps47
          go_wp2
          go_ret
          exact ⟨rfl, hB _ _⟩
        | false =>
          have hs : s = s2 := by
            rw [less_ba, decide_eq_false_iff_not] at h3 h4
            rw [List.not_lt] at h3 h4
            exact ByteArray.ext (Array.toList_inj.1 (List.le_antisymm h4 h3))
          rw [show cmpSc (k, n, s) (k2, n2, s2) = 0 by subst h1 h2 hs; simp [cmpSc]]
          clear h1 h2 hs
          go_enter Tryz.func47, Tryz.ntmps47
          go_wp2
          go_ret
          exact ⟨rfl, hB _ _⟩
    · rw [cmp_gt (x := (k, n, s)) (y := (k2, n2, s2)) (by unfold ltSc; rw [if_pos h1.symm, if_neg (by simp only; omega)]; simpa using h2)]
      have g3 : ¬ n < n2 := by omega
      clear h1
      go_enter Tryz.func47, Tryz.ntmps47
      go_wp2
      go_ret
      exact ⟨rfl, hB _ _⟩
  · rw [cmp_gt (x := (k, n, s)) (y := (k2, n2, s2)) (by unfold ltSc; rw [if_neg (by simp only; omega)]; simpa using h1)]
    have g1 : ¬ k < k2 := by omega
    go_enter Tryz.func47, Tryz.ntmps47
    go_wp2
    go_ret
    exact ⟨rfl, hB _ _⟩
end Go.Proofs.YtfpcjdopfodfnaaGreatDoor
