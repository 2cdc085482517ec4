/- The reference puts some scalars in order: the same order. Conditions: the row lies whole. -/
import Derived.Test.YtkliecngkcjieaaGreatDoorFew
import Derived.Test.YtkliecngkcjieaaGreatDoorRtw
import Derived.Test.YtkliecngkcjieaaGreatDoorRcm
set_option maxRecDepth 100000
namespace Go.Proofs.YtkliecngkcjieaaGreatDoor
open Go.RowKit Go.Shelf
open Scs
open Go.Sort (HoldsK)
def insStep (x : Sc) (p : List Sc × Bool) (y : Sc) : List Sc × Bool := if p.2 = false ∧ cmpSc x y < 0 then (p.1 ++ [x] ++ [y], true) else (p.1 ++ [y], p.2)
def insFin (x : Sc) (r : List Sc × Bool) : List Sc := if r.2 = true then r.1 else r.1 ++ [x]
def insN (x : Sc) (L : List Sc) (j : Nat) : List Sc × Bool := (L.take j).foldl (insStep x) ([], false)
theorem insN_zero (x : Sc) (L : List Sc) : insN x L 0 = ([], false) := rfl
theorem insN_succ (x : Sc) (L : List Sc) (j : Nat) (hj : j < L.length) : insN x L (j + 1) = insStep x (insN x L j) L.toArray[j]! := by
  unfold insN
  have h : L.take (j + 1) = L.take j ++ [L.toArray[j]!] := by
    have := take_get L.toArray j (by simpa using hj)
    simpa using this
  rw [h, List.foldl_append]
  rfl
theorem fin_true (x : Sc) : ∀ (L acc : List Sc), insFin x (L.foldl (insStep x) (acc, true)) = acc ++ L
  | [], acc => by simp [insFin]
  | y :: t, acc => by
    rw [List.foldl_cons, show insStep x (acc, true) y = (acc ++ [y], true) by simp [insStep], fin_true x t]
    simp
theorem fin_false (x : Sc) : ∀ (L acc : List Sc), insFin x (L.foldl (insStep x) (acc, false)) = acc ++ insSc x L
  | [], acc => by simp [insFin, insSc]
  | y :: t, acc => by
    rw [List.foldl_cons]
    unfold insSc
    by_cases h : cmpSc x y < 0
    · rw [show insStep x (acc, false) y = (acc ++ [x] ++ [y], true) by simp [insStep, h], fin_true, if_pos h]
      simp
    · rw [show insStep x (acc, false) y = (acc ++ [y], false) by simp [insStep, h], fin_false x t, if_neg h]
      simp
theorem insN_len (x : Sc) (L : List Sc) : insFin x (insN x L L.length) = insSc x L := by
  unfold insN
  rw [List.take_length, fin_false]
  rfl
theorem insN_size (x : Sc) (L : List Sc) : ∀ j, j ≤ L.length → (insN x L j).1.length ≤ j + 1 ∧ ((insN x L j).2 = false → (insN x L j).1.length = j)
  | 0, _ => by simp [insN_zero]
  | j + 1, hj => by
    obtain ⟨h1, h2⟩ := insN_size x L j (by omega)
    rw [insN_succ x L j (by omega)]
    unfold insStep
    by_cases h : (insN x L j).2 = false ∧ cmpSc x L.toArray[j]! < 0
    · rw [if_pos h]
      have := h2 h.1
      simp [this]
    · rw [if_neg h]
      refine ⟨by simp; omega, fun hf => ?_⟩
      have := h2 hf
      simp [this]
theorem ins_len (x : Sc) : ∀ L, (insSc x L).length = L.length + 1 := fun L => by
  have := (ins_perm x L).length_eq
  simpa using this
theorem fold_perm : ∀ (l o : List Sc), (l.foldl (fun o x => insSc x o) o).Perm (o ++ l)
  | [], o => by simp
  | x :: t, o => by
    rw [List.foldl_cons]
    exact (fold_perm t (insSc x o)).trans ((((ins_perm x o).append_right t)).trans (by simpa using (List.perm_middle (a := x) (l₁ := o) (l₂ := t)).symm))
theorem insAll_perm (l : List Sc) : (insAll l).Perm l := by
  have h := fold_perm l []
  rw [List.nil_append] at h
  exact h
theorem insAll_snoc (l : List Sc) (x : Sc) : insAll (l ++ [x]) = insSc x (insAll l) := by simp [insAll]
theorem short_mem {L : List Sc} {d : Array Sc} (hz : ∀ t, t < d.size → d[t]!.2.2.size ≤ 1000000) (h : ∀ x ∈ L, x ∈ d.toList) : ∀ t, t < L.length → L.toArray[t]!.2.2.size ≤ 1000000 := by
  intro t ht
  have hm : L.toArray[t]! ∈ L := by
    rw [getElem!_pos L.toArray t (by simpa using ht)]
    simp
  obtain ⟨i, hi, he⟩ := List.getElem_of_mem (h _ hm)
  rw [Array.length_toList] at hi
  have := hz i hi
  rw [getElem!_pos d i hi] at this
  rw [Array.getElem_toList] at he
  rw [← he]
  exact this
theorem owns_le {W : World} {b b' n : Nat} {v : Value} {xs : List Value} (h : W.ownsRow b' 23 3 v n xs) (hb : b ≤ b') : W.ownsRow b 23 3 v n xs := by
  rcases h with ⟨ha, h1 | ⟨g, c', cur, hv, hbg, hr⟩⟩
  · exact ⟨ha, .inl h1⟩
  · exact ⟨ha, .inr ⟨g, c', cur, hv, Nat.le_trans hb hbg, hr⟩⟩
theorem owns_below {W W' : World} {b n : Nat} {v : Value} {xs : List Value} (h : W.ownsRow b 23 3 v n xs) (hb : Below W.heap.size W W') : W'.ownsRow b 23 3 v n xs := by
  rcases h with ⟨ha, h1 | ⟨g', c', cur, hv, hbg, hg2, hr2⟩⟩
  · exact ⟨ha, .inl h1⟩
  · exact ⟨ha, .inr ⟨g', c', cur, hv, hbg, (hb.block g' (Array.getElem?_eq_some_iff.1 hg2).1).trans hg2, hr2⟩⟩
theorem below_app {w W W6 : World} {B n : Nat} {v : Value} {xs : List Value} {o : Obj} (h : Below B w W) (hz : B ≤ W.heap.size) (hown : W.ownsRow B 23 3 v n xs) (hg : (W.alloc o).grownBy W6 v.ownBlock) : Below B w W6 :=
  (h.alloc hz o).grown hg (by simp; omega) fun q hq => by
    rcases hown with ⟨_, ⟨h1, _⟩ | ⟨g', c', cur, hv, hbg, _⟩⟩
    · rw [h1] at hq; cases hq
    · rw [hv] at hq
      obtain rfl : g' = q := Option.some.inj hq
      exact hbg
end Go.Proofs.YtkliecngkcjieaaGreatDoor
