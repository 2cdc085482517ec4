/- A right graph without its last node: the mathematics, and the cells. Conditions: none. -/
import Derived.Test.YtfpcjdopfodfnaaGreatDoorLma
set_option maxRecDepth 100000
namespace Go.Proofs.YtfpcjdopfodfnaaGreatDoor
open Go.RowKit Go.Shelf
open Scs
open Go.Sort (HoldsK)
/-- is that number one of a node's kids? -/
def usedK (z : Int) (f : Fn) : Bool := f.kids.toList.any fun y => decide (y = z)
theorem usedK_iff {z : Int} {f : Fn} : usedK z f = true ↔ z ∈ f.kids.toList := by
  unfold usedK
  rw [List.any_eq_true]
  exact ⟨fun ⟨y, hy, h⟩ => of_decide_eq_true h ▸ hy, fun h => ⟨z, h, decide_eq_true rfl⟩⟩
theorem right_less {f : Fn} {n m : Int} (h : rightF f n = true) : rightF f m = nodesB f m := by
  rcases right_kind h with hk | hk | hk
  · have h2 := (right_one h hk).2
    have e : nodesB f m = true := nodesB_iff.2 fun z hz => by rw [Array.eq_empty_of_size_eq_zero h2] at hz; cases hz
    rw [e]
    unfold rightF at h ⊢
    rw [if_pos hk] at h ⊢
    exact h
  · unfold rightF at h ⊢
    rw [if_neg (by omega), if_pos hk] at h ⊢
    unfold seqB at h ⊢
    simp only [List.all_cons, List.all_nil, id, Bool.and_true, Bool.and_eq_true, decide_eq_true_eq] at h
    simp only [List.all_cons, List.all_nil, id, Bool.and_true, decide_eq_true h.1, decide_eq_true h.2.1, Bool.true_and]
  · unfold rightF at h ⊢
    rw [if_neg (by omega), if_neg (by omega), if_pos hk] at h ⊢
    unfold mapB at h ⊢
    simp only [List.all_cons, List.all_nil, id, Bool.and_true, Bool.and_eq_true, decide_eq_true_eq, if_pos hk] at h
    simp only [List.all_cons, List.all_nil, id, Bool.and_true, decide_eq_true h.1, decide_eq_true h.2.1, h.2.2.1, Bool.true_and, if_pos hk]
theorem nodes_less {f : Fn} {m : Nat} (h : rightF f ((m + 1 : Nat) : Int) = true) : nodesB f m = !usedK m f := by
  have hk := right_kids h
  refine bool_iff (nodesB_iff.trans ?_)
  rw [Bool.not_eq_true', ← Bool.not_eq_true, usedK_iff]
  constructor
  · intro h1 h2
    have := (h1 _ h2).2
    omega
  · intro h1 z hz
    have h2 := hk z hz
    have h3 : z ≠ m := fun e => h1 (e ▸ hz)
    omega
theorem less_check {root : Int} {D : Array Fn} {m : Nat} (hn : D.size = m + 1) (h2 : m + 1 ≤ 200) (hb : badFrom ((m + 1 : Nat) : Int) D.toList 0 = none) (hp : plB root ((m + 1 : Nat) : Int) = true) :
    decide ((checkG root (D.extract 0 m).toList).2 = 0) = !(decide (root = (m : Int)) || (D.toList.take m).any (usedK m)) := by
  obtain ⟨p0, p1⟩ := plB_iff.1 hp
  have hE : (D.extract 0 m).toList = D.toList.take m := by simp
  have hlen : (D.toList.take m).length = m := by simp [hn]
  rw [hE]
  unfold checkG
  rw [hlen, if_neg (by omega)]
  by_cases hr : root = (m : Int)
  · have : plB root m = false := by
      cases hq : plB root m
      · rfl
      · have := plB_iff.1 hq; omega
    rw [this, if_neg (by decide), decide_eq_true hr]
    rfl
  · rw [plB_iff.2 ⟨p0, by omega⟩, if_pos rfl, decide_eq_false hr, Bool.false_or]
    have hm : ∀ f ∈ D.toList.take m, rightF f m = !usedK m f := fun f hf => by
      have hR := bad_none hb f (List.mem_of_mem_take hf)
      rw [right_less hR, nodes_less hR]
    cases hu : (D.toList.take m).any (usedK m)
    · rw [List.any_eq_false] at hu
      have : badFrom (m : Int) (D.toList.take m) 0 = none := bad_all fun f hf => by
        rw [hm f hf]
        have := hu f hf
        simpa using this
      rw [this]
      rfl
    · cases hbd : badFrom (m : Int) (D.toList.take m) 0 with
      | some t => rfl
      | none =>
        obtain ⟨f, hf, h⟩ := List.any_eq_true.1 hu
        have := bad_none hbd f hf
        rw [hm f hf, h] at this
        cases this
theorem Gl.less {W : World} {q : Option Addr} {D : Array Fn} (h : Gl W q D) (m : Nat) (hm : m ≤ D.size) : Gl W q (D.extract 0 m) := by
  have hsz : (D.extract 0 m).size = m := by simp; omega
  have hget : ∀ t, t < m → (D.extract 0 m)[t]! = D[t]! := fun t ht => by
    rw [getElem!_pos _ t (by omega), getElem!_pos D t (by omega)]
    simp
  refine ⟨by have := h.small; omega, fun t ht => ?_, ?_⟩
  · rw [hsz] at ht
    rw [hget t ht]
    exact h.nodes t (by omega)
  · rcases h.lies with h0 | ⟨blk, off, hp, hbl, hH⟩
    · exact .inl (by omega)
    · refine .inr ⟨blk, off, hp, hbl, fun j hj => ?_⟩
      rw [Go.Sort.size_flatK, hsz] at hj
      have h1 := hH j (by rw [Go.Sort.size_flatK]; omega)
      rw [Go.Sort.get_flatK _ _ _ _ (by omega)] at h1
      rw [Go.Sort.get_flatK _ _ _ _ (by omega), hget (j / 6) (by omega)]
      exact h1
theorem GO.cap {b : Nat} {W : World} {q : Option Addr} {n c : Nat} {L : List Fn} (h : GO b W (.slice q n c) L) : n ≤ c := by
  rcases h.row with ⟨_, ⟨h1, h2⟩ | ⟨g, c', cur, hv, hbg, hg, hnc, hr⟩⟩
  · injection h1 with _ a b
    omega
  · injection hv with _ a b
    omega
end Go.Proofs.YtfpcjdopfodfnaaGreatDoor
