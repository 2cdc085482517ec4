/- What the statements cut lies as a graph; a graph that comes in is some nodes. Conditions: none. A right graph is right with each of its nodes as its root, and with no other number: the walk of the law. Conditions: the contracts of what is called. -/
import Derived.Test.YtepelpmkmhhokaaGreatDoorAcu
set_option maxRecDepth 100000
namespace Go.Proofs.YtepelpmkmhhokaaGreatDoor
open Go.RowKit Go.Shelf
open Scs
open Go.Sort (HoldsK)
theorem flatF_len : ∀ L : List Fn, (flatF L).length = L.length * 6
  | [] => rfl
  | x :: t => by
    have := flatF_len t
    unfold flatF at this ⊢
    rw [List.flatMap_cons, List.length_append, this, List.length_cons]
    show 6 + _ = _
    omega
theorem flatF_get : ∀ (L : List Fn) (j : Nat), j < L.length * 6 → (flatF L)[j]? = some ((encF L[j / 6]!)[j % 6]!)
  | [], j, h => by simp at h
  | x :: t, j, h => by
    by_cases hj : j < 6
    · have e1 : j / 6 = 0 := by omega
      have e2 : j % 6 = j := by omega
      rw [e1, e2]
      have hl : (flatF (x :: t))[j]? = (encF x)[j]? := by
        unfold flatF
        rw [List.flatMap_cons, List.getElem?_append_left (by show j < 6; exact hj)]
      rw [hl]
      show (encF x)[j]? = some ((encF x)[j]!)
      have hlen : j < (encF x).length := hj
      rw [List.getElem?_eq_getElem hlen, List.getElem!_eq_getElem?_getD, List.getElem?_eq_getElem hlen]
      rfl
    · have e1 : j / 6 = (j - 6) / 6 + 1 := by omega
      have e2 : j % 6 = (j - 6) % 6 := by omega
      have ih := flatF_get t (j - 6) (by simp at h; omega)
      rw [e1, e2]
      have hl : (flatF (x :: t))[j]? = (flatF t)[j - 6]? := by
        unfold flatF
        rw [List.flatMap_cons, List.getElem?_append_right (by show 6 ≤ j; omega)]
        rfl
      rw [hl, ih]
      rfl
theorem holds_rowF {W : World} {g n : Nat} {d : Array Fn} {c : Nat} {b : Nat} (h : W.ownsRow b 51 6 (.slice (some ⟨g, 0, none⟩) n c) n (flatF d.toList)) (hn : n = d.size) : HoldsK encF 6 W g 0 d := by
  subst hn
  rcases h with ⟨_, ⟨h1, _⟩ | ⟨g', c', cur, hv, _, hg, hnc, _, hcs, htake⟩⟩
  · cases h1
  · obtain rfl : g = g' := by injection hv with h _ _; injection h with h; injection h
    refine holdsK_of_row hg fun j hj => ?_
    have h1 := flatF_get d.toList j (by rw [Array.length_toList]; exact hj)
    rw [← htake, List.getElem?_take_of_lt hj, Array.getElem?_toList] at h1
    rw [h1]
    simp [getElem!_def]
theorem KO.nl {b : Nat} {W : World} {f : Fn} (h : KO b W f) : Nl W f := by
  refine ⟨by have := h.xs; omega, ?_, ?_⟩
  · have hsh : ∀ t, t < f.keys.size → f.keys[t]!.2.2.size ≤ 1000000 := fun t ht => by
      have h1 := h.kx f.keys[t]! (by rw [getElem!_pos f.keys t ht]; exact Array.getElem_mem_toList ht)
      omega
    have hks := h.ks
    refine ⟨by have := h.k12; omega, hsh, ?_⟩
    rcases hks with ⟨_, ⟨h1, h2⟩ | ⟨g, c', cur, hv, hbg, hg, hr⟩⟩
    · exact .inl h2
    · have hp : f.pk = some ⟨g, 0, none⟩ := by injection hv
      refine .inr ⟨g, 0, hp, (Array.getElem?_eq_some_iff.1 hg).1, ?_⟩
      have h3 := h.ks
      rw [hp] at h3
      exact holds_row h3 rfl
  · have hds := h.ds
    obtain ⟨p, c, hv, hil⟩ := il_own hds (by rw [Array.length_toList]) (by have := h.d12; omega)
    have hp : f.pd = p := by injection hv
    rw [hp]
    simpa using hil
/-- what is cut lies as a graph, with at most twelve keys each -/
theorem GO.gl {b : Nat} {W : World} {q : Option Addr} {n c : Nat} {L : List Fn} (h : GO b W (.slice q n c) L) (hn : L.length = n) (h2 : n ≤ 201) : Gl W q L.toArray := by
  subst hn
  refine ⟨by rw [List.size_toArray]; omega, fun t ht => ?_, ?_⟩
  · have ht2 : t < L.length := by simpa using ht
    have : L.toArray[t]! = L[t] := by rw [getElem!_pos L.toArray t ht]; simp
    rw [this]
    exact (h.nodes _ (List.getElem_mem ht2)).nl
  · rcases h.row with ⟨_, ⟨h1, h2⟩ | ⟨g, c', cur, hv, hbg, hg, hr⟩⟩
    · exact .inl (by simpa using h2)
    · have hp : q = some ⟨g, 0, none⟩ := by injection hv
      refine .inr ⟨g, 0, hp, (Array.getElem?_eq_some_iff.1 hg).1, ?_⟩
      have h3 := h.row
      rw [hp] at h3
      exact holds_rowF (d := L.toArray) h3 (by simp)
theorem GO.k12 {b : Nat} {W : World} {v : Value} {L : List Fn} (h : GO b W v L) : ∀ t, t < L.toArray.size → L.toArray[t]!.keys.size ≤ 12 := fun t ht => by
  have ht2 : t < L.length := by simpa using ht
  have : L.toArray[t]! = L[t] := by rw [getElem!_pos L.toArray t ht]; simp
  rw [this]
  exact (h.nodes _ (List.getElem_mem ht2)).k12
end Go.Proofs.YtepelpmkmhhokaaGreatDoor

set_option maxRecDepth 100000
namespace Go.Proofs.YtepelpmkmhhokaaGreatDoor
open Go.RowKit Go.Shelf
open Scs
theorem GlR.below {w w' : World} {p : Option Addr} {L : Array Fn} (h : GlR w p L) (hb : Below w.heap.size w w') : GlR w' p L := fun t ht => by
  obtain ⟨blk, off, h0, h1, c0, c1, c2, c3, c4, c5, hk, hd⟩ := h t ht
  refine ⟨blk, off, h0, Nat.lt_of_lt_of_le h1 hb.size, (hb.cell (p := ⟨blk, _, none⟩) h1).trans c0, (hb.cell (p := ⟨blk, _, none⟩) h1).trans c1, (hb.cell (p := ⟨blk, _, none⟩) h1).trans c2, (hb.cell (p := ⟨blk, _, none⟩) h1).trans c3, (hb.cell (p := ⟨blk, _, none⟩) h1).trans c4, (hb.cell (p := ⟨blk, _, none⟩) h1).trans c5, fun i hi => ?_, fun i hi => ?_⟩
  · obtain ⟨b2, o2, e0, e1, d0, d1, d2⟩ := hk i hi
    exact ⟨b2, o2, e0, Nat.lt_of_lt_of_le e1 hb.size, (hb.cell (p := ⟨b2, _, none⟩) e1).trans d0, (hb.cell (p := ⟨b2, _, none⟩) e1).trans d1, (hb.cell (p := ⟨b2, _, none⟩) e1).trans d2⟩
  · obtain ⟨b2, o2, e0, e1, d0⟩ := hd i hi
    exact ⟨b2, o2, e0, Nat.lt_of_lt_of_le e1 hb.size, (hb.cell (p := ⟨b2, _, none⟩) e1).trans d0⟩
theorem GO.keepB {b : Nat} {W W' : World} {v : Value} {L : List Fn} {B : Nat} (h : GO b W v L) (hg : W.grownBy W' (some B)) (hB : B < b) : GO b W' v L :=
  ⟨own_keepG h.row fun g hv => hg.block g (own_lt h.row g hv).2 (by have := (own_lt h.row g hv).1; simp; omega), fun f hf => (h.nodes f hf).keep (fun g hv => hg.block g (own_lt (h.nodes f hf).ks g hv).2 (by have := (own_lt (h.nodes f hf).ks g hv).1; simp; omega)) (fun g hv => hg.block g (own_lt (h.nodes f hf).ds g hv).2 (by have := (own_lt (h.nodes f hf).ds g hv).1; simp; omega))⟩
theorem check_ok {r : Int} {L : List Fn} (h : (checkG r L).2 = 0) : L.length ≤ 200 ∧ badFrom L.length L 0 = none ∧ plB r L.length = true := by
  unfold checkG at h
  by_cases h2 : 200 < L.length
  · rw [if_pos h2] at h; cases h
  · rw [if_neg h2] at h
    cases hp : plB r L.length
    · rw [hp, if_neg (by decide)] at h; cases h
    · rw [hp, if_pos rfl] at h
      cases hb : badFrom L.length L 0 with
      | none => exact ⟨by omega, rfl, rfl⟩
      | some t => rw [hb] at h; cases h
theorem check_root {L : List Fn} (h1 : L.length ≤ 200) (h2 : badFrom L.length L 0 = none) (s : Int) : checkG s L = if plB s L.length = true then (0, 0) else (-1, 70) := by
  unfold checkG
  rw [if_neg (by omega), h2]
end Go.Proofs.YtepelpmkmhhokaaGreatDoor
