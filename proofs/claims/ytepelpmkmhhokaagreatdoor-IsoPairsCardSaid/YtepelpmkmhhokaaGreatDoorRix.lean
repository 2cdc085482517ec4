/- The reference's place of a number among some. Conditions: the row lies. The reference's walk from a node: what it comes to, behind what was come to. Conditions: the graph is right, and lies. The reference tells a graph's walk, whether it is right, and where a path leads. Conditions: the graph lies. -/
import Derived.Test.YtepelpmkmhhokaaGreatDoorWdx
import Derived.Test.YtepelpmkmhhokaaGreatDoorRok
import Derived.Test.YtepelpmkmhhokaaGreatDoorRrx
import Derived.Deep.RegionHeld3
import Derived.Deep.RegionWith
import Derived.Deep.RegionLaw
import Derived.Deep.AppendLies
set_option maxRecDepth 100000
namespace Go.Proofs.YtepelpmkmhhokaaGreatDoor
open Go.RowKit Go.Shelf
open Scs Dfs
/-- the place of a number among some; below 0: it is none -/
def inI : List Int → Int → Int
  | [], _ => -1
  | y :: t, x => if y = x then 0 else if inI t x < 0 then -1 else inI t x + 1
theorem inI_neg : ∀ {l : List Int} {x : Int}, inI l x < 0 ↔ x ∉ l
  | [], x => by simp [inI]
  | y :: t, x => by
    have ih := inI_neg (l := t) (x := x)
    unfold inI
    by_cases e : y = x
    · rw [if_pos e]; simp [e]
    · rw [if_neg e]
      have hne : ¬ x = y := fun h => e h.symm
      by_cases h : inI t x < 0
      · rw [if_pos h]
        have := ih.1 h
        simp [this, hne]
      · rw [if_neg h]
        have h2 : x ∈ t := Classical.byContradiction fun hc => h (ih.2 hc)
        simp [h2]; omega
theorem inI_some : ∀ {l : List Int} {t : Nat} {x : Int}, (∀ j, j < t → l[j]? ≠ some x) → l[t]? = some x → inI l x = t
  | [], t, x, _, h => by simp at h
  | y :: l, 0, x, _, h => by simp at h; unfold inI; rw [if_pos h]; rfl
  | y :: l, t + 1, x, hb, h => by
    have h0 := hb 0 (by omega)
    have hne : ¬ y = x := fun e => h0 (by simp [e])
    have h' : l[t]? = some x := by simpa using h
    have ih := inI_some (l := l) (t := t) (x := x) (fun j hj => by have := hb (j + 1) (by omega); simpa using this) h'
    unfold inI
    rw [if_neg hne, ih, if_neg (by omega)]
    omega
theorem inI_none {l : List Int} {x : Int} (h : ∀ j, j < l.length → l[j]? ≠ some x) : inI l x = -1 := by
  have hn : x ∉ l := fun hm => by
    obtain ⟨j, hj, e⟩ := List.getElem_of_mem hm
    exact h j hj (by rw [List.getElem?_eq_getElem hj, e])
  have h1 := inI_neg.2 hn
  match l with
  | [] => rfl
  | y :: t =>
    unfold inI at h1 ⊢
    split at h1
    · omega
    · split at h1
      · rename_i h2 h3; rw [if_neg h2, if_pos h3]
      · omega
/-- among places -/
theorem inI_places {l : List Nat} {x : Nat} : inI (natI l) x = if x ∈ l then ((idx l x : Nat) : Int) else -1 := by
  by_cases h : x ∈ l
  · rw [if_pos h]
    obtain ⟨h1, h2⟩ := idx_lt h
    refine inI_some (fun j hj he => ?_) ?_
    · unfold natI at he
      rw [List.getElem?_map] at he
      cases hl : l[j]? with
      | none => rw [hl] at he; cases he
      | some y =>
        rw [hl] at he
        have hyx : y = x := by
          have h2 : (y : Int) = (x : Int) := by simpa using he
          omega
        subst hyx
        -- the first place of y is idx l y
        have : ∀ (l : List Nat) (j : Nat) (y : Nat), l[j]? = some y → idx l y ≤ j := by
          intro l
          induction l with
          | nil => intro j y h; simp at h
          | cons a t ih =>
            intro j y h
            unfold idx
            by_cases e : a = y
            · rw [if_pos e]; omega
            · rw [if_neg e]
              match j with
              | 0 => simp at h; exact absurd h e
              | j + 1 => have := ih j y (by simpa using h); omega
        have := this l j y hl
        omega
    · unfold natI
      rw [List.getElem?_map, h2]
      rfl
  · rw [if_neg h]
    refine inI_none fun j hj he => h ?_
    unfold natI at he
    rw [List.getElem?_map] at he
    cases hl : l[j]? with
    | none => rw [hl] at he; cases he
    | some y =>
      rw [hl] at he
      have hyx : y = x := by
        have h2 : (y : Int) = (x : Int) := by simpa using he
        omega
      subst hyx
      exact List.mem_of_getElem? hl
end Go.Proofs.YtepelpmkmhhokaaGreatDoor

set_option maxRecDepth 100000
namespace Go.Proofs.YtepelpmkmhhokaaGreatDoor
open Go.RowKit Go.Shelf
open Scs Dfs
/-- a row's block is that of the one before, or new -/
def OwnNext (b : Nat) (v v' : Value) : Prop := ∀ q, v'.ownBlock = some q → v.ownBlock = some q ∨ b ≤ q
theorem OwnNext.refl (b : Nat) (v : Value) : OwnNext b v v := fun _ h => .inl h
theorem OwnNext.trans {b b' : Nat} {u v x : Value} (h1 : OwnNext b u v) (h2 : OwnNext b' v x) (hb : b ≤ b') : OwnNext b u x := fun q hq => by
  rcases h2 q hq with h | h
  · exact h1 q h
  · exact .inr (Nat.le_trans hb h)
theorem grown_trans {w w' w'' : World} {r : Option Nat} {s : Option Nat} (h1 : w.grownBy w' r) (h2 : w'.grownBy w'' s) (hs : ∀ q, s = some q → r = some q ∨ w.heap.size ≤ q) : w.grownBy w'' r :=
  ⟨h2.os.trans h1.os, h2.tape.trans h1.tape, h2.output.trans h1.output, Nat.le_trans h1.size h2.size, fun k hk hne => (h2.block k (Nat.lt_of_lt_of_le hk h1.size) fun e => by
    rcases hs k e.symm with h | h
    · exact hne h.symm
    · omega).trans (h1.block k hk hne)⟩
theorem grown_below {w w' : World} (h : Below w.heap.size w w') (r : Option Nat) : w.grownBy w' r := ⟨h.os, h.tape, h.output, h.size, fun k hk _ => h.block k hk⟩
theorem below_ofgrown {w w' : World} {b : Nat} {r : Option Nat} (h : w.grownBy w' r) (hb : b ≤ w.heap.size) (hr : ∀ q, r = some q → b ≤ q) : Below b w w' :=
  ⟨h.os, h.tape, h.output, h.size, fun k hk => h.block k (by omega) fun e => by have := hr k e.symm; omega⟩
theorem ownI_grown {W W' : World} {b T k n : Nat} {v : Value} {xs : List Value} {r : Option Nat} (h : W.ownsRow b T k v n xs) (hg : W.grownBy W' r) (hne : ∀ q, v.ownBlock = some q → r ≠ some q) : W'.ownsRow b T k v n xs :=
  own_keepG h fun q hq => hg.block q (own_lt h q hq).2 fun e => hne q hq e.symm
theorem kn_kidsG {L : Array Fn} {i : Nat} (hi : i < L.size) : kidsG L i = (kidsOf L[i]!, 0) := kids_yes hi
theorem kids_natI {L : Array Fn} (hb : badFrom L.size L.toList 0 = none) {i : Nat} (hi : i < L.size) : kidsOf L[i]! = natI (KN L i) := by
  unfold natI KN
  rw [List.map_map]
  have : (kidsOf L[i]!).map ((fun (n : Nat) => (n : Int)) ∘ Int.toNat) = (kidsOf L[i]!).map id := List.map_congr_left fun z hz => by
    have := kidsOf_mem (right_at hb hi) z hz
    simp; omega
  rw [this, List.map_id]
end Go.Proofs.YtepelpmkmhhokaaGreatDoor

set_option maxRecDepth 100000
namespace Go.Proofs.YtepelpmkmhhokaaGreatDoor
open Go.RowKit Go.Shelf
open Scs Dfs
/-- a graph's walk, or its error -/
def walkG (root : Int) (L : Array Fn) : List Nat × Int := if (checkG root L.toList).2 = 0 then (wk L root.toNat, 0) else ([], (checkG root L.toList).2)
theorem check_right {root : Int} {L : Array Fn} (h : (checkG root L.toList).2 = 0) : badFrom L.size L.toList 0 = none ∧ root = (root.toNat : Int) ∧ root.toNat < L.size ∧ L.size ≤ 200 := by
  obtain ⟨h1, h2, h3⟩ := check_ok h
  rw [Array.length_toList] at h1 h2 h3
  have := plB_iff.1 h3
  exact ⟨h2, by omega, by omega, h1⟩
theorem walkG_len (root : Int) (L : Array Fn) : (walkG root L).1.length ≤ L.size := by
  unfold walkG
  by_cases h : (checkG root L.toList).2 = 0
  · rw [if_pos h]
    obtain ⟨hb, _, hr, _⟩ := check_right h
    exact few_len _ _ (walk_went (KN_lt hb) hr).few
  · rw [if_neg h]; exact Nat.zero_le _
end Go.Proofs.YtepelpmkmhhokaaGreatDoor
