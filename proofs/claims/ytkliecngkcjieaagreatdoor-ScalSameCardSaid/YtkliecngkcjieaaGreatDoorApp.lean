/- A row of scalars is put behind what a call owns. Conditions: the row lies whole. -/
import Derived.Test.YtkliecngkcjieaaGreatDoorLst
set_option maxRecDepth 100000
namespace Go.Proofs.YtkliecngkcjieaaGreatDoor
open Go.RowKit Go.Shelf
open Scs
open Go.Sort (HoldsK)
theorem flat_cells {w : World} {blk off : Nat} {d : Array Sc} (h : HoldsK encS 3 w blk off d) (j : Nat) (u : Value) (hu : (flatS d.toList)[j]? = some u) : w.cell? ((⟨blk, off, none⟩ : Addr).add j) = some u := by
  have hj : j < d.size * 3 := by
    have h1 := (List.getElem?_eq_some_iff.1 hu).1
    rwa [flatS_len, Array.length_toList] at h1
  have h1 := flatS_get d.toList j (by rw [Array.length_toList]; exact hj)
  have h2 := h j (by rw [Go.Sort.size_flatK]; exact hj)
  rw [Go.Sort.get_flatK _ _ _ _ hj] at h2
  rw [Go.WideShapes.add_plain, h2.1]
  rw [hu] at h1
  rw [h1]
  congr 3
  simp [getElem!_def]
theorem flat_one (L : List Sc) : ∀ u ∈ flatS L, u.oneCell' = true := by
  intro u hu
  unfold flatS at hu
  obtain ⟨x, _, hx⟩ := List.mem_flatMap.1 hu
  simp only [encS, List.mem_cons, List.not_mem_nil, or_false] at hx
  rcases hx with rfl | rfl | rfl <;> rfl
theorem run_app (w : World) (base : Nat) (v : Value) (n : Nat) (xs : List Value) (hown : w.ownsRow base 23 3 v n xs) (p : Option Addr) (c m : Nat) (d : Array Sc) (hd : d.size = m) (hs : Sl w p d) (hp : p = none → c = 0) (hn : n ≤ 1000000) (hm : m ≤ 1000000) (hb : base ≤ w.heap.size) (ty : TypeId) :
    ∃ v' w', (Builtin.append_ #[34, 34] ty #[v, .slice p m c]).run Tryz.prog w = .ok v' w' ∧ w'.ownsRow base 23 3 v' (n + m) (xs ++ flatS d.toList) ∧ w.grownBy w' v.ownBlock := by
  obtain ⟨i0, hi, hz0, hz1, hz2⟩ := info_parts info23
  have hex : (∃ g o, p = some ⟨g, o, none⟩ ∧ HoldsK encS 3 w g o d) ∨ (p = none ∧ m = 0) ∨ (∃ a, p = some a ∧ m = 0) := by
    rcases hs.lies with h0 | ⟨g, o, rfl, _, hh⟩
    · cases p with
      | none => exact .inr (.inl ⟨rfl, by omega⟩)
      | some a => exact .inr (.inr ⟨a, rfl, by omega⟩)
    · exact .inl ⟨g, o, rfl, hh⟩
  rcases hex with ⟨g, o, rfl, hh⟩ | ⟨rfl, rfl⟩ | ⟨a, rfl, rfl⟩
  · obtain ⟨v', w', hr, h2, h3, _, _⟩ := run_append_own_at (P := Tryz.prog) w base 34 ty 23 i0 (.agg #[.int .i64 0, .int .i64 0, .string ⟨#[]⟩]) 3 32 Tryz.underlying34 hi hz0 hz1 hz2 rfl (by decide) v n xs hown ⟨g, o, none⟩ m c (flatS d.toList) (by rw [flatS_len, Array.length_toList, hd]) (flat_cells hh) (flat_one _) (by unfold maxLen; omega) (by omega) hb
    exact ⟨v', w', hr, h2, h3⟩
  · have hl : d.toList = [] := by rw [← List.length_eq_zero_iff, Array.length_toList]; exact hd
    rw [hp rfl, hl]
    refine ⟨v, w, ?_, by simpa [flatS] using hown, .refl _ _⟩
    rcases hown.2 with ⟨rfl, rfl⟩ | ⟨g, c', cur, rfl, _, _, hnc, _⟩
    · go_simp
    · go_simp
  · have hl : d.toList = [] := by rw [← List.length_eq_zero_iff, Array.length_toList]; exact hd
    rw [hl]
    obtain ⟨v', w', hr, h2, h3, _, _⟩ := run_append_own_at (P := Tryz.prog) w base 34 ty 23 i0 (.agg #[.int .i64 0, .int .i64 0, .string ⟨#[]⟩]) 3 32 Tryz.underlying34 hi hz0 hz1 hz2 rfl (by decide) v n xs hown a 0 c [] rfl (by simp) (by simp) (by unfold maxLen; omega) (by omega) hb
    exact ⟨v', w', hr, h2, h3⟩
theorem wpList_app {w : World} {ops : Array Oper} {rest : List Oper} {o : Oper} {a : Act} {Q : Exit → Act → World → Prop} (hgd : o.guard = none) (s x : Operand)
    (ho : o.op = .call { callee := .builtin .append, args := #[s, x], argTypes := #[34, 34] })
    (base : Nat) (v : Value) (n : Nat) (xs : List Value) (hs : a.eval s = v) (hown : w.ownsRow base 23 3 v n xs)
    (p : Option Addr) (c m : Nat) (d : Array Sc) (hx : a.eval x = .slice p m c) (hd : d.size = m) (hsl : Sl w p d) (hp : p = none → c = 0) (hn : n ≤ 1000000) (hm : m ≤ 1000000) (hb : base ≤ w.heap.size)
    (h : ∀ v' w', w'.ownsRow base 23 3 v' (n + m) (xs ++ flatS d.toList) → w.grownBy w' v.ownBlock → wpList Tryz.prog ops Q rest (a.put o.dst v') w') : wpList Tryz.prog ops Q (o :: rest) a w :=
  wpList_plain hgd fun _ hK => by
    obtain ⟨v', w', hr, h2, h3⟩ := run_app w base v n xs hown p c m d hd hsl hp hn hm hb o.type
    have hK' := hK _ _ (h v' w' h2 h3)
    unfold Oper.wp execOp
    simp only [ho, resolve, invoke, builtin, Sem.run_bind, Sem.run_pure, Result.andThen_ok, List.map_toArray, List.map_cons, List.map_nil, hs, hx, hr]
    exact hK'
end Go.Proofs.YtkliecngkcjieaaGreatDoor
