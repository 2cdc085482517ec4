/- A row of scalars that is handed in is some scalars; the statements' own calls on rows. Conditions: the rows lie whole. -/
import Derived.Test.YtkliecngkcjieaaGreatDoorRsr
import Derived.Test.YtkliecngkcjieaaGreatDoorDoor
import Derived.Test.YtkliecngkcjieaaGreatDoorOsc
import Derived.Deep.Slices
set_option maxRecDepth 100000
namespace Go.Proofs.YtkliecngkcjieaaGreatDoor
open Go.ChangeShapes Go.WideShapes Go.ChangeAt Go.RowKit Go.Shelf
open Scs
open Go.Sort (HoldsK)
theorem list_arg {H : Type} {enc : TypeId × Value → H} {W : World} {a0 : Option Addr} {len cap : Nat} {d0 : DataW H} {p : List MemPlace}
    (h0 : DataW.Trod enc Tryz.prog W 0 (fun _ => true) true 34 (.slice a0 len cap) d0 p) :
    ∃ X : Nat → Sc, ∀ i, i < len → ∃ g o, a0 = some ⟨g, o, none⟩ ∧ g < W.heap.size ∧ W.cell? ⟨g, o + i * 3, none⟩ = some (.int .i64 (X i).1) ∧ W.cell? ⟨g, o + i * 3 + 1, none⟩ = some (.int .i64 (X i).2.1) ∧ W.cell? ⟨g, o + i * 3 + 2, none⟩ = some (.string (X i).2.2) := by
  obtain ⟨fuel, hf⟩ := h0
  have hc3 : Tryz.prog.cellsOf 23 = 3 := by kernel_rfl
  have hc1 : Tryz.prog.cellsOf 3 = 1 := by kernel_rfl
  have hc9 : Tryz.prog.cellsOf 9 = 1 := by kernel_rfl
  rcases Deep.open_slice Tryz.underlying34 hf with ⟨hcs, _⟩ | ⟨a, len', cap', m, n, D, Pl, hcs, _, hl, _, hm, _, hi⟩
  · simp [Value.cells] at hcs
    obtain ⟨rfl, rfl, rfl⟩ := hcs
    exact ⟨fun _ => (0, 0, .empty), fun i hi => by omega⟩
  · simp [Value.cells] at hcs
    obtain ⟨rfl, rfl, rfl⟩ := hcs
    simp only [if_true] at hm
    have key : ∀ i, i < len → ∃ x : Sc, W.cell? (a.add (i * 3)) = some (.int .i64 x.1) ∧ W.cell? ((a.add (i * 3)).add 1) = some (.int .i64 x.2.1) ∧ W.cell? ((a.add (i * 3)).add 2) = some (.string x.2.2) := fun i hlt => by
      obtain ⟨cs, hc, ht⟩ := hi i (by omega)
      rw [hc3] at hc
      obtain ⟨_, hlen, hat⟩ := World.cells?_some hc
      obtain ⟨y0, y1, y2, n', _, _, g0, g1, g2⟩ := Deep.trod_struct3 Tryz.underlying23 ht
      match cs, hlen with
      | [u0, u1, u2], _ =>
        have g0' : DataW.trod enc Tryz.prog W 0 (fun _ => true) true n' 3 ([u0, u1, u2].take (Tryz.prog.cellsOf 3)) = some y0 := g0
        have g1' : DataW.trod enc Tryz.prog W 0 (fun _ => true) true n' 3 ([u1, u2].take (Tryz.prog.cellsOf 3)) = some y1 := g1
        have g2' : DataW.trod enc Tryz.prog W 0 (fun _ => true) true n' 9 ([u2].take (Tryz.prog.cellsOf 9)) = some y2 := g2
        rw [hc1] at g0' g1'
        rw [hc9] at g2'
        obtain ⟨z0, q0, _⟩ := DataW.trod_int Tryz.underlying3 g0'
        obtain ⟨z1, q1, _⟩ := DataW.trod_int Tryz.underlying3 g1'
        obtain ⟨z2, q2, _⟩ := DataW.trod_string Tryz.underlying9 g2'
        simp only [List.take_succ_cons, List.take_zero, List.cons.injEq, and_true] at q0 q1 q2
        subst q0 q1 q2
        exact ⟨(z0, z1, z2), by simpa [Addr.add] using hat 0 (by decide), by simpa using hat 1 (by decide), by simpa using hat 2 (by decide)⟩
    obtain ⟨X, hX⟩ := Deep.choose_lt key
    refine ⟨X, fun i hlt => ?_⟩
    obtain ⟨c0, c1, c2⟩ := hX i hlt
    obtain ⟨b, off, spot⟩ := a
    have hs : spot = none := by simpa [Addr.add] using World.cell?_spot (hX 0 (by omega)).1
    subst hs
    rw [Go.WideShapes.add_plain] at c0
    rw [Go.WideShapes.add_plain, Go.WideShapes.add_plain] at c1 c2
    exact ⟨b, off, rfl, block_lt_of_cell c0, c0, c1, c2⟩
theorem sort_short {d : Array Sc} (hz : ∀ t, t < d.size → d[t]!.2.2.size ≤ 1000000) : ∀ t, t < (sortSc d.toList).length → (sortSc d.toList).toArray[t]!.2.2.size ≤ 1000000 :=
  short_mem hz fun _ hx => (sort_perm _).mem_iff.1 hx
theorem sort_size (d : Array Sc) : (sortSc d.toList).toArray.size = d.size := by rw [List.size_toArray, sort_length, Array.length_toList]
theorem Sort22 (d : Array Sc) (p : Option Addr) (cap n : Nat) (hn : d.size = n) (w : World) (hs : Sl w p d) :
    Calls Tryz.prog 22 #[.slice p n cap] w fun e w' => ∃ q c, e = .returned (.slice q n c) ∧ Sl w' q (sortSc d.toList).toArray ∧ Below w.heap.size w w' := by
  subst hn
  refine (Sort_any d p cap w hs).mono ?_
  rintro e w' ⟨g, c, rfl, _, hg, hh, hb⟩
  exact ⟨_, _, rfl, ⟨by rw [sort_size]; exact hs.small, fun t ht => sort_short hs.short t (by simpa using ht), .inr ⟨g, 0, rfl, hg, hh⟩⟩, hb⟩
theorem Sort23 (d : Array Sc) (p : Option Addr) (cap n : Nat) (hn : d.size = n) (w : World) (hs : Sl w p d) :
    Calls Tryz.prog 23 #[.slice p n cap] w fun e w' => ∃ q c, e = .returned (.slice q n c) ∧ Sl w' q (sortSc d.toList).toArray ∧ Below w.heap.size w w' := by
  subst hn
  refine (Sort_ref d p cap w hs).mono ?_
  rintro e w' ⟨v, rfl, ho, hb⟩
  obtain ⟨q, c, rfl, hsl⟩ := sl_own ho (by rw [sort_length, Array.length_toList]) hs.small (sort_short hs.short)
  exact ⟨q, c, rfl, hsl, hb⟩
theorem Same21 (d : Array Sc) (p q : Option Addr) (c1 c2 n m : Nat) (hn : d.size = n) (hm : d.size = m) (w : World) (hp : Sl w p d) (hq : Sl w q d) :
    Calls Tryz.prog 21 #[.slice p n c1, .slice q m c2] w fun e w' => e = .returned (.bool true) ∧ Below w.heap.size w w' := by
  subst hn hm
  exact Same_yes d p q c1 c2 w hp hq
theorem Twice24 (d : Array Sc) (p : Option Addr) (cap n : Nat) (hn : d.size = n) (w : World) (hs : Sl w p d) :
    Calls Tryz.prog 24 #[.slice p n cap] w fun e w' => e = .returned (.bool (twiceB d.toList)) ∧ Below w.heap.size w w' := by
  subst hn
  exact Twice_any d p cap w hs
theorem Twice25 (d : Array Sc) (p : Option Addr) (cap n : Nat) (hn : d.size = n) (w : World) (hs : Sl w p d) :
    Calls Tryz.prog 25 #[.slice p n cap] w fun e w' => e = .returned (.bool (twiceB d.toList)) ∧ Below w.heap.size w w' := by
  subst hn
  exact Twice_ref d p cap w hs
/-- a few of what was handed in, as the statements take them -/
theorem Few20 (a : Option Addr) (len cap : Nat) (X : Nat → Sc) (w : World)
    (hV : ∀ i, i < len → ∃ g o, a = some ⟨g, o, none⟩ ∧ g < w.heap.size ∧ w.cell? ⟨g, o + i * 3, none⟩ = some (.int .i64 (X i).1) ∧ w.cell? ⟨g, o + i * 3 + 1, none⟩ = some (.int .i64 (X i).2.1) ∧ w.cell? ⟨g, o + i * 3 + 2, none⟩ = some (.string (X i).2.2)) :
    Calls Tryz.prog 20 #[.slice a len cap] w fun e w' => ∃ p n c, ∃ d : Array Sc, e = .returned (.slice p n c) ∧ d.size = n ∧ n ≤ 30 ∧ (p = none → c = 0) ∧ Sl w' p d ∧ (∀ t, t < d.size → d[t]!.2.2.size ≤ 100) ∧ Below w.heap.size w w' := by
  refine (Few_ok a len cap X w hV).mono ?_
  rintro e w' ⟨v, n, rfl, hn, ho, hb⟩
  have hl := fewL_len X n
  have hs := fewL_short X n
  have hnil : ∀ p c, v = .slice p n c → p = none → c = 0 := by
    rintro p c rfl rfl
    rcases ho.2 with ⟨h1, _⟩ | ⟨g, c', cur, hv, _⟩
    · injection h1 with _ _ h3
    · injection hv with h3 _ _; cases h3
  obtain ⟨p, c, rfl, hsl⟩ := sl_own ho hl.symm (by omega) (fun t ht => Nat.le_trans (hs t (by omega)) (by decide))
  exact ⟨p, n, c, _, rfl, by rw [List.size_toArray, hl], hn, hnil p c rfl, hsl, fun t ht => hs t (by rw [List.size_toArray, hl] at ht; exact ht), hb⟩
end Go.Proofs.YtkliecngkcjieaaGreatDoor
