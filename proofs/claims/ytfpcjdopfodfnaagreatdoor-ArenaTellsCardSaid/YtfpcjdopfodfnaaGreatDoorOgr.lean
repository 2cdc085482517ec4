/- A graph that comes in is some nodes, each with its keys and kids. Conditions: none. -/
import Derived.Test.YtfpcjdopfodfnaaGreatDoorDoo
import Derived.Test.YtfpcjdopfodfnaaGreatDoorAcx
import Derived.Lib.SmallJoins
import Derived.Deep.Slices
set_option maxRecDepth 100000
namespace Go.Proofs.YtfpcjdopfodfnaaGreatDoor
open Go.ChangeShapes Go.WideShapes Go.ChangeAt Go.RowKit Go.Shelf
open Scs
variable {H : Type} {enc : TypeId × Value → H} {W : World}
theorem sl_read {fuel : Nat} {c : Value} {x : DataW H × List MemPlace} (hf : DataW.trod enc Tryz.prog W 0 (fun _ => true) true fuel 36 [c] = some x) : ∃ a cap, ∃ l : Array Sc, c = .slice a l.size cap ∧ SlR W a l := by
  have hc3 : Tryz.prog.cellsOf 26 = 3 := by kernel_rfl
  have hc1 : Tryz.prog.cellsOf 3 = 1 := by kernel_rfl
  have hc9 : Tryz.prog.cellsOf 9 = 1 := by kernel_rfl
  rcases Deep.open_slice Tryz.underlying36 hf with ⟨hcs, _⟩ | ⟨a, len', cap', m, n, D, Pl, hcs, _, hl, _, hm, _, hi⟩
  · cases hcs
    exact ⟨none, 0, #[], rfl, fun i hi => absurd hi (Nat.not_lt_zero _)⟩
  · cases hcs
    simp only [if_true] at hm
    have key : ∀ i, i < len' → ∃ x : Sc, W.cell? (a.add (i * 3)) = some (.int .i64 x.1) ∧ W.cell? ((a.add (i * 3)).add 1) = some (.int .i64 x.2.1) ∧ W.cell? ((a.add (i * 3)).add 2) = some (.string x.2.2) := fun i hlt => by
      obtain ⟨cs, hc, ht⟩ := hi i (by omega)
      rw [hc3] at hc
      obtain ⟨_, hlen, hat⟩ := World.cells?_some hc
      obtain ⟨y0, y1, y2, n', _, _, g0, g1, g2⟩ := Deep.trod_struct3 Tryz.underlying26 ht
      match cs, hlen with
      | [u0, u1, u2], _ =>
        have g0' : DataW.trod enc Tryz.prog W 0 (fun _ => true) true n' 3 ([u0, u1, u2].take (Tryz.prog.cellsOf 3)) = some y0 := g0
        have g1' : DataW.trod enc Tryz.prog W 0 (fun _ => true) true n' 3 ([u1, u2].take (Tryz.prog.cellsOf 3)) = some y1 := g1
        have g2' : DataW.trod enc Tryz.prog W 0 (fun _ => true) true n' 9 ([u2].take (Tryz.prog.cellsOf 9)) = some y2 := g2
        rw [hc1] at g0' g1'
        rw [hc9] at g2'
        obtain ⟨z0, q0, _⟩ := DataW.trod_int Tryz.underlying3 g0'
        obtain ⟨z1, q1, _⟩ := DataW.trod_int Tryz.underlying3 g1'
        obtain ⟨z2, q2, _⟩ := DataW.trod_string Tryz.underlying9 g2'
        simp only [List.take_succ_cons, List.take_zero, List.cons.injEq, and_true] at q0 q1 q2
        subst q0 q1 q2
        exact ⟨(z0, z1, z2), by simpa [Addr.add] using hat 0 (by decide), by simpa using hat 1 (by decide), by simpa using hat 2 (by decide)⟩
    obtain ⟨X, hX⟩ := Deep.choose_lt key
    have hsz : (Array.ofFn fun i : Fin len' => X i.1).size = len' := Array.size_ofFn
    refine ⟨some a, cap', Array.ofFn fun i : Fin len' => X i.1, by rw [hsz], fun i hi => ?_⟩
    rw [hsz] at hi
    obtain ⟨c0, c1, c2⟩ := hX i hi
    have hz := (hX 0 (by omega)).1
    have he : (Array.ofFn fun i : Fin len' => X i.1)[i]! = X i := by rw [getElem!_pos _ i (by rw [hsz]; exact hi)]; simp
    rw [he]
    obtain ⟨b, off, spot⟩ := a
    have hs : spot = none := by simpa [Addr.add] using World.cell?_spot hz
    subst hs
    rw [Go.WideShapes.add_plain] at c0
    rw [Go.WideShapes.add_plain, Go.WideShapes.add_plain] at c1 c2
    exact ⟨b, off, rfl, block_lt_of_cell c0, c0, c1, c2⟩
theorem il_read {fuel : Nat} {c : Value} {x : DataW H × List MemPlace} (hf : DataW.trod enc Tryz.prog W 0 (fun _ => true) true fuel 33 [c] = some x) : ∃ a cap, ∃ l : Array Int, c = .slice a l.size cap ∧ IlR W a l := by
  have hc1 : Tryz.prog.cellsOf 3 = 1 := by kernel_rfl
  rcases Deep.open_slice Tryz.underlying33 hf with ⟨hcs, _⟩ | ⟨a, len', cap', m, n, D, Pl, hcs, _, hl, _, hm, _, hi⟩
  · cases hcs
    exact ⟨none, 0, #[], rfl, fun i hi => absurd hi (Nat.not_lt_zero _)⟩
  · cases hcs
    simp only [if_true] at hm
    have key : ∀ i, i < len' → ∃ z : Int, W.cell? (a.add i) = some (.int .i64 z) := fun i hlt => by
      obtain ⟨cs, hc, ht⟩ := hi i (by omega)
      rw [hc1, Nat.mul_one] at hc
      obtain ⟨_, hlen, hat⟩ := World.cells?_some hc
      obtain ⟨z0, q0, _⟩ := DataW.trod_int Tryz.underlying3 ht
      subst q0
      exact ⟨z0, by simpa [Addr.add] using hat 0 (by decide)⟩
    obtain ⟨X, hX⟩ := Deep.choose_lt key
    have hsz : (Array.ofFn fun i : Fin len' => X i.1).size = len' := Array.size_ofFn
    refine ⟨some a, cap', Array.ofFn fun i : Fin len' => X i.1, by rw [hsz], fun i hi => ?_⟩
    rw [hsz] at hi
    have c0 := hX i hi
    have hz := hX 0 (by omega)
    have he : (Array.ofFn fun i : Fin len' => X i.1)[i]! = X i := by rw [getElem!_pos _ i (by rw [hsz]; exact hi)]; simp
    rw [he]
    obtain ⟨b, off, spot⟩ := a
    have hs : spot = none := by simpa [Addr.add] using World.cell?_spot hz
    subst hs
    rw [Go.WideShapes.add_plain] at c0
    exact ⟨b, off, rfl, block_lt_of_cell c0, c0⟩
theorem gl_read {fuel : Nat} {c : Value} {x : DataW H × List MemPlace} (hf : DataW.trod enc Tryz.prog W 0 (fun _ => true) true fuel 22 [c] = some x) : ∃ a cap, ∃ L : Array Fn, c = .slice a L.size cap ∧ GlR W a L := by
  have hc6 : Tryz.prog.cellsOf 47 = 6 := by kernel_rfl
  have hc3 : Tryz.prog.cellsOf 26 = 3 := by kernel_rfl
  have hc1 : Tryz.prog.cellsOf 3 = 1 := by kernel_rfl
  have hc9 : Tryz.prog.cellsOf 9 = 1 := by kernel_rfl
  have hc36 : Tryz.prog.cellsOf 36 = 1 := by kernel_rfl
  have hc33 : Tryz.prog.cellsOf 33 = 1 := by kernel_rfl
  rcases Deep.open_slice Tryz.underlying22 hf with ⟨hcs, _⟩ | ⟨a, len', cap', m, n, D, Pl, hcs, _, hl, _, hm, _, hi⟩
  · cases hcs
    exact ⟨none, 0, #[], rfl, fun i hi => absurd hi (Nat.not_lt_zero _)⟩
  · cases hcs
    simp only [if_true] at hm
    have key : ∀ i, i < len' → ∃ f : Fn, (W.cell? (a.add (i * 6)) = some (.int .i64 f.k) ∧ W.cell? ((a.add (i * 6)).add 1) = some (.int .i64 f.x.1) ∧ W.cell? ((a.add (i * 6)).add 2) = some (.int .i64 f.x.2.1) ∧ W.cell? ((a.add (i * 6)).add 3) = some (.string f.x.2.2) ∧
        W.cell? ((a.add (i * 6)).add 4) = some (.slice f.pk f.keys.size f.ck) ∧ W.cell? ((a.add (i * 6)).add 5) = some (.slice f.pd f.kids.size f.cd)) ∧ SlR W f.pk f.keys ∧ IlR W f.pd f.kids := fun i hlt => by
      obtain ⟨cs, hc, ht⟩ := hi i (by omega)
      rw [hc6] at hc
      obtain ⟨_, hlen, hat⟩ := World.cells?_some hc
      obtain ⟨y0, y1, y2, y3, n', _, _, g0, g1, g2, g3⟩ := Go.Joins.trod_struct4 Tryz.underlying47 ht
      match cs, hlen with
      | [u0, u1, u2, u3, u4, u5], _ =>
        have g0' : DataW.trod enc Tryz.prog W 0 (fun _ => true) true n' 3 ([u0, u1, u2, u3, u4, u5].take (Tryz.prog.cellsOf 3)) = some y0 := g0
        have g1' : DataW.trod enc Tryz.prog W 0 (fun _ => true) true n' 26 ([u1, u2, u3, u4, u5].take (Tryz.prog.cellsOf 26)) = some y1 := g1
        have g2' : DataW.trod enc Tryz.prog W 0 (fun _ => true) true n' 36 ([u4, u5].take (Tryz.prog.cellsOf 36)) = some y2 := g2
        have g3' : DataW.trod enc Tryz.prog W 0 (fun _ => true) true n' 33 ([u5].take (Tryz.prog.cellsOf 33)) = some y3 := g3
        rw [hc1] at g0'
        rw [hc3] at g1'
        rw [hc36] at g2'
        rw [hc33] at g3'
        obtain ⟨z0, q0, _⟩ := DataW.trod_int Tryz.underlying3 g0'
        obtain ⟨v0, v1, v2, n2, _, _, t0, t1, t2⟩ := Deep.trod_struct3 Tryz.underlying26 g1'
        have t0' : DataW.trod enc Tryz.prog W 0 (fun _ => true) true n2 3 ([u1, u2, u3].take (Tryz.prog.cellsOf 3)) = some v0 := t0
        have t1' : DataW.trod enc Tryz.prog W 0 (fun _ => true) true n2 3 ([u2, u3].take (Tryz.prog.cellsOf 3)) = some v1 := t1
        have t2' : DataW.trod enc Tryz.prog W 0 (fun _ => true) true n2 9 ([u3].take (Tryz.prog.cellsOf 9)) = some v2 := t2
        rw [hc1] at t0' t1'
        rw [hc9] at t2'
        obtain ⟨w0, p0, _⟩ := DataW.trod_int Tryz.underlying3 t0'
        obtain ⟨w1, p1, _⟩ := DataW.trod_int Tryz.underlying3 t1'
        obtain ⟨w2, p2, _⟩ := DataW.trod_string Tryz.underlying9 t2'
        obtain ⟨pk, ck, ks, rfl, hks⟩ := sl_read (c := u4) (by simpa using g2')
        obtain ⟨pd, cd, ds, rfl, hds⟩ := il_read (c := u5) (by simpa using g3')
        simp only [List.take_succ_cons, List.take_zero, List.cons.injEq, and_true] at q0 p0 p1 p2
        subst q0 p0 p1 p2
        exact ⟨⟨z0, (w0, w1, w2), pk, ck, ks, pd, cd, ds⟩, ⟨by simpa [Addr.add] using hat 0 (by decide), by simpa using hat 1 (by decide), by simpa using hat 2 (by decide), by simpa using hat 3 (by decide), by simpa using hat 4 (by decide), by simpa using hat 5 (by decide)⟩, hks, hds⟩
    obtain ⟨X, hX⟩ := Deep.choose_lt key
    have hsz : (Array.ofFn fun i : Fin len' => X i.1).size = len' := Array.size_ofFn
    refine ⟨some a, cap', Array.ofFn fun i : Fin len' => X i.1, by rw [hsz], fun i hi => ?_⟩
    rw [hsz] at hi
    obtain ⟨⟨c0, c1, c2, c3, c4, c5⟩, hk, hd⟩ := hX i hi
    have hz := (hX 0 (by omega)).1.1
    have he : (Array.ofFn fun i : Fin len' => X i.1)[i]! = X i := by rw [getElem!_pos _ i (by rw [hsz]; exact hi)]; simp
    rw [he]
    obtain ⟨b, off, spot⟩ := a
    have hs : spot = none := by simpa [Addr.add] using World.cell?_spot hz
    subst hs
    rw [Go.WideShapes.add_plain] at c0
    rw [Go.WideShapes.add_plain, Go.WideShapes.add_plain] at c1 c2 c3 c4 c5
    exact ⟨b, off, rfl, block_lt_of_cell c0, c0, c1, c2, c3, c4, c5, hk, hd⟩
/-- a graph that comes in -/
theorem open_graph {r : Reach} {b0 : Nat} {v : Value} {d : DataW H} {p : List MemPlace} (hv : Value.okWide Tryz.prog W r b0 24 v) (h : DataW.Trod enc Tryz.prog W 0 (fun _ => true) true 24 v d p) :
    ∃ (root : Int) (a : Option Addr) (cap : Nat) (L : Array Fn), v = .agg #[.int .i64 root, .slice a L.size cap] ∧ GlR W a L := by
  obtain ⟨c0, c1, y0, y1, m, rfl, _, _, h0, h1⟩ := Go.Joins.open_agg2 Tryz.underlying24 (by kernel_rfl) (by kernel_rfl) hv h
  obtain ⟨z0, q0, _⟩ := DataW.trod_int Tryz.underlying3 h0
  obtain ⟨a, cap, L, rfl, hL⟩ := gl_read h1
  simp only [List.cons.injEq, and_true] at q0
  subst q0
  exact ⟨z0, a, cap, L, rfl, hL⟩
end Go.Proofs.YtfpcjdopfodfnaaGreatDoor
