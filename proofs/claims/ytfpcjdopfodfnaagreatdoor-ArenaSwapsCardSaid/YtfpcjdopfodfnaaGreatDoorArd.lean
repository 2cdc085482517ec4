/- Graphs as they lie: their nodes, and those nodes' keys and kids. Conditions: none. -/
import Derived.Test.YtfpcjdopfodfnaaGreatDoorRtw
set_option maxRecDepth 100000
namespace Go.Proofs.YtfpcjdopfodfnaaGreatDoor
open Go.RowKit Go.Shelf
open Scs
open Go.Sort (HoldsK)
/-- a node as it lies: its kind, its scalar, the slices of its keys and of its kids, and what they hold -/
structure Fn where
  k : Int
  x : Sc
  pk : Option Addr
  ck : Nat
  keys : Array Sc
  pd : Option Addr
  cd : Nat
  kids : Array Int
instance : Inhabited Fn := ⟨⟨0, (0, 0, .empty), none, 0, #[], none, 0, #[]⟩⟩
def encF (f : Fn) : List Value := [.int .i64 f.k, .int .i64 f.x.1, .int .i64 f.x.2.1, .string f.x.2.2, .slice f.pk f.keys.size f.ck, .slice f.pd f.kids.size f.cd]
/-- numbers in a row -/
structure Il (w : World) (p : Option Addr) (l : Array Int) : Prop where
  small : l.size ≤ 1000000
  lies : l.size = 0 ∨ ∃ blk off, p = some ⟨blk, off, none⟩ ∧ blk < w.heap.size ∧ ∀ i, i < l.size → w.cell? ⟨blk, off + i, none⟩ = some (.int .i64 l[i]!)
theorem Il.below {w w' : World} {p : Option Addr} {l : Array Int} (h : Il w p l) (hb : Below w.heap.size w w') : Il w' p l := by
  refine ⟨h.small, ?_⟩
  rcases h.lies with h0 | ⟨blk, off, hp, hbl, hH⟩
  · exact .inl h0
  · exact .inr ⟨blk, off, hp, Nat.lt_of_lt_of_le hbl hb.size, fun i hi => (hb.cell (p := ⟨blk, off + i, none⟩) hbl).trans (hH i hi)⟩
theorem Il.at {w : World} {p : Option Addr} {l : Array Int} (h : Il w p l) (i : Nat) (hi : i < l.size) :
    ∃ blk off, p = some ⟨blk, off, none⟩ ∧ blk < w.heap.size ∧ w.cell? ⟨blk, off + i, none⟩ = some (.int .i64 l[i]!) := by
  rcases h.lies with h0 | ⟨blk, off, hp, hbl, hH⟩
  · omega
  · exact ⟨blk, off, hp, hbl, hH i hi⟩
/-- a node's keys and kids lie -/
structure Nl (w : World) (f : Fn) : Prop where
  xs : f.x.2.2.size ≤ 1000000
  ks : Sl w f.pk f.keys
  ds : Il w f.pd f.kids
theorem Nl.below {w w' : World} {f : Fn} (h : Nl w f) (hb : Below w.heap.size w w') : Nl w' f := ⟨h.xs, h.ks.below hb, h.ds.below hb⟩
/-- nodes in a row, each with its keys and kids -/
structure Gl (w : World) (p : Option Addr) (L : Array Fn) : Prop where
  small : L.size ≤ 1000000
  nodes : ∀ t, t < L.size → Nl w L[t]!
  lies : L.size = 0 ∨ ∃ blk off, p = some ⟨blk, off, none⟩ ∧ blk < w.heap.size ∧ HoldsK encF 6 w blk off L
theorem Gl.below {w w' : World} {p : Option Addr} {L : Array Fn} (h : Gl w p L) (hb : Below w.heap.size w w') : Gl w' p L := by
  refine ⟨h.small, fun t ht => (h.nodes t ht).below hb, ?_⟩
  rcases h.lies with h0 | ⟨blk, off, hp, hbl, hH⟩
  · exact .inl h0
  · exact .inr ⟨blk, off, hp, Nat.lt_of_lt_of_le hbl hb.size, fun j hj => ⟨(World.cell?_of_block (w := w) (hb.block blk hbl)).trans (hH j hj).1, (World.frozen?_of_block (w := w) (hb.block blk hbl)).trans (hH j hj).2⟩⟩
theorem Gl.at {w : World} {p : Option Addr} {L : Array Fn} (h : Gl w p L) (t : Nat) (ht : t < L.size) :
    ∃ blk off, p = some ⟨blk, off, none⟩ ∧ blk < w.heap.size ∧ w.cell? ⟨blk, off + t * 6, none⟩ = some (.int .i64 L[t]!.k) ∧ w.cell? ⟨blk, off + t * 6 + 1, none⟩ = some (.int .i64 L[t]!.x.1) ∧
      w.cell? ⟨blk, off + t * 6 + 2, none⟩ = some (.int .i64 L[t]!.x.2.1) ∧ w.cell? ⟨blk, off + t * 6 + 3, none⟩ = some (.string L[t]!.x.2.2) ∧
      w.cell? ⟨blk, off + t * 6 + 4, none⟩ = some (.slice L[t]!.pk L[t]!.keys.size L[t]!.ck) ∧ w.cell? ⟨blk, off + t * 6 + 5, none⟩ = some (.slice L[t]!.pd L[t]!.kids.size L[t]!.cd) := by
  rcases h.lies with h0 | ⟨blk, off, hp, hbl, hH⟩
  · omega
  · exact ⟨blk, off, hp, hbl, (hH.cell (c := 0) ht (by decide)).1, (hH.cell (c := 1) ht (by decide)).1, (hH.cell (c := 2) ht (by decide)).1, (hH.cell (c := 3) ht (by decide)).1, (hH.cell (c := 4) ht (by decide)).1, (hH.cell (c := 5) ht (by decide)).1⟩
theorem ret_bool {a b : Bool} (h : a = b) : Ending.returned (.bool a) = Ending.returned (.bool b) := by rw [h]
/-- is a number the place of one of so many? -/
def plB (i n : Int) : Bool := if 0 ≤ i then decide (i < n) else false
theorem plB_iff {i n : Int} : plB i n = true ↔ 0 ≤ i ∧ i < n := by
  unfold plB
  split <;> simp <;> omega
theorem isPlace_any (i n : Int) (w : World) : Calls Tryz.prog 40 #[.int .i64 i, .int .i64 n] w fun e w' => e = .returned (.bool (plB i n)) ∧ w' = w := by
  unfold plB
  by_cases h : 0 ≤ i
  all_goals
    first | rw [if_pos h] | rw [if_neg h]
    go_enter Tryz.func40, Tryz.ntmps40
    go_wp2_with fail
    all_goals
      go_ret
      refine ⟨ret_bool ?_, rfl⟩
      simp [*] <;> omega
end Go.Proofs.YtfpcjdopfodfnaaGreatDoor
