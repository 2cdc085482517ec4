/- A buffer's cells, read and written one by one. Conditions: the buffer lies in a block of its own. -/
import Derived.Test.YtjimpfcgcbbipaaDoorKeep
import Derived.Test.YtjimpfcgcbbipaaDoorIter
import Derived.Maps.AppendAt
namespace Go.Proofs.YtjimpfcgcbbipaaDoor
open Go.RowKit
open Rd Dg
theorem gB_of_below {w w' : World} (h : Below w.heap.size w w') (row : Option Nat) : w.grownBy w' row := ⟨h.os, h.tape, h.output, h.size, fun k hk _ => h.block k hk⟩
theorem gB_none {w w' : World} (h : w.grownBy w' none) (row : Option Nat) : w.grownBy w' row := ⟨h.os, h.tape, h.output, h.size, fun k hk _ => h.block k hk (by simp)⟩
theorem below_none {w w' : World} (h : w.grownBy w' none) : Below w.heap.size w w' := ⟨h.os, h.tape, h.output, h.size, fun k hk => h.block k hk (by simp)⟩
theorem eightB {w : World} {b : Nat} {T : TypeId} {s : St} {r : List Value} {n : Nat} (h : w.heap[b]? = some (.cells (bufA s r n) T (0, 0))) :
    (w.cell? ⟨b, 0, none⟩ = some (.int .i64 (U s.a)) ∧ w.cell? ⟨b, 1, none⟩ = some (.int .i64 (U s.b)) ∧ w.cell? ⟨b, 2, none⟩ = some (.int .i64 (U s.c)) ∧ w.cell? ⟨b, 3, none⟩ = some (.int .i64 (U s.d)) ∧ w.cell? ⟨b, 4, none⟩ = some (.int .i64 (U s.e)) ∧ w.cell? ⟨b, 5, none⟩ = some (.int .i64 (U s.f)) ∧ w.cell? ⟨b, 6, none⟩ = some (.int .i64 (U s.g)) ∧ w.cell? ⟨b, 7, none⟩ = some (.int .i64 (U s.h))) ∧
    (w.frozen? ⟨b, 0, none⟩ = false ∧ w.frozen? ⟨b, 1, none⟩ = false ∧ w.frozen? ⟨b, 2, none⟩ = false ∧ w.frozen? ⟨b, 3, none⟩ = false ∧ w.frozen? ⟨b, 4, none⟩ = false ∧ w.frozen? ⟨b, 5, none⟩ = false ∧ w.frozen? ⟨b, 6, none⟩ = false ∧ w.frozen? ⟨b, 7, none⟩ = false) := by
  have hc : ∀ j, j < 8 → w.cell? ⟨b, j, none⟩ = (stL s)[j]? := fun j hj => (cell_of_row w b j _ _ _ h).trans (bufA_state s r n j hj)
  have hf : ∀ j, w.frozen? ⟨b, j, none⟩ = false := fun j => frozen_of_row w b j _ _ h
  have h0 : w.cell? ⟨b, 0, none⟩ = some (.int .i64 (U s.a)) := by rw [hc 0 (by decide)]; rfl
  have h1 : w.cell? ⟨b, 1, none⟩ = some (.int .i64 (U s.b)) := by rw [hc 1 (by decide)]; rfl
  have h2 : w.cell? ⟨b, 2, none⟩ = some (.int .i64 (U s.c)) := by rw [hc 2 (by decide)]; rfl
  have h3 : w.cell? ⟨b, 3, none⟩ = some (.int .i64 (U s.d)) := by rw [hc 3 (by decide)]; rfl
  have h4 : w.cell? ⟨b, 4, none⟩ = some (.int .i64 (U s.e)) := by rw [hc 4 (by decide)]; rfl
  have h5 : w.cell? ⟨b, 5, none⟩ = some (.int .i64 (U s.f)) := by rw [hc 5 (by decide)]; rfl
  have h6 : w.cell? ⟨b, 6, none⟩ = some (.int .i64 (U s.g)) := by rw [hc 6 (by decide)]; rfl
  have h7 : w.cell? ⟨b, 7, none⟩ = some (.int .i64 (U s.h)) := by rw [hc 7 (by decide)]; rfl
  exact ⟨⟨h0, h1, h2, h3, h4, h5, h6, h7⟩, ⟨hf 0, hf 1, hf 2, hf 3, hf 4, hf 5, hf 6, hf 7⟩⟩
theorem setL {w : World} {b : Nat} {T : TypeId} {L : List Value} (j : Nat) (v : Value) (h : w.heap[b]? = some (.cells L.toArray T (0, 0))) :
    (w.setCell ⟨b, j, none⟩ v).heap[b]? = some (.cells (L.set j v).toArray T (0, 0)) := by
  rw [heap_setCell_same w b j _ T v h, List.setIfInBounds_toArray]
theorem set8 (s t : St) (r : List Value) (n : Nat) : (((((((((((((((((stL s ++ r ++ [Value.int .i64 (n : Int)])).set 0 (.int .i64 (U t.a)))).set 1 (.int .i64 (U t.b)))).set 2 (.int .i64 (U t.c)))).set 3 (.int .i64 (U t.d)))).set 4 (.int .i64 (U t.e)))).set 5 (.int .i64 (U t.f)))).set 6 (.int .i64 (U t.g)))).set 7 (.int .i64 (U t.h))) = stL t ++ r ++ [Value.int .i64 (n : Int)] := by
  simp only [stL, List.cons_append, List.nil_append, List.set_cons_zero, List.set_cons_succ]
theorem stored8B {w : World} {b : Nat} {T : TypeId} {s : St} {r : List Value} {n : Nat} (t : St) (h : w.heap[b]? = some (.cells (bufA s r n) T (0, 0))) :
    ((((((((w.setCell ⟨b, 0, none⟩ (.int .i64 (U t.a))).setCell ⟨b, 1, none⟩ (.int .i64 (U t.b))).setCell ⟨b, 2, none⟩ (.int .i64 (U t.c))).setCell ⟨b, 3, none⟩ (.int .i64 (U t.d))).setCell ⟨b, 4, none⟩ (.int .i64 (U t.e))).setCell ⟨b, 5, none⟩ (.int .i64 (U t.f))).setCell ⟨b, 6, none⟩ (.int .i64 (U t.g))).setCell ⟨b, 7, none⟩ (.int .i64 (U t.h))).heap[b]? = some (.cells (bufA t r n) T (0, 0)) := by
  have e := (setL 7 (.int .i64 (U t.h)) (setL 6 (.int .i64 (U t.g)) (setL 5 (.int .i64 (U t.f)) (setL 4 (.int .i64 (U t.e)) (setL 3 (.int .i64 (U t.d)) (setL 2 (.int .i64 (U t.c)) (setL 1 (.int .i64 (U t.b)) (setL 0 (.int .i64 (U t.a)) h))))))))
  rw [set8] at e
  exact e
theorem grown8 {w w' : World} (b : Nat) (h : w.grownBy w' (some b)) (v0 v1 v2 v3 v4 v5 v6 v7 : Value) : w.grownBy ((((((((w'.setCell ⟨b, 0, none⟩ v0).setCell ⟨b, 1, none⟩ v1).setCell ⟨b, 2, none⟩ v2).setCell ⟨b, 3, none⟩ v3).setCell ⟨b, 4, none⟩ v4).setCell ⟨b, 5, none⟩ v5).setCell ⟨b, 6, none⟩ v6).setCell ⟨b, 7, none⟩ v7) (some b) :=
  gB_setCell (gB_setCell (gB_setCell (gB_setCell (gB_setCell (gB_setCell (gB_setCell (gB_setCell h 0 v0) 1 v1) 2 v2) 3 v3) 4 v4) 5 v5) 6 v6) 7 v7
theorem storedN {w : World} {b : Nat} {T : TypeId} {s : St} {r : List Value} {n : Nat} (k : Nat) (hr : r.length = 64) (h : w.heap[b]? = some (.cells (bufA s r n) T (0, 0))) :
    (w.setCell ⟨b, 72, none⟩ (.int .i64 (k : Int))).heap[b]? = some (.cells (bufA s r k) T (0, 0)) := by
  rw [heap_setCell_same w b 72 _ T (.int .i64 (k : Int)) h]
  congr 3
  unfold bufA
  rw [List.setIfInBounds_toArray, List.set_append_right _ _ (by simp [stL, hr])]
  simp [stL, hr]
theorem stOf_nil (m : List UInt8) (h : m.length = 0) : stOf m (m.length / 64) = F0 := by rw [h]; rfl
end Go.Proofs.YtjimpfcgcbbipaaDoor
