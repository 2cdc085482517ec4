/- A scalar's box tells its fields; what is stored there stands there. Conditions: none. -/
import Derived.Test.YtkliecngkcjieaaGreatDoorCut
import Derived.Test.YtkliecngkcjieaaGreatDoorScl
set_option maxRecDepth 100000
namespace Go.Proofs.YtkliecngkcjieaaGreatDoor
open Go.RowKit Go.Shelf
open Scs
theorem box_cells {W : World} {b : Nat} {x : Sc} (h : W.heap[b]? = some (scO x)) : W.cell? ⟨b, 0, none⟩ = some (.int .i64 x.1) ∧ W.cell? ⟨b, 1, none⟩ = some (.int .i64 x.2.1) ∧ W.cell? ⟨b, 2, none⟩ = some (.string x.2.2) ∧
    W.frozen? ⟨b, 0, none⟩ = false ∧ W.frozen? ⟨b, 1, none⟩ = false ∧ W.frozen? ⟨b, 2, none⟩ = false :=
  ⟨cell_of_row _ _ 0 _ _ _ h, cell_of_row _ _ 1 _ _ _ h, cell_of_row _ _ 2 _ _ _ h, frozen_of_row _ _ 0 _ _ h, frozen_of_row _ _ 1 _ _ h, frozen_of_row _ _ 2 _ _ h⟩
theorem box_store {W : World} {b : Nat} {a : Sc} (h : W.heap[b]? = some (scO a)) (x : Sc) :
    (((W.setCell ⟨b, 0, none⟩ (.int .i64 x.1)).setCell ⟨b, 1, none⟩ (.int .i64 x.2.1)).setCell ⟨b, 2, none⟩ (.string x.2.2)).heap[b]? = some (scO x) ∧
    W.grownBy (((W.setCell ⟨b, 0, none⟩ (.int .i64 x.1)).setCell ⟨b, 1, none⟩ (.int .i64 x.2.1)).setCell ⟨b, 2, none⟩ (.string x.2.2)) (some b) :=
  ⟨store3 h _ _ _, gB_setCell (gB_setCell (gB_setCell (gB_refl _ _) _ _) _ _) _ _⟩
theorem box_at1_0 (w : World) (o0 : Obj) : (w.alloc o0).heap[w.heap.size]? = some o0 := heap_alloc_new w o0
theorem box_at2_0 (w : World) (o0 o1 : Obj) : ((w.alloc o0).alloc o1).heap[w.heap.size]? = some o0 := (Below.heap_alloc _ _ _ (by simp)).trans (heap_alloc_new w o0)
theorem box_at2_1 (w : World) (o0 o1 : Obj) : ((w.alloc o0).alloc o1).heap[w.heap.size + 1]? = some o1 := by
  have h := heap_alloc_new (w.alloc o0) o1
  rwa [World.size_alloc] at h
theorem box_at3_0 (w : World) (o0 o1 o2 : Obj) : (((w.alloc o0).alloc o1).alloc o2).heap[w.heap.size]? = some o0 := (Below.heap_alloc _ _ _ (by simp; omega)).trans (box_at2_0 w o0 o1)
theorem box_at3_1 (w : World) (o0 o1 o2 : Obj) : (((w.alloc o0).alloc o1).alloc o2).heap[w.heap.size + 1]? = some o1 := (Below.heap_alloc _ _ _ (by simp)).trans (box_at2_1 w o0 o1)
theorem box_at3_2 (w : World) (o0 o1 o2 : Obj) : (((w.alloc o0).alloc o1).alloc o2).heap[w.heap.size + 1 + 1]? = some o2 := by
  have h := heap_alloc_new ((w.alloc o0).alloc o1) o2
  rwa [World.size_alloc, World.size_alloc] at h
end Go.Proofs.YtkliecngkcjieaaGreatDoor
