/- The small functions of a buffer do what their names say. Conditions: the buffer lies in a block of its own. -/
import Derived.Test.YtjimpfcgcbbipaaDoorRows
import Derived.Test.YtjimpfcgcbbipaaDoorDig
import Derived.Test.YtjimpfcgcbbipaaDoorRuns
import Derived.WalkKit
import Derived.WalkLawsBesides
import Derived.WalkSpells
import Derived.Outline
import Derived.OwnWalk
import Derived.Lib.Hide
import Derived.Deep.QuietTactic
import Derived.BigQuiet
import Derived.Deep.RegionHeld3
import Derived.Deep.RegionWith
import Derived.Deep.DrawnRows
import Derived.RegionTactic
import Derived.ChangeAlike
import Derived.Laws.Rows
import Derived.Laws.Tables
namespace Go.Proofs.YtjimpfcgcbbipaaDoor
open Go.RowKit
open Rd Dg
open Go.Lib (strCells strCells_length strCells_oneCell)
theorem info5b : (Tryd.prog.info? 5).map (fun i => (i.zero, i.size, i.bytes)) = some (some (.int .u8 0), 1, 1) := by kernel_rfl
theorem size61 : (Tryd.prog.info? 61).map (·.size) = some 73 := by kernel_rfl
set_option maxRecDepth 100000 in
theorem slice59 (g o k : Nat) (hk : k ≤ 64) (w : World) : (Instr.sliceAt 59 (.pointer (some ⟨g, o, none⟩)) none (some (.int .i64 (k : Int))) (some (.int .i64 (k : Int)))).run Tryd.prog w = .ok (.slice (some ⟨g, o, none⟩) k k) w := by
  have hl : Tryd.prog.arrayLen 59 = 64 := by kernel_rfl
  have he : Tryd.prog.elem 59 = 5 := by kernel_rfl
  have ht : Tryd.prog.underlying 59 = some (.array (Tryd.prog.arrayLen 59) (Tryd.prog.elem 59)) := by rw [hl, he]; exact Tryd.underlying59
  have h := run_sliceAt_array_hm (P := Tryd.prog) w 59 ⟨g, o, none⟩ ht .i64 .i64 (k : Int) (k : Int) (by omega) (Int.le_refl _) (by rw [hl]; omega)
  refine h.trans ?_
  obtain ⟨i, hi, _, hs, _⟩ := info_parts info5b
  rw [he]
  have ea : (⟨g, o, none⟩ : Addr).add 0 = ⟨g, o, none⟩ := addr_add g o 0
  by_cases h0 : k = 0
  · subst h0; simp [sizeOf, typeInfo, hi, hs, Result.andThen, slicedAt]
  · simp [sizeOf, typeInfo, hi, hs, Result.andThen, slicedAt, h0, ea]
set_option maxRecDepth 100000 in
theorem rest_any (b n : Nat) (hn : n ≤ 1000000) (w : World) (hc : w.cell? ⟨b, 72, none⟩ = some (.int .i64 (n : Int))) :
    Calls Tryd.prog 48 #[.pointer (some ⟨b, 0, none⟩)] w fun e w' => e = .returned (.slice (some ⟨b, 8, none⟩) (n % 64) (n % 64)) ∧ w' = w := by
  have e1 : (n : Int).tmod 64 = ((n % 64 : Nat) : Int) := by rw [Int.tmod_eq_emod_of_nonneg (by omega)]; omega
  have hsl := slice59 b 8 (n % 64) (by omega)
  simp only [Int.natCast_emod, Int.cast_ofNat_Int] at hsl
  go_enter Tryd.func48, Tryd.ntmps48
  go_wp2
  go_ret
  exact ⟨rfl, rfl⟩
theorem cuts_any (a : Addr) (l c : Nat) (w : World) :
    Calls Tryd.prog 49 #[.slice (some a) l c] w fun e w' => e = .returned (.func (.func 61) #[] #[.pointer (some ⟨w.heap.size, 0, none⟩)]) ∧ w' = w.alloc (.cells #[.slice (some a) l c] 58) := by
  go_enter Tryd.func49, Tryd.ntmps49
  go_wp2
  go_ret
  exact ⟨rfl, rfl⟩
set_option maxRecDepth 100000 in
theorem putBack_any (b : Nat) (T : TypeId) (old new : Array Value) (h1 : new.size = 73) (h2 : old.size = 73) (ho : new.all (·.oneCell') = true) (w : World) (hb : w.heap[b]? = some (.cells old T (0, 0))) :
    Calls Tryd.prog 36 #[.pointer (some ⟨b, 0, none⟩), .agg new] w fun e w' => e = .returned (.tuple #[]) ∧ w'.heap[b]? = some (.cells new T (0, 0)) ∧ w.grownBy w' (some b) := by
  have hall : Hid (new.all (·.oneCell') = true) := Lib.hid ho
  have HI := Lib.hid (show (Tryd.prog.info? 61).map (·.size) = some new.size by rw [h1]; exact size61)
  have hx := heap_alloc_new w (.cells new 61)
  have hb' := (Below.heap_alloc w (.cells new 61) b (Array.getElem?_eq_some_iff.1 hb).1).trans hb
  have HX := Lib.hid hx
  have HBX := Lib.hid hb'
  have HZ := Lib.hid (show old.size = new.size by rw [h1, h2])
  clear ho hx hb'
  go_enter Tryd.func36, Tryd.ntmps36
  go_wp2_with (first
    | (refine wpList_load_row rfl 61 _ rfl w.heap.size rfl 61 new (0, 0) _ HX.out Tryd.underlying61 rfl HI.out ?_)
    | (refine wpList_store_row rfl 61 _ _ rfl b new rfl rfl T old HBX.out HI.out HZ.out hall.out ?_))
  go_end0
  exact ⟨rfl, setRow_heap _ b old new T (0, 0) HBX.out, ⟨rfl, rfl, rfl, by simp, fun k hk hne => (setRow_other _ b k new (fun e => hne (by rw [e]))).trans (Below.heap_alloc w _ k hk)⟩⟩
end Go.Proofs.YtjimpfcgcbbipaaDoor
