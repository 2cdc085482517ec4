/- The text that is too long has a hundred thousand and one bytes. Conditions: none. -/
import Derived.Test.YtjimpfcgcbbipaaDoorEndsW
namespace Go.Proofs.YtjimpfcgcbbipaaDoor
open Go.ChangeShapes Go.WideShapes Go.ChangeAt Go.RowKit Go.Shelf
open Rd Dg Box
theorem long_any (w : World) :
    Calls Tryd.prog 23 #[] w fun e w' => ∃ L : ByteArray, e = .returned (.string L) ∧ L.size = 100001 ∧ Below w.heap.size w w' := by
  obtain ⟨i0, hi, hz0, hz1, hz2⟩ := info_parts info5b
  have hmk := run_make (P := Tryd.prog) w 58 5 i0 (.int .u8 0) Tryd.underlying58 hi hz0 .i64 .i64 100001 100001 (by omega) (by omega) (by rw [hz2]; omega) (by omega)
  rw [hz1] at hmk
  obtain ⟨n, hn⟩ : ∃ n, Int.toNat 100001 = n := ⟨_, rfl⟩
  have hn' : n = 100001 := by rw [← hn]; rfl
  rw [hn, Nat.mul_one] at hmk
  obtain ⟨Z, hZ⟩ : ∃ Z, madeCells (Value.int .u8 0).cells n = Z := ⟨_, rfl⟩
  rw [hZ] at hmk
  have hZl : Z.toList = List.replicate n (Value.int .u8 0) := by rw [← hZ]; exact made_u8 n
  obtain ⟨l, hl⟩ : ∃ l : List UInt8, List.replicate n 0 = l := ⟨_, rfl⟩
  have hll : l.length = n := by rw [← hl, List.length_replicate]
  have hcv := run_convert_bytes_back (P := Tryd.prog) (w.alloc (.cells Z 5)) 58 9 5 ⟨w.heap.size, 0, none⟩ n l Tryd.underlying58 Tryd.underlying5 Tryd.underlying9 (fun j hj => by
    rw [addr_add, Nat.zero_add, cell_of_row _ _ _ _ _ _ (heap_alloc_new w _), ← Array.getElem?_toList, hZl, List.getElem?_replicate_of_lt (by omega)]
    simp [← hl])
  rw [hll] at hcv
  obtain ⟨L, hL⟩ : ∃ L : ByteArray, (⟨l.toArray⟩ : ByteArray) = L := ⟨_, rfl⟩
  have hLs : L.size = n := by rw [← hL, ← hll]; exact List.size_toArray
  rw [hL] at hcv
  clear hZ hZl hl hll hL hn hz0 hz1 hz2 hi
  have hmk' : (Instr.makeSlice 58 (.int .i64 100001) (.int .i64 100001)).run Tryd.prog w = .ok (.slice (some ⟨w.heap.size, 0, none⟩) n n) (w.alloc (.cells Z 5)) := hmk
  clear hmk
  have HL := Lib.hid (hLs.trans hn')
  clear hLs hn'
  go_enter Tryd.func23, Tryd.ntmps23
  go_wp2
  go_ret
  exact ⟨L, rfl, HL.out, (Below.refl _ w).alloc (Nat.le_refl _) _⟩
end Go.Proofs.YtjimpfcgcbbipaaDoor
