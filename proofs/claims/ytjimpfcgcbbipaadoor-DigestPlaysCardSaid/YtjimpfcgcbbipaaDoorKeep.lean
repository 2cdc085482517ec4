/- A piece that is kept is the rest of a buffer, noughts behind it. Conditions: the piece has fewer than sixty-four bytes. -/
import Derived.Test.YtjimpfcgcbbipaaDoorBuf
namespace Go.Proofs.YtjimpfcgcbbipaaDoor
open Go.RowKit
open Rd Dg
open Go.Lib (strCells strCells_length strCells_oneCell)
set_option maxRecDepth 100000 in
theorem slice59_all (g o : Nat) (w : World) : (Instr.sliceAt 59 (.pointer (some ⟨g, o, none⟩)) none none none).run Tryd.prog w = .ok (.slice (some ⟨g, o, none⟩) 64 64) w := by
  have hl : Tryd.prog.arrayLen 59 = 64 := by kernel_rfl
  have he : Tryd.prog.elem 59 = 5 := by kernel_rfl
  have ht : Tryd.prog.underlying 59 = some (.array (Tryd.prog.arrayLen 59) (Tryd.prog.elem 59)) := by rw [hl, he]; exact Tryd.underlying59
  refine (run_sliceAt_array_all (P := Tryd.prog) w 59 ⟨g, o, none⟩ ht).trans ?_
  obtain ⟨i, hi, _, hs, _⟩ := info_parts info5b
  have ea : (⟨g, o, none⟩ : Addr).add 0 = ⟨g, o, none⟩ := addr_add g o 0
  rw [he, hl]
  simp [sizeOf, typeInfo, hi, hs, Result.andThen, slicedAt, ea]
set_option maxRecDepth 100000 in
theorem slice59_from (g o k : Nat) (hk : k < 64) (w : World) : (Instr.sliceAt 59 (.pointer (some ⟨g, o, none⟩)) (some (.int .i64 (k : Int))) none none).run Tryd.prog w = .ok (.slice (some ⟨g, o + k, none⟩) (64 - k) (64 - k)) w := by
  have hl : Tryd.prog.arrayLen 59 = 64 := by kernel_rfl
  have he : Tryd.prog.elem 59 = 5 := by kernel_rfl
  have ht : Tryd.prog.underlying 59 = some (.array (Tryd.prog.arrayLen 59) (Tryd.prog.elem 59)) := by rw [hl, he]; exact Tryd.underlying59
  refine (run_sliceAt_array_l (P := Tryd.prog) w 59 ⟨g, o, none⟩ ht .i64 (k : Int) (by omega) (by rw [hl]; omega)).trans ?_
  obtain ⟨i, hi, _, hs, _⟩ := info_parts info5b
  rw [he, hl]
  have ea : (⟨g, o, none⟩ : Addr).add k = ⟨g, o + k, none⟩ := addr_add g o k
  have hne : 64 ≠ k := by omega
  simp [sizeOf, typeInfo, hi, hs, Result.andThen, slicedAt, ea, hne]
theorem kept_list (s : St) (r : List Value) (n : Nat) (p : List Value) (hr : r.length = 64) (hp : p.length < 64) :
    ((((bufA s r n).toList.take 8 ++ p ++ (bufA s r n).toList.drop (8 + p.length)).toArray).toList.take (8 + p.length) ++ List.replicate (64 - p.length) (Value.int .u8 0) ++ (((bufA s r n).toList.take 8 ++ p ++ (bufA s r n).toList.drop (8 + p.length)).toArray).toList.drop (8 + p.length + (64 - p.length))).toArray
      = bufA s (p ++ List.replicate (64 - p.length) (Value.int .u8 0)) n := by
  have hL : (bufA s r n).toList = stL s ++ (r ++ [Value.int .i64 (n : Int)]) := by simp [bufA]
  have h8 : (stL s).length = 8 := rfl
  have e1 : (bufA s r n).toList.take 8 = stL s := by rw [hL, ← h8, List.take_left]
  have e2 : (stL s ++ p ++ (bufA s r n).toList.drop (8 + p.length)).take (8 + p.length) = stL s ++ p := by
    have : (stL s ++ p).length = 8 + p.length := by simp [h8]
    rw [← this, List.take_left]
  have e3 : (stL s ++ p ++ (bufA s r n).toList.drop (8 + p.length)).drop (8 + p.length + (64 - p.length)) = [Value.int .i64 (n : Int)] := by
    have : (stL s ++ p).length = 8 + p.length := by simp [h8]
    rw [← List.drop_drop, ← this, List.drop_left, this, List.drop_drop, show 8 + p.length + (64 - p.length) = 8 + 64 by omega, hL, ← List.drop_drop, ← h8, List.drop_left, ← hr, List.drop_left]
  simp only [e1]
  rw [e2, e3]
  simp [bufA]
set_option maxRecDepth 100000 in
theorem keep_any (b : Nat) (T : TypeId) (s : St) (r : List Value) (n : Nat) (hr : r.length = 64) (p : ByteArray) (hp : p.size < 64) (w : World) (hb : w.heap[b]? = some (.cells (bufA s r n) T (0, 0))) :
    Calls Tryd.prog 50 #[.pointer (some ⟨b, 0, none⟩), .string p] w fun e w' => e = .returned (.tuple #[]) ∧ w'.heap[b]? = some (.cells (bufA s (strCells p ++ List.replicate (64 - p.size) (Value.int .u8 0)) n) T (0, 0)) ∧ w.grownBy w' (some b) ∧ w'.heap.size = w.heap.size := by
  obtain ⟨i, hi, hz, hs1, _⟩ := info_parts info5b
  have hsz : (bufA s r n).size = 73 := bufA_size s r n hr
  have c1 := fun w => slice59_all b 8 w
  have c2 := fun w => slice59_from b 8 p.size hp w
  have hcp : ∀ ty, (Builtin.copy_ #[58, 9] ty #[.slice (some ⟨b, 8, none⟩) 64 64, .string p]).run Tryd.prog w = _ := fun ty => run_copy_text (P := Tryd.prog) w 58 9 ty 5 i Tryd.underlying58 hi hs1 b 8 64 64 T _ hb p (by omega) (by rw [hsz]; omega)
  obtain ⟨w1, hw1⟩ : ∃ w1, w.setRow b (((bufA s r n).toList.take 8 ++ strCells p ++ (bufA s r n).toList.drop (8 + p.size)).toArray) = w1 := ⟨_, rfl⟩
  rw [hw1] at hcp
  have hb1 : w1.heap[b]? = some (.cells ((bufA s r n).toList.take 8 ++ strCells p ++ (bufA s r n).toList.drop (8 + p.size)).toArray T (0, 0)) := by rw [← hw1]; exact setRow_heap w b _ _ T (0, 0) hb
  have hcl : ∀ ty, (Builtin.clear_ #[58] ty #[.slice (some ⟨b, 8 + p.size, none⟩) (64 - p.size) (64 - p.size)]).run Tryd.prog w1 = _ := fun ty => run_clear_part (P := Tryd.prog) w1 58 ty 5 i Tryd.underlying58 hi hz b (8 + p.size) (64 - p.size) (64 - p.size) T _ hb1 (by simp [hsz, strCells_length]; omega)
  obtain ⟨w2, hw2⟩ : ∃ w2, w1.setRow b ((((bufA s r n).toList.take 8 ++ strCells p ++ (bufA s r n).toList.drop (8 + p.size)).toArray).toList.take (8 + p.size) ++ List.replicate (64 - p.size) (Value.int .u8 0) ++ (((bufA s r n).toList.take 8 ++ strCells p ++ (bufA s r n).toList.drop (8 + p.size)).toArray).toList.drop (8 + p.size + (64 - p.size))).toArray = w2 := ⟨_, rfl⟩
  rw [hw2] at hcl
  have hb2 : w2.heap[b]? = some (.cells (bufA s (strCells p ++ List.replicate (64 - p.size) (Value.int .u8 0)) n) T (0, 0)) := by
    rw [← hw2]
    have h := setRow_heap w1 b _ ((((bufA s r n).toList.take 8 ++ strCells p ++ (bufA s r n).toList.drop (8 + p.size)).toArray).toList.take (8 + p.size) ++ List.replicate (64 - p.size) (Value.int .u8 0) ++ (((bufA s r n).toList.take 8 ++ strCells p ++ (bufA s r n).toList.drop (8 + p.size)).toArray).toList.drop (8 + p.size + (64 - p.size))).toArray T (0, 0) hb1
    rw [h]
    have hk := kept_list s r n (strCells p) hr (by rw [strCells_length]; exact hp)
    rw [strCells_length] at hk
    rw [hk]
  have hg : w.grownBy w2 (some b) := by
    rw [← hw2, ← hw1]
    exact ⟨rfl, rfl, rfl, by simp, fun k _ hne => (setRow_other _ b k _ (fun e => hne (by rw [e]))).trans (setRow_other _ b k _ (fun e => hne (by rw [e])))⟩
  have hsz2 : w2.heap.size = w.heap.size := by rw [← hw2, ← hw1]; simp
  have HB2 := Lib.hid hb2
  have HG := Lib.hid hg
  have HS2 := Lib.hid hsz2
  clear hb2 hg hsz2 hw1 hw2 hb1 hb hsz hz hs1 hi hr
  go_enter Tryd.func50, Tryd.ntmps50
  go_wp2
  go_end0
  exact ⟨rfl, HB2.out, HG.out, HS2.out⟩
end Go.Proofs.YtjimpfcgcbbipaaDoor
