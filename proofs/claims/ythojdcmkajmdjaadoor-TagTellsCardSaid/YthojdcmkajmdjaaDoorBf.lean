/- What a message's blocks make of the first state, and how a buffer that has a message lies. Conditions: none. Appending a text, or noughts, to a row of bytes, clearing one, copying a text to one: how the builtins run. Conditions: those of each rule. The small functions of a buffer do what their names say. Conditions: the buffer lies in a block of its own. A piece that is kept is the rest of a buffer, noughts behind it. Conditions: the piece has fewer than sixty-four bytes. A buffer's cells, read and written one by one. Conditions: the buffer lies in a block of its own. -/
import Derived.Test.YthojdcmkajmdjaaDoorRows
import Derived.Test.YthojdcmkajmdjaaDoorWd
import Derived.Test.YthojdcmkajmdjaaDoorLf
import Derived.WalkKit
import Derived.Lib.AppendStr
import Derived.Laws.Append
import Derived.Laws.AppendOwn
import Derived.Laws.CopyRow
import Derived.Laws.BytesArg
import Derived.Lib.AppendZeros
import Derived.WalkLawsBesides
import Derived.WalkSpells
import Derived.Outline
import Derived.OwnWalk
import Derived.Lib.Hide
import Derived.Deep.QuietTactic
import Derived.BigQuiet
import Derived.Deep.RegionHeld3
import Derived.Deep.RegionWith
import Derived.Deep.DrawnRows
import Derived.RegionTactic
import Derived.ChangeAlike
import Derived.Laws.Rows
import Derived.Laws.Tables
import Derived.Test.YthojdcmkajmdjaaDoorIter
import Derived.Maps.AppendAt
namespace Go.Proofs.YthojdcmkajmdjaaDoor
open Go.RowKit
open Rd
namespace Dg
/-- block k of a message, noughts behind it -/
def blkB (m : List UInt8) (k : Nat) : ByteArray := ⟨((List.range 64).map fun i => m.getD (64 * k + i) 0).toArray⟩
theorem blkB_size (m : List UInt8) (k : Nat) : (blkB m k).size = 64 := by simp [blkB, ByteArray.size]
theorem blkB_append (m p : List UInt8) (k : Nat) (h : 64 * k + 64 ≤ m.length) : blkB (m ++ p) k = blkB m k := by
  unfold blkB
  congr 2
  apply List.map_congr_left
  intro i hi
  have hi' : i < 64 := by simpa using hi
  rw [List.getD_eq_getElem?_getD, List.getD_eq_getElem?_getD, List.getElem?_append_left (by omega)]
/-- what the first k blocks make of the first state -/
def stOf (m : List UInt8) : Nat → St
  | 0 => F0
  | k + 1 => St.comp (Wd (mw (blkB m k))) (stOf m k)
theorem stOf_append (m p : List UInt8) : ∀ k, 64 * k ≤ m.length → stOf (m ++ p) k = stOf m k
  | 0, _ => rfl
  | k + 1, h => by
    show St.comp (Wd (mw (blkB (m ++ p) k))) (stOf (m ++ p) k) = St.comp (Wd (mw (blkB m k))) (stOf m k)
    rw [stOf_append m p k (by omega), blkB_append m p k (by omega)]
/-- a byte as a cell -/
def cellOf (b : UInt8) : Value := .int .u8 (b.toNat : Int)
/-- what fills no block, and noughts behind it -/
def roomL (m : List UInt8) : List Value := (List.range 64).map fun j => cellOf (m.getD (64 * (m.length / 64) + j) 0)
theorem roomL_length (m : List UInt8) : (roomL m).length = 64 := by simp [roomL]
theorem roomL_get (m : List UInt8) (j : Nat) (h : j < 64) : (roomL m)[j]? = some (cellOf (m.getD (64 * (m.length / 64) + j) 0)) := by simp [roomL, h]
def stL (s : St) : List Value := [.int .i64 (U s.a), .int .i64 (U s.b), .int .i64 (U s.c), .int .i64 (U s.d), .int .i64 (U s.e), .int .i64 (U s.f), .int .i64 (U s.g), .int .i64 (U s.h)]
/-- a buffer's cells -/
def bufA (s : St) (r : List Value) (n : Nat) : Array Value := (stL s ++ r ++ [Value.int .i64 (n : Int)]).toArray
theorem bufA_size (s : St) (r : List Value) (n : Nat) (h : r.length = 64) : (bufA s r n).size = 73 := by simp [bufA, stL, h]
theorem bufA_count (s : St) (r : List Value) (n : Nat) (h : r.length = 64) : (bufA s r n)[72]? = some (.int .i64 (n : Int)) := by
  simp only [bufA, List.getElem?_toArray]
  rw [List.getElem?_append_right (by simp [stL, h])]
  simp [stL, h]
theorem bufA_room (s : St) (r : List Value) (n j : Nat) (h : r.length = 64) (hj : j < 64) : (bufA s r n)[8 + j]? = r[j]? := by
  simp only [bufA, List.getElem?_toArray]
  rw [List.getElem?_append_left (by simp [stL, h]; omega), List.getElem?_append_right (by simp [stL])]
  congr 1
  simp [stL]
theorem bufA_state (s : St) (r : List Value) (n j : Nat) (hj : j < 8) : (bufA s r n)[j]? = (stL s)[j]? := by
  simp only [bufA, List.getElem?_toArray, List.append_assoc]
  rw [List.getElem?_append_left (by simp [stL]; omega)]
/-- the buffer in block b has the message m -/
def Holds (b : Nat) (T : TypeId) (m : List UInt8) (w : World) : Prop :=
  ∃ s, (m ≠ [] → s = stOf m (m.length / 64)) ∧ w.heap[b]? = some (.cells (bufA s (roomL m) m.length) T (0, 0))
theorem Holds.kept {b : Nat} {T : TypeId} {m : List UInt8} {w w' : World} (h : Holds b T m w) (hb : w'.heap[b]? = w.heap[b]?) : Holds b T m w' := by
  obtain ⟨s, h1, h2⟩ := h
  exact ⟨s, h1, hb.trans h2⟩
theorem Holds.lt {b : Nat} {T : TypeId} {m : List UInt8} {w : World} (h : Holds b T m w) : b < w.heap.size := by
  obtain ⟨s, _, h2⟩ := h
  exact (Array.getElem?_eq_some_iff.1 h2).1
/-- what is behind a message's full blocks, and a piece, byte by byte -/
theorem tail_get (m p : List UInt8) (j : Nat) : ((m.drop (64 * (m.length / 64))) ++ p).getD j 0 = (m ++ p).getD (64 * (m.length / 64) + j) 0 := by
  have hq : 64 * (m.length / 64) ≤ m.length := by omega
  rw [List.getD_eq_getElem?_getD, List.getD_eq_getElem?_getD]
  congr 1
  rw [← List.getElem?_drop, List.drop_append_of_le_length hq]
theorem room_take (m : List UInt8) : (roomL m).take (m.length % 64) = (m.drop (64 * (m.length / 64))).map cellOf := by
  apply List.ext_getElem?
  intro j
  by_cases hj : j < m.length % 64
  · rw [List.getElem?_take_of_lt hj, roomL_get m j (by omega), List.getElem?_map, List.getElem?_drop, List.getD_eq_getElem?_getD, List.getElem?_eq_getElem (by omega)]
    rfl
  · rw [List.getElem?_eq_none (by simp; omega), List.getElem?_eq_none (by simp; omega)]
/-- a message's bytes behind its full blocks, and a piece -/
def tailL (m p : List UInt8) : List UInt8 := m.drop (64 * (m.length / 64)) ++ p
theorem tailL_length (m p : List UInt8) : (tailL m p).length = m.length % 64 + p.length := by simp [tailL]; omega
theorem tailL_all (m p : List UInt8) : (m ++ p).length / 64 = m.length / 64 + (tailL m p).length / 64 := by rw [tailL_length, List.length_append]; omega
theorem tailL_get (m p : List UInt8) (j : Nat) : (tailL m p).getD j 0 = (m ++ p).getD (64 * (m.length / 64) + j) 0 := tail_get m p j
end Dg
end Go.Proofs.YthojdcmkajmdjaaDoor

namespace Go.Proofs.YthojdcmkajmdjaaDoor
open Go.RowKit
open Go.Lib (strCells strCells_length strCells_oneCell run_firstCells_string run_append_grow_string)
section
variable {P : Program} (w : World)
theorem addr_add (g o j : Nat) : (⟨g, o, none⟩ : Addr).add j = ⟨g, o + j, none⟩ := by unfold Addr.add; split <;> simp_all
theorem zeroCells_u8 (n : Nat) : Builtin.zeroCells (Value.int .u8 0).cells n = (List.replicate n (Value.int .u8 0)).toArray := by
  apply Array.ext'
  simp only [Builtin.zeroCells, Value.cells, Array.toList_map]
  apply List.ext_getElem?
  intro j
  by_cases hj : j < n
  · simp [hj, Nat.mod_one]
  · simp [hj]
/-- a text behind a row that has no room -/
theorem run_append_text (t u ty e : TypeId) (i : TypeInfo) (ht : P.underlying t = some (.slice e)) (hu : P.underlying u = some .string) (hi : P.info? e = some i) (hz : i.zero = some (.int .u8 0)) (hs1 : i.size = 1) (hb1 : i.bytes = 1)
    (g o n : Nat) (olds : List Value) (hlo : olds.length = n) (holds : ∀ j v, olds[j]? = some v → w.cell? ⟨g, o + j, none⟩ = some v) (hgl : g < w.heap.size) (s : ByteArray) (hsm : n + s.size ≤ 140737488355328) :
    ∃ G q c w', (Builtin.append_ #[t, u] ty #[.slice (some ⟨g, o, none⟩) n n, .string s]).run P w = .ok (.slice (some ⟨G, q, none⟩) (n + s.size) c) w' ∧ n + s.size ≤ c ∧
      (∀ j v, (olds ++ strCells s)[j]? = some v → w'.cell? ⟨G, q + j, none⟩ = some v) ∧ G < w'.heap.size ∧ (s.size = 0 ∧ G = g ∧ q = o ∨ 0 < s.size ∧ G = w.heap.size) ∧ w.grownBy w' none := by
  by_cases h0 : s.size = 0
  · have hn : strCells s = [] := List.eq_nil_of_length_eq_zero (by rw [strCells_length]; exact h0)
    have hf := run_firstCells_string (P := P) w 1 s
    rw [h0, hn] at hf
    refine ⟨g, o, n, w, ?_, by omega, by rw [hn, List.append_nil]; exact holds, hgl, .inl ⟨h0, rfl, rfl⟩, World.grownBy.refl _ _⟩
    rw [h0]
    simp [Builtin.append_, run_underlying ht, run_underlying hu, sizeOf, typeInfo, hi, hs1, Builtin.lenOf, h0, hf, storeCells]
  · have hr := run_append_grow_string (P := P) w t u ty e i (.int .u8 0) ht hu hi hz ⟨g, o, none⟩ n n olds (by rw [hs1, Nat.mul_one]; exact hlo) (fun j v h => by rw [addr_add]; exact holds j v h) s (by omega) (by omega) (growslice_fits (by omega) (by rw [hb1]; omega))
    refine ⟨w.heap.size, 0, _, _, hr, grownCap_ge w (n + s.size) n e, fun j v h => ?_, by simp, .inr ⟨by omega, rfl⟩, ⟨rfl, rfl, rfl, by simp, fun k hk _ => Below.heap_alloc w.drew _ k hk⟩⟩
    rw [Nat.zero_add]
    refine (cell_of_row _ w.heap.size j _ _ _ (heap_alloc_new w.drew _)).trans ?_
    have hl : j < (olds ++ strCells s).length := (List.getElem?_eq_some_iff.1 h).1
    rw [Array.getElem?_append_left (by simpa using hl), ← h]
    simp
/-- noughts behind a row that has room -/
theorem run_append_noughts (t tn ty e : TypeId) (i : TypeInfo) (kn : IntKind) (ht : P.underlying t = some (.slice e)) (htn : P.underlying tn = some (.int kn)) (hi : P.info? e = some i) (hz : i.zero = some (.int .u8 0)) (hs1 : i.size = 1) (hb1 : i.bytes = 1)
    (g n cap k : Nat) (cur : Array Value) (hg : w.heap[g]? = some (.cells cur e (0, 0))) (h0 : 0 < k) (hk : k ≤ 1000) (hroom : n + k ≤ cap) (hfit : n + k ≤ cur.size) :
    (Builtin.append_ #[t, tn] ty #[.slice (some ⟨g, 0, none⟩) n cap, .int .i64 (k : Int)]).run P w = .ok (.slice (some ⟨g, 0, none⟩) (n + k) cap) (w.setRow g (cur.toList.take n ++ List.replicate k (Value.int .u8 0) ++ cur.toList.drop (n + k)).toArray) := by
  have hw : IntKind.i64.wrap (k : Int) = k := by rw [IntKind.wrap_i64]; omega
  have hneg : ¬ ((k : Int) < 0) := by omega
  have h48i : ¬ ((281474976710656 : Int) < (k : Int)) := by omega
  have hns : k ≠ 0 := by omega
  have hst := run_storeCells_at P g n e (List.replicate k (.int .u8 0)) 0 cur w hg (by simpa using hfit) (by intro v hv; rw [List.eq_of_mem_replicate hv]; rfl)
  simp only [Nat.add_zero, List.length_replicate] at hst
  have hz8 := zeroCells_u8 k
  simp [Builtin.append_, run_underlying ht, run_underlying htn, sizeOf, typeInfo, zeroValue, hi, hz, hs1, hb1, asInt, asIntOf, hw, hneg, hns, h48i, hroom, Addr.add_lit]
  rw [hz8]
  simp [hst]
/-- a text copied to a row's part -/
theorem run_copy_text (t u ty e : TypeId) (i : TypeInfo) (ht : P.underlying t = some (.slice e)) (hi : P.info? e = some i) (hs1 : i.size = 1)
    (g o n c : Nat) (T : TypeId) (cur : Array Value) (hg : w.heap[g]? = some (.cells cur T (0, 0))) (s : ByteArray) (hs : s.size ≤ n) (hfit : o + s.size ≤ cur.size) :
    (Builtin.copy_ #[t, u] ty #[.slice (some ⟨g, o, none⟩) n c, .string s]).run P w = .ok (.int .i64 (s.size : Int)) (w.setRow g (cur.toList.take o ++ strCells s ++ cur.toList.drop (o + s.size)).toArray) := by
  have hf := run_firstCells_string (P := P) w 1 s
  have hst := run_storeCells_at P g o T (strCells s) 0 cur w hg (by simpa [strCells_length] using hfit) (strCells_oneCell s)
  simp only [Nat.add_zero, strCells_length] at hst
  have hm : Nat.min s.size n = s.size := Nat.min_eq_left hs
  simp [Builtin.copy_, run_underlying ht, sizeOf, typeInfo, hi, hs1, Builtin.lenOf, hm, hf, hst, goInt]
/-- a row's part cleared -/
theorem run_clear_part (t ty e : TypeId) (i : TypeInfo) (ht : P.underlying t = some (.slice e)) (hi : P.info? e = some i) (hz : i.zero = some (.int .u8 0))
    (g o n c : Nat) (T : TypeId) (cur : Array Value) (hg : w.heap[g]? = some (.cells cur T (0, 0))) (hfit : o + n ≤ cur.size) :
    (Builtin.clear_ #[t] ty #[.slice (some ⟨g, o, none⟩) n c]).run P w = .ok (.tuple #[]) (w.setRow g (cur.toList.take o ++ List.replicate n (Value.int .u8 0) ++ cur.toList.drop (o + n)).toArray) := by
  have hst := run_storeCells_at P g o T (List.replicate n (.int .u8 0)) 0 cur w hg (by simpa using hfit) (by intro v hv; rw [List.eq_of_mem_replicate hv]; rfl)
  simp only [Nat.add_zero, List.length_replicate] at hst
  have hz8 := zeroCells_u8 n
  cases n with
  | zero =>
    have hself := setRow_self w g cur T (0, 0) hg
    simp [Builtin.clear_, run_underlying ht, hself]
  | succ n =>
    simp [Builtin.clear_, run_underlying ht, zeroValue, typeInfo, hi, hz]
    rw [hz8]
    simp [hst]
end
end Go.Proofs.YthojdcmkajmdjaaDoor

namespace Go.Proofs.YthojdcmkajmdjaaDoor
open Go.RowKit
open Rd Dg
open Go.Lib (strCells strCells_length strCells_oneCell)
theorem info5b : (Tryd.prog.info? 5).map (fun i => (i.zero, i.size, i.bytes)) = some (some (.int .u8 0), 1, 1) := by kernel_rfl
theorem size61 : (Tryd.prog.info? 61).map (·.size) = some 73 := by kernel_rfl
set_option maxRecDepth 100000 in
theorem slice59 (g o k : Nat) (hk : k ≤ 64) (w : World) : (Instr.sliceAt 59 (.pointer (some ⟨g, o, none⟩)) none (some (.int .i64 (k : Int))) (some (.int .i64 (k : Int)))).run Tryd.prog w = .ok (.slice (some ⟨g, o, none⟩) k k) w := by
  have hl : Tryd.prog.arrayLen 59 = 64 := by kernel_rfl
  have he : Tryd.prog.elem 59 = 5 := by kernel_rfl
  have ht : Tryd.prog.underlying 59 = some (.array (Tryd.prog.arrayLen 59) (Tryd.prog.elem 59)) := by rw [hl, he]; exact Tryd.underlying59
  have h := run_sliceAt_array_hm (P := Tryd.prog) w 59 ⟨g, o, none⟩ ht .i64 .i64 (k : Int) (k : Int) (by omega) (Int.le_refl _) (by rw [hl]; omega)
  refine h.trans ?_
  obtain ⟨i, hi, _, hs, _⟩ := info_parts info5b
  rw [he]
  have ea : (⟨g, o, none⟩ : Addr).add 0 = ⟨g, o, none⟩ := addr_add g o 0
  by_cases h0 : k = 0
  · subst h0; simp [sizeOf, typeInfo, hi, hs, Result.andThen, slicedAt]
  · simp [sizeOf, typeInfo, hi, hs, Result.andThen, slicedAt, h0, ea]
set_option maxRecDepth 100000 in
theorem rest_any (b n : Nat) (hn : n ≤ 1000000) (w : World) (hc : w.cell? ⟨b, 72, none⟩ = some (.int .i64 (n : Int))) :
    Calls Tryd.prog 59 #[.pointer (some ⟨b, 0, none⟩)] w fun e w' => e = .returned (.slice (some ⟨b, 8, none⟩) (n % 64) (n % 64)) ∧ w' = w := by
  have e1 : (n : Int).tmod 64 = ((n % 64 : Nat) : Int) := by rw [Int.tmod_eq_emod_of_nonneg (by omega)]; omega
  have hsl := slice59 b 8 (n % 64) (by omega)
  simp only [Int.natCast_emod, Int.cast_ofNat_Int] at hsl
  go_enter Tryd.func59, Tryd.ntmps59
  go_wp2
  go_ret
  exact ⟨rfl, rfl⟩
theorem cuts_any (a : Addr) (l c : Nat) (w : World) :
    Calls Tryd.prog 60 #[.slice (some a) l c] w fun e w' => e = .returned (.func (.func 72) #[] #[.pointer (some ⟨w.heap.size, 0, none⟩)]) ∧ w' = w.alloc (.cells #[.slice (some a) l c] 29) := by
  go_enter Tryd.func60, Tryd.ntmps60
  go_wp2
  go_ret
  exact ⟨rfl, rfl⟩
set_option maxRecDepth 100000 in
theorem putBack_any (b : Nat) (T : TypeId) (old new : Array Value) (h1 : new.size = 73) (h2 : old.size = 73) (ho : new.all (·.oneCell') = true) (w : World) (hb : w.heap[b]? = some (.cells old T (0, 0))) :
    Calls Tryd.prog 66 #[.pointer (some ⟨b, 0, none⟩), .agg new] w fun e w' => e = .returned (.tuple #[]) ∧ w'.heap[b]? = some (.cells new T (0, 0)) ∧ w.grownBy w' (some b) := by
  have hall : Hid (new.all (·.oneCell') = true) := Lib.hid ho
  have HI := Lib.hid (show (Tryd.prog.info? 61).map (·.size) = some new.size by rw [h1]; exact size61)
  have hx := heap_alloc_new w (.cells new 61)
  have hb' := (Below.heap_alloc w (.cells new 61) b (Array.getElem?_eq_some_iff.1 hb).1).trans hb
  have HX := Lib.hid hx
  have HBX := Lib.hid hb'
  have HZ := Lib.hid (show old.size = new.size by rw [h1, h2])
  clear ho hx hb'
  go_enter Tryd.func66, Tryd.ntmps66
  go_wp2_with (first
    | (refine wpList_load_row rfl 61 _ rfl w.heap.size rfl 61 new (0, 0) _ HX.out Tryd.underlying61 rfl HI.out ?_)
    | (refine wpList_store_row rfl 61 _ _ rfl b new rfl rfl T old HBX.out HI.out HZ.out hall.out ?_))
  go_end0
  exact ⟨rfl, setRow_heap _ b old new T (0, 0) HBX.out, ⟨rfl, rfl, rfl, by simp, fun k hk hne => (setRow_other _ b k new (fun e => hne (by rw [e]))).trans (Below.heap_alloc w _ k hk)⟩⟩
end Go.Proofs.YthojdcmkajmdjaaDoor

namespace Go.Proofs.YthojdcmkajmdjaaDoor
open Go.RowKit
open Rd Dg
open Go.Lib (strCells strCells_length strCells_oneCell)
set_option maxRecDepth 100000 in
theorem slice59_all (g o : Nat) (w : World) : (Instr.sliceAt 59 (.pointer (some ⟨g, o, none⟩)) none none none).run Tryd.prog w = .ok (.slice (some ⟨g, o, none⟩) 64 64) w := by
  have hl : Tryd.prog.arrayLen 59 = 64 := by kernel_rfl
  have he : Tryd.prog.elem 59 = 5 := by kernel_rfl
  have ht : Tryd.prog.underlying 59 = some (.array (Tryd.prog.arrayLen 59) (Tryd.prog.elem 59)) := by rw [hl, he]; exact Tryd.underlying59
  refine (run_sliceAt_array_all (P := Tryd.prog) w 59 ⟨g, o, none⟩ ht).trans ?_
  obtain ⟨i, hi, _, hs, _⟩ := info_parts info5b
  have ea : (⟨g, o, none⟩ : Addr).add 0 = ⟨g, o, none⟩ := addr_add g o 0
  rw [he, hl]
  simp [sizeOf, typeInfo, hi, hs, Result.andThen, slicedAt, ea]
set_option maxRecDepth 100000 in
theorem slice59_from (g o k : Nat) (hk : k < 64) (w : World) : (Instr.sliceAt 59 (.pointer (some ⟨g, o, none⟩)) (some (.int .i64 (k : Int))) none none).run Tryd.prog w = .ok (.slice (some ⟨g, o + k, none⟩) (64 - k) (64 - k)) w := by
  have hl : Tryd.prog.arrayLen 59 = 64 := by kernel_rfl
  have he : Tryd.prog.elem 59 = 5 := by kernel_rfl
  have ht : Tryd.prog.underlying 59 = some (.array (Tryd.prog.arrayLen 59) (Tryd.prog.elem 59)) := by rw [hl, he]; exact Tryd.underlying59
  refine (run_sliceAt_array_l (P := Tryd.prog) w 59 ⟨g, o, none⟩ ht .i64 (k : Int) (by omega) (by rw [hl]; omega)).trans ?_
  obtain ⟨i, hi, _, hs, _⟩ := info_parts info5b
  rw [he, hl]
  have ea : (⟨g, o, none⟩ : Addr).add k = ⟨g, o + k, none⟩ := addr_add g o k
  have hne : 64 ≠ k := by omega
  simp [sizeOf, typeInfo, hi, hs, Result.andThen, slicedAt, ea, hne]
theorem kept_list (s : St) (r : List Value) (n : Nat) (p : List Value) (hr : r.length = 64) (hp : p.length < 64) :
    ((((bufA s r n).toList.take 8 ++ p ++ (bufA s r n).toList.drop (8 + p.length)).toArray).toList.take (8 + p.length) ++ List.replicate (64 - p.length) (Value.int .u8 0) ++ (((bufA s r n).toList.take 8 ++ p ++ (bufA s r n).toList.drop (8 + p.length)).toArray).toList.drop (8 + p.length + (64 - p.length))).toArray
      = bufA s (p ++ List.replicate (64 - p.length) (Value.int .u8 0)) n := by
  have hL : (bufA s r n).toList = stL s ++ (r ++ [Value.int .i64 (n : Int)]) := by simp [bufA]
  have h8 : (stL s).length = 8 := rfl
  have e1 : (bufA s r n).toList.take 8 = stL s := by rw [hL, ← h8, List.take_left]
  have e2 : (stL s ++ p ++ (bufA s r n).toList.drop (8 + p.length)).take (8 + p.length) = stL s ++ p := by
    have : (stL s ++ p).length = 8 + p.length := by simp [h8]
    rw [← this, List.take_left]
  have e3 : (stL s ++ p ++ (bufA s r n).toList.drop (8 + p.length)).drop (8 + p.length + (64 - p.length)) = [Value.int .i64 (n : Int)] := by
    have : (stL s ++ p).length = 8 + p.length := by simp [h8]
    rw [← List.drop_drop, ← this, List.drop_left, this, List.drop_drop, show 8 + p.length + (64 - p.length) = 8 + 64 by omega, hL, ← List.drop_drop, ← h8, List.drop_left, ← hr, List.drop_left]
  simp only [e1]
  rw [e2, e3]
  simp [bufA]
set_option maxRecDepth 100000 in
theorem keep_any (b : Nat) (T : TypeId) (s : St) (r : List Value) (n : Nat) (hr : r.length = 64) (p : ByteArray) (hp : p.size < 64) (w : World) (hb : w.heap[b]? = some (.cells (bufA s r n) T (0, 0))) :
    Calls Tryd.prog 61 #[.pointer (some ⟨b, 0, none⟩), .string p] w fun e w' => e = .returned (.tuple #[]) ∧ w'.heap[b]? = some (.cells (bufA s (strCells p ++ List.replicate (64 - p.size) (Value.int .u8 0)) n) T (0, 0)) ∧ w.grownBy w' (some b) ∧ w'.heap.size = w.heap.size := by
  obtain ⟨i, hi, hz, hs1, _⟩ := info_parts info5b
  have hsz : (bufA s r n).size = 73 := bufA_size s r n hr
  have c1 := fun w => slice59_all b 8 w
  have c2 := fun w => slice59_from b 8 p.size hp w
  have hcp : ∀ ty, (Builtin.copy_ #[29, 9] ty #[.slice (some ⟨b, 8, none⟩) 64 64, .string p]).run Tryd.prog w = _ := fun ty => run_copy_text (P := Tryd.prog) w 29 9 ty 5 i Tryd.underlying29 hi hs1 b 8 64 64 T _ hb p (by omega) (by rw [hsz]; omega)
  obtain ⟨w1, hw1⟩ : ∃ w1, w.setRow b (((bufA s r n).toList.take 8 ++ strCells p ++ (bufA s r n).toList.drop (8 + p.size)).toArray) = w1 := ⟨_, rfl⟩
  rw [hw1] at hcp
  have hb1 : w1.heap[b]? = some (.cells ((bufA s r n).toList.take 8 ++ strCells p ++ (bufA s r n).toList.drop (8 + p.size)).toArray T (0, 0)) := by rw [← hw1]; exact setRow_heap w b _ _ T (0, 0) hb
  have hcl : ∀ ty, (Builtin.clear_ #[29] ty #[.slice (some ⟨b, 8 + p.size, none⟩) (64 - p.size) (64 - p.size)]).run Tryd.prog w1 = _ := fun ty => run_clear_part (P := Tryd.prog) w1 29 ty 5 i Tryd.underlying29 hi hz b (8 + p.size) (64 - p.size) (64 - p.size) T _ hb1 (by simp [hsz, strCells_length]; omega)
  obtain ⟨w2, hw2⟩ : ∃ w2, w1.setRow b ((((bufA s r n).toList.take 8 ++ strCells p ++ (bufA s r n).toList.drop (8 + p.size)).toArray).toList.take (8 + p.size) ++ List.replicate (64 - p.size) (Value.int .u8 0) ++ (((bufA s r n).toList.take 8 ++ strCells p ++ (bufA s r n).toList.drop (8 + p.size)).toArray).toList.drop (8 + p.size + (64 - p.size))).toArray = w2 := ⟨_, rfl⟩
  rw [hw2] at hcl
  have hb2 : w2.heap[b]? = some (.cells (bufA s (strCells p ++ List.replicate (64 - p.size) (Value.int .u8 0)) n) T (0, 0)) := by
    rw [← hw2]
    have h := setRow_heap w1 b _ ((((bufA s r n).toList.take 8 ++ strCells p ++ (bufA s r n).toList.drop (8 + p.size)).toArray).toList.take (8 + p.size) ++ List.replicate (64 - p.size) (Value.int .u8 0) ++ (((bufA s r n).toList.take 8 ++ strCells p ++ (bufA s r n).toList.drop (8 + p.size)).toArray).toList.drop (8 + p.size + (64 - p.size))).toArray T (0, 0) hb1
    rw [h]
    have hk := kept_list s r n (strCells p) hr (by rw [strCells_length]; exact hp)
    rw [strCells_length] at hk
    rw [hk]
  have hg : w.grownBy w2 (some b) := by
    rw [← hw2, ← hw1]
    exact ⟨rfl, rfl, rfl, by simp, fun k _ hne => (setRow_other _ b k _ (fun e => hne (by rw [e]))).trans (setRow_other _ b k _ (fun e => hne (by rw [e])))⟩
  have hsz2 : w2.heap.size = w.heap.size := by rw [← hw2, ← hw1]; simp
  have HB2 := Lib.hid hb2
  have HG := Lib.hid hg
  have HS2 := Lib.hid hsz2
  clear hb2 hg hsz2 hw1 hw2 hb1 hb hsz hz hs1 hi hr
  go_enter Tryd.func61, Tryd.ntmps61
  go_wp2
  go_end0
  exact ⟨rfl, HB2.out, HG.out, HS2.out⟩
end Go.Proofs.YthojdcmkajmdjaaDoor

namespace Go.Proofs.YthojdcmkajmdjaaDoor
open Go.RowKit
open Rd Dg
theorem gB_of_below {w w' : World} (h : Below w.heap.size w w') (row : Option Nat) : w.grownBy w' row := ⟨h.os, h.tape, h.output, h.size, fun k hk _ => h.block k hk⟩
theorem gB_none {w w' : World} (h : w.grownBy w' none) (row : Option Nat) : w.grownBy w' row := ⟨h.os, h.tape, h.output, h.size, fun k hk _ => h.block k hk (by simp)⟩
theorem below_none {w w' : World} (h : w.grownBy w' none) : Below w.heap.size w w' := ⟨h.os, h.tape, h.output, h.size, fun k hk => h.block k hk (by simp)⟩
theorem eightB {w : World} {b : Nat} {T : TypeId} {s : St} {r : List Value} {n : Nat} (h : w.heap[b]? = some (.cells (bufA s r n) T (0, 0))) :
    (w.cell? ⟨b, 0, none⟩ = some (.int .i64 (U s.a)) ∧ w.cell? ⟨b, 1, none⟩ = some (.int .i64 (U s.b)) ∧ w.cell? ⟨b, 2, none⟩ = some (.int .i64 (U s.c)) ∧ w.cell? ⟨b, 3, none⟩ = some (.int .i64 (U s.d)) ∧ w.cell? ⟨b, 4, none⟩ = some (.int .i64 (U s.e)) ∧ w.cell? ⟨b, 5, none⟩ = some (.int .i64 (U s.f)) ∧ w.cell? ⟨b, 6, none⟩ = some (.int .i64 (U s.g)) ∧ w.cell? ⟨b, 7, none⟩ = some (.int .i64 (U s.h))) ∧
    (w.frozen? ⟨b, 0, none⟩ = false ∧ w.frozen? ⟨b, 1, none⟩ = false ∧ w.frozen? ⟨b, 2, none⟩ = false ∧ w.frozen? ⟨b, 3, none⟩ = false ∧ w.frozen? ⟨b, 4, none⟩ = false ∧ w.frozen? ⟨b, 5, none⟩ = false ∧ w.frozen? ⟨b, 6, none⟩ = false ∧ w.frozen? ⟨b, 7, none⟩ = false) := by
  have hc : ∀ j, j < 8 → w.cell? ⟨b, j, none⟩ = (stL s)[j]? := fun j hj => (cell_of_row w b j _ _ _ h).trans (bufA_state s r n j hj)
  have hf : ∀ j, w.frozen? ⟨b, j, none⟩ = false := fun j => frozen_of_row w b j _ _ h
  have h0 : w.cell? ⟨b, 0, none⟩ = some (.int .i64 (U s.a)) := by rw [hc 0 (by decide)]; rfl
  have h1 : w.cell? ⟨b, 1, none⟩ = some (.int .i64 (U s.b)) := by rw [hc 1 (by decide)]; rfl
  have h2 : w.cell? ⟨b, 2, none⟩ = some (.int .i64 (U s.c)) := by rw [hc 2 (by decide)]; rfl
  have h3 : w.cell? ⟨b, 3, none⟩ = some (.int .i64 (U s.d)) := by rw [hc 3 (by decide)]; rfl
  have h4 : w.cell? ⟨b, 4, none⟩ = some (.int .i64 (U s.e)) := by rw [hc 4 (by decide)]; rfl
  have h5 : w.cell? ⟨b, 5, none⟩ = some (.int .i64 (U s.f)) := by rw [hc 5 (by decide)]; rfl
  have h6 : w.cell? ⟨b, 6, none⟩ = some (.int .i64 (U s.g)) := by rw [hc 6 (by decide)]; rfl
  have h7 : w.cell? ⟨b, 7, none⟩ = some (.int .i64 (U s.h)) := by rw [hc 7 (by decide)]; rfl
  exact ⟨⟨h0, h1, h2, h3, h4, h5, h6, h7⟩, ⟨hf 0, hf 1, hf 2, hf 3, hf 4, hf 5, hf 6, hf 7⟩⟩
theorem setL {w : World} {b : Nat} {T : TypeId} {L : List Value} (j : Nat) (v : Value) (h : w.heap[b]? = some (.cells L.toArray T (0, 0))) :
    (w.setCell ⟨b, j, none⟩ v).heap[b]? = some (.cells (L.set j v).toArray T (0, 0)) := by
  rw [heap_setCell_same w b j _ T v h, List.setIfInBounds_toArray]
theorem set8 (s t : St) (r : List Value) (n : Nat) : (((((((((((((((((stL s ++ r ++ [Value.int .i64 (n : Int)])).set 0 (.int .i64 (U t.a)))).set 1 (.int .i64 (U t.b)))).set 2 (.int .i64 (U t.c)))).set 3 (.int .i64 (U t.d)))).set 4 (.int .i64 (U t.e)))).set 5 (.int .i64 (U t.f)))).set 6 (.int .i64 (U t.g)))).set 7 (.int .i64 (U t.h))) = stL t ++ r ++ [Value.int .i64 (n : Int)] := by
  simp only [stL, List.cons_append, List.nil_append, List.set_cons_zero, List.set_cons_succ]
theorem stored8B {w : World} {b : Nat} {T : TypeId} {s : St} {r : List Value} {n : Nat} (t : St) (h : w.heap[b]? = some (.cells (bufA s r n) T (0, 0))) :
    ((((((((w.setCell ⟨b, 0, none⟩ (.int .i64 (U t.a))).setCell ⟨b, 1, none⟩ (.int .i64 (U t.b))).setCell ⟨b, 2, none⟩ (.int .i64 (U t.c))).setCell ⟨b, 3, none⟩ (.int .i64 (U t.d))).setCell ⟨b, 4, none⟩ (.int .i64 (U t.e))).setCell ⟨b, 5, none⟩ (.int .i64 (U t.f))).setCell ⟨b, 6, none⟩ (.int .i64 (U t.g))).setCell ⟨b, 7, none⟩ (.int .i64 (U t.h))).heap[b]? = some (.cells (bufA t r n) T (0, 0)) := by
  have e := (setL 7 (.int .i64 (U t.h)) (setL 6 (.int .i64 (U t.g)) (setL 5 (.int .i64 (U t.f)) (setL 4 (.int .i64 (U t.e)) (setL 3 (.int .i64 (U t.d)) (setL 2 (.int .i64 (U t.c)) (setL 1 (.int .i64 (U t.b)) (setL 0 (.int .i64 (U t.a)) h))))))))
  rw [set8] at e
  exact e
theorem grown8 {w w' : World} (b : Nat) (h : w.grownBy w' (some b)) (v0 v1 v2 v3 v4 v5 v6 v7 : Value) : w.grownBy ((((((((w'.setCell ⟨b, 0, none⟩ v0).setCell ⟨b, 1, none⟩ v1).setCell ⟨b, 2, none⟩ v2).setCell ⟨b, 3, none⟩ v3).setCell ⟨b, 4, none⟩ v4).setCell ⟨b, 5, none⟩ v5).setCell ⟨b, 6, none⟩ v6).setCell ⟨b, 7, none⟩ v7) (some b) :=
  gB_setCell (gB_setCell (gB_setCell (gB_setCell (gB_setCell (gB_setCell (gB_setCell (gB_setCell h 0 v0) 1 v1) 2 v2) 3 v3) 4 v4) 5 v5) 6 v6) 7 v7
theorem storedN {w : World} {b : Nat} {T : TypeId} {s : St} {r : List Value} {n : Nat} (k : Nat) (hr : r.length = 64) (h : w.heap[b]? = some (.cells (bufA s r n) T (0, 0))) :
    (w.setCell ⟨b, 72, none⟩ (.int .i64 (k : Int))).heap[b]? = some (.cells (bufA s r k) T (0, 0)) := by
  rw [heap_setCell_same w b 72 _ T (.int .i64 (k : Int)) h]
  congr 3
  unfold bufA
  rw [List.setIfInBounds_toArray, List.set_append_right _ _ (by simp [stL, hr])]
  simp [stL, hr]
theorem stOf_nil (m : List UInt8) (h : m.length = 0) : stOf m (m.length / 64) = F0 := by rw [h]; rfl
end Go.Proofs.YthojdcmkajmdjaaDoor
