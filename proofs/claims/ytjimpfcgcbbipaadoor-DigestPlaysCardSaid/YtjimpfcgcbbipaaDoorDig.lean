/- What a message's blocks make of the first state, and how a buffer that has a message lies. Conditions: none. -/
import Derived.Test.YtjimpfcgcbbipaaDoorRows
import Derived.Test.YtjimpfcgcbbipaaDoorAbc
import Derived.Test.YtjimpfcgcbbipaaDoorState
import Derived.WalkKit
import Derived.Lib.AppendStr
namespace Go.Proofs.YtjimpfcgcbbipaaDoor
open Go.RowKit
open Rd
namespace Dg
/-- block k of a message, noughts behind it -/
def blkB (m : List UInt8) (k : Nat) : ByteArray := ⟨((List.range 64).map fun i => m.getD (64 * k + i) 0).toArray⟩
theorem blkB_size (m : List UInt8) (k : Nat) : (blkB m k).size = 64 := by simp [blkB, ByteArray.size]
theorem blkB_append (m p : List UInt8) (k : Nat) (h : 64 * k + 64 ≤ m.length) : blkB (m ++ p) k = blkB m k := by
  unfold blkB
  congr 2
  apply List.map_congr_left
  intro i hi
  have hi' : i < 64 := by simpa using hi
  rw [List.getD_eq_getElem?_getD, List.getD_eq_getElem?_getD, List.getElem?_append_left (by omega)]
/-- what the first k blocks make of the first state -/
def stOf (m : List UInt8) : Nat → St
  | 0 => F0
  | k + 1 => St.comp (Wd (mw (blkB m k))) (stOf m k)
theorem stOf_append (m p : List UInt8) : ∀ k, 64 * k ≤ m.length → stOf (m ++ p) k = stOf m k
  | 0, _ => rfl
  | k + 1, h => by
    show St.comp (Wd (mw (blkB (m ++ p) k))) (stOf (m ++ p) k) = St.comp (Wd (mw (blkB m k))) (stOf m k)
    rw [stOf_append m p k (by omega), blkB_append m p k (by omega)]
/-- a byte as a cell -/
def cellOf (b : UInt8) : Value := .int .u8 (b.toNat : Int)
/-- what fills no block, and noughts behind it -/
def roomL (m : List UInt8) : List Value := (List.range 64).map fun j => cellOf (m.getD (64 * (m.length / 64) + j) 0)
theorem roomL_length (m : List UInt8) : (roomL m).length = 64 := by simp [roomL]
theorem roomL_get (m : List UInt8) (j : Nat) (h : j < 64) : (roomL m)[j]? = some (cellOf (m.getD (64 * (m.length / 64) + j) 0)) := by simp [roomL, h]
def stL (s : St) : List Value := [.int .i64 (U s.a), .int .i64 (U s.b), .int .i64 (U s.c), .int .i64 (U s.d), .int .i64 (U s.e), .int .i64 (U s.f), .int .i64 (U s.g), .int .i64 (U s.h)]
/-- a buffer's cells -/
def bufA (s : St) (r : List Value) (n : Nat) : Array Value := (stL s ++ r ++ [Value.int .i64 (n : Int)]).toArray
theorem bufA_size (s : St) (r : List Value) (n : Nat) (h : r.length = 64) : (bufA s r n).size = 73 := by simp [bufA, stL, h]
theorem bufA_count (s : St) (r : List Value) (n : Nat) (h : r.length = 64) : (bufA s r n)[72]? = some (.int .i64 (n : Int)) := by
  simp only [bufA, List.getElem?_toArray]
  rw [List.getElem?_append_right (by simp [stL, h])]
  simp [stL, h]
theorem bufA_room (s : St) (r : List Value) (n j : Nat) (h : r.length = 64) (hj : j < 64) : (bufA s r n)[8 + j]? = r[j]? := by
  simp only [bufA, List.getElem?_toArray]
  rw [List.getElem?_append_left (by simp [stL, h]; omega), List.getElem?_append_right (by simp [stL])]
  congr 1
  simp [stL]
theorem bufA_state (s : St) (r : List Value) (n j : Nat) (hj : j < 8) : (bufA s r n)[j]? = (stL s)[j]? := by
  simp only [bufA, List.getElem?_toArray, List.append_assoc]
  rw [List.getElem?_append_left (by simp [stL]; omega)]
/-- the buffer in block b has the message m -/
def Holds (b : Nat) (T : TypeId) (m : List UInt8) (w : World) : Prop :=
  ∃ s, (m ≠ [] → s = stOf m (m.length / 64)) ∧ w.heap[b]? = some (.cells (bufA s (roomL m) m.length) T (0, 0))
theorem Holds.kept {b : Nat} {T : TypeId} {m : List UInt8} {w w' : World} (h : Holds b T m w) (hb : w'.heap[b]? = w.heap[b]?) : Holds b T m w' := by
  obtain ⟨s, h1, h2⟩ := h
  exact ⟨s, h1, hb.trans h2⟩
theorem Holds.lt {b : Nat} {T : TypeId} {m : List UInt8} {w : World} (h : Holds b T m w) : b < w.heap.size := by
  obtain ⟨s, _, h2⟩ := h
  exact (Array.getElem?_eq_some_iff.1 h2).1
/-- what is behind a message's full blocks, and a piece, byte by byte -/
theorem tail_get (m p : List UInt8) (j : Nat) : ((m.drop (64 * (m.length / 64))) ++ p).getD j 0 = (m ++ p).getD (64 * (m.length / 64) + j) 0 := by
  have hq : 64 * (m.length / 64) ≤ m.length := by omega
  rw [List.getD_eq_getElem?_getD, List.getD_eq_getElem?_getD]
  congr 1
  rw [← List.getElem?_drop, List.drop_append_of_le_length hq]
theorem room_take (m : List UInt8) : (roomL m).take (m.length % 64) = (m.drop (64 * (m.length / 64))).map cellOf := by
  apply List.ext_getElem?
  intro j
  by_cases hj : j < m.length % 64
  · rw [List.getElem?_take_of_lt hj, roomL_get m j (by omega), List.getElem?_map, List.getElem?_drop, List.getD_eq_getElem?_getD, List.getElem?_eq_getElem (by omega)]
    rfl
  · rw [List.getElem?_eq_none (by simp; omega), List.getElem?_eq_none (by simp; omega)]
/-- a message's bytes behind its full blocks, and a piece -/
def tailL (m p : List UInt8) : List UInt8 := m.drop (64 * (m.length / 64)) ++ p
theorem tailL_length (m p : List UInt8) : (tailL m p).length = m.length % 64 + p.length := by simp [tailL]; omega
theorem tailL_all (m p : List UInt8) : (m ++ p).length / 64 = m.length / 64 + (tailL m p).length / 64 := by rw [tailL_length, List.length_append]; omega
theorem tailL_get (m p : List UInt8) (j : Nat) : (tailL m p).getD j 0 = (m ++ p).getD (64 * (m.length / 64) + j) 0 := tail_get m p j
end Dg
end Go.Proofs.YtjimpfcgcbbipaaDoor
