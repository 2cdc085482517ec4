/- Appending a text, or noughts, to a row of bytes, clearing one, copying a text to one: how the builtins run. Conditions: those of each rule. -/
import Derived.Test.YtjimpfcgcbbipaaDoorRows
import Derived.Laws.Append
import Derived.Laws.AppendOwn
import Derived.Laws.CopyRow
import Derived.Laws.BytesArg
import Derived.Lib.AppendZeros
import Derived.Lib.AppendStr
import Derived.WalkKit
namespace Go.Proofs.YtjimpfcgcbbipaaDoor
open Go.RowKit
open Go.Lib (strCells strCells_length strCells_oneCell run_firstCells_string run_append_grow_string)
section
variable {P : Program} (w : World)
theorem addr_add (g o j : Nat) : (⟨g, o, none⟩ : Addr).add j = ⟨g, o + j, none⟩ := by unfold Addr.add; split <;> simp_all
theorem zeroCells_u8 (n : Nat) : Builtin.zeroCells (Value.int .u8 0).cells n = (List.replicate n (Value.int .u8 0)).toArray := by
  apply Array.ext'
  simp only [Builtin.zeroCells, Value.cells, Array.toList_map]
  apply List.ext_getElem?
  intro j
  by_cases hj : j < n
  · simp [hj, Nat.mod_one]
  · simp [hj]
/-- a text behind a row that has no room -/
theorem run_append_text (t u ty e : TypeId) (i : TypeInfo) (ht : P.underlying t = some (.slice e)) (hu : P.underlying u = some .string) (hi : P.info? e = some i) (hz : i.zero = some (.int .u8 0)) (hs1 : i.size = 1) (hb1 : i.bytes = 1)
    (g o n : Nat) (olds : List Value) (hlo : olds.length = n) (holds : ∀ j v, olds[j]? = some v → w.cell? ⟨g, o + j, none⟩ = some v) (hgl : g < w.heap.size) (s : ByteArray) (hsm : n + s.size ≤ 140737488355328) :
    ∃ G q c w', (Builtin.append_ #[t, u] ty #[.slice (some ⟨g, o, none⟩) n n, .string s]).run P w = .ok (.slice (some ⟨G, q, none⟩) (n + s.size) c) w' ∧ n + s.size ≤ c ∧
      (∀ j v, (olds ++ strCells s)[j]? = some v → w'.cell? ⟨G, q + j, none⟩ = some v) ∧ G < w'.heap.size ∧ (s.size = 0 ∧ G = g ∧ q = o ∨ 0 < s.size ∧ G = w.heap.size) ∧ w.grownBy w' none := by
  by_cases h0 : s.size = 0
  · have hn : strCells s = [] := List.eq_nil_of_length_eq_zero (by rw [strCells_length]; exact h0)
    have hf := run_firstCells_string (P := P) w 1 s
    rw [h0, hn] at hf
    refine ⟨g, o, n, w, ?_, by omega, by rw [hn, List.append_nil]; exact holds, hgl, .inl ⟨h0, rfl, rfl⟩, World.grownBy.refl _ _⟩
    rw [h0]
    simp [Builtin.append_, run_underlying ht, run_underlying hu, sizeOf, typeInfo, hi, hs1, Builtin.lenOf, h0, hf, storeCells]
  · have hr := run_append_grow_string (P := P) w t u ty e i (.int .u8 0) ht hu hi hz ⟨g, o, none⟩ n n olds (by rw [hs1, Nat.mul_one]; exact hlo) (fun j v h => by rw [addr_add]; exact holds j v h) s (by omega) (by omega) (growslice_fits (by omega) (by rw [hb1]; omega))
    refine ⟨w.heap.size, 0, _, _, hr, grownCap_ge w (n + s.size) n e, fun j v h => ?_, by simp, .inr ⟨by omega, rfl⟩, ⟨rfl, rfl, rfl, by simp, fun k hk _ => Below.heap_alloc w.drew _ k hk⟩⟩
    rw [Nat.zero_add]
    refine (cell_of_row _ w.heap.size j _ _ _ (heap_alloc_new w.drew _)).trans ?_
    have hl : j < (olds ++ strCells s).length := (List.getElem?_eq_some_iff.1 h).1
    rw [Array.getElem?_append_left (by simpa using hl), ← h]
    simp
/-- noughts behind a row that has room -/
theorem run_append_noughts (t tn ty e : TypeId) (i : TypeInfo) (kn : IntKind) (ht : P.underlying t = some (.slice e)) (htn : P.underlying tn = some (.int kn)) (hi : P.info? e = some i) (hz : i.zero = some (.int .u8 0)) (hs1 : i.size = 1) (hb1 : i.bytes = 1)
    (g n cap k : Nat) (cur : Array Value) (hg : w.heap[g]? = some (.cells cur e (0, 0))) (h0 : 0 < k) (hk : k ≤ 1000) (hroom : n + k ≤ cap) (hfit : n + k ≤ cur.size) :
    (Builtin.append_ #[t, tn] ty #[.slice (some ⟨g, 0, none⟩) n cap, .int .i64 (k : Int)]).run P w = .ok (.slice (some ⟨g, 0, none⟩) (n + k) cap) (w.setRow g (cur.toList.take n ++ List.replicate k (Value.int .u8 0) ++ cur.toList.drop (n + k)).toArray) := by
  have hw : IntKind.i64.wrap (k : Int) = k := by rw [IntKind.wrap_i64]; omega
  have hneg : ¬ ((k : Int) < 0) := by omega
  have h48i : ¬ ((281474976710656 : Int) < (k : Int)) := by omega
  have hns : k ≠ 0 := by omega
  have hst := run_storeCells_at P g n e (List.replicate k (.int .u8 0)) 0 cur w hg (by simpa using hfit) (by intro v hv; rw [List.eq_of_mem_replicate hv]; rfl)
  simp only [Nat.add_zero, List.length_replicate] at hst
  have hz8 := zeroCells_u8 k
  simp [Builtin.append_, run_underlying ht, run_underlying htn, sizeOf, typeInfo, zeroValue, hi, hz, hs1, hb1, asInt, asIntOf, hw, hneg, hns, h48i, hroom, Addr.add_lit]
  rw [hz8]
  simp [hst]
/-- a text copied to a row's part -/
theorem run_copy_text (t u ty e : TypeId) (i : TypeInfo) (ht : P.underlying t = some (.slice e)) (hi : P.info? e = some i) (hs1 : i.size = 1)
    (g o n c : Nat) (T : TypeId) (cur : Array Value) (hg : w.heap[g]? = some (.cells cur T (0, 0))) (s : ByteArray) (hs : s.size ≤ n) (hfit : o + s.size ≤ cur.size) :
    (Builtin.copy_ #[t, u] ty #[.slice (some ⟨g, o, none⟩) n c, .string s]).run P w = .ok (.int .i64 (s.size : Int)) (w.setRow g (cur.toList.take o ++ strCells s ++ cur.toList.drop (o + s.size)).toArray) := by
  have hf := run_firstCells_string (P := P) w 1 s
  have hst := run_storeCells_at P g o T (strCells s) 0 cur w hg (by simpa [strCells_length] using hfit) (strCells_oneCell s)
  simp only [Nat.add_zero, strCells_length] at hst
  have hm : Nat.min s.size n = s.size := Nat.min_eq_left hs
  simp [Builtin.copy_, run_underlying ht, sizeOf, typeInfo, hi, hs1, Builtin.lenOf, hm, hf, hst, goInt]
/-- a row's part cleared -/
theorem run_clear_part (t ty e : TypeId) (i : TypeInfo) (ht : P.underlying t = some (.slice e)) (hi : P.info? e = some i) (hz : i.zero = some (.int .u8 0))
    (g o n c : Nat) (T : TypeId) (cur : Array Value) (hg : w.heap[g]? = some (.cells cur T (0, 0))) (hfit : o + n ≤ cur.size) :
    (Builtin.clear_ #[t] ty #[.slice (some ⟨g, o, none⟩) n c]).run P w = .ok (.tuple #[]) (w.setRow g (cur.toList.take o ++ List.replicate n (Value.int .u8 0) ++ cur.toList.drop (o + n)).toArray) := by
  have hst := run_storeCells_at P g o T (List.replicate n (.int .u8 0)) 0 cur w hg (by simpa using hfit) (by intro v hv; rw [List.eq_of_mem_replicate hv]; rfl)
  simp only [Nat.add_zero, List.length_replicate] at hst
  have hz8 := zeroCells_u8 n
  cases n with
  | zero =>
    have hself := setRow_self w g cur T (0, 0) hg
    simp [Builtin.clear_, run_underlying ht, hself]
  | succ n =>
    simp [Builtin.clear_, run_underlying ht, zeroValue, typeInfo, hi, hz]
    rw [hz8]
    simp [hst]
end
end Go.Proofs.YtjimpfcgcbbipaaDoor
