/- A text of one byte that is made of a list of it. Conditions: none. -/
import Derived.Test.YthojdcmkajmdjaaDoorMix
import Derived.Test.YthojdcmkajmdjaaDoorHt
import Derived.Deep.RegionHeldLaw
namespace Go.Proofs.YthojdcmkajmdjaaDoor
open Go.RowKit
open Rd Hx
theorem cv1 (w : World) (b : UInt8) : (convert 29 9 (.slice (some ⟨w.heap.size, 0, none⟩) 1 1)).run Tryd.prog (w.alloc (.cells #[.int .u8 (b.toNat : Int)] 5)) = .ok (.string ⟨#[b]⟩) (w.alloc (.cells #[.int .u8 (b.toNat : Int)] 5)) :=
  cvBytes [b] _ _ 1 rfl (heap_alloc_new w _)
theorem cv1d (w : World) (b : UInt8) : (convert 29 9 (.slice (some ⟨w.heap.size, 0, none⟩) 1 1)).run Tryd.prog (w.alloc (.cells #[.int .u8 (b.toNat : Int)] 5)).drew = .ok (.string ⟨#[b]⟩) (w.alloc (.cells #[.int .u8 (b.toNat : Int)] 5)).drew :=
  cvBytes [b] _ _ 1 rfl (heap_alloc_new w _)
/-- a text with another byte at a place -/
def setB (S : ByteArray) (n : Nat) (x : UInt8) : ByteArray := S.extract 0 n ++ ⟨#[x]⟩ ++ S.extract (n + 1) S.size
theorem setB_list (S : ByteArray) (n : Nat) (x : UInt8) (h : n < S.size) : (setB S n x).data.toList = S.data.toList.set n x := by
  have hl : S.data.toList.length = S.size := by rw [Array.length_toList]; rfl
  unfold setB
  rw [ByteArray.data_append, ByteArray.data_append, ByteArray.data_extract, ByteArray.data_extract, Array.toList_append, Array.toList_append, Array.toList_extract, Array.toList_extract, List.extract_eq_take_drop, List.extract_eq_take_drop, List.set_eq_take_append_cons_drop, if_pos (by omega), List.drop_zero, Nat.sub_zero]
  rw [List.take_of_length_le (l := List.drop (n + 1) S.data.toList) (by rw [List.length_drop]; omega)]
  simp
theorem setB_size (S : ByteArray) (n : Nat) (x : UInt8) (h : n < S.size) : (setB S n x).size = S.size := by
  have e := congrArg List.length (setB_list S n x h)
  rw [List.length_set, Array.length_toList, Array.length_toList] at e
  exact e
theorem setB_eq (S : ByteArray) (n : Nat) (x : UInt8) (h : n < S.size) : S = setB S n x ↔ bt S n = x := by
  have hl : n < S.data.toList.length := by rw [Array.length_toList]; exact h
  have hb : bt S n = S.data.toList[n] := by unfold bt; rw [List.getD_eq_getElem?_getD, List.getElem?_eq_getElem hl]; rfl
  constructor
  · intro e
    have e2 := setB_list S n x h
    rw [← e] at e2
    rw [hb]
    have e3 := congrArg (fun l => l[n]?) e2
    simp only [List.getElem?_eq_getElem hl, List.getElem?_set_self hl] at e3
    exact Option.some.inj e3
  · intro e
    apply ByteArray.ext
    apply Array.toList_inj.1
    rw [setB_list S n x h, ← e, hb, List.set_getElem_self]
end Go.Proofs.YthojdcmkajmdjaaDoor
