/- The reference's hasher: what it writes and what it sums. Conditions: its one cell holds a text; of a sum, the table of the reference's constants. -/
import Derived.Test.YtjimpfcgcbbipaaDoorRefSum
namespace Go.Proofs.YtjimpfcgcbbipaaDoor
open Go.ChangeShapes Go.WideShapes Go.ChangeAt Go.RowKit Go.Shelf
open Rd Dg Box
set_option maxRecDepth 100000 in
theorem RefWrite_ok (g : Nat) (S p : ByteArray) (h : S.size + p.size ≤ 100000) (w : World) (hc : w.cell? ⟨g, 0, none⟩ = some (.string S)) (hf : w.frozen? ⟨g, 0, none⟩ = false) :
    Calls Tryd.prog 19 #[.pointer (some ⟨g, 0, none⟩), .string p] w fun e w' => e = .returned (.int .i64 0) ∧ w' = w.setCell ⟨g, 0, none⟩ (.string (S ++ p)) := by
  have hl := block_lt_of_cell hc
  go_enter Tryd.func19, Tryd.ntmps19
  go_wp2
  go_ret
  trivial
set_option maxRecDepth 100000 in
theorem RefWrite_long (g : Nat) (S p : ByteArray) (h0 : S.size ≤ 100000) (h : 100000 < S.size + p.size) (hp : p.size ≤ 1000000) (w : World) (hc : w.cell? ⟨g, 0, none⟩ = some (.string S)) :
    Calls Tryd.prog 19 #[.pointer (some ⟨g, 0, none⟩), .string p] w fun e w' => e = .returned (.int .i64 20) ∧ w' = w := by
  have hl := block_lt_of_cell hc
  go_enter Tryd.func19, Tryd.ntmps19
  go_wp2
  go_ret
  trivial
set_option maxRecDepth 100000 in
theorem RefHSum_ok (g : Nat) (S : ByteArray) (h : S.size ≤ 100000) (w : World) (hc : w.cell? ⟨g, 0, none⟩ = some (.string S)) (T : Tab w) :
    Calls Tryd.prog 21 #[.pointer (some ⟨g, 0, none⟩)] w fun e w' => e = .returned (.string (dig S.data.toList)) ∧ Below w.heap.size w w' := by
  have hl := block_lt_of_cell hc
  have HT := Lib.hid T
  obtain ⟨q, hq⟩ : ∃ q, dig S.data.toList = q := ⟨_, rfl⟩
  have hs := fun w E => RefSum_ok S h w E
  rw [hq] at hs
  rw [hq]
  have HS := Lib.hid hs
  clear T hs hq
  go_enter Tryd.func21, Tryd.ntmps21
  go_wp2_with fail
  refine (HS.out _ HT.out).mono ?_
  rintro e w1 ⟨rfl, hb1⟩
  have HB1 := Lib.hid hb1
  clear hb1
  go_wp2
  go_ret
  exact ⟨rfl, HB1.out⟩
end Go.Proofs.YtjimpfcgcbbipaaDoor
