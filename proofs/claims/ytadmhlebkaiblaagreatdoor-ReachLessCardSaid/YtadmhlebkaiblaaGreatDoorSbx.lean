/- Boxes lie as they lay, whatever is called. Conditions: none. -/
import Derived.Test.YtadmhlebkaiblaaGreatDoorArx
set_option maxRecDepth 100000
namespace Go.Proofs.YtadmhlebkaiblaaGreatDoor
open Go.RowKit Go.Shelf
/-- three boxes of two cells each -/
abbrev S6b (a b c : Nat) (a0 a1 b0 b1 c0 c1 : Value) (wo W : World) : Prop :=
  W.cell? ⟨a, 0, none⟩ = some a0 ∧ W.cell? ⟨a, 1, none⟩ = some a1 ∧ W.cell? ⟨b, 0, none⟩ = some b0 ∧ W.cell? ⟨b, 1, none⟩ = some b1 ∧ W.cell? ⟨c, 0, none⟩ = some c0 ∧ W.cell? ⟨c, 1, none⟩ = some c1 ∧ Below wo.heap.size wo W
theorem s6b_step {a b c : Nat} {a0 a1 b0 b1 c0 c1 : Value} {wo W W' : World} (h : S6b a b c a0 a1 b0 b1 c0 c1 wo W) (hb : Below W.heap.size W W') : S6b a b c a0 a1 b0 b1 c0 c1 wo W' := by
  obtain ⟨h0, h1, h2, h3, h4, h5, hbb⟩ := h
  exact ⟨(hb.cell (block_lt_of_cell h0)).trans h0, (hb.cell (block_lt_of_cell h1)).trans h1, (hb.cell (block_lt_of_cell h2)).trans h2, (hb.cell (block_lt_of_cell h3)).trans h3, (hb.cell (block_lt_of_cell h4)).trans h4, (hb.cell (block_lt_of_cell h5)).trans h5, hbb.trans (hb.mono hbb.size)⟩
theorem s6b_drew {a b c : Nat} {a0 a1 b0 b1 c0 c1 : Value} {wo W : World} (h : S6b a b c a0 a1 b0 b1 c0 c1 wo W) : S6b a b c a0 a1 b0 b1 c0 c1 wo W.drew := s6b_step h (Below.refl _ W).drew
end Go.Proofs.YtadmhlebkaiblaaGreatDoor
