/- The surroundings of graphs: the library's tables of texts, and the type of errors. Conditions: none. Which scalars are right is told as the document tells it. Conditions: the library's tables of texts lie as they are laid; the text is not too long. -/
import Derived.Test.YtadmhlebkaiblaaGreatDoorRows
import Derived.Shelf.Unicode.DecodeSlow
import Derived.Test.YtadmhlebkaiblaaGreatDoorArx
import Derived.Test.YtadmhlebkaiblaaGreatDoorClx
set_option maxRecDepth 100000
namespace Go.Proofs.YtadmhlebkaiblaaGreatDoor
open Go.RowKit Go.Shelf
structure Env (w : World) : Prop where
  tabs : Go.Lib.Utf8Tabs 1 2 w
  err : w.cell? ⟨0, 0, none⟩ = some (.iface 140 (.agg #[.pointer (some ⟨3, 69, none⟩)]))
theorem Env.below {w w' : World} (h : Env w) (hb : Below w.heap.size w w') : Env w' :=
  ⟨Utf8Tabs_below h.tabs hb, (hb.cell (p := ⟨0, 0, none⟩) (World.block_lt_of_cell? w ⟨0, 0, none⟩ (by rw [h.err]))).trans h.err⟩
end Go.Proofs.YtadmhlebkaiblaaGreatDoor

set_option maxRecDepth 100000
namespace Go.Proofs.YtadmhlebkaiblaaGreatDoor
open Go.RowKit Go.Shelf
open Scs
theorem right_any (s : ByteArray) (hs : s.size ≤ 1099511627776) (w : World) (E : Env w) : Calls Tryz.prog 133 #[.string s] w fun e w' => e = .returned (.bool (Go.Lib.validD s.data.toList)) ∧ Below w.heap.size w w' := by
  have HE := Lib.hid E
  clear E
  go_enter Tryz.func133, Tryz.ntmps133
  go_wp2_with (go_at_call 140; refine (Tryz.utf8_ValidString s _ (by omega) HE.out.tabs).mono ?_; rintro e w' ⟨rfl, hb⟩)
  go_ret
  exact ⟨rfl, hb⟩
def rightR (k n : Int) (l : List UInt8) : Bool :=
  if (k == 0) = true then (if n = 0 then l.isEmpty else false)
  else if (k == 1) = true then (if n = 0 then l.isEmpty else if n = 1 then l.isEmpty else false)
  else if (k == 2) = true then (if -999999999999999 ≤ n then (if n ≤ 999999999999999 then l.isEmpty else false) else false)
  else if (k == 3) = true then (if n = 0 then Go.Lib.validD l else false) else false
set_option maxHeartbeats 4000000 in
theorem Right_any (k n : Int) (s : ByteArray) (hs : s.size ≤ 1099511627776) (w : World) (E : Env w) :
    Calls Tryz.prog 119 #[.agg #[.int .i64 k, .int .i64 n, .string s]] w fun e w' => e = .returned (.bool (rightR k n s.data.toList)) ∧ Below w.heap.size w w' := by
  by_cases h0 : n = 0
  all_goals
    try subst h0
    first
      | have hR := right_any s hs _ (E.below ((Below.refl _ _).alloc (Nat.le_refl _) (.cells #[.int .i64 k, .int .i64 0, .string s] 46)))
      | skip
    have HR := Lib.hid hR
    have HE := Lib.hid E
    obtain ⟨l, hl⟩ : ∃ l, s.data.toList = l := ⟨_, rfl⟩
    have hle : s.toList.isEmpty = l.isEmpty := by rw [ByteArray.toList_eq, hl]
    rw [hl] at HR ⊢
    clear hR E hl
    go_enter Tryz.func119, Tryz.ntmps119
    go_wp2_with (go_at_call 133; refine HR.out.mono ?_; rintro e w1 ⟨rfl, hb1⟩; have HB1 := Lib.hid hb1; clear hb1)
    all_goals
      go_ret
      first
        | (refine ⟨ret_bool ?_, (Below.refl _ _).alloc (Nat.le_refl _) _⟩; unfold rightR; simp [*]; done)
        | (refine ⟨ret_bool ?_, (Below.refl _ _).alloc (Nat.le_refl _) _⟩; unfold rightR; simp [*]; omega)
        | (refine ⟨ret_bool ?_, ((Below.refl _ w).alloc (Nat.le_refl _) _).trans (HB1.out.mono (by simp))⟩; unfold rightR; simp [*]; done)
def rightS (x : Sc) : Bool := rightR x.1 x.2.1 x.2.2.data.toList
end Go.Proofs.YtadmhlebkaiblaaGreatDoor
