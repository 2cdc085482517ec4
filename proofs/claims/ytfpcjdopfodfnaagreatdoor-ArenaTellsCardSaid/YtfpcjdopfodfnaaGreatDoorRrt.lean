/- The reference tells whether a text is right, and which scalars are. Conditions: the text is not too long. -/
import Derived.Test.YtfpcjdopfodfnaaGreatDoorRsn
import Derived.Test.YtfpcjdopfodfnaaGreatDoorRgx
set_option maxRecDepth 100000
namespace Go.Proofs.YtfpcjdopfodfnaaGreatDoor
open Go.RowKit Go.Shelf
open Pl On
open Scs
theorem right4_any (s : ByteArray) (hs : s.size ≤ 1099511627776) (w : World) : Calls Tryz.prog 62 #[.string s] w fun e w' => e = .returned (.bool (Go.Lib.validD s.data.toList)) ∧ Below w.heap.size w w' := by
  have h1 := Signs_any s hs w
  have H1 := Lib.hid h1
  cases hv : Go.Lib.validD s.data.toList
  · have HV := Lib.hid hv
    clear h1 hv
    go_enter Tryz.func62, Tryz.ntmps62
    go_wp2_with fail
    refine H1.out.mono ?_
    rintro e w1 ⟨_, h2, hb1⟩
    obtain rfl := h2 HV.out
    have HB1 := Lib.hid hb1
    clear h2 hb1
    go_wp2_with fail
    go_ret
    exact ⟨rfl, HB1.out⟩
  · have HV := Lib.hid hv
    clear h1 hv
    go_enter Tryz.func62, Tryz.ntmps62
    go_wp2_with fail
    refine H1.out.mono ?_
    rintro e w1 ⟨h2, _, hb1⟩
    obtain ⟨v, rfl, _⟩ := h2 HV.out
    have HB1 := Lib.hid hb1
    clear h2 hb1
    go_wp2_with fail
    go_ret
    exact ⟨rfl, HB1.out⟩
set_option maxRecDepth 100000 in
set_option maxHeartbeats 4000000 in
theorem Right5_any (k n : Int) (s : ByteArray) (hs : s.size ≤ 1099511627776) (w : World) :
    Calls Tryz.prog 43 #[.agg #[.int .i64 k, .int .i64 n, .string s]] w fun e w' => e = .returned (.bool (rightR k n s.data.toList)) ∧ Below w.heap.size w w' := by
  by_cases h0 : n = 0
  all_goals
    try subst h0
    first
      | have hR := right4_any s hs (w.alloc (.cells #[.int .i64 k, .int .i64 0, .string s] 26))
      | skip
    have HR := Lib.hid hR
    obtain ⟨l, hl⟩ : ∃ l, s.data.toList = l := ⟨_, rfl⟩
    have hle : s.toList.isEmpty = l.isEmpty := by rw [ByteArray.toList_eq, hl]
    rw [hl] at HR ⊢
    clear hR hl
    go_enter Tryz.func43, Tryz.ntmps43
    go_wp2_with (go_at_call 62; refine HR.out.mono ?_; rintro e w1 ⟨rfl, hb1⟩; have HB1 := Lib.hid hb1; clear hb1)
    all_goals
      go_ret
      first
        | (refine ⟨ret_bool ?_, (Below.refl _ _).alloc (Nat.le_refl _) _⟩; unfold rightR; simp [*]; done)
        | (refine ⟨ret_bool ?_, (Below.refl _ _).alloc (Nat.le_refl _) _⟩; unfold rightR; simp [*]; omega)
        | (refine ⟨ret_bool ?_, ((Below.refl _ w).alloc (Nat.le_refl _) _).trans (HB1.out.mono (by simp))⟩; unfold rightR; simp [*]; done)

end Go.Proofs.YtfpcjdopfodfnaaGreatDoor
