/- Whether a text may stand plain is told as its rules tell. Conditions: the library's tables of texts lie as they are laid; the text is not too long. -/
import Derived.Test.YtkliecngkcjieaaGreatDoorRfr
import Derived.Test.YtkliecngkcjieaaGreatDoorShf
import Derived.Lib.SmallJoins
set_option maxRecDepth 100000
namespace Go.Proofs.YtkliecngkcjieaaGreatDoor
open Go.RowKit Go.Shelf
open Pl Seqo
/-- the surroundings: the library's tables, and the two errors of its numbers -/
structure Env (w : World) : Prop where
  tabs : Go.Lib.Utf8Tabs 0 1 w
  pow : Go.Lib.TabIs Tryz.prog w "internal/strconv.uint64pow10" .u64 Go.Lib.pow10Tab
  syn : ∃ tp p, w.var? Tryz.prog "strconv.ErrSyntax" = some #[.iface tp p]
  rng : ∃ tp p, w.var? Tryz.prog "strconv.ErrRange" = some #[.iface tp p]
theorem gPow : Tryz.prog.globalNamed "internal/strconv.uint64pow10" = some 2 := by kernel_rfl
theorem gSyn : Tryz.prog.globalNamed "strconv.ErrSyntax" = some 3 := by kernel_rfl
theorem gRng : Tryz.prog.globalNamed "strconv.ErrRange" = some 4 := by kernel_rfl
theorem Env.below {w w' : World} (h : Env w) (hb : Below w.heap.size w w') : Env w' := by
  obtain ⟨t1, p1, s1⟩ := h.syn
  obtain ⟨t2, p2, s2⟩ := h.rng
  exact ⟨Utf8Tabs_below h.tabs hb, Go.Joins.tab_stays gPow h.pow hb (Nat.le_refl _), ⟨t1, p1, Go.Joins.var_stays gSyn s1 hb (Nat.le_refl _)⟩, ⟨t2, p2, Go.Joins.var_stays gRng s2 hb (Nat.le_refl _)⟩⟩
theorem right_any (s : ByteArray) (hs : s.size ≤ 1099511627776) (w : World) (E : Env w) : Calls Tryz.prog 40 #[.string s] w fun e w' => e = .returned (.bool (Go.Lib.validD s.data.toList)) ∧ Below w.heap.size w w' := by
  have HE := Lib.hid E
  clear E
  go_enter Tryz.func40, Tryz.ntmps40
  go_wp2_with (go_at_call 62; refine (Tryz.utf8_ValidString s _ (by omega) HE.out.tabs).mono ?_; rintro e w' ⟨rfl, hb⟩)
  go_ret
  exact ⟨rfl, hb⟩
def rulesOf (flow : Bool) : List Trip := if flow = true then rules5 else rules4
/-- may a text stand plain: by its signs -/
def mayR (flow : Bool) (l : List UInt8) : Bool := if l = [] then false else if Go.Lib.validD l = true then allT (allF (rulesOf flow)) (-1) (runesOf l) else false
theorem toList_nil (s : ByteArray) (h : s.size = 0) : s.data.toList = [] := by
  apply List.eq_nil_of_length_eq_zero
  rw [Array.length_toList]; exact h
theorem May_any (s : ByteArray) (hs : s.size ≤ 1099511627776) (flow : Bool) (w : World) (E : Env w) : Calls Tryz.prog 41 #[.string s, .bool flow] w fun e w' => e = .returned (.bool (mayR flow s.data.toList)) ∧ Below w.heap.size w w' := by
  have HE := Lib.hid E
  clear E
  by_cases h0 : s.data.toList = []
  · have hne : s.toList.isEmpty = true := by rw [ByteArray.toList_eq, h0]; rfl
    have hne2 : (!s.toList.isEmpty) = false := by rw [hne]; rfl
    have hr : mayR flow s.data.toList = false := by unfold mayR; rw [if_pos h0]
    rw [hr]
    clear hr h0
    go_enter Tryz.func41, Tryz.ntmps41
    go_wp2_with fail
    go_ret
    exact ⟨rfl, Below.refl _ _⟩
  · have hne : s.toList.isEmpty = false := by rw [ByteArray.toList_eq]; simpa using h0
    have hne2 : (!s.toList.isEmpty) = true := by rw [hne]; rfl
    have hm : mayR flow s.data.toList = if Go.Lib.validD s.data.toList = true then allT (allF (rulesOf flow)) (-1) (runesOf s.data.toList) else false := by unfold mayR; rw [if_neg h0]
    have hR := right_any s hs w HE.out
    rw [hm]
    clear hm h0
    cases hv : Go.Lib.validD s.data.toList
    · rw [hv] at hR
      rw [if_neg (by decide)]
      have HR := Lib.hid hR
      clear hR hv
      go_enter Tryz.func41, Tryz.ntmps41
      go_wp2_with fail
      refine HR.out.mono ?_
      rintro e w1 ⟨rfl, hb1⟩
      have HB1 := Lib.hid hb1
      clear hb1
      go_wp2_with fail
      go_ret
      exact ⟨rfl, HB1.out⟩
    · rw [hv] at hR
      rw [if_pos rfl]
      have HR := Lib.hid hR
      clear hR hv
      cases flow
      · go_enter Tryz.func41, Tryz.ntmps41
        go_wp2_with fail
        refine HR.out.mono ?_
        rintro e w1 ⟨rfl, hb1⟩
        have HB1 := Lib.hid hb1
        clear hb1
        go_wp2_with fail
        refine (rulesFor_no _).mono ?_
        rintro e w2 ⟨⟨br, c, rfl, hr2⟩, hb2⟩
        have HB2 := Lib.hid (HB1.out.trans (hb2.mono HB1.out.size))
        have HR2 := Lib.hid hr2
        clear hb2 hr2
        go_wp2_with fail
        refine (follows_any s hs br c rules4 (by decide) _ HR2.out).mono ?_
        rintro e w3 ⟨rfl, hb3⟩
        have HB3 := Lib.hid (HB2.out.trans (hb3.mono HB2.out.size))
        clear hb3
        go_wp2_with fail
        go_ret
        exact ⟨rfl, HB3.out⟩
      · go_enter Tryz.func41, Tryz.ntmps41
        go_wp2_with fail
        refine HR.out.mono ?_
        rintro e w1 ⟨rfl, hb1⟩
        have HB1 := Lib.hid hb1
        clear hb1
        go_wp2_with fail
        refine (rulesFor_yes _).mono ?_
        rintro e w2 ⟨⟨br, c, rfl, hr2⟩, hb2⟩
        have HB2 := Lib.hid (HB1.out.trans (hb2.mono HB1.out.size))
        have HR2 := Lib.hid hr2
        clear hb2 hr2
        go_wp2_with fail
        refine (follows_any s hs br c rules5 (by decide) _ HR2.out).mono ?_
        rintro e w3 ⟨rfl, hb3⟩
        have HB3 := Lib.hid (HB2.out.trans (hb3.mono HB2.out.size))
        clear hb3
        go_wp2_with fail
        go_ret
        exact ⟨rfl, HB3.out⟩
end Go.Proofs.YtkliecngkcjieaaGreatDoor
