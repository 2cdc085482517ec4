/- The rules of texts that stand plain tell of a sign, and of those beside it, what their definitions say. Conditions: a rule's own list of signs lies as it was laid. -/
import Derived.Test.YtkliecngkcjieaaGreatDoorPlc
import Derived.Deep.RegionHeld
import Derived.Deep.RegionHeld3
import Derived.Laws.StructEq
set_option maxRecDepth 100000
namespace Go.Proofs.YtkliecngkcjieaaGreatDoor
open Go.RowKit Go.Shelf
open Pl Seqo
namespace Pl
def has (l : List Int) (x : Int) : Bool := decide (x ∈ l)
def digB (x : Int) : Bool := decide (48 ≤ x ∧ x ≤ 57)
def rPlain (_ s _ : Int) : Bool := decide (32 ≤ s ∧ s ≠ 127)
def markB (b : Int) : Bool := b != -1 && b != 32
def rMark (a s b : Int) : Bool :=
  if (s == 45) = true then (if (a != -1) = true then true else markB b)
  else if (s == 63) = true then (if (a != -1) = true then true else markB b)
  else if (s == 58) = true then markB b
  else if (s == 35) = true then (a != 32) else true
def rFirst (l : List Int) (a s _ : Int) : Bool := if a ≠ -1 then true else !has l s
def rLast (l : List Int) (_ s b : Int) : Bool := if b ≠ -1 then true else !has l s
def rNo (l : List Int) (_ s _ : Int) : Bool := !has l s
def rDigit (a s _ : Int) : Bool := if a ≠ -1 then true else digB s
def rDigitOr (l : List Int) (_ s _ : Int) : Bool := if digB s = true then true else has l s
end Pl
def plc (a s b : Int) : Value := .agg #[.int .i32 a, .int .i32 s, .int .i32 b]
theorem ret_bool {x y : Bool} (h : x = y) : Ending.returned (.bool x) = Ending.returned (.bool y) := by rw [h]
theorem isPlain_any (a s b : Int) (w : World) : Calls Tryz.prog 92 #[.agg #[.int .i32 a, .int .i32 s, .int .i32 b]] w fun e w' => e = .returned (.bool (rPlain a s b)) ∧ Below w.heap.size w w' := by
  go_enter Tryz.func92, Tryz.ntmps92
  go_wp2
  all_goals
    go_ret
    refine ⟨ret_bool ?_, (Below.refl _ _).alloc (Nat.le_refl _) _⟩
    unfold rPlain
    rw [Bool.eq_iff_iff]
    simp
    omega
theorem isNoMark_any (a s b : Int) (w : World) : Calls Tryz.prog 93 #[.agg #[.int .i32 a, .int .i32 s, .int .i32 b]] w fun e w' => e = .returned (.bool (rMark a s b)) ∧ Below w.heap.size w w' := by
  go_enter Tryz.func93, Tryz.ntmps93
  go_wp2
  all_goals
    go_ret
    refine ⟨ret_bool ?_, (Below.refl _ _).alloc (Nat.le_refl _) _⟩
    unfold rMark markB
    simp [*]
theorem isDigit_any (x : Int) (w : World) : Calls Tryz.prog 137 #[.int .i32 x] w fun e w' => e = .returned (.bool (digB x)) ∧ w = w' := by
  go_enter Tryz.func137, Tryz.ntmps137
  go_wp2
  all_goals
    go_ret
    refine ⟨ret_bool ?_, rfl⟩
    unfold digB
    rw [Bool.eq_iff_iff]
    simp
    try omega
/-- a row of signs -/
def Row32 (b : Nat) (l : List Int) (w : World) : Prop := ∀ j, j < l.length → w.cell? ⟨b, j, none⟩ = some (.int .i32 (l.getD j 0))
theorem Row32.below {b : Nat} {l : List Int} {w w' : World} (h : Row32 b l w) (hb : Below w.heap.size w w') : Row32 b l w' :=
  fun j hj => (hb.cell (p := ⟨b, j, none⟩) (World.block_lt_of_cell? w ⟨b, j, none⟩ (by rw [h j hj]))).trans (h j hj)
theorem has_at {l : List Int} {k : Nat} (hk : k < l.length) : l.getD k 0 ∈ l := by
  rw [List.getD_eq_getElem?_getD, List.getElem?_eq_getElem hk]; exact List.getElem_mem _
set_option maxHeartbeats 1000000 in
theorem index_any (b : Nat) (l : List Int) (x : Int) (c : Nat) (w : World) (hl : l.length ≤ 1000) (h : Row32 b l w) :
    Calls Tryz.prog 131 #[.slice (some ⟨b, 0, none⟩) l.length c, .int .i32 x] w fun e w' => (∃ n : Int, e = .returned (.int .i64 n) ∧ (0 ≤ n ↔ has l x = true)) ∧ w = w' := by
  have H := Lib.hid h
  clear h
  go_enter Tryz.func131, Tryz.ntmps131
  go_wp2
  go_loop [5, 8] (fun _ i => ∃ k : Nat, k ≤ l.length ∧ i = .int .i64 k ∧ ∀ j, j < k → l.getD j 0 ≠ x) (fun _ i => l.length - (intOf i).toNat)
  case atStart => exact ⟨0, Nat.zero_le _, rfl, fun j hj => absurd hj (Nat.not_lt_zero _)⟩
  case round =>
    obtain ⟨k, hk, rfl, hne⟩ := hrel
    have HN := Lib.hid hne
    clear hne
    by_cases hlt : k < l.length
    · have hc := H.out k hlt
      have hm := has_at hlt
      obtain ⟨y, hy⟩ : ∃ y, l.getD k 0 = y := ⟨_, rfl⟩
      rw [hy] at hc hm
      have HY := Lib.hid hy
      have HM := Lib.hid hm
      clear hy hm
      by_cases he : x = y
      · have heq : (x == y) = true := by simp [he]
        go_wp2
        go_ret
        exact ⟨⟨_, rfl, ⟨fun _ => by unfold has; exact decide_eq_true HM.out, fun _ => by omega⟩⟩, rfl⟩
      · have heq : (x == y) = false := by simp [he]
        go_wp2
        go_round
        case rel =>
          refine ⟨k + 1, by omega, by go_num, fun j hj => ?_⟩
          rcases Nat.lt_or_ge j k with h | h
          · exact HN.out j h
          · obtain rfl : j = k := by omega
            rw [HY.out]; exact fun e => he e.symm
        case measure => simp [intOf]; omega
    · go_wp2
      go_ret
      refine ⟨⟨_, rfl, ⟨fun h => absurd h (by decide), fun h => ?_⟩⟩, rfl⟩
      obtain ⟨j, hj, e⟩ := List.getElem_of_mem (of_decide_eq_true h)
      refine absurd ?_ (HN.out j (by omega))
      rw [List.getD_eq_getElem?_getD, List.getElem?_eq_getElem hj]; exact e
theorem contains_any (b : Nat) (l : List Int) (x : Int) (c : Nat) (w : World) (hl : l.length ≤ 1000) (h : Row32 b l w) :
    Calls Tryz.prog 106 #[.slice (some ⟨b, 0, none⟩) l.length c, .int .i32 x] w fun e w' => e = .returned (.bool (has l x)) ∧ w = w' := by
  have H := Lib.hid h
  clear h
  go_enter Tryz.func106, Tryz.ntmps106
  go_wp2_with (go_at_call 131; refine (index_any b l x c _ hl H.out).mono ?_; rintro e w' ⟨⟨n, rfl, hn⟩, rfl⟩; have HN := Lib.hid hn; clear hn)
  go_ret
  refine ⟨ret_bool ?_, rfl⟩
  rw [Bool.eq_iff_iff, ← HN.out]
  simp
/-- a closure's own list of signs -/
def Looked (B : Nat) (l : List Int) (w : World) : Prop := ∃ b c, w.cell? ⟨B, 0, none⟩ = some (.slice (some ⟨b, 0, none⟩) l.length c) ∧ Row32 b l w
theorem Looked.below {B : Nat} {l : List Int} {w w' : World} (h : Looked B l w) (hb : Below w.heap.size w w') : Looked B l w' := by
  obtain ⟨b, c, h1, h2⟩ := h
  exact ⟨b, c, (hb.cell (p := ⟨B, 0, none⟩) (World.block_lt_of_cell? w ⟨B, 0, none⟩ (by rw [h1]))).trans h1, h2.below hb⟩
theorem Looked.alloc {B : Nat} {l : List Int} {w : World} (h : Looked B l w) (o : Obj) : Looked B l (w.alloc o) := h.below ((Below.refl _ _).alloc (Nat.le_refl _) _)
theorem notFirst_in (B : Nat) (l : List Int) (hl : l.length ≤ 1000) (a s b : Int) (w : World) (h : Looked B l w) :
    Calls Tryz.prog 120 #[.agg #[.int .i32 a, .int .i32 s, .int .i32 b], .pointer (some ⟨B, 0, none⟩)] w fun e w' => e = .returned (.bool (rFirst l a s b)) ∧ Below w.heap.size w w' := by
  obtain ⟨bl, c, hc, hr⟩ := h.alloc (.cells #[.int .i32 a, .int .i32 s, .int .i32 b] 114)
  have HR := Lib.hid hr
  clear hr h
  by_cases h1 : a = -1
  · subst h1
    go_enter Tryz.func120, Tryz.ntmps120
    go_wp2_with (first | (go_at_call 106; refine (contains_any bl l s c _ hl HR.out).mono ?_; rintro e w' ⟨rfl, rfl⟩) | (go_at_call 137; refine (isDigit_any s _).mono ?_; rintro e w' ⟨rfl, rfl⟩))
    go_ret
    refine ⟨ret_bool ?_, (Below.refl _ _).alloc (Nat.le_refl _) _⟩
    simp [rFirst]
  · have h2 : (a == -1) = false := beq_eq_false_iff_ne.2 h1
    have h3 : (a != -1) = true := by simp [bne, h2]
    go_enter Tryz.func120, Tryz.ntmps120
    go_wp2_with (first | (go_at_call 106; refine (contains_any bl l s c _ hl HR.out).mono ?_; rintro e w' ⟨rfl, rfl⟩) | (go_at_call 137; refine (isDigit_any s _).mono ?_; rintro e w' ⟨rfl, rfl⟩))
    go_ret
    refine ⟨ret_bool ?_, (Below.refl _ _).alloc (Nat.le_refl _) _⟩
    simp [rFirst, h1]
theorem notLast_in (B : Nat) (l : List Int) (hl : l.length ≤ 1000) (a s b : Int) (w : World) (h : Looked B l w) :
    Calls Tryz.prog 121 #[.agg #[.int .i32 a, .int .i32 s, .int .i32 b], .pointer (some ⟨B, 0, none⟩)] w fun e w' => e = .returned (.bool (rLast l a s b)) ∧ Below w.heap.size w w' := by
  obtain ⟨bl, c, hc, hr⟩ := h.alloc (.cells #[.int .i32 a, .int .i32 s, .int .i32 b] 114)
  have HR := Lib.hid hr
  clear hr h
  by_cases h1 : b = -1
  · subst h1
    go_enter Tryz.func121, Tryz.ntmps121
    go_wp2_with (first | (go_at_call 106; refine (contains_any bl l s c _ hl HR.out).mono ?_; rintro e w' ⟨rfl, rfl⟩) | (go_at_call 137; refine (isDigit_any s _).mono ?_; rintro e w' ⟨rfl, rfl⟩))
    go_ret
    refine ⟨ret_bool ?_, (Below.refl _ _).alloc (Nat.le_refl _) _⟩
    simp [rLast]
  · have h2 : (b == -1) = false := beq_eq_false_iff_ne.2 h1
    have h3 : (b != -1) = true := by simp [bne, h2]
    go_enter Tryz.func121, Tryz.ntmps121
    go_wp2_with (first | (go_at_call 106; refine (contains_any bl l s c _ hl HR.out).mono ?_; rintro e w' ⟨rfl, rfl⟩) | (go_at_call 137; refine (isDigit_any s _).mono ?_; rintro e w' ⟨rfl, rfl⟩))
    go_ret
    refine ⟨ret_bool ?_, (Below.refl _ _).alloc (Nat.le_refl _) _⟩
    simp [rLast, h1]
theorem nowhere_in (B : Nat) (l : List Int) (hl : l.length ≤ 1000) (a s b : Int) (w : World) (h : Looked B l w) :
    Calls Tryz.prog 122 #[.agg #[.int .i32 a, .int .i32 s, .int .i32 b], .pointer (some ⟨B, 0, none⟩)] w fun e w' => e = .returned (.bool (rNo l a s b)) ∧ Below w.heap.size w w' := by
  obtain ⟨bl, c, hc, hr⟩ := h.alloc (.cells #[.int .i32 a, .int .i32 s, .int .i32 b] 114)
  have HR := Lib.hid hr
  clear hr h
  go_enter Tryz.func122, Tryz.ntmps122
  go_wp2_with (first | (go_at_call 106; refine (contains_any bl l s c _ hl HR.out).mono ?_; rintro e w' ⟨rfl, rfl⟩) | (go_at_call 137; refine (isDigit_any s _).mono ?_; rintro e w' ⟨rfl, rfl⟩))
  go_ret
  exact ⟨rfl, (Below.refl _ _).alloc (Nat.le_refl _) _⟩
theorem digitOr_in (B : Nat) (l : List Int) (hl : l.length ≤ 1000) (a s b : Int) (w : World) (h : Looked B l w) :
    Calls Tryz.prog 138 #[.agg #[.int .i32 a, .int .i32 s, .int .i32 b], .pointer (some ⟨B, 0, none⟩)] w fun e w' => e = .returned (.bool (rDigitOr l a s b)) ∧ Below w.heap.size w w' := by
  obtain ⟨bl, c, hc, hr⟩ := h.alloc (.cells #[.int .i32 a, .int .i32 s, .int .i32 b] 114)
  have HR := Lib.hid hr
  clear hr h
  go_enter Tryz.func138, Tryz.ntmps138
  go_wp2_with (first | (go_at_call 106; refine (contains_any bl l s c _ hl HR.out).mono ?_; rintro e w' ⟨rfl, rfl⟩) | (go_at_call 137; refine (isDigit_any s _).mono ?_; rintro e w' ⟨rfl, rfl⟩))
  all_goals
    go_ret
    refine ⟨ret_bool ?_, (Below.refl _ _).alloc (Nat.le_refl _) _⟩
    unfold rDigitOr
    simp [*]
theorem firstIsDigit_any (a s b : Int) (w : World) : Calls Tryz.prog 124 #[.agg #[.int .i32 a, .int .i32 s, .int .i32 b]] w fun e w' => e = .returned (.bool (rDigit a s b)) ∧ Below w.heap.size w w' := by
  by_cases h1 : a = -1
  · subst h1
    go_enter Tryz.func124, Tryz.ntmps124
    go_wp2_with (go_at_call 137; refine (isDigit_any s _).mono ?_; rintro e w' ⟨rfl, rfl⟩)
    go_ret
    refine ⟨ret_bool ?_, (Below.refl _ _).alloc (Nat.le_refl _) _⟩
    simp [rDigit]
  · have h2 : (a == -1) = false := beq_eq_false_iff_ne.2 h1
    have h3 : (a != -1) = true := by simp [bne, h2]
    go_enter Tryz.func124, Tryz.ntmps124
    go_wp2_with (go_at_call 137; refine (isDigit_any s _).mono ?_; rintro e w' ⟨rfl, rfl⟩)
    go_ret
    refine ⟨ret_bool ?_, (Below.refl _ _).alloc (Nat.le_refl _) _⟩
    simp [rDigit, h1]
end Go.Proofs.YtkliecngkcjieaaGreatDoor
