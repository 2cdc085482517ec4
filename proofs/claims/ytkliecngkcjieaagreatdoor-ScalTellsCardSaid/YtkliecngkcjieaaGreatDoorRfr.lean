/- The rules of texts that stand plain lie in a row, those of flows behind them. Conditions: none. -/
import Derived.Test.YtkliecngkcjieaaGreatDoorFlw
import Derived.Laws.AppendOwn
import Derived.Maps.AppendAt
set_option maxRecDepth 100000
namespace Go.Proofs.YtkliecngkcjieaaGreatDoor
open Go.RowKit Go.Shelf
open Pl Seqo
theorem notFirst_any (a : Option Addr) (m c : Nat) (w : World) : Calls Tryz.prog 94 #[.slice a m c] w fun e w' => e = .returned (.func (.func 120) #[] #[.pointer (some ⟨w.heap.size, 0, none⟩)]) ∧ w' = w.alloc (.cells #[.slice a m c] 127) := by
  go_enter Tryz.func94, Tryz.ntmps94
  go_wp2
  go_ret
  exact ⟨rfl, rfl⟩
theorem notLast_any (a : Option Addr) (m c : Nat) (w : World) : Calls Tryz.prog 95 #[.slice a m c] w fun e w' => e = .returned (.func (.func 121) #[] #[.pointer (some ⟨w.heap.size, 0, none⟩)]) ∧ w' = w.alloc (.cells #[.slice a m c] 127) := by
  go_enter Tryz.func95, Tryz.ntmps95
  go_wp2
  go_ret
  exact ⟨rfl, rfl⟩
theorem nowhere_any (a : Option Addr) (m c : Nat) (w : World) : Calls Tryz.prog 96 #[.slice a m c] w fun e w' => e = .returned (.func (.func 122) #[] #[.pointer (some ⟨w.heap.size, 0, none⟩)]) ∧ w' = w.alloc (.cells #[.slice a m c] 127) := by
  go_enter Tryz.func96, Tryz.ntmps96
  go_wp2
  go_ret
  exact ⟨rfl, rfl⟩
theorem digitOr_any (a : Option Addr) (m c : Nat) (w : World) : Calls Tryz.prog 125 #[.slice a m c] w fun e w' => e = .returned (.func (.func 138) #[] #[.pointer (some ⟨w.heap.size, 0, none⟩)]) ∧ w' = w.alloc (.cells #[.slice a m c] 127) := by
  go_enter Tryz.func125, Tryz.ntmps125
  go_wp2
  go_ret
  exact ⟨rfl, rfl⟩
theorem keep_alloc {w : World} {k : Nat} {o o' : Obj} (h : w.heap[k]? = some o) : (w.alloc o').heap[k]? = some o :=
  (Below.heap_alloc w o' k (Array.getElem?_eq_some_iff.1 h).1).trans h
theorem new_alloc {w : World} {k : Nat} {o : Obj} (h : w.heap.size = k) : (w.alloc o).heap[k]? = some o := by subst h; exact heap_alloc_new w o
theorem row32_of {w : World} {b : Nat} {l : List Int} {T : TypeId} (h : w.heap[b]? = some (.cells (l.map (Value.int .i32)).toArray T (0, 0))) : Row32 b l w := fun j hj => by
  rw [cell_of_row _ _ j _ _ _ h, List.getD_eq_getElem?_getD]
  simp [hj]
theorem looked_of {w : World} {b B c : Nat} {l : List Int} {T T' : TypeId} (h : w.heap[b]? = some (.cells (l.map (Value.int .i32)).toArray T (0, 0))) (hB : w.heap[B]? = some (.cells #[.slice (some ⟨b, 0, none⟩) l.length c] T' (0, 0))) : Looked B l w :=
  ⟨b, c, cell_of_row _ _ 0 _ _ _ hB, row32_of h⟩
theorem rule_plain (w : World) : RuleOf w (.func (.func 92) #[] #[]) rPlain := ⟨92, #[], rfl, enters_of Tryz.func92 (by kernel_rfl) rfl, fun W _ a s b => isPlain_any a s b W⟩
theorem rule_mark (w : World) : RuleOf w (.func (.func 93) #[] #[]) rMark := ⟨93, #[], rfl, enters_of Tryz.func93 (by kernel_rfl) rfl, fun W _ a s b => isNoMark_any a s b W⟩
theorem rule_digit (w : World) : RuleOf w (.func (.func 124) #[] #[]) rDigit := ⟨124, #[], rfl, enters_of Tryz.func124 (by kernel_rfl) rfl, fun W _ a s b => firstIsDigit_any a s b W⟩
theorem rule_first (w : World) (B : Nat) (l : List Int) (hl : l.length ≤ 1000) (h : Looked B l w) : RuleOf w (.func (.func 120) #[] #[.pointer (some ⟨B, 0, none⟩)]) (rFirst l) :=
  ⟨120, #[.pointer (some ⟨B, 0, none⟩)], rfl, enters_of Tryz.func120 (by kernel_rfl) rfl, fun W hW a s b => notFirst_in B l hl a s b W (h.below hW)⟩
theorem rule_last (w : World) (B : Nat) (l : List Int) (hl : l.length ≤ 1000) (h : Looked B l w) : RuleOf w (.func (.func 121) #[] #[.pointer (some ⟨B, 0, none⟩)]) (rLast l) :=
  ⟨121, #[.pointer (some ⟨B, 0, none⟩)], rfl, enters_of Tryz.func121 (by kernel_rfl) rfl, fun W hW a s b => notLast_in B l hl a s b W (h.below hW)⟩
theorem rule_no (w : World) (B : Nat) (l : List Int) (hl : l.length ≤ 1000) (h : Looked B l w) : RuleOf w (.func (.func 122) #[] #[.pointer (some ⟨B, 0, none⟩)]) (rNo l) :=
  ⟨122, #[.pointer (some ⟨B, 0, none⟩)], rfl, enters_of Tryz.func122 (by kernel_rfl) rfl, fun W hW a s b => nowhere_in B l hl a s b W (h.below hW)⟩
theorem rule_digitOr (w : World) (B : Nat) (l : List Int) (hl : l.length ≤ 1000) (h : Looked B l w) : RuleOf w (.func (.func 138) #[] #[.pointer (some ⟨B, 0, none⟩)]) (rDigitOr l) :=
  ⟨138, #[.pointer (some ⟨B, 0, none⟩)], rfl, enters_of Tryz.func138 (by kernel_rfl) rfl, fun W hW a s b => digitOr_in B l hl a s b W (h.below hW)⟩
def heads : List Int := [32, 44, 91, 93, 123, 125, 35, 38, 42, 33, 124, 62, 39, 34, 37, 64, 96]
def flows : List Int := [44, 91, 93, 123, 125]
def rules4 : List Trip := [rPlain, rMark, rFirst heads, rLast [32]]
def rules5 : List Trip := [rPlain, rMark, rFirst heads, rLast [32], rNo flows]
/-- what is laid ahead of the row of rules -/
theorem head4 (w w4 : World) (h4 : (((w.alloc (.cells #[.int .i32 32, .int .i32 44, .int .i32 91, .int .i32 93, .int .i32 123, .int .i32 125, .int .i32 35, .int .i32 38, .int .i32 42, .int .i32 33, .int .i32 124, .int .i32 62, .int .i32 39, .int .i32 34, .int .i32 37, .int .i32 64, .int .i32 96] 21)).alloc (.cells #[.slice (some ⟨w.heap.size, 0, none⟩) 17 17] 127)).alloc (.cells #[.int .i32 32] 21)).alloc (.cells #[.slice (some ⟨w.heap.size + 1 + 1, 0, none⟩) 1 1] 127) = w4) : w4.heap.size = w.heap.size + 4 ∧ Looked (w.heap.size + 1) heads w4 ∧ Looked (w.heap.size + 3) [32] w4 ∧ Below w.heap.size w w4 := by
  obtain ⟨w1, h1⟩ : ∃ w1, w.alloc (.cells #[.int .i32 32, .int .i32 44, .int .i32 91, .int .i32 93, .int .i32 123, .int .i32 125, .int .i32 35, .int .i32 38, .int .i32 42, .int .i32 33, .int .i32 124, .int .i32 62, .int .i32 39, .int .i32 34, .int .i32 37, .int .i32 64, .int .i32 96] 21) = w1 := ⟨_, rfl⟩
  have x1 : w1.heap[w.heap.size]? = some (.cells (heads.map (Value.int .i32)).toArray 21 (0, 0)) := by rw [← h1]; exact new_alloc rfl
  have z1 : w1.heap.size = w.heap.size + 1 := by rw [← h1]; simp
  have b1 : Below w.heap.size w w1 := by rw [← h1]; exact (Below.refl _ _).alloc (Nat.le_refl _) _
  rw [h1] at h4
  obtain ⟨w2, h2⟩ : ∃ w2, w1.alloc (.cells #[.slice (some ⟨w.heap.size, 0, none⟩) 17 17] 127) = w2 := ⟨_, rfl⟩
  have x2 : w2.heap[w.heap.size + 1]? = some (.cells #[.slice (some ⟨w.heap.size, 0, none⟩) 17 17] 127 (0, 0)) := by rw [← h2]; exact new_alloc z1
  have y1 := keep_alloc (o' := .cells #[.slice (some ⟨w.heap.size, 0, none⟩) 17 17] 127) x1
  have b2 := b1.alloc (by omega) (.cells #[.slice (some ⟨w.heap.size, 0, none⟩) 17 17] 127)
  rw [h2] at y1 b2
  have z2 : w2.heap.size = w.heap.size + 2 := by rw [← h2]; simp; omega
  rw [h2] at h4
  obtain ⟨w3, h3⟩ : ∃ w3, w2.alloc (.cells #[.int .i32 32] 21) = w3 := ⟨_, rfl⟩
  have x3 : w3.heap[w.heap.size + 2]? = some (.cells (([32] : List Int).map (Value.int .i32)).toArray 21 (0, 0)) := by rw [← h3]; exact new_alloc z2
  have z3 : w3.heap.size = w.heap.size + 3 := by rw [← h3]; simp; omega
  have b3 : Below w2.heap.size w2 w3 := by rw [← h3]; exact (Below.refl _ _).alloc (Nat.le_refl _) _
  rw [h3] at h4
  have x4 : w4.heap[w.heap.size + 3]? = some (.cells #[.slice (some ⟨w.heap.size + 2, 0, none⟩) 1 1] 127 (0, 0)) := by rw [← h4]; exact new_alloc z3
  have y3 := keep_alloc (o' := .cells #[.slice (some ⟨w.heap.size + 1 + 1, 0, none⟩) 1 1] 127) x3
  rw [h4] at y3
  have z4 : w4.heap.size = w.heap.size + 4 := by rw [← h4]; simp; omega
  have b4 : Below w2.heap.size w2 w4 := by rw [← h4]; exact b3.alloc (by omega) _
  exact ⟨z4, (looked_of (l := heads) y1 x2).below b4, looked_of (l := [32]) y3 x4, b2.trans (b4.mono (by omega))⟩
set_option maxHeartbeats 1000000 in
theorem rulesFor_no (w : World) : Calls Tryz.prog 64 #[.bool false] w fun e w' => (∃ br c, e = .returned (.slice (some ⟨br, 0, none⟩) 4 c) ∧ Rules br rules4 w') ∧ Below w.heap.size w w' := by
  obtain ⟨w4, h4⟩ : ∃ w4, (((w.alloc (.cells #[.int .i32 32, .int .i32 44, .int .i32 91, .int .i32 93, .int .i32 123, .int .i32 125, .int .i32 35, .int .i32 38, .int .i32 42, .int .i32 33, .int .i32 124, .int .i32 62, .int .i32 39, .int .i32 34, .int .i32 37, .int .i32 64, .int .i32 96] 21)).alloc (.cells #[.slice (some ⟨w.heap.size, 0, none⟩) 17 17] 127)).alloc (.cells #[.int .i32 32] 21)).alloc (.cells #[.slice (some ⟨w.heap.size + 1 + 1, 0, none⟩) 1 1] 127) = w4 := ⟨_, rfl⟩
  obtain ⟨z4, l1, l2, b4⟩ := head4 w w4 h4
  have Z4 := Lib.hid z4
  have hle : w.heap.size ≤ w4.heap.size := by omega
  clear z4
  go_enter Tryz.func64, Tryz.ntmps64
  go_wp2_with (first | (go_at_call 94; refine (notFirst_any _ _ _ _).mono ?_; rintro e w' ⟨rfl, rfl⟩) | (go_at_call 95; refine (notLast_any _ _ _ _).mono ?_; rintro e w' ⟨rfl, rfl⟩))
  go_ret
  refine ⟨⟨_, _, rfl, ?_⟩, b4.alloc hle _⟩
  intro j hj
  have hbl : Below w4.heap.size w4 (w4.alloc (.cells #[.func (.func 92) #[] #[], .func (.func 93) #[] #[], .func (.func 120) #[] #[.pointer (some ⟨w.heap.size + 1, 0, none⟩)], .func (.func 121) #[] #[.pointer (some ⟨w.heap.size + 1 + 1 + 1, 0, none⟩)]] 116)) := (Below.refl _ _).alloc (Nat.le_refl _) _
  have hrow := new_alloc (w := w4) (o := .cells #[.func (.func 92) #[] #[], .func (.func 93) #[] #[], .func (.func 120) #[] #[.pointer (some ⟨w.heap.size + 1, 0, none⟩)], .func (.func 121) #[] #[.pointer (some ⟨w.heap.size + 1 + 1 + 1, 0, none⟩)]] 116) rfl
  have hj4 : j < 4 := hj
  obtain rfl | rfl | rfl | rfl : j = 0 ∨ j = 1 ∨ j = 2 ∨ j = 3 := by omega
  · exact ⟨_, cell_of_row _ _ 0 _ _ _ hrow, rule_plain _⟩
  · exact ⟨_, cell_of_row _ _ 1 _ _ _ hrow, rule_mark _⟩
  · exact ⟨_, cell_of_row _ _ 2 _ _ _ hrow, rule_first _ _ _ (by decide) (l1.below hbl)⟩
  · exact ⟨_, cell_of_row _ _ 3 _ _ _ hrow, rule_last _ _ _ (by decide) (l2.below hbl)⟩
theorem info56 : (Tryz.prog.info? 116).map (fun i => (i.zero, i.size, i.bytes)) = some (some .nilFunc, 1, 8) := by kernel_rfl
theorem Looked.grown {w w' : World} {b B c r : Nat} {l : List Int} {T T' : TypeId} (h : w.heap[b]? = some (.cells (l.map (Value.int .i32)).toArray T (0, 0))) (hB : w.heap[B]? = some (.cells #[.slice (some ⟨b, 0, none⟩) l.length c] T' (0, 0)))
    (hg : w.grownBy w' (some r)) (h1 : b ≠ r) (h2 : B ≠ r) : Looked B l w' :=
  looked_of ((hg.block b (Array.getElem?_eq_some_iff.1 h).1 (by simpa using h1)).trans h) ((hg.block B (Array.getElem?_eq_some_iff.1 hB).1 (by simpa using h2)).trans hB)
set_option maxRecDepth 100000 in
set_option maxHeartbeats 2000000 in
theorem rulesFor_yes (w : World) : Calls Tryz.prog 64 #[.bool true] w fun e w' => (∃ br c, e = .returned (.slice (some ⟨br, 0, none⟩) 5 c) ∧ Rules br rules5 w') ∧ Below w.heap.size w w' := by
  obtain ⟨w4, h4⟩ : ∃ w4, (((w.alloc (.cells #[.int .i32 32, .int .i32 44, .int .i32 91, .int .i32 93, .int .i32 123, .int .i32 125, .int .i32 35, .int .i32 38, .int .i32 42, .int .i32 33, .int .i32 124, .int .i32 62, .int .i32 39, .int .i32 34, .int .i32 37, .int .i32 64, .int .i32 96] 21)).alloc (.cells #[.slice (some ⟨w.heap.size, 0, none⟩) 17 17] 127)).alloc (.cells #[.int .i32 32] 21)).alloc (.cells #[.slice (some ⟨w.heap.size + 1 + 1, 0, none⟩) 1 1] 127) = w4 := ⟨_, rfl⟩
  obtain ⟨z4, l1, l2, b4⟩ := head4 w w4 h4
  have Z4 := Lib.hid z4
  have hle : w.heap.size ≤ w4.heap.size := by omega
  obtain ⟨i0, hi, hz0, hz1, hz2⟩ := info_parts info56
  have HL1 := Lib.hid l1
  have HL2 := Lib.hid l2
  have HB4 := Lib.hid b4
  clear z4 l1 l2 b4
  go_enter Tryz.func64, Tryz.ntmps64
  go_upto_region 3 with (first | (go_at_call 94; refine (notFirst_any _ _ _ _).mono ?_; rintro e w' ⟨rfl, rfl⟩) | (go_at_call 95; refine (notLast_any _ _ _ _).mono ?_; rintro e w' ⟨rfl, rfl⟩))
  obtain ⟨w5, h5⟩ : ∃ w5, w4.alloc (.cells #[.func (.func 92) #[] #[], .func (.func 93) #[] #[], .func (.func 120) #[] #[.pointer (some ⟨w.heap.size + 1, 0, none⟩)], .func (.func 121) #[] #[.pointer (some ⟨w.heap.size + 1 + 1 + 1, 0, none⟩)]] 116) = w5 := ⟨_, rfl⟩
  have hown : w5.ownsRow w.heap.size 116 1 (.slice (some ⟨w4.heap.size, 0, none⟩) 4 4) 4 [.func (.func 92) #[] #[], .func (.func 93) #[] #[], .func (.func 120) #[] #[.pointer (some ⟨w.heap.size + 1, 0, none⟩)], .func (.func 121) #[] #[.pointer (some ⟨w.heap.size + 1 + 1 + 1, 0, none⟩)]] :=
    ⟨rfl, .inr ⟨w4.heap.size, 4, _, rfl, hle, by rw [← h5]; exact new_alloc rfl, Nat.le_refl _, by simp [maxLen], rfl, rfl⟩⟩
  have z5 : w5.heap.size = w4.heap.size + 1 := by rw [← h5]; simp
  have b5 : Below w4.heap.size w4 w5 := by rw [← h5]; exact (Below.refl _ _).alloc (Nat.le_refl _) _
  rw [h5]
  have Z5 := Lib.hid z5
  have HB5 := Lib.hid b5
  have HOWN := Lib.hid hown
  clear h4 h5 z5 b5 hown
  go_wp2_with fail
  refine (nowhere_any _ _ _ _).mono ?_
  rintro e w' ⟨rfl, rfl⟩
  obtain ⟨w6, h6⟩ : ∃ w6, w5.alloc (.cells #[.int .i32 44, .int .i32 91, .int .i32 93, .int .i32 123, .int .i32 125] 21) = w6 := ⟨_, rfl⟩
  have x6 : w6.heap[w5.heap.size]? = some (.cells (flows.map (Value.int .i32)).toArray 21 (0, 0)) := by rw [← h6]; exact new_alloc rfl
  have z6 : w6.heap.size = w5.heap.size + 1 := by rw [← h6]; simp
  have b6 : Below w5.heap.size w5 w6 := by rw [← h6]; exact (Below.refl _ _).alloc (Nat.le_refl _) _
  have o6 := HOWN.out.alloc (.cells #[.int .i32 44, .int .i32 91, .int .i32 93, .int .i32 123, .int .i32 125] 21)
  rw [h6] at o6
  rw [h6]
  obtain ⟨w7, h7⟩ : ∃ w7, w6.alloc (.cells #[.slice (some ⟨w5.heap.size, 0, none⟩) 5 5] 127) = w7 := ⟨_, rfl⟩
  have x7 : w7.heap[w5.heap.size + 1]? = some (.cells #[.slice (some ⟨w5.heap.size, 0, none⟩) 5 5] 127 (0, 0)) := by rw [← h7]; exact new_alloc z6
  have y6 := keep_alloc (o' := .cells #[.slice (some ⟨w5.heap.size, 0, none⟩) 5 5] 127) x6
  have z7 : w7.heap.size = w5.heap.size + 2 := by rw [← h7]; simp; omega
  have b7 := b6.alloc (by omega) (.cells #[.slice (some ⟨w5.heap.size, 0, none⟩) 5 5] 127)
  have o7 := o6.alloc (.cells #[.slice (some ⟨w5.heap.size, 0, none⟩) 5 5] 127)
  rw [h7] at y6 b7 o7
  rw [h7, z6]
  have X7 := Lib.hid x7
  have Y6 := Lib.hid y6
  have Z7 := Lib.hid z7
  have B7 := Lib.hid b7
  have O7 := Lib.hid o7
  have hle7 : w.heap.size ≤ w7.heap.size + 1 := by have := Z5.out; omega
  clear x7 y6 z7 b7 o7 o6 x6 b6 z6 h6 h7
  go_wp2_with (at_builtin; refine wpList_append_own _ rfl _ _ 77 rfl w.heap.size 116 i0 .nilFunc 1 8 Tryz.underlying77 hi hz0 hz1 hz2 rfl (by decide) _ 4 _ rfl (O7.out.alloc _) ⟨w7.heap.size, 0, none⟩ 1 1 [.func (.func 122) #[] #[.pointer (some ⟨w5.heap.size + 1, 0, none⟩)]] rfl rfl (cell_one_new _ _ _) (by simp [Value.oneCell']) (by simp [maxLen]) (by omega) (by simp; omega) ?_; intro v' w9 hown9 hgr9 _; have HO9 := Lib.hid hown9; have HG9 := Lib.hid hgr9; clear hown9 hgr9)
  obtain ⟨w8, h8⟩ : ∃ w8, w7.alloc (.cells #[.func (.func 122) #[] #[.pointer (some ⟨w5.heap.size + 1, 0, none⟩)]] 116) = w8 := ⟨_, rfl⟩
  have hg9 := HG9.out
  rw [h8] at hg9
  have b78 : Below w5.heap.size w5 w8 := by rw [← h8]; exact B7.out.alloc (by have := Z7.out; omega) _
  have z8 : w8.heap.size = w7.heap.size + 1 := by rw [← h8]; simp
  have b49 : Below w4.heap.size w4 w9 := (HB5.out.trans (b78.mono (by have := Z5.out; omega))).trans (below_of_grown (b := w4.heap.size) hg9 (Nat.le_refl _) (by have := Z5.out; have := Z7.out; omega))
  have x8 : w8.heap[w5.heap.size + 1]? = some (.cells #[.slice (some ⟨w5.heap.size, 0, none⟩) 5 5] 127 (0, 0)) := by rw [← h8]; exact keep_alloc X7.out
  have y8 : w8.heap[w5.heap.size]? = some (.cells (flows.map (Value.int .i32)).toArray 21 (0, 0)) := by rw [← h8]; exact keep_alloc Y6.out
  have l3 : Looked (w5.heap.size + 1) flows w9 := Looked.grown (l := flows) y8 x8 (r := w4.heap.size) hg9 (by have := Z5.out; omega) (by have := Z5.out; omega)
  rcases HO9.out with ⟨_, ⟨_, h⟩ | ⟨g, cap, cur, rfl, hgb, _⟩⟩
  · exact absurd h (by decide)
  · have hcl := HO9.out.cells (g := g) rfl
    have L1 := HL1.out.below b49
    have L2 := HL2.out.below b49
    have BB := HB4.out.trans (b49.mono hle)
    clear hg9 b78 x8 y8 h8 b49
    go_ret
    refine ⟨⟨g, cap, rfl, ?_⟩, BB⟩
    intro j hj
    have hj5 : j < 5 := hj
    have ha : ∀ j, (⟨g, 0, none⟩ : Addr).add j = ⟨g, j, none⟩ := fun j => by unfold Addr.add; split <;> simp_all
    obtain rfl | rfl | rfl | rfl | rfl : j = 0 ∨ j = 1 ∨ j = 2 ∨ j = 3 ∨ j = 4 := by omega
    · exact ⟨_, by have := hcl 0 _ rfl; rwa [ha] at this, rule_plain _⟩
    · exact ⟨_, by have := hcl 1 _ rfl; rwa [ha] at this, rule_mark _⟩
    · exact ⟨_, by have := hcl 2 _ rfl; rwa [ha] at this, rule_first _ _ _ (by decide) L1⟩
    · exact ⟨_, by have := hcl 3 _ rfl; rwa [ha] at this, rule_last _ _ _ (by decide) L2⟩
    · exact ⟨_, by have := hcl 4 _ rfl; rwa [ha] at this, rule_no _ _ _ (by decide) l3⟩
end Go.Proofs.YtkliecngkcjieaaGreatDoor
