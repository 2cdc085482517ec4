/- What is a scalar tells its text as the document tells it. Conditions: the library's tables lie as they are laid; the text is not too long. -/
import Derived.Test.YtkliecngkcjieaaGreatDoorQte
import Derived.Test.YtkliecngkcjieaaGreatDoorTxt
import Derived.Test.YtkliecngkcjieaaGreatDoorCmp
import Derived.Laws.EntriesVeiled
set_option maxRecDepth 100000
namespace Go.Proofs.YtkliecngkcjieaaGreatDoor
open Go.RowKit Go.Shelf
open Pl Quo Scs
theorem t_null (x : Sc) (w : World) : Calls Tryz.prog 43 #[aggS x] w fun e w' => e = .returned (.string ⟨#[110, 117, 108, 108]⟩) ∧ Below w.heap.size w w' := by
  unfold aggS
  go_enter Tryz.func43, Tryz.ntmps43
  go_wp2
  go_ret
  exact ⟨rfl, (Below.refl _ _).alloc (Nat.le_refl _) _⟩
theorem t_bool (x : Sc) (w : World) : Calls Tryz.prog 44 #[aggS x] w fun e w' => e = .returned (.string (ofL (if x.2.1 = 1 then [116, 114, 117, 101] else [102, 97, 108, 115, 101]))) ∧ Below w.heap.size w w' := by
  have hF := fun w => Tryz.strconv_FormatBool (x.2.1 == 1) w
  have e : (⟨(Go.Lib.formatBool (x.2.1 == 1)).toArray⟩ : ByteArray) = ofL (if x.2.1 = 1 then [116, 114, 117, 101] else [102, 97, 108, 115, 101]) := by
    by_cases h : x.2.1 = 1
    · rw [if_pos h, show (x.2.1 == 1) = true by simp [h]]; decide
    · rw [if_neg h, show (x.2.1 == 1) = false by simp [h]]; decide
  rw [e] at hF
  obtain ⟨T, hT⟩ : ∃ T, ofL (if x.2.1 = 1 then [116, 114, 117, 101] else [102, 97, 108, 115, 101]) = T := ⟨_, rfl⟩
  rw [hT] at hF ⊢
  have HF := Lib.hid hF
  clear hF e hT
  unfold aggS
  go_enter Tryz.func44, Tryz.ntmps44
  go_wp2_with fail
  refine (HF.out _).mono ?_
  rintro e w' ⟨rfl, rfl⟩
  go_wp2_with fail
  go_ret
  exact ⟨rfl, (Below.refl _ _).alloc (Nat.le_refl _) _⟩
theorem Itoa_any (n : Int) (h1 : -9223372036854775808 ≤ n) (h2 : n ≤ 9223372036854775807) (w : World) (E : Env w) : Calls Tryz.prog 68 #[.int .i64 n] w fun e w' => e = .returned (.string (ofL (Go.Lib.itoa n))) ∧ Below w.heap.size w w' :=
  (Tryz.strconv_Itoa n h1 h2 w E.pow).mono fun _ _ ⟨he, q, os, hw⟩ => ⟨he, by rw [hw]; exact below_grow w q os⟩
theorem t_int (x : Sc) (h1 : -9223372036854775808 ≤ x.2.1) (h2 : x.2.1 ≤ 9223372036854775807) (w : World) (E : Env w) : Calls Tryz.prog 45 #[aggS x] w fun e w' => e = .returned (.string (ofL (Go.Lib.itoa x.2.1))) ∧ Below w.heap.size w w' := by
  have E1 := E.below ((Below.refl _ w).alloc (Nat.le_refl _) (.cells #[.int .i64 x.1, .int .i64 x.2.1, .string x.2.2] 58))
  have hF := Itoa_any x.2.1 h1 h2 _ E1
  have HF := Lib.hid hF
  clear hF E E1
  unfold aggS
  go_enter Tryz.func45, Tryz.ntmps45
  go_wp2_with fail
  refine (HF.out).mono ?_
  rintro e w' ⟨rfl, hb⟩
  have HB := Lib.hid hb
  clear hb
  go_wp2_with fail
  go_ret
  exact ⟨rfl, ((Below.refl _ w).alloc (Nat.le_refl _) _).trans (HB.out.mono (by simp))⟩
theorem t_str (x : Sc) (hs : x.2.2.size ≤ 1000000) (w : World) (E : Env w) : Calls Tryz.prog 46 #[aggS x] w fun e w' => e = .returned (.string (quoteT x.2.2)) ∧ Below w.heap.size w w' := by
  have E1 := E.below ((Below.refl _ w).alloc (Nat.le_refl _) (.cells #[.int .i64 x.1, .int .i64 x.2.1, .string x.2.2] 58))
  have hF := Quote_any x.2.2 hs _ E1
  have HF := Lib.hid hF
  clear hF E E1
  unfold aggS
  go_enter Tryz.func46, Tryz.ntmps46
  go_wp2_with fail
  refine (HF.out).mono ?_
  rintro e w' ⟨rfl, hb⟩
  have HB := Lib.hid hb
  clear hb
  go_wp2_with fail
  go_ret
  exact ⟨rfl, ((Below.refl _ w).alloc (Nat.le_refl _) _).trans (HB.out.mono (by simp))⟩
/-- what textOf tells -/
def textO (x : Sc) : ByteArray := ofL (textL x)
set_option maxHeartbeats 2000000 in
theorem textOf_null (n : Int) (s : ByteArray) (w : World) (_E : Env w) :
    Calls Tryz.prog 28 #[.agg #[.int .i64 0, .int .i64 n, .string s]] w fun e w' => e = .returned (.string (textO (0, n, s))) ∧ Below w.heap.size w w' := by
  have hw : Below w.heap.size w (((w.alloc (.cells #[.int .i64 0, .int .i64 n, .string s] 23)).alloc (.cells #[.int .i64 0, .int .i64 n, .string s] 58)).alloc (.cells #[.func (.func 43) #[.agg #[.int .i64 0, .int .i64 n, .string s]] #[], .func (.func 44) #[.agg #[.int .i64 0, .int .i64 n, .string s]] #[], .func (.func 45) #[.agg #[.int .i64 0, .int .i64 n, .string s]] #[], .func (.func 46) #[.agg #[.int .i64 0, .int .i64 n, .string s]] #[]] 60)) :=
    (((Below.refl _ w).alloc (Nat.le_refl _) _).alloc (by simp) _).alloc (by simp; omega) _
  have hT := t_null (0, n, s) (((w.alloc (.cells #[.int .i64 0, .int .i64 n, .string s] 23)).alloc (.cells #[.int .i64 0, .int .i64 n, .string s] 58)).alloc (.cells #[.func (.func 43) #[.agg #[.int .i64 0, .int .i64 n, .string s]] #[], .func (.func 44) #[.agg #[.int .i64 0, .int .i64 n, .string s]] #[], .func (.func 45) #[.agg #[.int .i64 0, .int .i64 n, .string s]] #[], .func (.func 46) #[.agg #[.int .i64 0, .int .i64 n, .string s]] #[]] 60))
  have e : (⟨#[110, 117, 108, 108]⟩ : ByteArray) = textO (0, n, s) := rfl
  rw [e] at hT
  unfold aggS at hT
  have HT := Lib.hid hT
  have HW := Lib.hid hw
  clear hT hw _E e
  go_enter Tryz.func28, Tryz.ntmps28
  go_wp2_with fail
  refine (HT.out).mono ?_
  rintro e w' ⟨rfl, hb⟩
  have HB := Lib.hid hb
  clear hb
  go_wp2_with fail
  go_ret
  exact ⟨rfl, HW.out.trans (HB.out.mono (by simp; omega))⟩
set_option maxHeartbeats 2000000 in
theorem textOf_bool (n : Int) (s : ByteArray) (w : World) (_E : Env w) :
    Calls Tryz.prog 28 #[.agg #[.int .i64 1, .int .i64 n, .string s]] w fun e w' => e = .returned (.string (textO (1, n, s))) ∧ Below w.heap.size w w' := by
  have hw : Below w.heap.size w (((w.alloc (.cells #[.int .i64 1, .int .i64 n, .string s] 23)).alloc (.cells #[.int .i64 1, .int .i64 n, .string s] 58)).alloc (.cells #[.func (.func 43) #[.agg #[.int .i64 1, .int .i64 n, .string s]] #[], .func (.func 44) #[.agg #[.int .i64 1, .int .i64 n, .string s]] #[], .func (.func 45) #[.agg #[.int .i64 1, .int .i64 n, .string s]] #[], .func (.func 46) #[.agg #[.int .i64 1, .int .i64 n, .string s]] #[]] 60)) :=
    (((Below.refl _ w).alloc (Nat.le_refl _) _).alloc (by simp) _).alloc (by simp; omega) _
  have hT := t_bool (1, n, s) (((w.alloc (.cells #[.int .i64 1, .int .i64 n, .string s] 23)).alloc (.cells #[.int .i64 1, .int .i64 n, .string s] 58)).alloc (.cells #[.func (.func 43) #[.agg #[.int .i64 1, .int .i64 n, .string s]] #[], .func (.func 44) #[.agg #[.int .i64 1, .int .i64 n, .string s]] #[], .func (.func 45) #[.agg #[.int .i64 1, .int .i64 n, .string s]] #[], .func (.func 46) #[.agg #[.int .i64 1, .int .i64 n, .string s]] #[]] 60))
  have e : ofL (if n = 1 then [116, 114, 117, 101] else [102, 97, 108, 115, 101]) = textO (1, n, s) := rfl
  rw [e] at hT
  unfold aggS at hT
  have HT := Lib.hid hT
  have HW := Lib.hid hw
  clear hT hw _E e
  go_enter Tryz.func28, Tryz.ntmps28
  go_wp2_with fail
  refine (HT.out).mono ?_
  rintro e w' ⟨rfl, hb⟩
  have HB := Lib.hid hb
  clear hb
  go_wp2_with fail
  go_ret
  exact ⟨rfl, HW.out.trans (HB.out.mono (by simp; omega))⟩
set_option maxHeartbeats 2000000 in
theorem textOf_int (n : Int) (s : ByteArray) (h1 : -9223372036854775808 ≤ n) (h2 : n ≤ 9223372036854775807) (w : World) (E : Env w) :
    Calls Tryz.prog 28 #[.agg #[.int .i64 2, .int .i64 n, .string s]] w fun e w' => e = .returned (.string (textO (2, n, s))) ∧ Below w.heap.size w w' := by
  have hw : Below w.heap.size w (((w.alloc (.cells #[.int .i64 2, .int .i64 n, .string s] 23)).alloc (.cells #[.int .i64 2, .int .i64 n, .string s] 58)).alloc (.cells #[.func (.func 43) #[.agg #[.int .i64 2, .int .i64 n, .string s]] #[], .func (.func 44) #[.agg #[.int .i64 2, .int .i64 n, .string s]] #[], .func (.func 45) #[.agg #[.int .i64 2, .int .i64 n, .string s]] #[], .func (.func 46) #[.agg #[.int .i64 2, .int .i64 n, .string s]] #[]] 60)) :=
    (((Below.refl _ w).alloc (Nat.le_refl _) _).alloc (by simp) _).alloc (by simp; omega) _
  have hT := t_int (2, n, s) h1 h2 (((w.alloc (.cells #[.int .i64 2, .int .i64 n, .string s] 23)).alloc (.cells #[.int .i64 2, .int .i64 n, .string s] 58)).alloc (.cells #[.func (.func 43) #[.agg #[.int .i64 2, .int .i64 n, .string s]] #[], .func (.func 44) #[.agg #[.int .i64 2, .int .i64 n, .string s]] #[], .func (.func 45) #[.agg #[.int .i64 2, .int .i64 n, .string s]] #[], .func (.func 46) #[.agg #[.int .i64 2, .int .i64 n, .string s]] #[]] 60)) (E.below hw)
  have e : ofL (Go.Lib.itoa n) = textO (2, n, s) := rfl
  rw [e] at hT
  unfold aggS at hT
  have HT := Lib.hid hT
  have HW := Lib.hid hw
  clear hT hw E e
  go_enter Tryz.func28, Tryz.ntmps28
  go_wp2_with fail
  refine (HT.out).mono ?_
  rintro e w' ⟨rfl, hb⟩
  have HB := Lib.hid hb
  clear hb
  go_wp2_with fail
  go_ret
  exact ⟨rfl, HW.out.trans (HB.out.mono (by simp; omega))⟩
set_option maxHeartbeats 2000000 in
theorem textOf_str (n : Int) (s : ByteArray) (hs : s.size ≤ 1000000) (w : World) (E : Env w) :
    Calls Tryz.prog 28 #[.agg #[.int .i64 3, .int .i64 n, .string s]] w fun e w' => e = .returned (.string (textO (3, n, s))) ∧ Below w.heap.size w w' := by
  have hw : Below w.heap.size w (((w.alloc (.cells #[.int .i64 3, .int .i64 n, .string s] 23)).alloc (.cells #[.int .i64 3, .int .i64 n, .string s] 58)).alloc (.cells #[.func (.func 43) #[.agg #[.int .i64 3, .int .i64 n, .string s]] #[], .func (.func 44) #[.agg #[.int .i64 3, .int .i64 n, .string s]] #[], .func (.func 45) #[.agg #[.int .i64 3, .int .i64 n, .string s]] #[], .func (.func 46) #[.agg #[.int .i64 3, .int .i64 n, .string s]] #[]] 60)) :=
    (((Below.refl _ w).alloc (Nat.le_refl _) _).alloc (by simp) _).alloc (by simp; omega) _
  have hT := t_str (3, n, s) hs (((w.alloc (.cells #[.int .i64 3, .int .i64 n, .string s] 23)).alloc (.cells #[.int .i64 3, .int .i64 n, .string s] 58)).alloc (.cells #[.func (.func 43) #[.agg #[.int .i64 3, .int .i64 n, .string s]] #[], .func (.func 44) #[.agg #[.int .i64 3, .int .i64 n, .string s]] #[], .func (.func 45) #[.agg #[.int .i64 3, .int .i64 n, .string s]] #[], .func (.func 46) #[.agg #[.int .i64 3, .int .i64 n, .string s]] #[]] 60)) (E.below hw)
  have e : quoteT s = textO (3, n, s) := by unfold quoteT textO textL; split <;> simp [*, ofL]
  rw [e] at hT
  unfold aggS at hT
  have HT := Lib.hid hT
  have HW := Lib.hid hw
  clear hT hw E e
  go_enter Tryz.func28, Tryz.ntmps28
  go_wp2_with fail
  refine (HT.out).mono ?_
  rintro e w' ⟨rfl, hb⟩
  have HB := Lib.hid hb
  clear hb
  go_wp2_with fail
  go_ret
  exact ⟨rfl, HW.out.trans (HB.out.mono (by simp; omega))⟩
theorem textOf_any (x : Sc) (hk : x.1 = 0 ∨ x.1 = 1 ∨ x.1 = 2 ∨ x.1 = 3) (h1 : -9223372036854775808 ≤ x.2.1) (h2 : x.2.1 ≤ 9223372036854775807) (hs : x.2.2.size ≤ 1000000) (w : World) (E : Env w) :
    Calls Tryz.prog 28 #[aggS x] w fun e w' => e = .returned (.string (textO x)) ∧ Below w.heap.size w w' := by
  obtain ⟨k, n, s⟩ := x
  simp only at hk h1 h2 hs
  unfold aggS
  rcases hk with rfl | rfl | rfl | rfl
  · exact textOf_null n s w E
  · exact textOf_bool n s w E
  · exact textOf_int n s h1 h2 w E
  · exact textOf_str n s hs w E
end Go.Proofs.YtkliecngkcjieaaGreatDoor
