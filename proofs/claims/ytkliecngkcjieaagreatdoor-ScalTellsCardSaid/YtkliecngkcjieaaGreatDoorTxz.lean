/- What is a scalar tells its text as the document tells it. Conditions: the library's tables lie as they are laid; the text is not too long. Text tells a scalar's text, or that it is none, as the document tells it. Conditions: the library's tables lie as they are laid; the text is not too long. What a text says without quotes, and the scalar that was said. Conditions: the library's tables lie as they are laid; the text is not too long. Read tells the scalar whose text that is, or that there is none, as the document tells it. Conditions: what the text says is told so; the library's tables lie as they are laid; the text is not too long. -/
import Derived.Test.YtkliecngkcjieaaGreatDoorQte
import Derived.Test.YtkliecngkcjieaaGreatDoorTxt
import Derived.Test.YtkliecngkcjieaaGreatDoorOrdx
import Derived.Laws.EntriesVeiled
import Derived.Test.YtkliecngkcjieaaGreatDoorRed
import Derived.Stop.Asserts
set_option maxRecDepth 100000
namespace Go.Proofs.YtkliecngkcjieaaGreatDoor
open Go.RowKit Go.Shelf
open Pl Quo Scs
theorem t_null (x : Sc) (w : World) : Calls Tryz.prog 43 #[aggS x] w fun e w' => e = .returned (.string ⟨#[110, 117, 108, 108]⟩) ∧ Below w.heap.size w w' := by
  unfold aggS
  go_enter Tryz.func43, Tryz.ntmps43
  go_wp2
  go_ret
  exact ⟨rfl, (Below.refl _ _).alloc (Nat.le_refl _) _⟩
theorem t_bool (x : Sc) (w : World) : Calls Tryz.prog 44 #[aggS x] w fun e w' => e = .returned (.string (ofL (if x.2.1 = 1 then [116, 114, 117, 101] else [102, 97, 108, 115, 101]))) ∧ Below w.heap.size w w' := by
  have hF := fun w => Tryz.strconv_FormatBool (x.2.1 == 1) w
  have e : (⟨(Go.Lib.formatBool (x.2.1 == 1)).toArray⟩ : ByteArray) = ofL (if x.2.1 = 1 then [116, 114, 117, 101] else [102, 97, 108, 115, 101]) := by
    by_cases h : x.2.1 = 1
    · rw [if_pos h, show (x.2.1 == 1) = true by simp [h]]; decide
    · rw [if_neg h, show (x.2.1 == 1) = false by simp [h]]; decide
  rw [e] at hF
  obtain ⟨T, hT⟩ : ∃ T, ofL (if x.2.1 = 1 then [116, 114, 117, 101] else [102, 97, 108, 115, 101]) = T := ⟨_, rfl⟩
  rw [hT] at hF ⊢
  have HF := Lib.hid hF
  clear hF e hT
  unfold aggS
  go_enter Tryz.func44, Tryz.ntmps44
  go_wp2_with fail
  refine (HF.out _).mono ?_
  rintro e w' ⟨rfl, rfl⟩
  go_wp2_with fail
  go_ret
  exact ⟨rfl, (Below.refl _ _).alloc (Nat.le_refl _) _⟩
theorem Itoa_any (n : Int) (h1 : -9223372036854775808 ≤ n) (h2 : n ≤ 9223372036854775807) (w : World) (E : Env w) : Calls Tryz.prog 68 #[.int .i64 n] w fun e w' => e = .returned (.string (ofL (Go.Lib.itoa n))) ∧ Below w.heap.size w w' :=
  (Tryz.strconv_Itoa n h1 h2 w E.pow).mono fun _ _ ⟨he, q, os, hw⟩ => ⟨he, by rw [hw]; exact below_grow w q os⟩
theorem t_int (x : Sc) (h1 : -9223372036854775808 ≤ x.2.1) (h2 : x.2.1 ≤ 9223372036854775807) (w : World) (E : Env w) : Calls Tryz.prog 45 #[aggS x] w fun e w' => e = .returned (.string (ofL (Go.Lib.itoa x.2.1))) ∧ Below w.heap.size w w' := by
  have E1 := E.below ((Below.refl _ w).alloc (Nat.le_refl _) (.cells #[.int .i64 x.1, .int .i64 x.2.1, .string x.2.2] 58))
  have hF := Itoa_any x.2.1 h1 h2 _ E1
  have HF := Lib.hid hF
  clear hF E E1
  unfold aggS
  go_enter Tryz.func45, Tryz.ntmps45
  go_wp2_with fail
  refine (HF.out).mono ?_
  rintro e w' ⟨rfl, hb⟩
  have HB := Lib.hid hb
  clear hb
  go_wp2_with fail
  go_ret
  exact ⟨rfl, ((Below.refl _ w).alloc (Nat.le_refl _) _).trans (HB.out.mono (by simp))⟩
theorem t_str (x : Sc) (hs : x.2.2.size ≤ 1000000) (w : World) (E : Env w) : Calls Tryz.prog 46 #[aggS x] w fun e w' => e = .returned (.string (quoteT x.2.2)) ∧ Below w.heap.size w w' := by
  have E1 := E.below ((Below.refl _ w).alloc (Nat.le_refl _) (.cells #[.int .i64 x.1, .int .i64 x.2.1, .string x.2.2] 58))
  have hF := Quote_any x.2.2 hs _ E1
  have HF := Lib.hid hF
  clear hF E E1
  unfold aggS
  go_enter Tryz.func46, Tryz.ntmps46
  go_wp2_with fail
  refine (HF.out).mono ?_
  rintro e w' ⟨rfl, hb⟩
  have HB := Lib.hid hb
  clear hb
  go_wp2_with fail
  go_ret
  exact ⟨rfl, ((Below.refl _ w).alloc (Nat.le_refl _) _).trans (HB.out.mono (by simp))⟩
/-- what textOf tells -/
def textO (x : Sc) : ByteArray := ofL (textL x)
set_option maxHeartbeats 2000000 in
theorem textOf_null (n : Int) (s : ByteArray) (w : World) (_E : Env w) :
    Calls Tryz.prog 28 #[.agg #[.int .i64 0, .int .i64 n, .string s]] w fun e w' => e = .returned (.string (textO (0, n, s))) ∧ Below w.heap.size w w' := by
  have hw : Below w.heap.size w (((w.alloc (.cells #[.int .i64 0, .int .i64 n, .string s] 23)).alloc (.cells #[.int .i64 0, .int .i64 n, .string s] 58)).alloc (.cells #[.func (.func 43) #[.agg #[.int .i64 0, .int .i64 n, .string s]] #[], .func (.func 44) #[.agg #[.int .i64 0, .int .i64 n, .string s]] #[], .func (.func 45) #[.agg #[.int .i64 0, .int .i64 n, .string s]] #[], .func (.func 46) #[.agg #[.int .i64 0, .int .i64 n, .string s]] #[]] 60)) :=
    (((Below.refl _ w).alloc (Nat.le_refl _) _).alloc (by simp) _).alloc (by simp; omega) _
  have hT := t_null (0, n, s) (((w.alloc (.cells #[.int .i64 0, .int .i64 n, .string s] 23)).alloc (.cells #[.int .i64 0, .int .i64 n, .string s] 58)).alloc (.cells #[.func (.func 43) #[.agg #[.int .i64 0, .int .i64 n, .string s]] #[], .func (.func 44) #[.agg #[.int .i64 0, .int .i64 n, .string s]] #[], .func (.func 45) #[.agg #[.int .i64 0, .int .i64 n, .string s]] #[], .func (.func 46) #[.agg #[.int .i64 0, .int .i64 n, .string s]] #[]] 60))
  have e : (⟨#[110, 117, 108, 108]⟩ : ByteArray) = textO (0, n, s) := rfl
  rw [e] at hT
  unfold aggS at hT
  have HT := Lib.hid hT
  have HW := Lib.hid hw
  clear hT hw _E e
  go_enter Tryz.func28, Tryz.ntmps28
  go_wp2_with fail
  refine (HT.out).mono ?_
  rintro e w' ⟨rfl, hb⟩
  have HB := Lib.hid hb
  clear hb
  go_wp2_with fail
  go_ret
  exact ⟨rfl, HW.out.trans (HB.out.mono (by simp; omega))⟩
set_option maxHeartbeats 2000000 in
theorem textOf_bool (n : Int) (s : ByteArray) (w : World) (_E : Env w) :
    Calls Tryz.prog 28 #[.agg #[.int .i64 1, .int .i64 n, .string s]] w fun e w' => e = .returned (.string (textO (1, n, s))) ∧ Below w.heap.size w w' := by
  have hw : Below w.heap.size w (((w.alloc (.cells #[.int .i64 1, .int .i64 n, .string s] 23)).alloc (.cells #[.int .i64 1, .int .i64 n, .string s] 58)).alloc (.cells #[.func (.func 43) #[.agg #[.int .i64 1, .int .i64 n, .string s]] #[], .func (.func 44) #[.agg #[.int .i64 1, .int .i64 n, .string s]] #[], .func (.func 45) #[.agg #[.int .i64 1, .int .i64 n, .string s]] #[], .func (.func 46) #[.agg #[.int .i64 1, .int .i64 n, .string s]] #[]] 60)) :=
    (((Below.refl _ w).alloc (Nat.le_refl _) _).alloc (by simp) _).alloc (by simp; omega) _
  have hT := t_bool (1, n, s) (((w.alloc (.cells #[.int .i64 1, .int .i64 n, .string s] 23)).alloc (.cells #[.int .i64 1, .int .i64 n, .string s] 58)).alloc (.cells #[.func (.func 43) #[.agg #[.int .i64 1, .int .i64 n, .string s]] #[], .func (.func 44) #[.agg #[.int .i64 1, .int .i64 n, .string s]] #[], .func (.func 45) #[.agg #[.int .i64 1, .int .i64 n, .string s]] #[], .func (.func 46) #[.agg #[.int .i64 1, .int .i64 n, .string s]] #[]] 60))
  have e : ofL (if n = 1 then [116, 114, 117, 101] else [102, 97, 108, 115, 101]) = textO (1, n, s) := rfl
  rw [e] at hT
  unfold aggS at hT
  have HT := Lib.hid hT
  have HW := Lib.hid hw
  clear hT hw _E e
  go_enter Tryz.func28, Tryz.ntmps28
  go_wp2_with fail
  refine (HT.out).mono ?_
  rintro e w' ⟨rfl, hb⟩
  have HB := Lib.hid hb
  clear hb
  go_wp2_with fail
  go_ret
  exact ⟨rfl, HW.out.trans (HB.out.mono (by simp; omega))⟩
set_option maxHeartbeats 2000000 in
theorem textOf_int (n : Int) (s : ByteArray) (h1 : -9223372036854775808 ≤ n) (h2 : n ≤ 9223372036854775807) (w : World) (E : Env w) :
    Calls Tryz.prog 28 #[.agg #[.int .i64 2, .int .i64 n, .string s]] w fun e w' => e = .returned (.string (textO (2, n, s))) ∧ Below w.heap.size w w' := by
  have hw : Below w.heap.size w (((w.alloc (.cells #[.int .i64 2, .int .i64 n, .string s] 23)).alloc (.cells #[.int .i64 2, .int .i64 n, .string s] 58)).alloc (.cells #[.func (.func 43) #[.agg #[.int .i64 2, .int .i64 n, .string s]] #[], .func (.func 44) #[.agg #[.int .i64 2, .int .i64 n, .string s]] #[], .func (.func 45) #[.agg #[.int .i64 2, .int .i64 n, .string s]] #[], .func (.func 46) #[.agg #[.int .i64 2, .int .i64 n, .string s]] #[]] 60)) :=
    (((Below.refl _ w).alloc (Nat.le_refl _) _).alloc (by simp) _).alloc (by simp; omega) _
  have hT := t_int (2, n, s) h1 h2 (((w.alloc (.cells #[.int .i64 2, .int .i64 n, .string s] 23)).alloc (.cells #[.int .i64 2, .int .i64 n, .string s] 58)).alloc (.cells #[.func (.func 43) #[.agg #[.int .i64 2, .int .i64 n, .string s]] #[], .func (.func 44) #[.agg #[.int .i64 2, .int .i64 n, .string s]] #[], .func (.func 45) #[.agg #[.int .i64 2, .int .i64 n, .string s]] #[], .func (.func 46) #[.agg #[.int .i64 2, .int .i64 n, .string s]] #[]] 60)) (E.below hw)
  have e : ofL (Go.Lib.itoa n) = textO (2, n, s) := rfl
  rw [e] at hT
  unfold aggS at hT
  have HT := Lib.hid hT
  have HW := Lib.hid hw
  clear hT hw E e
  go_enter Tryz.func28, Tryz.ntmps28
  go_wp2_with fail
  refine (HT.out).mono ?_
  rintro e w' ⟨rfl, hb⟩
  have HB := Lib.hid hb
  clear hb
  go_wp2_with fail
  go_ret
  exact ⟨rfl, HW.out.trans (HB.out.mono (by simp; omega))⟩
set_option maxHeartbeats 2000000 in
theorem textOf_str (n : Int) (s : ByteArray) (hs : s.size ≤ 1000000) (w : World) (E : Env w) :
    Calls Tryz.prog 28 #[.agg #[.int .i64 3, .int .i64 n, .string s]] w fun e w' => e = .returned (.string (textO (3, n, s))) ∧ Below w.heap.size w w' := by
  have hw : Below w.heap.size w (((w.alloc (.cells #[.int .i64 3, .int .i64 n, .string s] 23)).alloc (.cells #[.int .i64 3, .int .i64 n, .string s] 58)).alloc (.cells #[.func (.func 43) #[.agg #[.int .i64 3, .int .i64 n, .string s]] #[], .func (.func 44) #[.agg #[.int .i64 3, .int .i64 n, .string s]] #[], .func (.func 45) #[.agg #[.int .i64 3, .int .i64 n, .string s]] #[], .func (.func 46) #[.agg #[.int .i64 3, .int .i64 n, .string s]] #[]] 60)) :=
    (((Below.refl _ w).alloc (Nat.le_refl _) _).alloc (by simp) _).alloc (by simp; omega) _
  have hT := t_str (3, n, s) hs (((w.alloc (.cells #[.int .i64 3, .int .i64 n, .string s] 23)).alloc (.cells #[.int .i64 3, .int .i64 n, .string s] 58)).alloc (.cells #[.func (.func 43) #[.agg #[.int .i64 3, .int .i64 n, .string s]] #[], .func (.func 44) #[.agg #[.int .i64 3, .int .i64 n, .string s]] #[], .func (.func 45) #[.agg #[.int .i64 3, .int .i64 n, .string s]] #[], .func (.func 46) #[.agg #[.int .i64 3, .int .i64 n, .string s]] #[]] 60)) (E.below hw)
  have e : quoteT s = textO (3, n, s) := by unfold quoteT textO textL; split <;> simp [*, ofL]
  rw [e] at hT
  unfold aggS at hT
  have HT := Lib.hid hT
  have HW := Lib.hid hw
  clear hT hw E e
  go_enter Tryz.func28, Tryz.ntmps28
  go_wp2_with fail
  refine (HT.out).mono ?_
  rintro e w' ⟨rfl, hb⟩
  have HB := Lib.hid hb
  clear hb
  go_wp2_with fail
  go_ret
  exact ⟨rfl, HW.out.trans (HB.out.mono (by simp; omega))⟩
theorem textOf_any (x : Sc) (hk : x.1 = 0 ∨ x.1 = 1 ∨ x.1 = 2 ∨ x.1 = 3) (h1 : -9223372036854775808 ≤ x.2.1) (h2 : x.2.1 ≤ 9223372036854775807) (hs : x.2.2.size ≤ 1000000) (w : World) (E : Env w) :
    Calls Tryz.prog 28 #[aggS x] w fun e w' => e = .returned (.string (textO x)) ∧ Below w.heap.size w w' := by
  obtain ⟨k, n, s⟩ := x
  simp only at hk h1 h2 hs
  unfold aggS
  rcases hk with rfl | rfl | rfl | rfl
  · exact textOf_null n s w E
  · exact textOf_bool n s w E
  · exact textOf_int n s h1 h2 w E
  · exact textOf_str n s hs w E
end Go.Proofs.YtkliecngkcjieaaGreatDoor

set_option maxRecDepth 100000
namespace Go.Proofs.YtkliecngkcjieaaGreatDoor
open Go.RowKit Go.Shelf
open Pl Quo Scs
theorem right_kinds {x : Sc} (h : rightS x = true) : (x.1 = 0 ∨ x.1 = 1 ∨ x.1 = 2 ∨ x.1 = 3) ∧ -9223372036854775808 ≤ x.2.1 ∧ x.2.1 ≤ 9223372036854775807 := by
  rcases right_cases h with rfl | rfl | rfl | ⟨n, h1, h2, rfl⟩ | ⟨s, _, rfl⟩ <;> simp <;> omega
theorem Text_any (x : Sc) (hs : x.2.2.size ≤ 1000000) (w : World) (E : Env w) :
    Calls Tryz.prog 14 #[aggS x] w fun e w' => e = .returned (.tuple #[.string (textT x), .int .i64 (textE x)]) ∧ Below w.heap.size w w' := by
  have E1 := E.below ((Below.refl _ w).alloc (Nat.le_refl _) (.cells #[.int .i64 x.1, .int .i64 x.2.1, .string x.2.2] 23))
  have hR := Right_any x.1 x.2.1 x.2.2 (by omega) _ E1
  unfold textT textE
  cases hr : rightS x
  · rw [if_neg (by decide), if_neg (by decide)]
    rw [show rightR x.1 x.2.1 x.2.2.data.toList = false from hr] at hR
    have HR := Lib.hid hR
    clear hR E E1 hr
    unfold aggS
    go_enter Tryz.func14, Tryz.ntmps14
    go_wp2_with fail
    refine HR.out.mono ?_
    rintro e w1 ⟨rfl, hb1⟩
    have HB1 := Lib.hid hb1
    clear hb1
    go_wp2_with fail
    exact bodyPost_ret (v := .tuple #[.string ⟨#[]⟩, .int .i64 60]) (by simp [results, Tryz.results14, go_sem]) rfl ⟨rfl, ((Below.refl _ w).alloc (Nat.le_refl _) _).trans (HB1.out.mono (by simp))⟩
  · rw [if_pos rfl, if_pos rfl]
    rw [show rightR x.1 x.2.1 x.2.2.data.toList = true from hr] at hR
    obtain ⟨hk, h1, h2⟩ := right_kinds hr
    have hT := fun w E => textOf_any x hk h1 h2 hs w E
    have HR := Lib.hid hR
    have HE1 := Lib.hid E1
    unfold textO at hT
    unfold aggS at hT
    have HT := Lib.hid hT
    clear hR E E1 hr hT hk h1 h2
    unfold aggS
    go_enter Tryz.func14, Tryz.ntmps14
    go_wp2_with fail
    refine HR.out.mono ?_
    rintro e w1 ⟨rfl, hb1⟩
    have hx1 := (hb1.block w.heap.size (by simp)).trans (heap_alloc_new w _)
    have c0 := cell_of_row w1 w.heap.size 0 _ _ _ hx1
    have c1 := cell_of_row w1 w.heap.size 1 _ _ _ hx1
    have c2 := cell_of_row w1 w.heap.size 2 _ _ _ hx1
    simp at c0 c1 c2
    have HE2 := Lib.hid (HE1.out.below hb1)
    have HB1 := Lib.hid (((Below.refl _ w).alloc (Nat.le_refl _) (.cells #[.int .i64 x.1, .int .i64 x.2.1, .string x.2.2] 23)).trans (hb1.mono (by simp)))
    clear hb1 hx1
    go_wp2_with fail
    refine (HT.out _ HE2.out).mono ?_
    rintro e w2 ⟨rfl, hb2⟩
    have HB2 := Lib.hid (HB1.out.trans (hb2.mono HB1.out.size))
    clear hb2
    go_wp2_with fail
    exact bodyPost_ret (v := .tuple #[.string (ofL (textL x)), .int .i64 0]) (by simp [results, Tryz.results14, go_sem]) rfl ⟨rfl, HB2.out⟩
end Go.Proofs.YtkliecngkcjieaaGreatDoor

set_option maxRecDepth 100000
namespace Go.Proofs.YtkliecngkcjieaaGreatDoor
open Go.RowKit Go.Shelf
open Pl Quo Scs
theorem begins_any (s : ByteArray) (w : World) : Calls Tryz.prog 50 #[.string s, .int .i32 34] w fun e w' => e = .returned (.bool (decide (s.data.toList.head? = some 34))) ∧ Below w.heap.size w w' := by
  by_cases h0 : 0 < s.size
  · have hnx : ∀ ty, (Instr.next (.pointer (some ⟨w.heap.size, 0, none⟩)) true ty).run Tryz.prog (w.iter s 0) = _ := fun ty => Go.Lib.run_next_any_at (w.iter s 0) w.heap.size s 0 ty (World.iter_heap w s 0) h0
    have hne : s.data.toList ≠ [] := by
      intro h
      have := congrArg List.length h
      rw [List.length_nil, Array.length_toList] at this
      have e : s.data.size = s.size := rfl
      omega
    have e : (((Utf8.decode s 0).1 : Int) == 34) = decide (s.data.toList.head? = some 34) := by
      have h1 := Go.Lib.decodeL_drop s 0
      rw [List.drop_zero] at h1
      rw [← h1]
      cases hl : s.data.toList with
      | nil => exact absurd hl hne
      | cons b t =>
        by_cases hb : b.toNat < 128
        · rw [Go.Lib.decodeL_ascii b t hb]
          by_cases h34 : b = 34
          · subst h34; rfl
          · have h34' : ¬ (b.toNat : Int) = 34 := fun h => h34 (UInt8.toNat_inj.1 (by show b.toNat = 34; omega))
            simp [h34, h34']
        · have h34 : ¬ b = 34 := by rintro rfl; exact hb (by decide)
          have hr : 128 ≤ (Go.Lib.decodeL (b :: t)).1 := by
            by_cases hv : (Go.Lib.decodeL (b :: t)).1 = 65533 ∧ (Go.Lib.decodeL (b :: t)).2 = 1
            · omega
            · exact (high_bytes (b :: t) (by simp) (by show 128 ≤ b.toNat; omega) hv).1
          have h34' : ¬ ((Go.Lib.decodeL (b :: t)).1 : Int) = 34 := by omega
          simp [h34, h34']
    obtain ⟨R, hR⟩ : ∃ R, (Utf8.decode s 0).1 = R := ⟨_, rfl⟩
    rw [hR] at hnx e
    rw [← e]
    clear e hR hne
    go_enter Tryz.func50, Tryz.ntmps50
    go_wp2
    refine wp_loop_rounds 1 ?_
    rw [rounds_succ]
    go_wp2
    go_ret
    have hi : Below w.heap.size w (w.iter s 0) := (Below.refl _ w).alloc (Nat.le_refl _) _
    exact ⟨rfl, ⟨rfl, rfl, rfl, by rw [Go.Lib.iterAt_size]; exact hi.size, fun k hk => (Go.Lib.iterAt_other _ _ _ _ _ (by omega)).trans (hi.block k hk)⟩⟩
  · have hz : s.size = 0 := by omega
    have hnx : ∀ ty, (Instr.next (.pointer (some ⟨w.heap.size, 0, none⟩)) true ty).run Tryz.prog (w.iter s 0) = _ := fun ty => Go.Lib.run_next_end_at (w.iter s 0) w.heap.size s 0 ty (World.iter_heap w s 0) (by omega)
    have e : s.data.toList.head? = none := by
      rw [toList_nil s hz]; rfl
    rw [e]
    clear e
    go_enter Tryz.func50, Tryz.ntmps50
    go_wp2
    refine wp_loop_rounds 1 ?_
    rw [rounds_succ]
    go_wp2
    go_ret
    exact ⟨rfl, (Below.refl _ w).alloc (Nat.le_refl _) _⟩
theorem scalarOf_none (w : World) : Calls Tryz.prog 32 #[.nilIface] w fun e w' => e = .returned (.tuple #[aggS zeroS, .bool false]) ∧ Below w.heap.size w w' := by
  have t0 : ∀ w, (Instr.typeAssert (.nilIface) 20 9 true).run Tryz.prog w = .ok (.tuple #[.string ⟨#[]⟩, .bool false]) w := fun _ => by kernel_rfl
  have t1 : ∀ w, (Instr.typeAssert (.nilIface) 20 23 true).run Tryz.prog w = .ok (.tuple #[.agg #[.int .i64 0, .int .i64 0, .string ⟨#[]⟩], .bool false]) w := fun _ => by kernel_rfl
  go_enter Tryz.func32, Tryz.ntmps32
  go_wp2
  exact bodyPost_ret (v := .tuple #[aggS zeroS, .bool false]) (by simp [results, Tryz.results32, go_sem, aggS, zeroS]) rfl ⟨rfl, ((Below.refl _ w).alloc (Nat.le_refl _) _).alloc (by simp) _⟩
theorem scalarOf_text (T : ByteArray) (w : World) : Calls Tryz.prog 32 #[.iface 9 (.string T)] w fun e w' => e = .returned (.tuple #[aggS (3, 0, T), .bool true]) ∧ Below w.heap.size w w' := by
  have t0 : ∀ w, (Instr.typeAssert (.iface 9 (.string T)) 20 9 true).run Tryz.prog w = .ok (.tuple #[.string T, .bool true]) w := fun _ => by kernel_rfl
  go_enter Tryz.func32, Tryz.ntmps32
  go_wp2
  exact bodyPost_ret (v := .tuple #[aggS (3, 0, T), .bool true]) (by simp [results, Tryz.results32, go_sem, aggS]) rfl ⟨rfl, (Below.refl _ w).alloc (Nat.le_refl _) _⟩
theorem scalarOf_sc (x : Sc) (w : World) : Calls Tryz.prog 32 #[.iface 23 (aggS x)] w fun e w' => e = .returned (.tuple #[aggS x, .bool true]) ∧ Below w.heap.size w w' := by
  unfold aggS
  have t0 : ∀ w, (Instr.typeAssert (.iface 23 (.agg #[.int .i64 x.1, .int .i64 x.2.1, .string x.2.2])) 20 9 true).run Tryz.prog w = .ok (.tuple #[.string ⟨#[]⟩, .bool false]) w := fun _ => by kernel_rfl
  have t1 : ∀ w, (Instr.typeAssert (.iface 23 (.agg #[.int .i64 x.1, .int .i64 x.2.1, .string x.2.2])) 20 23 true).run Tryz.prog w = .ok (.tuple #[.agg #[.int .i64 x.1, .int .i64 x.2.1, .string x.2.2], .bool true]) w := fun _ => by kernel_rfl
  go_enter Tryz.func32, Tryz.ntmps32
  go_wp2
  exact bodyPost_ret (v := .tuple #[.agg #[.int .i64 x.1, .int .i64 x.2.1, .string x.2.2], .bool true]) (by simp [results, Tryz.results32, go_sem]) rfl ⟨rfl, ((Below.refl _ w).alloc (Nat.le_refl _) _).alloc (by simp) _⟩
/-- what said answers -/
def saidV (s : ByteArray) : Value := match saidS s with
  | none => .nilIface
  | some x => if s.data.toList.head? = some 34 then .iface 9 (.string x.2.2) else .iface 23 (aggS x)
theorem said_plain (s : ByteArray) (hs : s.size ≤ 1000000) (h : s.data.toList.head? ≠ some 34) (w : World) (E : Env w) : Calls Tryz.prog 33 #[.string s] w fun e w' => e = .returned (saidV s) ∧ Below w.heap.size w w' := by
  have hB := begins_any s w
  rw [decide_eq_false h] at hB
  have hR := fun w E => Resolve_any s (by omega) w E
  unfold saidV saidS
  rw [if_neg h]
  unfold Res.val at hR
  obtain ⟨R, hRR⟩ : ∃ R, resolveR s = R := ⟨_, rfl⟩
  rw [hRR] at hR ⊢
  obtain ⟨k, n, S, er⟩ := R
  simp only at hR ⊢
  clear hRR
  have HE := Lib.hid E
  have HB := Lib.hid hB
  have HR := Lib.hid hR
  clear hB hR E
  by_cases he : er = 0
  · subst he
    rw [if_pos rfl]
    simp only
    rw [if_neg h]
    unfold aggS
    clear h
    go_enter Tryz.func33, Tryz.ntmps33
    go_wp2_with fail
    refine HB.out.mono ?_
    rintro e w1 ⟨rfl, hb1⟩
    have HE1 := Lib.hid (HE.out.below hb1)
    have HB1 := Lib.hid hb1
    clear hb1
    go_wp2_with fail
    refine (HR.out _ HE1.out).mono ?_
    rintro e w2 ⟨rfl, hb2⟩
    have HB2 := Lib.hid (HB1.out.trans (hb2.mono HB1.out.size))
    clear hb2
    go_wp2_with fail
    go_ret
    exact ⟨rfl, HB2.out.alloc HB2.out.size _⟩
  · rw [if_neg he]
    have he' : (er != 0) = true := by simp [he]
    clear h
    go_enter Tryz.func33, Tryz.ntmps33
    go_wp2_with fail
    refine HB.out.mono ?_
    rintro e w1 ⟨rfl, hb1⟩
    have HE1 := Lib.hid (HE.out.below hb1)
    have HB1 := Lib.hid hb1
    clear hb1
    go_wp2_with fail
    refine (HR.out _ HE1.out).mono ?_
    rintro e w2 ⟨rfl, hb2⟩
    have HB2 := Lib.hid (HB1.out.trans (hb2.mono HB1.out.size))
    clear hb2
    go_wp2_with fail
    go_ret
    exact ⟨rfl, HB2.out.alloc HB2.out.size _⟩
end Go.Proofs.YtkliecngkcjieaaGreatDoor

set_option maxRecDepth 100000
namespace Go.Proofs.YtkliecngkcjieaaGreatDoor
open Go.RowKit Go.Shelf
open Pl Quo Scs
theorem encode_len (n : Int) : (Go.Lib.encodeRune n).length ≤ 4 := by
  have h := Go.Lib.runeCells_length n
  have h2 := Go.Lib.encodeRuneZ_length n
  have h3 : (Go.Lib.runeCells n).length = (Go.Lib.encodeRuneZ n).length := by simp [Go.Lib.runeCells]
  omega
theorem escB_len {t p : List UInt8} {k : Nat} (h : escB t = some (p, k)) : p.length ≤ k + 1 ∧ k ≤ t.length ∧ 1 ≤ k := by
  cases t with
  | nil => cases h
  | cons c t =>
    simp only [escB] at h
    have dig : ∀ j, digitsB j t = some (p, k) → 2 ≤ j → p.length ≤ k + 1 ∧ k ≤ t.length + 1 ∧ 1 ≤ k := by
      intro j hd hj
      unfold digitsB at hd
      split at hd
      · cases hd
      · split at hd
        · cases hd
        · split at hd
          · cases hd
            have := encode_len (by assumption : Nat)
            omega
          · cases hd
    rw [List.length_cons]
    have d2 := fun hd => dig 2 hd (by omega)
    have d4 := fun hd => dig 4 hd (by omega)
    obtain ⟨D2, hD2⟩ : ∃ D, digitsB 2 t = D := ⟨_, rfl⟩
    obtain ⟨D4, hD4⟩ : ∃ D, digitsB 4 t = D := ⟨_, rfl⟩
    rw [hD2] at h d2
    rw [hD4] at h d4
    repeat' split at h
    all_goals first
      | (cases h; refine ⟨?_, ?_, ?_⟩ <;> simp; done)
      | exact d2 h
      | exact d4 h
      | cases h
theorem readL_len : ∀ (m : Nat) (l T : List UInt8) (n : Nat), l.length ≤ m → readL l = .ok T n → T.length ≤ l.length
  | 0, l, T, n, hm, h => by
    have : l = [] := List.eq_nil_of_length_eq_zero (by omega)
    subst this; cases h
  | m + 1, [], T, n, hm, h => by cases h
  | m + 1, b :: t, T, n, hm, h => by
    rw [readL_cons] at h
    rw [List.length_cons] at hm ⊢
    split at h
    · cases h; simp
    · split at h
      · split at h
        · cases h
        · rename_i p k he
          obtain ⟨h1, h2, h3⟩ := escB_len he
          cases hr : readL (t.drop k) with
          | err e => rw [hr] at h; cases h
          | ok T' n' =>
            rw [hr] at h
            cases h
            have ih := readL_len m (t.drop k) T' n' (by rw [List.length_drop]; omega) hr
            rw [List.length_drop] at ih
            rw [List.length_append]
            omega
      · split at h
        · cases hr : readL t with
          | err e => rw [hr] at h; cases h
          | ok T' n' =>
            rw [hr] at h
            cases h
            have ih := readL_len m t T' n' (by omega) hr
            simp; omega
        · cases h
theorem res_size (s : ByteArray) : (resolveR s).s.size ≤ s.size := by
  unfold resolveR
  split
  · exact Nat.zero_le _
  · cases valOf s.data.toList <;> first | exact Nat.zero_le _ | exact Nat.le_refl _
theorem said_size {s : ByteArray} {x : Sc} (h : saidS s = some x) : x.2.2.size ≤ s.size := by
  unfold saidS at h
  split at h
  · split at h
    · split at h
      · rename_i T n hr
        cases h
        have h1 := readL_len _ _ _ _ (Nat.le_refl _) hr
        rw [List.length_drop] at h1
        have h2 : s.data.toList.length = s.size := by rw [Array.length_toList]; rfl
        show T.toArray.size ≤ _
        rw [List.size_toArray]
        omega
      · cases h
    · cases h
  · split at h
    · cases h; exact res_size s
    · cases h
theorem said_quoted {s : ByteArray} {x : Sc} (h : saidS s = some x) (hq : s.data.toList.head? = some 34) : x = (3, 0, x.2.2) := by
  unfold saidS at h
  rw [if_pos hq] at h
  split at h
  · split at h
    · cases h; rfl
    · cases h
  · cases h
theorem said_kinds {s : ByteArray} {x : Sc} (h : saidS s = some x) : (x.1 = 0 ∨ x.1 = 1 ∨ x.1 = 2 ∨ x.1 = 3) ∧ -9223372036854775808 ≤ x.2.1 ∧ x.2.1 ≤ 9223372036854775807 := by
  rcases said_kind h with ⟨T, rfl⟩ | h
  · simp
  · exact right_kinds h
theorem scalarOf_said (s : ByteArray) (w : World) : Calls Tryz.prog 32 #[saidV s] w fun e w' => e = .returned (.tuple #[aggS ((saidS s).getD zeroS), .bool (saidS s).isSome]) ∧ Below w.heap.size w w' := by
  unfold saidV
  cases h : saidS s with
  | none => exact scalarOf_none w
  | some x =>
    simp only [Option.getD_some, Option.isSome_some]
    by_cases hq : s.data.toList.head? = some 34
    · rw [if_pos hq]
      have := scalarOf_text x.2.2 w
      rw [← said_quoted h hq] at this
      exact this
    · rw [if_neg hq]
      exact scalarOf_sc x w
theorem text_same (x : Sc) (s : ByteArray) : ((textO x).toList == s.toList) = decide (textL x = s.data.toList) := by
  rw [ByteArray.toList_eq, ByteArray.toList_eq]
  unfold textO
  rw [ofL_list]
  by_cases h : textL x = s.data.toList
  · rw [decide_eq_true h, h]; simp
  · rw [decide_eq_false h]
    exact beq_eq_false_iff_ne.2 h
set_option maxHeartbeats 4000000 in
theorem Read_of (s : ByteArray) (hs : s.size ≤ 1000000) (hS : ∀ w, Env w → Calls Tryz.prog 33 #[.string s] w fun e w' => e = .returned (saidV s) ∧ Below w.heap.size w w') (w : World) (E : Env w) :
    Calls Tryz.prog 16 #[.string s] w fun e w' => e = .returned (.tuple #[aggS (readS s).1, .int .i64 (readS s).2]) ∧ Below w.heap.size w w' := by
  have hC := fun w => scalarOf_said s w
  have E0 := E.below ((Below.refl _ w).alloc (Nat.le_refl _) zero3)
  have hS0 := hS _ E0
  have HE0 := Lib.hid E0
  have HS := Lib.hid hS0
  unfold readS
  obtain ⟨V, hV⟩ : ∃ V, saidV s = V := ⟨_, rfl⟩
  rw [hV] at HS hC
  cases hx : saidS s with
  | none =>
    rw [hx] at hC
    have HC := Lib.hid hC
    clear hC hS hS0 hV hx E E0
    simp only [Option.getD_none, Option.isSome_none] at HC ⊢
    unfold aggS zeroS at HC ⊢
    go_enter Tryz.func16, Tryz.ntmps16
    go_wp2_with fail
    refine HS.out.mono ?_
    rintro e w1 ⟨rfl, hb1⟩
    obtain ⟨hx1, hz1, hbb1⟩ := res_cells hb1
    have HX1 := Lib.hid hx1
    have HB1 := Lib.hid hbb1
    clear hb1 hx1 hbb1
    go_wp2_with fail
    refine (HC.out _).mono ?_
    rintro e w2 ⟨rfl, hb2⟩
    have hx2 := (hb2.block w.heap.size hz1).trans HX1.out
    have c0 := cell_of_row _ _ 0 _ _ _ hx2
    have c1 := cell_of_row _ _ 1 _ _ _ hx2
    have c2 := cell_of_row _ _ 2 _ _ _ hx2
    have f0 := frozen_of_row _ _ 0 _ _ hx2
    have f1 := frozen_of_row _ _ 1 _ _ hx2
    have f2 := frozen_of_row _ _ 2 _ _ hx2
    simp at c0 c1 c2
    have hz2 : w.heap.size < w2.heap.size := by have := hb2.size; omega
    have HB2 := Lib.hid (HB1.out.trans (hb2.mono (by omega)))
    have HX2 := Lib.hid hx2
    clear hb2 hx2
    go_wp2_with fail
    have hr := store3 HX2.out (.int .i64 0) (.int .i64 0) (.string ⟨#[]⟩)
    have hbb := ((HB2.out.setCell (p := ⟨w.heap.size, 0, none⟩) (Nat.le_refl _) (.int .i64 0)).setCell (p := ⟨w.heap.size, 1, none⟩) (Nat.le_refl _) (.int .i64 0)).setCell (p := ⟨w.heap.size, 2, none⟩) (Nat.le_refl _) (.string ⟨#[]⟩)
    clear c0 c1 c2 f0 f1 f2
    have hsz : (((w2.setCell ⟨w.heap.size, 0, none⟩ (.int .i64 0)).setCell ⟨w.heap.size, 1, none⟩ (.int .i64 0)).setCell ⟨w.heap.size, 2, none⟩ (.string ⟨#[]⟩)).heap.size = w2.heap.size := by simp
    generalize ((w2.setCell ⟨w.heap.size, 0, none⟩ (.int .i64 0)).setCell ⟨w.heap.size, 1, none⟩ (.int .i64 0)).setCell ⟨w.heap.size, 2, none⟩ (.string ⟨#[]⟩) = wz at hr hbb hsz ⊢
    have hr' := keep_alloc (o' := .cells #[.int .i64 0, .int .i64 0, .string ⟨#[]⟩] 23) hr
    have hb' := hbb.alloc (by omega) (.cells #[.int .i64 0, .int .i64 0, .string ⟨#[]⟩] 23)
    generalize wz.alloc (.cells #[.int .i64 0, .int .i64 0, .string ⟨#[]⟩] 23) = wy at hr' hb' ⊢
    have r0 := cell_of_row _ _ 0 _ _ _ hr'
    have r1 := cell_of_row _ _ 1 _ _ _ hr'
    have r2 := cell_of_row _ _ 2 _ _ _ hr'
    exact bodyPost_ret (v := .tuple #[.agg #[.int .i64 0, .int .i64 0, .string ⟨#[]⟩], .int .i64 60]) (by simp [results, Tryz.results16, go_sem, r0, r1, r2]) rfl ⟨rfl, hb'⟩
  | some x =>
    rw [hx] at hC
    obtain ⟨hk, hn1, hn2⟩ := said_kinds hx
    have hxs := said_size hx
    have hT := fun w E => textOf_any x hk hn1 hn2 (by omega) w E
    have hsame := text_same x s
    have HC := Lib.hid hC
    have HT := Lib.hid hT
    clear hC hS hS0 hV hx E E0 hT hk hn1 hn2 hxs
    simp only [Option.getD_some, Option.isSome_some] at HC ⊢
    unfold aggS at HC HT
    have EW : ∀ B : Bool, ((textO x).toList == s.toList) = B → (∀ Y : Sc × Int, (if textL x = s.data.toList then (x, (0 : Int)) else (zeroS, 60)) = Y → Y = if B = true then (x, 0) else (zeroS, 60)) := by
      intro B hB Y hY
      rw [hsame] at hB
      subst hB
      rw [← hY]
      by_cases h : textL x = s.data.toList
      · rw [if_pos h, if_pos (decide_eq_true h)]
      · rw [if_neg h, if_neg (by rw [decide_eq_false h]; decide)]
    cases hB : ((textO x).toList == s.toList)
    · rw [EW false hB _ rfl, if_neg (by decide)]
      have hne : (!((textO x).toList == s.toList)) = true := by rw [hB]; rfl
      clear EW hsame
      unfold aggS zeroS
      go_enter Tryz.func16, Tryz.ntmps16
      go_wp2_with fail
      refine HS.out.mono ?_
      rintro e w1 ⟨rfl, hb1⟩
      obtain ⟨hx1, hz1, hbb1⟩ := res_cells hb1
      have HX1 := Lib.hid hx1
      have HB1 := Lib.hid hbb1
      have HE1 := Lib.hid (HE0.out.below hb1)
      clear hb1 hx1 hbb1
      go_wp2_with fail
      refine (HC.out _).mono ?_
      rintro e w2 ⟨rfl, hb2⟩
      have hx2 := (hb2.block w.heap.size hz1).trans HX1.out
      have hz2 : w.heap.size < w2.heap.size := by have := hb2.size; omega
      have HB2 := Lib.hid (HB1.out.trans (hb2.mono (by omega)))
      have HE2 := Lib.hid (HE1.out.below hb2)
      have HX2 := Lib.hid hx2
      clear hb2 hx2
      go_wp2_with fail
      obtain ⟨u2, hu2⟩ : ∃ u, w2.alloc (.cells #[.int .i64 x.1, .int .i64 x.2.1, .string x.2.2] 23) = u := ⟨_, rfl⟩
      rw [hu2]
      have hy2 : u2.heap[w2.heap.size]? = some (.cells #[.int .i64 x.1, .int .i64 x.2.1, .string x.2.2] 23 (0, 0)) := by rw [← hu2]; exact heap_alloc_new w2 _
      have hx3 : u2.heap[w.heap.size]? = some zero3 := by rw [← hu2]; exact keep_alloc HX2.out
      have hbu : Below w2.heap.size w2 u2 := by rw [← hu2]; exact (Below.refl _ w2).alloc (Nat.le_refl _) _
      have hus : u2.heap.size = w2.heap.size + 1 := by rw [← hu2]; simp
      have HE3 := Lib.hid (HE2.out.below hbu)
      have HB3 := Lib.hid (HB2.out.trans (hbu.mono (by omega)))
      have HX3 := Lib.hid hx3
      have HY3 := Lib.hid hy2
      clear hu2 hy2 hx3 hbu
      refine (HT.out _ HE3.out).mono ?_
      rintro e w4 ⟨rfl, hb4⟩
      have hx4 := (hb4.block w.heap.size (by omega)).trans HX3.out
      have hy4 := (hb4.block w2.heap.size (by omega)).trans HY3.out
      have hz4 : w2.heap.size < w4.heap.size := by have := hb4.size; omega
      have HB4 := Lib.hid (HB3.out.trans (hb4.mono (by omega)))
      have c0 := cell_of_row _ _ 0 _ _ _ hx4
      have c1 := cell_of_row _ _ 1 _ _ _ hx4
      have c2 := cell_of_row _ _ 2 _ _ _ hx4
      have f0 := frozen_of_row _ _ 0 _ _ hx4
      have f1 := frozen_of_row _ _ 1 _ _ hx4
      have f2 := frozen_of_row _ _ 2 _ _ hx4
      have y0 : w4.cell? ⟨w2.heap.size, 0, none⟩ = some (.int .i64 x.1) := cell_of_row _ _ 0 _ _ _ hy4
      have y1 : w4.cell? ⟨w2.heap.size, 1, none⟩ = some (.int .i64 x.2.1) := cell_of_row _ _ 1 _ _ _ hy4
      have y2 : w4.cell? ⟨w2.heap.size, 2, none⟩ = some (.string x.2.2) := cell_of_row _ _ 2 _ _ _ hy4
      simp at c0 c1 c2
      have HX4 := Lib.hid hx4
      clear hb4 hx4 hy4
      go_wp2_with fail
      have hr := store3 HX4.out (.int .i64 0) (.int .i64 0) (.string ⟨#[]⟩)
      have hbb := ((HB4.out.setCell (p := ⟨w.heap.size, 0, none⟩) (Nat.le_refl _) (.int .i64 0)).setCell (p := ⟨w.heap.size, 1, none⟩) (Nat.le_refl _) (.int .i64 0)).setCell (p := ⟨w.heap.size, 2, none⟩) (Nat.le_refl _) (.string ⟨#[]⟩)
      clear c0 c1 c2 f0 f1 f2 y0 y1 y2
      generalize ((w4.setCell ⟨w.heap.size, 0, none⟩ (.int .i64 0)).setCell ⟨w.heap.size, 1, none⟩ (.int .i64 0)).setCell ⟨w.heap.size, 2, none⟩ (.string ⟨#[]⟩) = wz at hr hbb ⊢
      have r0 := cell_of_row _ _ 0 _ _ _ hr
      have r1 := cell_of_row _ _ 1 _ _ _ hr
      have r2 := cell_of_row _ _ 2 _ _ _ hr
      exact bodyPost_ret (v := .tuple #[.agg #[.int .i64 0, .int .i64 0, .string ⟨#[]⟩], .int .i64 60]) (by simp [results, Tryz.results16, go_sem, r0, r1, r2]) rfl ⟨rfl, hbb⟩
    · rw [EW true hB _ rfl, if_pos rfl]
      have hne : (!((textO x).toList == s.toList)) = false := by rw [hB]; rfl
      clear EW hsame
      unfold aggS
      go_enter Tryz.func16, Tryz.ntmps16
      go_wp2_with fail
      refine HS.out.mono ?_
      rintro e w1 ⟨rfl, hb1⟩
      obtain ⟨hx1, hz1, hbb1⟩ := res_cells hb1
      have HX1 := Lib.hid hx1
      have HB1 := Lib.hid hbb1
      have HE1 := Lib.hid (HE0.out.below hb1)
      clear hb1 hx1 hbb1
      go_wp2_with fail
      refine (HC.out _).mono ?_
      rintro e w2 ⟨rfl, hb2⟩
      have hx2 := (hb2.block w.heap.size hz1).trans HX1.out
      have hz2 : w.heap.size < w2.heap.size := by have := hb2.size; omega
      have HB2 := Lib.hid (HB1.out.trans (hb2.mono (by omega)))
      have HE2 := Lib.hid (HE1.out.below hb2)
      have HX2 := Lib.hid hx2
      clear hb2 hx2
      go_wp2_with fail
      obtain ⟨u2, hu2⟩ : ∃ u, w2.alloc (.cells #[.int .i64 x.1, .int .i64 x.2.1, .string x.2.2] 23) = u := ⟨_, rfl⟩
      rw [hu2]
      have hy2 : u2.heap[w2.heap.size]? = some (.cells #[.int .i64 x.1, .int .i64 x.2.1, .string x.2.2] 23 (0, 0)) := by rw [← hu2]; exact heap_alloc_new w2 _
      have hx3 : u2.heap[w.heap.size]? = some zero3 := by rw [← hu2]; exact keep_alloc HX2.out
      have hbu : Below w2.heap.size w2 u2 := by rw [← hu2]; exact (Below.refl _ w2).alloc (Nat.le_refl _) _
      have hus : u2.heap.size = w2.heap.size + 1 := by rw [← hu2]; simp
      have HE3 := Lib.hid (HE2.out.below hbu)
      have HB3 := Lib.hid (HB2.out.trans (hbu.mono (by omega)))
      have HX3 := Lib.hid hx3
      have HY3 := Lib.hid hy2
      clear hu2 hy2 hx3 hbu
      refine (HT.out _ HE3.out).mono ?_
      rintro e w4 ⟨rfl, hb4⟩
      have hx4 := (hb4.block w.heap.size (by omega)).trans HX3.out
      have hy4 := (hb4.block w2.heap.size (by omega)).trans HY3.out
      have hz4 : w2.heap.size < w4.heap.size := by have := hb4.size; omega
      have HB4 := Lib.hid (HB3.out.trans (hb4.mono (by omega)))
      have c0 := cell_of_row _ _ 0 _ _ _ hx4
      have c1 := cell_of_row _ _ 1 _ _ _ hx4
      have c2 := cell_of_row _ _ 2 _ _ _ hx4
      have f0 := frozen_of_row _ _ 0 _ _ hx4
      have f1 := frozen_of_row _ _ 1 _ _ hx4
      have f2 := frozen_of_row _ _ 2 _ _ hx4
      have y0 : w4.cell? ⟨w2.heap.size, 0, none⟩ = some (.int .i64 x.1) := cell_of_row _ _ 0 _ _ _ hy4
      have y1 : w4.cell? ⟨w2.heap.size, 1, none⟩ = some (.int .i64 x.2.1) := cell_of_row _ _ 1 _ _ _ hy4
      have y2 : w4.cell? ⟨w2.heap.size, 2, none⟩ = some (.string x.2.2) := cell_of_row _ _ 2 _ _ _ hy4
      simp at c0 c1 c2
      have HX4 := Lib.hid hx4
      clear hb4 hx4 hy4
      go_wp2_with fail
      have hr := store3 HX4.out (.int .i64 x.1) (.int .i64 x.2.1) (.string x.2.2)
      have hbb := ((HB4.out.setCell (p := ⟨w.heap.size, 0, none⟩) (Nat.le_refl _) (.int .i64 x.1)).setCell (p := ⟨w.heap.size, 1, none⟩) (Nat.le_refl _) (.int .i64 x.2.1)).setCell (p := ⟨w.heap.size, 2, none⟩) (Nat.le_refl _) (.string x.2.2)
      clear c0 c1 c2 f0 f1 f2 y0 y1 y2
      generalize ((w4.setCell ⟨w.heap.size, 0, none⟩ (.int .i64 x.1)).setCell ⟨w.heap.size, 1, none⟩ (.int .i64 x.2.1)).setCell ⟨w.heap.size, 2, none⟩ (.string x.2.2) = wz at hr hbb ⊢
      have r0 := cell_of_row _ _ 0 _ _ _ hr
      have r1 := cell_of_row _ _ 1 _ _ _ hr
      have r2 := cell_of_row _ _ 2 _ _ _ hr
      exact bodyPost_ret (v := .tuple #[.agg #[.int .i64 x.1, .int .i64 x.2.1, .string x.2.2], .int .i64 0]) (by simp [results, Tryz.results16, go_sem, r0, r1, r2]) rfl ⟨rfl, hbb⟩
end Go.Proofs.YtkliecngkcjieaaGreatDoor
