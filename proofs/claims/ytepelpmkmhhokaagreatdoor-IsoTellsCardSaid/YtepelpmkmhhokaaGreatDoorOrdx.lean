/- Scalars stand in one order, by kind, number, text; lists of them are put in order in one way. Conditions: none. Which of two scalars is ahead is told by their kinds, numbers, texts, in this order. Conditions: none. Two scalars are held against each other field by field. Conditions: none. Scalars are compared as the document tells. Conditions: none. The reference's order of two scalars is the order. Conditions: none. -/
import Derived.Sort.Statements
import Derived.Test.YtepelpmkmhhokaaGreatDoorChecked
import Derived.Sort.Grow
import Derived.WalkKit
import Derived.Shelf.Abstract
import Derived.Lib.Hide
import Derived.Deep.QuietTactic
import Derived.BigQuiet
import Derived.Deep.RegionWith
import Derived.Deep.DeepCutAuto
import Derived.Laws.Rows
import Derived.Shelf.SlicesE.Kit
set_option maxRecDepth 100000
namespace Go.Proofs.YtepelpmkmhhokaaGreatDoor
open Go.Sort
namespace Scs
/-- a scalar: its kind, its number, its text -/
abbrev Sc := Int × Int × ByteArray
theorem ba_ext {a b : ByteArray} (h : a.data.toList = b.data.toList) : a = b := by
  cases a; cases b; congr 1; exact Array.toList_inj.1 h
def ltSc (a b : Sc) : Bool := if a.1 = b.1 then (if a.2.1 = b.2.1 then decide (a.2.2.data.toList < b.2.2.data.toList) else decide (a.2.1 < b.2.1)) else decide (a.1 < b.1)
def cmpSc (a b : Sc) : Int := if a = b then 0 else if ltSc a b = true then -1 else 1
theorem lt_iff (a b : Sc) : ltSc a b = true ↔ a.1 < b.1 ∨ (a.1 = b.1 ∧ (a.2.1 < b.2.1 ∨ (a.2.1 = b.2.1 ∧ a.2.2.data.toList < b.2.2.data.toList))) := by
  unfold ltSc
  by_cases h1 : a.1 = b.1
  · rw [if_pos h1]
    by_cases h2 : a.2.1 = b.2.1
    · rw [if_pos h2, decide_eq_true_iff]
      constructor
      · intro h; exact .inr ⟨h1, .inr ⟨h2, h⟩⟩
      · rintro (h | ⟨_, h | ⟨_, h⟩⟩)
        · omega
        · omega
        · exact h
    · rw [if_neg h2, decide_eq_true_iff]
      constructor
      · intro h; exact .inr ⟨h1, .inl h⟩
      · rintro (h | ⟨_, h | ⟨h, _⟩⟩)
        · omega
        · exact h
        · exact absurd h h2
  · rw [if_neg h1, decide_eq_true_iff]
    constructor
    · intro h; exact .inl h
    · rintro (h | ⟨h, _⟩)
      · exact h
      · exact absurd h h1
theorem lt_irrefl (a : Sc) : ltSc a a = false := by
  rw [Bool.eq_false_iff]
  intro h
  rcases (lt_iff a a).1 h with h | ⟨_, h | ⟨_, h⟩⟩
  · omega
  · omega
  · exact List.lt_irrefl _ h
theorem lt_trans {a b c : Sc} (h1 : ltSc a b = true) (h2 : ltSc b c = true) : ltSc a c = true := by
  rw [lt_iff] at h1 h2 ⊢
  rcases h1 with h1 | ⟨e1, h1 | ⟨f1, h1⟩⟩ <;> rcases h2 with h2 | ⟨e2, h2 | ⟨f2, h2⟩⟩
  · exact .inl (by omega)
  · exact .inl (by omega)
  · exact .inl (by omega)
  · exact .inl (by omega)
  · exact .inr ⟨by omega, .inl (by omega)⟩
  · exact .inr ⟨by omega, .inl (by omega)⟩
  · exact .inl (by omega)
  · exact .inr ⟨by omega, .inl (by omega)⟩
  · exact .inr ⟨by omega, .inr ⟨by omega, List.lt_trans h1 h2⟩⟩
theorem lt_conn {a b : Sc} (h1 : ltSc a b = false) (h2 : ltSc b a = false) : a = b := by
  have n1 : ¬ _ := fun h => Bool.eq_false_iff.1 h1 ((lt_iff a b).2 h)
  have n2 : ¬ _ := fun h => Bool.eq_false_iff.1 h2 ((lt_iff b a).2 h)
  have e1 : a.1 = b.1 := by
    rcases Int.lt_trichotomy a.1 b.1 with h | h | h
    · exact absurd (.inl h) n1
    · exact h
    · exact absurd (.inl h) n2
  have e2 : a.2.1 = b.2.1 := by
    rcases Int.lt_trichotomy a.2.1 b.2.1 with h | h | h
    · exact absurd (.inr ⟨e1, .inl h⟩) n1
    · exact h
    · exact absurd (.inr ⟨e1.symm, .inl h⟩) n2
  have e3 : a.2.2 = b.2.2 := by
    refine ba_ext (List.le_antisymm ?_ ?_)
    · exact fun h => n2 (.inr ⟨e1.symm, .inr ⟨e2.symm, h⟩⟩)
    · exact fun h => n1 (.inr ⟨e1, .inr ⟨e2, h⟩⟩)
  obtain ⟨a1, a2, a3⟩ := a
  obtain ⟨b1, b2, b3⟩ := b
  simp only at e1 e2 e3
  subst e1 e2 e3
  rfl
theorem lt_asymm {a b : Sc} (h : ltSc a b = true) : ltSc b a = false := by
  rw [Bool.eq_false_iff]
  intro h2
  have := lt_trans h h2
  rw [lt_irrefl] at this
  cases this
theorem cmp_self (a : Sc) : cmpSc a a = 0 := if_pos rfl
theorem cmp_zero {a b : Sc} : cmpSc a b = 0 ↔ a = b := by
  unfold cmpSc
  by_cases h : a = b
  · simp [h]
  · rw [if_neg h]
    split <;> simp [h]
theorem cmp_neg {a b : Sc} : cmpSc a b < 0 ↔ ltSc a b = true := by
  unfold cmpSc
  by_cases h : a = b
  · subst h; rw [if_pos rfl, lt_irrefl]; simp
  · rw [if_neg h]
    split <;> simp_all
theorem cmp_swap (a b : Sc) : cmpSc a b = - cmpSc b a := by
  unfold cmpSc
  by_cases h : a = b
  · subst h; rw [if_pos rfl]; rfl
  · have h' : ¬ b = a := fun e => h e.symm
    simp only [if_neg h, if_neg h']
    cases h1 : ltSc a b <;> cases h2 : ltSc b a
    · exact absurd (lt_conn h1 h2) h
    · rfl
    · rfl
    · have := lt_asymm h1; rw [h2] at this; cases this
theorem cmp_range (a b : Sc) : -1 ≤ cmpSc a b ∧ cmpSc a b ≤ 1 := by
  unfold cmpSc
  split
  · omega
  · split <;> omega
theorem cmp_pos {a b : Sc} : 0 < cmpSc a b ↔ ltSc b a = true := by
  rw [← cmp_neg, cmp_swap a b]; omega
theorem cmp_le_trans {a b c : Sc} (h1 : cmpSc a b ≤ 0) (h2 : cmpSc b c ≤ 0) : cmpSc a c ≤ 0 := by
  rcases Int.lt_or_eq_of_le h1 with h1 | h1
  · rcases Int.lt_or_eq_of_le h2 with h2 | h2
    · have := cmp_neg.2 (lt_trans (cmp_neg.1 h1) (cmp_neg.1 h2)); omega
    · rw [cmp_zero] at h2; subst h2; omega
  · rw [cmp_zero] at h1; subst h1; exact h2
theorem cmp_lt_trans {a b c : Sc} (h1 : cmpSc a b < 0) (h2 : cmpSc b c < 0) : cmpSc a c < 0 :=
  cmp_neg.2 (lt_trans (cmp_neg.1 h1) (cmp_neg.1 h2))
/-- no later one ahead of an earlier one -/
def leSc (x y : Sc) : Bool := !ltSc y x
theorem le_total (a b : Sc) : (leSc a b || leSc b a) = true := by
  unfold leSc
  cases h1 : ltSc b a
  · rfl
  · rw [lt_asymm h1]; rfl
theorem le_trans' {a b c : Sc} (h1 : leSc a b = true) (h2 : leSc b c = true) : leSc a c = true := by
  unfold leSc at *
  rw [Bool.not_eq_true'] at *
  cases h : ltSc c a
  · rfl
  · cases h3 : ltSc a b
    · have := lt_conn h3 h1; subst this; rw [h2] at h; cases h
    · have := lt_trans h h3; rw [h2] at this; cases this
theorem le_antisymm' {a b : Sc} (h1 : leSc a b = true) (h2 : leSc b a = true) : a = b := by
  unfold leSc at *
  rw [Bool.not_eq_true'] at *
  exact lt_conn h2 h1
def sortSc (l : List Sc) : List Sc := l.mergeSort leSc
theorem sort_perm (l : List Sc) : (sortSc l).Perm l := List.mergeSort_perm l leSc
theorem sort_pairwise (l : List Sc) : (sortSc l).Pairwise fun a b => leSc a b = true :=
  List.pairwise_mergeSort (le := leSc) (fun _ _ _ h k => le_trans' h k) le_total l
theorem sorted_eq {l m : List Sc} (hp : l.Perm m) (h1 : l.Pairwise fun a b => leSc a b = true) (h2 : m.Pairwise fun a b => leSc a b = true) : l = m :=
  hp.eq_of_pairwise (fun _ _ _ _ h k => le_antisymm' h k) h1 h2
theorem sort_unique {l m : List Sc} (hp : l.Perm m) (h : l.Pairwise fun a b => leSc a b = true) : l = sortSc m :=
  sorted_eq (hp.trans (sort_perm m).symm) h (sort_pairwise m)
theorem sort_congr {l m : List Sc} (hp : l.Perm m) : sortSc l = sortSc m :=
  sort_unique ((sort_perm l).trans hp) (sort_pairwise l)
theorem sort_sort (l : List Sc) : sortSc (sortSc l) = sortSc l := sort_congr (sort_perm l)
theorem sort_length (l : List Sc) : (sortSc l).length = l.length := (sort_perm l).length_eq
theorem ltOf_cmp (x y : Sc) : decide (cmpSc x y < 0) = ltSc x y := by
  cases h : ltSc x y
  · exact decide_eq_false (fun c => by rw [cmp_neg.1 c] at h; cases h)
  · exact decide_eq_true (cmp_neg.2 h)
theorem swo : SWO fun x y => decide (cmpSc x y < 0) where
  irrefl x := by rw [ltOf_cmp, lt_irrefl]
  trans x y z h1 h2 := by rw [ltOf_cmp] at *; exact lt_trans h1 h2
  ntrans x y z h1 h2 := by
    rw [ltOf_cmp] at *
    have := le_trans' (a := z) (b := y) (c := x) (by unfold leSc; rw [h2]; rfl) (by unfold leSc; rw [h1]; rfl)
    unfold leSc at this
    rw [Bool.not_eq_true'] at this
    exact this
/-- is one there twice? -/
def twiceSc (l : List Sc) : Bool := decide (¬ l.Nodup)
/-- the document's way: each behind those that it is not ahead of -/
def insSc (x : Sc) : List Sc → List Sc
  | [] => [x]
  | y :: t => if cmpSc x y < 0 then x :: y :: t else y :: insSc x t
theorem ins_perm (x : Sc) : ∀ l, (insSc x l).Perm (x :: l)
  | [] => List.Perm.refl _
  | y :: t => by
    unfold insSc
    split
    · exact List.Perm.refl _
    · exact ((ins_perm x t).cons y).trans (List.Perm.swap x y t)
theorem ins_pairwise (x : Sc) : ∀ l, (l.Pairwise fun a b => leSc a b = true) → (insSc x l).Pairwise fun a b => leSc a b = true
  | [], _ => List.pairwise_singleton _ _
  | y :: t, h => by
    unfold insSc
    have h' := List.pairwise_cons.1 h
    split
    · rename_i hc
      rw [cmp_neg] at hc
      have hxy : leSc x y = true := by unfold leSc; rw [lt_asymm hc]; rfl
      refine List.pairwise_cons.2 ⟨fun z hz => ?_, h⟩
      rcases List.mem_cons.1 hz with rfl | hz
      · exact hxy
      · exact le_trans' hxy (h'.1 z hz)
    · rename_i hc
      rw [cmp_neg] at hc
      refine List.pairwise_cons.2 ⟨fun z hz => ?_, ins_pairwise x t h'.2⟩
      rcases List.mem_cons.1 ((ins_perm x t).mem_iff.1 hz) with rfl | hz
      · unfold leSc; rw [Bool.eq_false_iff.2 hc]; rfl
      · exact h'.1 z hz
def insAll (l : List Sc) : List Sc := l.foldl (fun o x => insSc x o) []
theorem insAll_eq (l : List Sc) : insAll l = sortSc l := by
  have h : ∀ (l o : List Sc), (o.Pairwise fun a b => leSc a b = true) → (l.foldl (fun o x => insSc x o) o).Perm (o ++ l) ∧ (l.foldl (fun o x => insSc x o) o).Pairwise fun a b => leSc a b = true := by
    intro l
    induction l with
    | nil => intro o ho; exact ⟨by simp, ho⟩
    | cons x t ih =>
      intro o ho
      have := ih (insSc x o) (ins_pairwise x o ho)
      refine ⟨this.1.trans ?_, this.2⟩
      exact ((ins_perm x o).append_right t).trans ((List.perm_middle (a := x) (l₁ := o) (l₂ := t)).symm)
  have := h l [] List.Pairwise.nil
  exact sort_unique (by simpa [insAll] using this.1) this.2
end Scs
end Go.Proofs.YtepelpmkmhhokaaGreatDoor

set_option maxRecDepth 100000
namespace Go.Proofs.YtepelpmkmhhokaaGreatDoor
open Go.RowKit Go.Shelf Go.Sort
open Scs
/-- a scalar's cells -/
def encS (x : Sc) : List Value := [.int .i64 x.1, .int .i64 x.2.1, .string x.2.2]
def aggS (x : Sc) : Value := .agg #[.int .i64 x.1, .int .i64 x.2.1, .string x.2.2]
theorem less_dec (x : List UInt8) : ∀ y, Op.bytesLess x y = decide (x < y) := by
  induction x with
  | nil => intro y; cases y <;> simp [Op.bytesLess]
  | cons a t ih =>
    intro y
    cases y with
    | nil => simp [Op.bytesLess]
    | cons b u =>
      unfold Op.bytesLess
      rw [ih u]
      rcases Nat.lt_trichotomy a.toNat b.toNat with h | h | h
      · have h1 : a < b := h
        simp [List.cons_lt_cons_iff, h1]
      · have h1 : a = b := UInt8.toNat_inj.1 h
        subst h1
        simp
      · have h1 : ¬ a < b := fun c => by have : a.toNat < b.toNat := c; omega
        have h2 : ¬ a = b := fun c => by rw [c] at h; omega
        simp [List.cons_lt_cons_iff, h1, h2]
theorem less_ba (a b : ByteArray) : Op.bytesLess a.toList b.toList = decide (a.data.toList < b.data.toList) := by
  rw [ByteArray.toList_eq, ByteArray.toList_eq, less_dec]
theorem grow2 (w : World) (o1 o2 : Obj) : ∃ q os, (w.alloc o1).alloc o2 = grow (w.drewN q) os := ⟨0, #[o1] ++ #[o2], by rw [alloc_eq_grow, alloc_eq_grow, grow_grow]; rfl⟩
set_option maxHeartbeats 1000000 in
theorem ahead_any (x y : Sc) (w : World) : Calls Tryz.prog 102 #[aggS x, aggS y] w fun e w' => e = .returned (.bool (ltSc x y)) ∧ ∃ q os, w' = grow (w.drewN q) os := by
  unfold aggS
  obtain ⟨k, n, s⟩ := x
  obtain ⟨k2, n2, s2⟩ := y
  unfold ltSc
  simp only
  by_cases h1 : k = k2
  · rw [if_pos h1]
    by_cases h2 : n = n2
    · rw [if_pos h2, ← less_ba]
      have h1' : (k != k2) = false := by simp [h1]
      have h2' : (n != n2) = false := by simp [h2]
      go_enter Tryz.func102, Tryz.ntmps102
      go_wp2
      go_ret
      exact ⟨rfl, grow2 _ _ _⟩
    · rw [if_neg h2]
      have h1' : (k != k2) = false := by simp [h1]
      have h2' : (n != n2) = true := by simp [h2]
      go_enter Tryz.func102, Tryz.ntmps102
      go_wp2
      go_ret
      exact ⟨rfl, grow2 _ _ _⟩
  · rw [if_neg h1]
    have h1' : (k != k2) = true := by simp [h1]
    go_enter Tryz.func102, Tryz.ntmps102
    go_wp2
    go_ret
    exact ⟨rfl, grow2 _ _ _⟩
end Go.Proofs.YtepelpmkmhhokaaGreatDoor

set_option maxRecDepth 100000
namespace Go.Proofs.YtepelpmkmhhokaaGreatDoor
open Go.RowKit Go.Shelf
open Scs
/-- are two scalars the same -/
def sameB (k n : Int) (s : ByteArray) (k' n' : Int) (s' : ByteArray) : Bool := k == k' && (n == n' && s.data.toList == s'.data.toList)
theorem eq_sc (k n : Int) (s : ByteArray) (k' n' : Int) (s' : ByteArray) (w : World) :
    (binOp .eql 48 (.agg #[.int .i64 k, .int .i64 n, .string s]) (.agg #[.int .i64 k', .int .i64 n', .string s'])).run Tryz.prog w = .ok (.bool (sameB k n s k' n' s')) w := by
  have u3 := Tryz.underlying3
  have a3 := Tryz.isAgg3
  have z3 := Tryz.sizeOf3
  have u9 := Tryz.underlying9
  have a9 := Tryz.isAgg9
  have z9 := Tryz.sizeOf9
  have hS : Tryz.prog.underlying 48 = some (.struct (Tryz.prog.fieldsOf 48)) := by kernel_rfl
  have hp : Tryz.prog.stoodInHeld 48 = false := by kernel_rfl
  rw [run_eql_struct, show (10000 : Nat) = 9999 + 1 from rfl, run_equalIn_agg w 9999 48 _ _ hS hp]
  simp only [Program.fieldsOf, Tryz.underlying48]
  go_simp
  unfold sameB
  rw [ByteArray.toList_eq, ByteArray.toList_eq]
  by_cases h1 : k = k' <;> by_cases h2 : n = n' <;> by_cases h3 : s.data = s'.data <;> simp [h1, h2, h3]
theorem guard_sc (op : BinOp) (a b : Operand) (k n : Int) (s : ByteArray) (k' n' : Int) (s' : ByteArray) (w : World) : (eqGuard op 48 a b (.agg #[.int .i64 k, .int .i64 n, .string s]) (.agg #[.int .i64 k', .int .i64 n', .string s'])).run Tryz.prog w = .ok () w :=
  run_eqGuard_agg w op 48 a b _ _ (by kernel_rfl)
theorem equal_sc (k n : Int) (s : ByteArray) (k' n' : Int) (s' : ByteArray) (w : World) :
    (Op.equalIn 10000 48 (.agg #[.int .i64 k, .int .i64 n, .string s]) (.agg #[.int .i64 k', .int .i64 n', .string s'])).run Tryz.prog w = .ok (sameB k n s k' n' s') w := by
  have h := eq_sc k n s k' n' s' w
  rw [run_eql_struct] at h
  cases hr : (Op.equalIn 10000 48 (.agg #[.int .i64 k, .int .i64 n, .string s]) (.agg #[.int .i64 k', .int .i64 n', .string s'])).run Tryz.prog w with
  | ok b w' =>
    rw [hr] at h
    simp only [Result.andThen_ok, Result.ok.injEq, Value.bool.injEq] at h
    obtain ⟨rfl, rfl⟩ := h
    rfl
  | halt x w' =>
    rw [hr] at h
    simp [Result.andThen] at h
theorem sameB_iff (k n : Int) (s : ByteArray) (k' n' : Int) (s' : ByteArray) : sameB k n s k' n' s' = decide ((k, n, s) = ((k', n', s') : Sc)) := by
  unfold sameB
  by_cases h1 : k = k' <;> by_cases h2 : n = n' <;> by_cases h3 : s = s'
  all_goals first
    | (subst h1 h2 h3; simp; done)
    | (have h3' : ¬ s.data = s'.data := fun h => h3 (ByteArray.ext h)
       simp [h1, h2, h3, h3']; done)
    | (simp [h1, h2, h3]; done)
end Go.Proofs.YtepelpmkmhhokaaGreatDoor

set_option maxRecDepth 100000
namespace Go.Proofs.YtepelpmkmhhokaaGreatDoor
open Go.RowKit Go.Shelf Go.Sort
open Scs
theorem grow3 (w : World) (o1 o2 : Obj) (q : Nat) (os : Array Obj) : ∃ p xs, grow (((w.alloc o1).alloc o2).drewN q) os = grow (w.drewN p) xs :=
  ⟨q, #[o1] ++ #[o2] ++ os, by
    rw [alloc_eq_grow, alloc_eq_grow, grow_grow, show (grow w (#[o1] ++ #[o2])).drewN q = grow (w.drewN q) (#[o1] ++ #[o2]) from rfl, grow_grow]⟩
set_option maxHeartbeats 1000000 in
theorem Compare_any (x y : Sc) (w : World) : Calls Tryz.prog 87 #[aggS x, aggS y] w fun e w' => e = .returned (.int .i64 (cmpSc x y)) ∧ ∃ q os, w' = grow (w.drewN q) os := by
  have hA := fun w => ahead_any x y w
  obtain ⟨k, n, s⟩ := x
  obtain ⟨k2, n2, s2⟩ := y
  have hq := fun w => equal_sc k n s k2 n2 s2 w
  rw [sameB_iff] at hq
  unfold cmpSc
  by_cases h : ((k, n, s) : Sc) = (k2, n2, s2)
  · rw [if_pos h]
    rw [decide_eq_true h] at hq
    clear hA h
    unfold aggS
    go_enter Tryz.func87, Tryz.ntmps87
    go_wp2_with fail
    go_ret
    exact ⟨rfl, grow2 _ _ _⟩
  · rw [if_neg h]
    rw [decide_eq_false h] at hq
    obtain ⟨R, hR⟩ : ∃ R, ltSc (k, n, s) (k2, n2, s2) = R := ⟨_, rfl⟩
    rw [hR] at hA ⊢
    have HA := Lib.hid hA
    clear hA h hR
    unfold aggS
    cases R
    · go_enter Tryz.func87, Tryz.ntmps87
      go_wp2_with fail
      refine (HA.out _).mono ?_
      rintro e w1 ⟨rfl, q1, os1, rfl⟩
      go_wp2_with fail
      go_ret
      exact ⟨rfl, grow3 _ _ _ _ _⟩
    · go_enter Tryz.func87, Tryz.ntmps87
      go_wp2_with fail
      refine (HA.out _).mono ?_
      rintro e w1 ⟨rfl, q1, os1, rfl⟩
      go_wp2_with fail
      go_ret
      exact ⟨rfl, grow3 _ _ _ _ _⟩
theorem below_grow (w : World) (q : Nat) (os : Array Obj) : Below w.heap.size w (grow (w.drewN q) os) :=
  ⟨rfl, rfl, rfl, by show w.heap.size ≤ (w.heap ++ os).size; rw [Array.size_append]; omega, fun k hk => by show (w.heap ++ os)[k]? = _; rw [Array.getElem?_append_left hk]⟩
theorem Compare_below (x y : Sc) (w : World) : Calls Tryz.prog 87 #[aggS x, aggS y] w fun e w' => e = .returned (.int .i64 (cmpSc x y)) ∧ Below w.heap.size w w' :=
  (Compare_any x y w).mono fun _ _ ⟨he, q, os, hw⟩ => ⟨he, by rw [hw]; exact below_grow w q os⟩
end Go.Proofs.YtepelpmkmhhokaaGreatDoor

set_option maxRecDepth 100000
namespace Go.Proofs.YtepelpmkmhhokaaGreatDoor
open Go.RowKit Go.Shelf Go.Sort
open Scs
theorem lt_self (x : Sc) : ltSc x x = false := by
  unfold ltSc
  rw [if_pos rfl, if_pos rfl, decide_eq_false_iff_not]
  exact List.lt_irrefl _
theorem cmp_lt {x y : Sc} (h : ltSc x y = true) : cmpSc x y = -1 := by
  unfold cmpSc
  by_cases e : x = y
  · subst e
    rw [lt_self] at h
    cases h
  · simp [e, h]
theorem cmp_gt {x y : Sc} (h : ltSc y x = true) : cmpSc x y = 1 := by
  have hne : ¬ x = y := fun e => by subst e; rw [lt_self] at h; cases h
  have hn : ltSc x y = false := by
    rw [Bool.eq_false_iff]
    intro h2
    obtain ⟨k, n, s⟩ := x
    obtain ⟨k2, n2, s2⟩ := y
    unfold ltSc at h h2
    simp only at h h2
    by_cases h1 : k = k2
    · subst h1
      rw [if_pos rfl] at h h2
      by_cases h3 : n = n2
      · subst h3
        rw [if_pos rfl] at h h2
        simp only [decide_eq_true_eq] at h h2
        exact absurd h2 (List.lt_asymm h)
      · rw [if_neg h3] at h2
        rw [if_neg (fun e => h3 e.symm)] at h
        simp only [decide_eq_true_eq] at h h2
        omega
    · rw [if_neg h1] at h2
      rw [if_neg (fun e => h1 e.symm)] at h
      simp only [decide_eq_true_eq] at h h2
      omega
  unfold cmpSc
  simp [hne, hn]
theorem gtr_bool (a b : ByteArray) : (!Op.bytesLess a.toList b.toList && !(a.toList == b.toList)) = Op.bytesLess b.toList a.toList := by
  rw [less_ba, less_ba, ByteArray.toList_eq, ByteArray.toList_eq]
  generalize a.data.toList = x
  generalize b.data.toList = y
  by_cases h : x = y
  · subst h
    simp [List.lt_irrefl]
  · by_cases h1 : x < y
    · have h2 : ¬ y < x := List.lt_asymm h1
      simp [h1, h2]
    · have h2 : y < x := by
        rcases List.le_iff_lt_or_eq.1 (List.not_lt.1 h1) with h3 | h3
        · exact h3
        · exact absurd h3.symm h
      simp [h1, h2, h]
theorem gtr_str (t : TypeId) (a b : ByteArray) (w : World) : (binOp .gtr t (.string a) (.string b)).run Tryz.prog w = .ok (.bool (Op.bytesLess b.toList a.toList)) w := by
  rw [← gtr_bool]
  simp [binOp, Op.stringOp]
set_option maxHeartbeats 2000000 in
theorem Compare_ref (x y : Sc) (w : World) : Calls Tryz.prog 73 #[aggS x, aggS y] w fun e w' => e = .returned (.int .i64 (cmpSc x y)) ∧ Below w.heap.size w w' := by
  have hB : ∀ o1 o2 : Obj, Below w.heap.size w ((w.alloc o1).alloc o2) := fun o1 o2 => ((Below.refl _ w).alloc (Nat.le_refl _) _).alloc (by simp) _
  unfold aggS
  obtain ⟨k, n, s⟩ := x
  obtain ⟨k2, n2, s2⟩ := y
  rcases Int.lt_trichotomy k k2 with h1 | h1 | h1
  · rw [cmp_lt (x := (k, n, s)) (y := (k2, n2, s2)) (by unfold ltSc; rw [if_neg (by simp only; omega)]; simpa using h1)]
    go_enter Tryz.func73, Tryz.ntmps73
    go_wp2
    go_ret
    exact ⟨rfl, hB _ _⟩
  · have g1 : ¬ k < k2 := by omega
    have g2 : ¬ k2 < k := by omega
    rcases Int.lt_trichotomy n n2 with h2 | h2 | h2
    · rw [cmp_lt (x := (k, n, s)) (y := (k2, n2, s2)) (by unfold ltSc; rw [if_pos h1, if_neg (by simp only; omega)]; simpa using h2)]
      clear h1
      go_enter Tryz.func73, Tryz.ntmps73
      go_wp2
      go_ret
      exact ⟨rfl, hB _ _⟩
    · have g3 : ¬ n < n2 := by omega
      have g4 : ¬ n2 < n := by omega
      have qg := gtr_str
      cases h3 : Op.bytesLess s.toList s2.toList with
      | true =>
        rw [cmp_lt (x := (k, n, s)) (y := (k2, n2, s2)) (by unfold ltSc; rw [if_pos h1, if_pos h2]; rw [less_ba] at h3; exact h3)]
        clear h1 h2
        go_enter Tryz.func73, Tryz.ntmps73
        go_wp2
        go_ret
        exact ⟨rfl, hB _ _⟩
      | false =>
        cases h4 : Op.bytesLess s2.toList s.toList with
        | true =>
          rw [cmp_gt (x := (k, n, s)) (y := (k2, n2, s2)) (by unfold ltSc; rw [if_pos h1.symm, if_pos h2.symm]; rw [less_ba] at h4; exact h4)]
          clear h1 h2
          go_enter Tryz.func73, Tryz.ntmps73
          go_wp2
          go_ret
          exact ⟨rfl, hB _ _⟩
        | false =>
          have hs : s = s2 := by
            rw [less_ba, decide_eq_false_iff_not] at h3 h4
            rw [List.not_lt] at h3 h4
            exact ByteArray.ext (Array.toList_inj.1 (List.le_antisymm h4 h3))
          rw [show cmpSc (k, n, s) (k2, n2, s2) = 0 by subst h1 h2 hs; simp [cmpSc]]
          clear h1 h2 hs
          go_enter Tryz.func73, Tryz.ntmps73
          go_wp2
          go_ret
          exact ⟨rfl, hB _ _⟩
    · rw [cmp_gt (x := (k, n, s)) (y := (k2, n2, s2)) (by unfold ltSc; rw [if_pos h1.symm, if_neg (by simp only; omega)]; simpa using h2)]
      have g3 : ¬ n < n2 := by omega
      clear h1
      go_enter Tryz.func73, Tryz.ntmps73
      go_wp2
      go_ret
      exact ⟨rfl, hB _ _⟩
  · rw [cmp_gt (x := (k, n, s)) (y := (k2, n2, s2)) (by unfold ltSc; rw [if_neg (by simp only; omega)]; simpa using h1)]
    have g1 : ¬ k < k2 := by omega
    go_enter Tryz.func73, Tryz.ntmps73
    go_wp2
    go_ret
    exact ⟨rfl, hB _ _⟩
end Go.Proofs.YtepelpmkmhhokaaGreatDoor
