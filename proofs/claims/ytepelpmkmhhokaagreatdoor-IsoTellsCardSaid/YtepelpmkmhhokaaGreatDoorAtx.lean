/- What is wrong with a graph is told, with its place: the document's answer. Conditions: the surroundings; the graph lies. The node at a place is looked up. Conditions: the graph lies. -/
import Derived.Test.YtepelpmkmhhokaaGreatDoorAer
set_option maxRecDepth 100000
namespace Go.Proofs.YtepelpmkmhhokaaGreatDoor
open Go.RowKit Go.Shelf
open Scs Seqo
theorem store3 {w : World} {b : Nat} {a0 a1 a2 : Value} {T : TypeId} (h : w.heap[b]? = some (.cells #[a0, a1, a2] T (0, 0))) (x0 x1 x2 : Value) :
    (((w.setCell ⟨b, 0, none⟩ x0).setCell ⟨b, 1, none⟩ x1).setCell ⟨b, 2, none⟩ x2).heap[b]? = some (.cells #[x0, x1, x2] T (0, 0)) :=
  heap_setCell_same _ _ 2 _ _ x2 (heap_setCell_same _ _ 1 _ _ x1 (heap_setCell_same w b 0 _ _ x0 h))
theorem told_nil (w : World) : Calls Tryz.prog 69 #[.nilIface] w fun e w' => e = .returned (.tuple #[.int .i64 0, .int .i64 0]) ∧ Below w.heap.size w w' := by
  go_enter Tryz.func69, Tryz.ntmps69
  go_wp2_with fail
  refine (as_nil _ _).mono ?_
  rintro e w' ⟨rfl, rfl⟩
  go_wp2_with fail
  go_ret2
  exact ⟨rfl, (Below.refl _ w).alloc (Nat.le_refl _) _⟩
set_option maxHeartbeats 1000000 in
theorem told_fault (a no : Int) (s : ByteArray) (w : World) (E : Env w) : Calls Tryz.prog 69 #[faultV a no s] w fun e w' => e = .returned (.tuple #[.int .i64 a, .int .i64 no]) ∧ Below w.heap.size w w' := by
  have hlt : 3 < w.heap.size := World.block_lt_of_cell? w ⟨3, 0, none⟩ (by rw [E.err])
  have hg := (World.cell?_alloc_lt w (.cells #[.int .i64 0, .int .i64 0, .string ⟨#[]⟩] 158) ⟨3, 0, none⟩ hlt).trans E.err
  have hH := as_hit a no s w.heap.size _ _ _ _ hg (heap_alloc_new w (.cells #[.int .i64 0, .int .i64 0, .string ⟨#[]⟩] 158))
  have HH := Lib.hid hH
  unfold faultV
  clear hH hg E
  go_enter Tryz.func69, Tryz.ntmps69
  go_wp2_with fail
  refine HH.out.mono ?_
  rintro e w' ⟨rfl, hw'⟩
  obtain ⟨w4, hw4⟩ : ∃ w4, ((((w.alloc (.cells #[.int .i64 0, .int .i64 0, .string ⟨#[]⟩] 158)).alloc (.cells #[.pointer (some ⟨w.heap.size, 0, none⟩)] 160)).alloc (.cells #[.pointer (some ⟨6, 160, none⟩), .pointer (some ⟨(w.alloc (.cells #[.int .i64 0, .int .i64 0, .string ⟨#[]⟩] 158)).heap.size, 0, none⟩), .int .u64 150] 173)).alloc (.cells #[.pointer (some ⟨6, 160, none⟩), .pointer (some ⟨(w.alloc (.cells #[.int .i64 0, .int .i64 0, .string ⟨#[]⟩] 158)).heap.size, 0, none⟩), .int .u64 150] 173)).alloc (.cells #[.int .i64 a, .int .i64 no, .string s] 158) = w4 := ⟨_, rfl⟩
  rw [hw4] at hw'
  have hr4 : w4.heap[w.heap.size]? = some (.cells #[.int .i64 0, .int .i64 0, .string ⟨#[]⟩] 158 (0, 0)) := by
    rw [← hw4, Below.heap_alloc _ _ _ (by simp; omega), Below.heap_alloc _ _ _ (by simp; omega), Below.heap_alloc _ _ _ (by simp; omega), Below.heap_alloc _ _ _ (by simp)]
    exact heap_alloc_new w _
  have hb4 : Below w.heap.size w w4 := by
    rw [← hw4]
    exact (((((Below.refl _ w).alloc (Nat.le_refl _) _).alloc (by simp) _).alloc (by simp; omega) _).alloc (by simp; omega) _).alloc (by simp; omega) _
  have hr5 := store3 hr4 (.int .i64 a) (.int .i64 no) (.string s)
  have hb5 : Below w.heap.size w w' := by
    rw [hw']
    exact ((hb4.setCell (Nat.le_refl _) _).setCell (Nat.le_refl _) _).setCell (Nat.le_refl _) _
  rw [← hw'] at hr5
  have c0 : w'.cell? ⟨w.heap.size, 0, none⟩ = some (.int .i64 a) := cell_of_row _ _ 0 _ _ _ hr5
  have c1 : w'.cell? ⟨w.heap.size, 1, none⟩ = some (.int .i64 no) := cell_of_row _ _ 1 _ _ _ hr5
  have HB5 := Lib.hid hb5
  clear hw' hw4 hr4 hb4 hr5 hb5
  go_wp2_with fail
  go_quiet (fail)
  go_wp2_with fail
  go_ret2
  exact ⟨rfl, below_drewN HB5.out _⟩
theorem told_any (v : Value) (r : Int × Int) (hv : ErrOf v r) (w : World) (E : Env w) : Calls Tryz.prog 69 #[v] w fun e w' => e = .returned (.tuple #[.int .i64 r.1, .int .i64 r.2]) ∧ Below w.heap.size w w' := by
  unfold ErrOf at hv
  split at hv
  · obtain ⟨rfl, rfl⟩ := hv
    exact told_nil w
  · obtain ⟨why, rfl⟩ := hv
    exact told_fault _ _ _ w E
set_option maxHeartbeats 1000000 in
theorem graphErr_any (root : Int) (L : Array Fn) (p : Option Addr) (cap : Nat) (w : World) (E : Env w) (hg : Gl w p L) :
    Calls Tryz.prog 70 #[.agg #[.int .i64 root, .slice p L.size cap]] w fun e w' => (∃ v, e = .returned v ∧ ErrOf v (checkG root L.toList)) ∧ Below w.heap.size w w' := by
  have hsm := hg.small
  by_cases h200 : 200 < L.size
  · have hc : checkG root L.toList = (0, 71) := by unfold checkG; rw [Array.length_toList, if_pos h200]
    rw [hc]
    have i1 : (200 : Int) < (L.size : Int) := by omega
    clear hg E hc
    go_enter Tryz.func70, Tryz.ntmps70
    go_wp2_with fail
    go_step3
    go_wp2_with fail
    rw [Exit.noGoto_ret]
    refine bodyPost_ret (v := faultV 0 71 ⟨#[116, 111, 111, 32, 109, 97, 110, 121, 32, 110, 111, 100, 101, 115]⟩) (by simp [results, Tryz.results70, go_sem, faultV]) rfl ?_
    exact ⟨⟨_, rfl, ⟨_, rfl⟩⟩, (Below.refl _ _).alloc (Nat.le_refl _) _⟩
  cases hroot : plB root L.size
  · have hc : checkG root L.toList = (-1, 70) := by unfold checkG; rw [Array.length_toList, if_neg h200, hroot]; rfl
    rw [hc]
    have i1 : (L.size : Int) ≤ 200 := by omega
    have hP : ∀ W, Calls Tryz.prog 81 #[.int .i64 root, .int .i64 (L.size : Int)] W fun e W' => e = .returned (.bool false) ∧ W' = W := fun W => by have h := isPlace_any root L.size W; rwa [hroot] at h
    have HP := Lib.hid hP
    clear hg E hc hP hroot
    go_enter Tryz.func70, Tryz.ntmps70
    go_wp2_with fail
    go_step3
    go_wp2_with (go_at_call 81; refine (HP.out _).mono ?_; rintro e w' ⟨rfl, rfl⟩)
    rw [Exit.noGoto_ret]
    refine bodyPost_ret (v := faultV (-1) 70 ⟨#[116, 104, 101, 32, 82, 111, 111, 116, 32, 105, 115, 32, 110, 111, 32, 110, 111, 100, 101, 39, 115, 32, 112, 108, 97, 99, 101]⟩) (by simp [results, Tryz.results70, go_sem, faultV]) rfl ?_
    exact ⟨⟨_, rfl, ⟨_, rfl⟩⟩, (Below.refl _ _).alloc (Nat.le_refl _) _⟩
  · refine (callsIn_wide.1 (check_in root L p cap w E hg h200 hroot)).mono ?_
    rintro e w' ⟨⟨v, rfl, hv⟩, hb⟩
    refine ⟨⟨v, rfl, ?_⟩, hb⟩
    unfold checkG
    rw [Array.length_toList, if_neg h200, hroot, if_pos rfl]
    cases hbd : badFrom L.size L.toList 0 <;> rw [hbd] at hv <;> exact hv
set_option maxHeartbeats 1000000 in
/-- arena.Check -/
theorem Check_any (root : Int) (L : Array Fn) (p : Option Addr) (cap : Nat) (w : World) (E : Env w) (hg : Gl w p L) :
    Calls Tryz.prog 50 #[.agg #[.int .i64 root, .slice p L.size cap]] w fun e w' => e = .returned (.tuple #[.int .i64 (checkG root L.toList).1, .int .i64 (checkG root L.toList).2]) ∧ Below w.heap.size w w' := by
  have hC := fun w E hg => graphErr_any root L p cap w E hg
  obtain ⟨r, hr⟩ : ∃ r, checkG root L.toList = r := ⟨_, rfl⟩
  rw [hr] at hC ⊢
  have hb : ∀ o : Obj, Below w.heap.size w (w.alloc o) := fun o => (Below.refl _ w).alloc (Nat.le_refl _) _
  have HC := Lib.hid (fun o => hC (w.alloc o) (E.below (hb o)) (hg.below (hb o)))
  have HE := Lib.hid E
  clear hr hC E hg hb
  go_enter Tryz.func50, Tryz.ntmps50
  go_wp2_with fail
  refine (HC.out _).mono ?_
  rintro e w5 ⟨⟨v, rfl, hv⟩, hb5⟩
  have HB5 := Lib.hid (((Below.refl _ w).alloc (Nat.le_refl _) _).trans (hb5.mono (by simp)))
  have HV := Lib.hid hv
  clear hb5 hv
  go_wp2_with fail
  refine (told_any v r HV.out _ (HE.out.below HB5.out)).mono ?_
  rintro e w6 ⟨rfl, hb6⟩
  have HB6 := Lib.hid (HB5.out.trans (hb6.mono HB5.out.size))
  clear hb6
  go_wp2_with fail
  go_ret2
  exact ⟨rfl, HB6.out⟩
end Go.Proofs.YtepelpmkmhhokaaGreatDoor

set_option maxRecDepth 100000
namespace Go.Proofs.YtepelpmkmhhokaaGreatDoor
open Go.RowKit Go.Shelf
open Scs Seqo
abbrev zeroV : Value := .agg #[.int .i64 0, .int .i64 0, .int .i64 0, .string ⟨#[]⟩, .slice none 0 0, .slice none 0 0, .int .i64 0]
theorem noPlace {i : Int} {n : Nat} (h : plB i n = true) : ∃ t : Nat, i = t ∧ t < n := by
  have := plB_iff.1 h
  exact ⟨i.toNat, by omega, by omega⟩
set_option maxHeartbeats 2000000 in
theorem viewAt_no (root : Int) (L : Array Fn) (p : Option Addr) (cap : Nat) (i : Int) (w : World) (hi : plB i L.size = false) :
    Calls Tryz.prog 75 #[.agg #[.int .i64 root, .slice p L.size cap], .int .i64 i] w fun e w' => (∃ why, e = .returned (.tuple #[zeroV, faultV 0 2 why])) ∧ Below w.heap.size w w' := by
  have hP : ∀ W, Calls Tryz.prog 81 #[.int .i64 i, .int .i64 (L.size : Int)] W fun e W' => e = .returned (.bool false) ∧ W' = W := fun W => by have h := isPlace_any i L.size W; rwa [hi] at h
  have HP := Lib.hid hP
  clear hP hi
  go_enter Tryz.func75, Tryz.ntmps75
  go_wp2_with (go_at_call 81; refine (HP.out _).mono ?_; rintro e w' ⟨rfl, rfl⟩)
  refine bodyPost_ret (v := .tuple #[zeroV, faultV 0 2 ⟨#[110, 111, 32, 110, 111, 100, 101, 39, 115, 32, 112, 108, 97, 99, 101]⟩]) ?_ rfl ⟨⟨_, rfl⟩, ((Below.refl _ w).alloc (Nat.le_refl _) _).alloc (by simp) _⟩
  have hr : ((w.alloc (.cells #[.int .i64 root, .slice p L.size cap] 24)).alloc (.cells #[.int .i64 0, .int .i64 0, .int .i64 0, .string ⟨#[]⟩, .slice none 0 0, .slice none 0 0, .int .i64 0] 151)).heap[w.heap.size + 1]? = some (.cells #[.int .i64 0, .int .i64 0, .int .i64 0, .string ⟨#[]⟩, .slice none 0 0, .slice none 0 0, .int .i64 0] 151 (0, 0)) := by
    have h := heap_alloc_new (w.alloc (.cells #[.int .i64 root, .slice p L.size cap] 24)) (.cells #[.int .i64 0, .int .i64 0, .int .i64 0, .string ⟨#[]⟩, .slice none 0 0, .slice none 0 0, .int .i64 0] 151)
    rwa [World.size_alloc] at h
  obtain ⟨q0, q1, q2, q3, q4, q5, q6⟩ := cell7 hr
  simp [results, Tryz.results75, go_sem, q0, q1, q2, q3, q4, q5, q6, faultV]
set_option maxHeartbeats 2000000 in
theorem viewAt_yes (root : Int) (L : Array Fn) (p : Option Addr) (cap t : Nat) (w : World) (hg : Gl w p L) (ht : t < L.size) :
    Calls Tryz.prog 75 #[.agg #[.int .i64 root, .slice p L.size cap], .int .i64 (t : Int)] w fun e w' => e = .returned (.tuple #[vV L[t]! L.size, .nilIface]) ∧ Below w.heap.size w w' := by
  have hi : plB (t : Int) L.size = true := plB_iff.2 ⟨by omega, by omega⟩
  have hP : ∀ W, Calls Tryz.prog 81 #[.int .i64 (t : Int), .int .i64 (L.size : Int)] W fun e W' => e = .returned (.bool true) ∧ W' = W := fun W => by have h := isPlace_any (t : Int) L.size W; rwa [hi] at h
  have HP := Lib.hid hP
  have hsm := hg.small
  have hti : (t : Int) < (L.size : Int) := by omega
  obtain ⟨blk, off, rfl, hbl, c0, c1, c2, c3, c4, c5⟩ := hg.at t ht
  obtain ⟨f, hf⟩ : ∃ f, L[t]! = f := ⟨_, rfl⟩
  obtain ⟨n, hn⟩ : ∃ f, L.size = f := ⟨_, rfl⟩
  rw [hf] at c0 c1 c2 c3 c4 c5 ⊢
  rw [hn] at HP hti hsm ⊢
  unfold vV
  clear hP hi hg ht hf hn
  go_enter Tryz.func75, Tryz.ntmps75
  go_wp2_with (go_at_call 81; refine (HP.out _).mono ?_; rintro e w' ⟨rfl, rfl⟩)
  go_region
  go_wp2_with fail
  refine bodyPost_ret (v := .tuple #[.agg #[.int .i64 f.k, .int .i64 f.x.1, .int .i64 f.x.2.1, .string f.x.2.2, .slice f.pk f.keys.size f.ck, .slice f.pd f.kids.size f.cd, .int .i64 n], .nilIface]) ?_ rfl ⟨rfl, (((Below.refl _ w).alloc (Nat.le_refl _) _).alloc (by simp) _).drew⟩
  have hr : (((w.alloc (.cells #[.int .i64 root, .slice (some ⟨blk, off, none⟩) n cap] 24)).alloc (.cells #[.int .i64 f.k, .int .i64 f.x.1, .int .i64 f.x.2.1, .string f.x.2.2, .slice f.pk f.keys.size f.ck, .slice f.pd f.kids.size f.cd, .int .i64 n] 151)).drew).heap[w.heap.size + 1]? = some (.cells #[.int .i64 f.k, .int .i64 f.x.1, .int .i64 f.x.2.1, .string f.x.2.2, .slice f.pk f.keys.size f.ck, .slice f.pd f.kids.size f.cd, .int .i64 n] 151 (0, 0)) := by
    have h := heap_alloc_new (w.alloc (.cells #[.int .i64 root, .slice (some ⟨blk, off, none⟩) n cap] 24)) (.cells #[.int .i64 f.k, .int .i64 f.x.1, .int .i64 f.x.2.1, .string f.x.2.2, .slice f.pk f.keys.size f.ck, .slice f.pd f.kids.size f.cd, .int .i64 n] 151)
    rwa [World.size_alloc] at h
  obtain ⟨q0, q1, q2, q3, q4, q5, q6⟩ := cell7 hr
  simp [results, Tryz.results75, go_sem, q0, q1, q2, q3, q4, q5, q6]
end Go.Proofs.YtepelpmkmhhokaaGreatDoor
