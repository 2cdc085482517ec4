/- The node at a place is looked up. Conditions: the graph lies. -/
import Derived.Test.YtfpcjdopfodfnaaGreatDoorAtl
set_option maxRecDepth 100000
namespace Go.Proofs.YtfpcjdopfodfnaaGreatDoor
open Go.RowKit Go.Shelf
open Scs Seqo
abbrev zeroV : Value := .agg #[.int .i64 0, .int .i64 0, .int .i64 0, .string ⟨#[]⟩, .slice none 0 0, .slice none 0 0, .int .i64 0]
theorem noPlace {i : Int} {n : Nat} (h : plB i n = true) : ∃ t : Nat, i = t ∧ t < n := by
  have := plB_iff.1 h
  exact ⟨i.toNat, by omega, by omega⟩
set_option maxHeartbeats 2000000 in
theorem viewAt_no (root : Int) (L : Array Fn) (p : Option Addr) (cap : Nat) (i : Int) (w : World) (hi : plB i L.size = false) :
    Calls Tryz.prog 29 #[.agg #[.int .i64 root, .slice p L.size cap], .int .i64 i] w fun e w' => (∃ why, e = .returned (.tuple #[zeroV, faultV 0 2 why])) ∧ Below w.heap.size w w' := by
  have hP : ∀ W, Calls Tryz.prog 40 #[.int .i64 i, .int .i64 (L.size : Int)] W fun e W' => e = .returned (.bool false) ∧ W' = W := fun W => by have h := isPlace_any i L.size W; rwa [hi] at h
  have HP := Lib.hid hP
  clear hP hi
  go_enter Tryz.func29, Tryz.ntmps29
  go_wp2_with (go_at_call 40; refine (HP.out _).mono ?_; rintro e w' ⟨rfl, rfl⟩)
  refine bodyPost_ret (v := .tuple #[zeroV, faultV 0 2 ⟨#[110, 111, 32, 110, 111, 100, 101, 39, 115, 32, 112, 108, 97, 99, 101]⟩]) ?_ rfl ⟨⟨_, rfl⟩, ((Below.refl _ w).alloc (Nat.le_refl _) _).alloc (by simp) _⟩
  have hr : ((w.alloc (.cells #[.int .i64 root, .slice p L.size cap] 24)).alloc (.cells #[.int .i64 0, .int .i64 0, .int .i64 0, .string ⟨#[]⟩, .slice none 0 0, .slice none 0 0, .int .i64 0] 58)).heap[w.heap.size + 1]? = some (.cells #[.int .i64 0, .int .i64 0, .int .i64 0, .string ⟨#[]⟩, .slice none 0 0, .slice none 0 0, .int .i64 0] 58 (0, 0)) := by
    have h := heap_alloc_new (w.alloc (.cells #[.int .i64 root, .slice p L.size cap] 24)) (.cells #[.int .i64 0, .int .i64 0, .int .i64 0, .string ⟨#[]⟩, .slice none 0 0, .slice none 0 0, .int .i64 0] 58)
    rwa [World.size_alloc] at h
  obtain ⟨q0, q1, q2, q3, q4, q5, q6⟩ := cell7 hr
  simp [results, Tryz.results29, go_sem, q0, q1, q2, q3, q4, q5, q6, faultV]
set_option maxHeartbeats 2000000 in
theorem viewAt_yes (root : Int) (L : Array Fn) (p : Option Addr) (cap t : Nat) (w : World) (hg : Gl w p L) (ht : t < L.size) :
    Calls Tryz.prog 29 #[.agg #[.int .i64 root, .slice p L.size cap], .int .i64 (t : Int)] w fun e w' => e = .returned (.tuple #[vV L[t]! L.size, .nilIface]) ∧ Below w.heap.size w w' := by
  have hi : plB (t : Int) L.size = true := plB_iff.2 ⟨by omega, by omega⟩
  have hP : ∀ W, Calls Tryz.prog 40 #[.int .i64 (t : Int), .int .i64 (L.size : Int)] W fun e W' => e = .returned (.bool true) ∧ W' = W := fun W => by have h := isPlace_any (t : Int) L.size W; rwa [hi] at h
  have HP := Lib.hid hP
  have hsm := hg.small
  have hti : (t : Int) < (L.size : Int) := by omega
  obtain ⟨blk, off, rfl, hbl, c0, c1, c2, c3, c4, c5⟩ := hg.at t ht
  obtain ⟨f, hf⟩ : ∃ f, L[t]! = f := ⟨_, rfl⟩
  obtain ⟨n, hn⟩ : ∃ f, L.size = f := ⟨_, rfl⟩
  rw [hf] at c0 c1 c2 c3 c4 c5 ⊢
  rw [hn] at HP hti hsm ⊢
  unfold vV
  clear hP hi hg ht hf hn
  go_enter Tryz.func29, Tryz.ntmps29
  go_wp2_with (go_at_call 40; refine (HP.out _).mono ?_; rintro e w' ⟨rfl, rfl⟩)
  go_region
  go_wp2_with fail
  refine bodyPost_ret (v := .tuple #[.agg #[.int .i64 f.k, .int .i64 f.x.1, .int .i64 f.x.2.1, .string f.x.2.2, .slice f.pk f.keys.size f.ck, .slice f.pd f.kids.size f.cd, .int .i64 n], .nilIface]) ?_ rfl ⟨rfl, (((Below.refl _ w).alloc (Nat.le_refl _) _).alloc (by simp) _).drew⟩
  have hr : (((w.alloc (.cells #[.int .i64 root, .slice (some ⟨blk, off, none⟩) n cap] 24)).alloc (.cells #[.int .i64 f.k, .int .i64 f.x.1, .int .i64 f.x.2.1, .string f.x.2.2, .slice f.pk f.keys.size f.ck, .slice f.pd f.kids.size f.cd, .int .i64 n] 58)).drew).heap[w.heap.size + 1]? = some (.cells #[.int .i64 f.k, .int .i64 f.x.1, .int .i64 f.x.2.1, .string f.x.2.2, .slice f.pk f.keys.size f.ck, .slice f.pd f.kids.size f.cd, .int .i64 n] 58 (0, 0)) := by
    have h := heap_alloc_new (w.alloc (.cells #[.int .i64 root, .slice (some ⟨blk, off, none⟩) n cap] 24)) (.cells #[.int .i64 f.k, .int .i64 f.x.1, .int .i64 f.x.2.1, .string f.x.2.2, .slice f.pk f.keys.size f.ck, .slice f.pd f.kids.size f.cd, .int .i64 n] 58)
    rwa [World.size_alloc] at h
  obtain ⟨q0, q1, q2, q3, q4, q5, q6⟩ := cell7 hr
  simp [results, Tryz.results29, go_sem, q0, q1, q2, q3, q4, q5, q6]
end Go.Proofs.YtfpcjdopfodfnaaGreatDoor
