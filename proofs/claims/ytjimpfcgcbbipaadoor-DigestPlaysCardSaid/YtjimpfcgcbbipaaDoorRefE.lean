/- The reference's round makes of a state what the arithmetic of words says, or there is an error. Conditions: those of each rule. -/
import Derived.Test.YtjimpfcgcbbipaaDoorMix
import Derived.Test.YtjimpfcgcbbipaaDoorRefA
import Derived.Test.YtjimpfcgcbbipaaDoorRefB
import Derived.Test.YtjimpfcgcbbipaaDoorRefC
import Derived.Deep.RegionHeld3
import Derived.StillTailTactics
import Derived.Deep.RegionHeld
import Derived.Deep.RegionWith
import Derived.Deep.DrawnRows
import Derived.Deep.DeepCutAuto
import Derived.Deep.QuietTactic
import Derived.BigQuiet
import Derived.WalkKit
import Derived.WalkLawsBesides
import Derived.WalkSpells
import Derived.Outline
import Derived.Lib.Hide
namespace Go.Proofs.YtjimpfcgcbbipaaDoor
open Go.ChangeShapes Go.WideShapes Go.ChangeAt Go.RowKit
open Go.ChangeMaps (open_string shut_string)
open Rd
attribute [local go_sem ↓] Go.wp_at_zero Go.wp_at_succ
theorem sum2 (a b : BitVec 32) : (wrap64 (U a + U b)).tmod 4294967296 = U (a + b) := add_wrap a b
theorem sum5 (a b c d e : BitVec 32) : (wrap64 (wrap64 (wrap64 (wrap64 (U a + U b) + U c) + U d) + U e)).tmod 4294967296 = U (a + b + c + d + e) := by
  have h1 := U_nonneg a; have h2 := U_lt a; have h3 := U_nonneg b; have h4 := U_lt b; have h5 := U_nonneg c; have h6 := U_lt c
  have h7 := U_nonneg d; have h8 := U_lt d; have h9 := U_nonneg e; have h10 := U_lt e
  rw [show wrap64 (wrap64 (wrap64 (wrap64 (U a + U b) + U c) + U d) + U e) = U a + U b + U c + U d + U e by unfold wrap64; omega]
  rw [Int.tmod_eq_emod_of_nonneg (by omega)]
  have e1 := mod_add a b; have e2 := mod_add (a + b) c; have e3 := mod_add (a + b + c) d; have e4 := mod_add (a + b + c + d) e
  omega
attribute [local go_sem] xor64 and64 not64 sum2 sum5
set_option maxRecDepth 100000 in
set_option maxHeartbeats 1000000 in
theorem Round14_ok (s : St) (i : Nat) (hi : i < 64) (x : BitVec 32) (w : World) (h0 : 5 < w.heap.size) (hk : w.cell? ⟨5, i, none⟩ = some (.int .i64 (U (K i)))) :
    Calls Tryd.prog 47 #[.agg #[.int .i64 (U s.a), .int .i64 (U s.b), .int .i64 (U s.c), .int .i64 (U s.d), .int .i64 (U s.e), .int .i64 (U s.f), .int .i64 (U s.g), .int .i64 (U s.h)], .int .i64 i, .int .i64 (U x)] w fun e w' => e = .returned (.tuple #[.agg #[.int .i64 (U (s.step i x).a), .int .i64 (U (s.step i x).b), .int .i64 (U (s.step i x).c), .int .i64 (U (s.step i x).d), .int .i64 (U (s.step i x).e), .int .i64 (U (s.step i x).f), .int .i64 (U (s.step i x).g), .int .i64 (U (s.step i x).h)], .int .i64 0]) ∧ Below w.heap.size w w' := by
  have HK := Lib.hid hk
  clear hk
  have hx1 := U_nonneg x
  have hx2 : ¬ 4294967295 < U x := by have := U_lt x; omega
  have hx3 : ¬ U x < 0 := by omega
  have hi1 : ¬ (i : Int) < 0 := by omega
  have hi2 : ¬ 63 < (i : Int) := by omega
  have hi3 : (i : Int) < 64 := by omega
  go_enter Tryd.func47, Tryd.ntmps47
  go_wp2_with fail
  refine (words_ok s _).mono ?_
  rintro e w1 ⟨rfl, hb1⟩
  have hz1 := hb1.size
  simp only [World.size_alloc] at hz1
  have hbx := (hb1.block w.heap.size (by simp; omega)).trans ((Below.heap_alloc _ _ _ (by simp)).trans (heap_alloc_new w _))
  have HX := Lib.hid hbx
  have hry := (hb1.block (w.heap.size + 1) (by simp)).trans (by have h := heap_alloc_new (w.alloc (.cells #[.int .i64 (U s.a), .int .i64 (U s.b), .int .i64 (U s.c), .int .i64 (U s.d), .int .i64 (U s.e), .int .i64 (U s.f), .int .i64 (U s.g), .int .i64 (U s.h)] 45)) (.cells #[.int .i64 0, .int .i64 0, .int .i64 0, .int .i64 0, .int .i64 0, .int .i64 0, .int .i64 0, .int .i64 0] 45); simp only [World.size_alloc] at h; exact h)
  have HB1 := Lib.hid ((((Below.refl _ w).alloc (Nat.le_refl _) _).alloc (by simp) _).trans (hb1.mono (by simp; omega)))
  have HRY := Lib.hid hry
  obtain ⟨⟨c0, c1, c2, c3, c4, c5, c6, c7⟩, _⟩ := eight hbx
  clear hry
  have hk1 := (HB1.out.cell (p := ⟨5, i, none⟩) h0).trans HK.out
  clear hb1 hbx
  go_wp2_with (first
    | (go_at_call 59; refine (xor_any _ _ _ _).mono ?_; rintro en w' ⟨rfl, rfl⟩))
  go_quiet (first
    | (go_at_call 59; exact Calls.quiet_of_same ((xor_any _ _ _ _).mono fun _ _ h => ⟨h.1, h.2.symm⟩))
    | (go_at_call_of 60 (Value.int .i64 6); exact Calls.quiet_of (turn_6 _ _))
    | (go_at_call_of 60 (Value.int .i64 11); exact Calls.quiet_of (turn_11 _ _))
    | (go_at_call_of 60 (Value.int .i64 25); exact Calls.quiet_of (turn_25 _ _)))
  have c0' : (w1.drewN nq).cell? ⟨w.heap.size, 0, none⟩ = _ := c0
  have c1' : (w1.drewN nq).cell? ⟨w.heap.size, 1, none⟩ = _ := c1
  have c2' : (w1.drewN nq).cell? ⟨w.heap.size, 2, none⟩ = _ := c2
  have c3' : (w1.drewN nq).cell? ⟨w.heap.size, 3, none⟩ = _ := c3
  have c5' : (w1.drewN nq).cell? ⟨w.heap.size, 5, none⟩ = _ := c5
  have c6' : (w1.drewN nq).cell? ⟨w.heap.size, 6, none⟩ = _ := c6
  have hry' : (w1.drewN nq).heap[w.heap.size + 1]? = _ := HRY.out
  obtain ⟨⟨d0, d1, d2, d3, d4, d5, d6, d7⟩, ⟨f0, f1, f2, f3, f4, f5, f6, f7⟩⟩ := eight hry'
  have HR2 := Lib.hid hry'
  have HB2 := Lib.hid (below_drewN HB1.out nq)
  clear c0 c1 c2 c3 c4 c5 c6 c7 hry'
  generalize w1.drewN nq = w2 at *
  go_wp2_with (first
    | (go_at_call 59; refine (xor_any _ _ _ _).mono ?_; rintro en w' ⟨rfl, rfl⟩)
    | (go_at_call_of 60 (Value.int .i64 2); refine (turn_2 _ _).mono ?_; rintro en w' ⟨rfl, n2, rfl⟩)
    | (go_at_call_of 60 (Value.int .i64 13); refine (turn_13 _ _).mono ?_; rintro en w' ⟨rfl, n13, rfl⟩)
    | (go_at_call_of 60 (Value.int .i64 22); refine (turn_22 _ _).mono ?_; rintro en w' ⟨rfl, n22, rfl⟩))
  refine bodyPost_ret (v := .tuple #[.agg #[.int .i64 (U (s.step i x).a), .int .i64 (U (s.step i x).b), .int .i64 (U (s.step i x).c), .int .i64 (U (s.step i x).d), .int .i64 (U (s.step i x).e), .int .i64 (U (s.step i x).f), .int .i64 (U (s.step i x).g), .int .i64 (U (s.step i x).h)], .int .i64 0]) ?_ rfl ⟨rfl, below8 (below_drewN HB2.out (n2 + n13 + n22)) (w.heap.size + 1) (by omega) _ _ _ _ _ _ _ _⟩
  · simp [results, Tryd.results47, go_sem, T1, T2, St.step, d0, d1, d2, d3, d4, d5, d6, d7]
end Go.Proofs.YtjimpfcgcbbipaaDoor
