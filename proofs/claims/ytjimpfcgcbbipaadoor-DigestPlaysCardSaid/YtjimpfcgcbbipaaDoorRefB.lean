/- The reference's check of words, its first state and its bytes of a state tell what the arithmetic of words says, or an error where a number is no word. Conditions: those of each rule. -/
import Derived.Test.YtjimpfcgcbbipaaDoorMix
import Derived.Test.YtjimpfcgcbbipaaDoorRefA
import Derived.StillTailTactics
import Derived.Deep.RegionHeld
import Derived.Deep.RegionWith
import Derived.Deep.DrawnRows
import Derived.Deep.DeepCutAuto
import Derived.Deep.QuietTactic
import Derived.BigQuiet
import Derived.WalkKit
import Derived.WalkLawsBesides
import Derived.WalkSpells
import Derived.Outline
import Derived.Lib.Hide
namespace Go.Proofs.YtjimpfcgcbbipaaDoor
open Go.ChangeShapes Go.WideShapes Go.ChangeAt Go.RowKit
open Go.ChangeMaps (open_string shut_string)
open Rd
attribute [local go_sem ↓] Go.wp_at_zero Go.wp_at_succ
/-- eight numbers by their places -/
def pk (x0 x1 x2 x3 x4 x5 x6 x7 : Int) : Nat → Int
  | 0 => x0 | 1 => x1 | 2 => x2 | 3 => x3 | 4 => x4 | 5 => x5 | 6 => x6 | _ => x7
theorem pk_get (x0 x1 x2 x3 x4 x5 x6 x7 : Int) (k : Nat) (h : k < 8) : (#[.int .i64 x0, .int .i64 x1, .int .i64 x2, .int .i64 x3, .int .i64 x4, .int .i64 x5, .int .i64 x6, .int .i64 x7] : Array Value)[k]? = some (.int .i64 (pk x0 x1 x2 x3 x4 x5 x6 x7 k)) := by
  rcases k with _ | _ | _ | _ | _ | _ | _ | _ | k <;> first | rfl | omega
theorem pk_words (s : St) (k : Nat) : pk (U s.a) (U s.b) (U s.c) (U s.d) (U s.e) (U s.f) (U s.g) (U s.h) k = U (s.w k) := by
  rcases k with _ | _ | _ | _ | _ | _ | _ | k <;> rfl
theorem not_all (x0 x1 x2 x3 x4 x5 x6 x7 : Int) (hn : (U (BitVec.ofInt 32 x0) == x0 && (U (BitVec.ofInt 32 x1) == x1 && (U (BitVec.ofInt 32 x2) == x2 && (U (BitVec.ofInt 32 x3) == x3 && (U (BitVec.ofInt 32 x4) == x4 && (U (BitVec.ofInt 32 x5) == x5 && (U (BitVec.ofInt 32 x6) == x6 && (U (BitVec.ofInt 32 x7) == x7)))))))) = false) : ¬ ∀ j, j < 8 → 0 ≤ pk x0 x1 x2 x3 x4 x5 x6 x7 j ∧ pk x0 x1 x2 x3 x4 x5 x6 x7 j ≤ 4294967295 := by
  intro h
  have e : ∀ x : Int, 0 ≤ x ∧ x ≤ 4294967295 → (U (BitVec.ofInt 32 x) == x) = true := by
    intro x hx
    rw [beq_iff_eq, ← mod_ofInt]; omega
  have h0 := e x0 (h 0 (by omega)); have h1 := e x1 (h 1 (by omega)); have h2 := e x2 (h 2 (by omega)); have h3 := e x3 (h 3 (by omega))
  have h4 := e x4 (h 4 (by omega)); have h5 := e x5 (h 5 (by omega)); have h6 := e x6 (h 6 (by omega)); have h7 := e x7 (h 7 (by omega))
  rw [h0, h1, h2, h3, h4, h5, h6, h7] at hn
  exact absurd hn (by decide)
set_option maxRecDepth 100000 in
set_option maxHeartbeats 1000000 in
theorem words31 (x0 x1 x2 x3 x4 x5 x6 x7 : Int) (r : Bool) (hr : (r = true ∧ ∀ j, j < 8 → 0 ≤ pk x0 x1 x2 x3 x4 x5 x6 x7 j ∧ pk x0 x1 x2 x3 x4 x5 x6 x7 j ≤ 4294967295) ∨ (r = false ∧ ¬ ∀ j, j < 8 → 0 ≤ pk x0 x1 x2 x3 x4 x5 x6 x7 j ∧ pk x0 x1 x2 x3 x4 x5 x6 x7 j ≤ 4294967295)) (w : World) :
    Calls Tryd.prog 45 #[.agg #[.int .i64 x0, .int .i64 x1, .int .i64 x2, .int .i64 x3, .int .i64 x4, .int .i64 x5, .int .i64 x6, .int .i64 x7]] w fun e w' => e = .returned (.bool r) ∧ Below w.heap.size w w' := by
  have HR := Lib.hid hr
  clear hr
  go_enter Tryd.func45, Tryd.ntmps45
  go_wp2_with fail
  have HX := Lib.hid (heap_alloc_new w (.cells #[.int .i64 x0, .int .i64 x1, .int .i64 x2, .int .i64 x3, .int .i64 x4, .int .i64 x5, .int .i64 x6, .int .i64 x7] 45))
  go_loopw [3] (fun i wr => ∃ k : Nat, k ≤ 8 ∧ i = .int .i64 k ∧ (∀ j, j < k → 0 ≤ pk x0 x1 x2 x3 x4 x5 x6 x7 j ∧ pk x0 x1 x2 x3 x4 x5 x6 x7 j ≤ 4294967295) ∧ wr.heap[w.heap.size]? = some (.cells #[.int .i64 x0, .int .i64 x1, .int .i64 x2, .int .i64 x3, .int .i64 x4, .int .i64 x5, .int .i64 x6, .int .i64 x7] 45 (0, 0)) ∧ Below w.heap.size w wr) (fun i _ => 8 - (intOf i).toNat)
  case atStart => exact ⟨0, by omega, rfl, fun j hj => absurd hj (by omega), HX.out, (Below.refl _ _).alloc (Nat.le_refl _) _⟩
  case round =>
    obtain ⟨k, hk, rfl, hall, hxr, hbr⟩ := hrel
    have HXR := Lib.hid hxr
    have HBR := Lib.hid hbr
    have HA := Lib.hid hall
    by_cases hlt : k < 8
    · have hx : wr.cell? ⟨w.heap.size, k, none⟩ = some (.int .i64 (pk x0 x1 x2 x3 x4 x5 x6 x7 k)) := (cell_of_row wr w.heap.size k _ _ _ hxr).trans (pk_get x0 x1 x2 x3 x4 x5 x6 x7 k hlt)
      have i1 : (k : Int) < 8 := by omega
      clear hall hxr hbr
      by_cases hlo : pk x0 x1 x2 x3 x4 x5 x6 x7 k < 0
      · have hf : r = false := by
          rcases HR.out with ⟨_, h⟩ | ⟨h, _⟩
          · exact absurd (h k hlt).1 (by omega)
          · exact h
        clear HR
        subst hf
        go_wp2
        go_ret
        exact ⟨rfl, HBR.out⟩
      · by_cases hhi : 4294967295 < pk x0 x1 x2 x3 x4 x5 x6 x7 k
        · have hf : r = false := by
            rcases HR.out with ⟨_, h⟩ | ⟨h, _⟩
            · exact absurd (h k hlt).2 (by omega)
            · exact h
          clear HR
          subst hf
          go_wp2
          go_ret
          exact ⟨rfl, HBR.out⟩
        · go_wp2
          go_roundw
          case rel =>
            refine ⟨k + 1, by omega, by go_num, ?_, HXR.out, HBR.out⟩
            intro j hj
            by_cases h : j < k
            · exact HA.out j h
            · obtain rfl : j = k := by omega
              exact ⟨by omega, by omega⟩
          case measure => simp [intOf]; omega
    · obtain rfl : k = 8 := by omega
      have hf : r = true := by
        rcases HR.out with ⟨h, _⟩ | ⟨_, h⟩
        · exact h
        · exact absurd HA.out h
      clear HR hall hxr hbr
      subst hf
      go_wp2
      go_ret
      exact ⟨rfl, HBR.out⟩
theorem words_ok (s : St) (w : World) : Calls Tryd.prog 45 #[.agg #[.int .i64 (U s.a), .int .i64 (U s.b), .int .i64 (U s.c), .int .i64 (U s.d), .int .i64 (U s.e), .int .i64 (U s.f), .int .i64 (U s.g), .int .i64 (U s.h)]] w fun e w' => e = .returned (.bool true) ∧ Below w.heap.size w w' :=
  words31 (U s.a) (U s.b) (U s.c) (U s.d) (U s.e) (U s.f) (U s.g) (U s.h) true (Or.inl ⟨rfl, fun j _ => by rw [pk_words]; have h1 := U_nonneg (s.w j); have h2 := U_lt (s.w j); omega⟩) w
theorem words_bad (x0 x1 x2 x3 x4 x5 x6 x7 : Int) (hn : (U (BitVec.ofInt 32 x0) == x0 && (U (BitVec.ofInt 32 x1) == x1 && (U (BitVec.ofInt 32 x2) == x2 && (U (BitVec.ofInt 32 x3) == x3 && (U (BitVec.ofInt 32 x4) == x4 && (U (BitVec.ofInt 32 x5) == x5 && (U (BitVec.ofInt 32 x6) == x6 && (U (BitVec.ofInt 32 x7) == x7)))))))) = false) (w : World) : Calls Tryd.prog 45 #[.agg #[.int .i64 x0, .int .i64 x1, .int .i64 x2, .int .i64 x3, .int .i64 x4, .int .i64 x5, .int .i64 x6, .int .i64 x7]] w fun e w' => e = .returned (.bool false) ∧ Below w.heap.size w w' :=
  words31 x0 x1 x2 x3 x4 x5 x6 x7 false (Or.inr ⟨rfl, not_all x0 x1 x2 x3 x4 x5 x6 x7 hn⟩) w
theorem First20 (w : World) :
    Calls Tryd.prog 32 #[] w fun e w' => e = .returned (.agg #[.int .i64 (U F0.a), .int .i64 (U F0.b), .int .i64 (U F0.c), .int .i64 (U F0.d), .int .i64 (U F0.e), .int .i64 (U F0.f), .int .i64 (U F0.g), .int .i64 (U F0.h)]) ∧ Below w.heap.size w w' := by
  go_enter Tryd.func32, Tryd.ntmps32
  go_wp2
  exact bodyPost_ret (v := .agg #[.int .i64 (U F0.a), .int .i64 (U F0.b), .int .i64 (U F0.c), .int .i64 (U F0.d), .int .i64 (U F0.e), .int .i64 (U F0.f), .int .i64 (U F0.g), .int .i64 (U F0.h)]) (by simp [results, Tryd.results32, go_sem, F0, U]) rfl ⟨rfl, (Below.refl _ _).alloc (Nat.le_refl _) _⟩
end Go.Proofs.YtjimpfcgcbbipaaDoor
