/- One round over words makes of a state what the arithmetic of words says. Conditions: the place is below sixty-four and the table lies as the initialisation lays it. -/
import Derived.Test.YtjimpfcgcbbipaaDoorRows
import Derived.Test.YtjimpfcgcbbipaaDoorLeaf
import Derived.WalkKit
import Derived.WalkLawsBesides
import Derived.WalkSpells
import Derived.Outline
import Derived.Deep.QuietTactic
import Derived.BigQuiet
import Derived.Deep.RegionHeld3
import Derived.Deep.RegionWith
import Derived.Deep.DrawnRows
import Derived.RegionTactic
import Derived.ChangeAlike
namespace Go.Proofs.YtjimpfcgcbbipaaDoor
open Go.RowKit
open Rd
attribute [local go_sem] mod_add wrap_add bits_and bits_or bits_xor bits_not bits_not' bits_xor0 wrap64_U

theorem keepA {w : World} {o : Obj} {a : Addr} {v : Value} (h : w.cell? a = some v) : (w.alloc o).cell? a = some v := (World.cell?_alloc_some w a o (by rw [h]; rfl)).trans h
theorem keepD {w : World} {n : Nat} {a : Addr} {v : Value} (h : w.cell? a = some v) : (w.drewN n).cell? a = some v := h
theorem keepD1 {w : World} {a : Addr} {v : Value} (h : w.cell? a = some v) : (w.drew).cell? a = some v := h
attribute [local go_sem ↓] Go.wp_at_zero Go.wp_at_succ
set_option maxHeartbeats 1000000 in
/-- '(state).round' -/
theorem round_any (a b c d e f g hh x : BitVec 32) (i : Nat) (hi : i < 64) (w : World) (hk : w.cell? ⟨6, i, none⟩ = some (.int .u32 (U (K i)))) :
    Calls Tryd.prog 52 #[.agg #[.int .u32 (U a), .int .u32 (U b), .int .u32 (U c), .int .u32 (U d), .int .u32 (U e), .int .u32 (U f), .int .u32 (U g), .int .u32 (U hh)], .int .i64 i, .int .u32 (U x)] w fun en w' => en = .returned (.agg #[.int .u32 (U (T1 e f g hh (K i) x + T2 a b c)), .int .u32 (U a), .int .u32 (U b), .int .u32 (U c), .int .u32 (U (d + T1 e f g hh (K i) x)), .int .u32 (U e), .int .u32 (U f), .int .u32 (U g)]) ∧ Below w.heap.size w w' := by
  have i0 : (0 : Int) ≤ (i : Int) := by omega
  have i1 : (i : Int) < 64 := by omega
  go_enter Tryd.func52, Tryd.ntmps52
  go_wp2
  go_quiet (fail)
  go_wp2
  go_region_held3 (fun w' => w'.cell? ⟨6, i, none⟩ = some (.int .u32 (U (K i)))) (repeat (first | assumption | apply keepA | apply keepD | apply keepD1))
    (first | (go_at_call 64; refine (turned3 _ 6 11 25 (by decide) (by decide) (by decide) (by decide) (by decide) (by decide) _ _ ?_ ?_ ?_).mono ?_; (go_simp); (go_simp); (go_simp); rintro e w' ⟨rfl, rfl⟩))
  go_wp2_with fail
  refine (turned3 _ 2 13 22 (by decide) (by decide) (by decide) (by decide) (by decide) (by decide) _ _ ?_ ?_ ?_).mono ?_
  · go_simp
  · go_simp
  · go_simp
  rintro en w' ⟨rfl, rfl⟩
  go_wp2
  refine bodyPost_ret (v := .agg #[.int .u32 (U (T1 e f g hh (K i) x + T2 a b c)), .int .u32 (U a), .int .u32 (U b), .int .u32 (U c), .int .u32 (U (d + T1 e f g hh (K i) x)), .int .u32 (U e), .int .u32 (U f), .int .u32 (U g)]) (by simp [results, Tryd.results52, go_sem, T1, T2]) rfl ⟨rfl, ?_⟩
  repeat (first | (with_reducible exact Below.refl _ _) | (with_reducible refine Below.alloc ?_ (by simp; try omega) _) | (with_reducible refine Below.setCell ?_ (by simp; try omega) _) | (with_reducible refine below_drewN ?_ _) | (with_reducible refine Below.drew ?_))
end Go.Proofs.YtjimpfcgcbbipaaDoor
