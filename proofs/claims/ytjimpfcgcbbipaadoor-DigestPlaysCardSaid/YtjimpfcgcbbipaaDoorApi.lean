/- The package's round and its bytes answer as the arithmetic of words says, and with their errors where an argument is outside. Conditions: the variables lie as the initialisation lays them. -/
import Derived.Test.YtjimpfcgcbbipaaDoorRows
import Derived.Test.YtjimpfcgcbbipaaDoorByt
import Derived.WalkKit
import Derived.WalkLawsBesides
import Derived.WalkSpells
import Derived.Outline
import Derived.Lib.Hide
import Derived.Deep.QuietTactic
import Derived.BigQuiet
import Derived.Deep.RegionHeld3
import Derived.Deep.RegionWith
import Derived.Deep.DrawnRows
import Derived.RegionTactic
import Derived.ChangeAlike
namespace Go.Proofs.YtjimpfcgcbbipaaDoor
open Go.RowKit
open Rd
attribute [local go_sem] mod_U wrap64_U

/-- what the packages' functions read of their variables -/
structure Env (B : Nat) (w : World) : Prop where
  b6 : 6 < B
  bw : B ≤ w.heap.size
  con : ∀ i, i < 64 → w.cell? ⟨6, i, none⟩ = some (.int .u32 (U (K i)))
  el : ∃ a, w.cell? ⟨0, 0, none⟩ = some (.iface 143 (.pointer (some a)))
  et : w.cell? ⟨4, 0, none⟩ = some (.iface 127 (.agg #[.pointer (some ⟨7, 54, none⟩)]))
theorem Env.below {B : Nat} {w w' : World} (h : Env B w) (hb : Below B w w') : Env B w' :=
  ⟨h.b6, Nat.le_trans h.bw hb.size, fun i hi => (hb.cell (p := ⟨6, i, none⟩) (by have := h.b6; simp; omega)).trans (h.con i hi),
    by obtain ⟨a, ha⟩ := h.el; exact ⟨a, (hb.cell (p := ⟨0, 0, none⟩) (by have := h.b6; simp; omega)).trans ha⟩,
    (hb.cell (p := ⟨4, 0, none⟩) (by have := h.b6; simp; omega)).trans h.et⟩
theorem Env.below' {B : Nat} {w w' : World} (h : Env B w) (hb : Below w.heap.size w w') : Env B w' := h.below (hb.mono h.bw)
theorem narrow_st (s : St) (w : World) :
    Calls Tryd.prog 37 #[.agg #[.int .i64 (U s.a), .int .i64 (U s.b), .int .i64 (U s.c), .int .i64 (U s.d), .int .i64 (U s.e), .int .i64 (U s.f), .int .i64 (U s.g), .int .i64 (U s.h)]] w fun en w' => en = .returned (.tuple #[.agg #[.int .u32 (U s.a), .int .u32 (U s.b), .int .u32 (U s.c), .int .u32 (U s.d), .int .u32 (U s.e), .int .u32 (U s.f), .int .u32 (U s.g), .int .u32 (U s.h)], .nilIface]) ∧ Below w.heap.size w w' :=
  narrow_ok _ _ _ _ _ _ _ _ w
theorem wide_st (s : St) (w : World) :
    Calls Tryd.prog 42 #[.agg #[.int .u32 (U s.a), .int .u32 (U s.b), .int .u32 (U s.c), .int .u32 (U s.d), .int .u32 (U s.e), .int .u32 (U s.f), .int .u32 (U s.g), .int .u32 (U s.h)]] w fun en w' => en = .returned (.agg #[.int .i64 (U s.a), .int .i64 (U s.b), .int .i64 (U s.c), .int .i64 (U s.d), .int .i64 (U s.e), .int .i64 (U s.f), .int .i64 (U s.g), .int .i64 (U s.h)]) ∧ Below w.heap.size w w' :=
  (wide_any _ _ _ _ _ _ _ _ w).mono fun _ _ ⟨he, hw⟩ => ⟨he, by rw [hw]; exact (((Below.refl _ _).alloc (Nat.le_refl _) _).alloc (by simp) _).alloc (by simp; omega) _⟩
theorem eight {w : World} {b : Nat} {v0 v1 v2 v3 v4 v5 v6 v7 : Value} {t : TypeId} (h : w.heap[b]? = some (.cells #[v0, v1, v2, v3, v4, v5, v6, v7] t (0, 0))) :
    (w.cell? ⟨b, 0, none⟩ = some v0 ∧ w.cell? ⟨b, 1, none⟩ = some v1 ∧ w.cell? ⟨b, 2, none⟩ = some v2 ∧ w.cell? ⟨b, 3, none⟩ = some v3 ∧ w.cell? ⟨b, 4, none⟩ = some v4 ∧ w.cell? ⟨b, 5, none⟩ = some v5 ∧ w.cell? ⟨b, 6, none⟩ = some v6 ∧ w.cell? ⟨b, 7, none⟩ = some v7) ∧ (w.frozen? ⟨b, 0, none⟩ = false ∧ w.frozen? ⟨b, 1, none⟩ = false ∧ w.frozen? ⟨b, 2, none⟩ = false ∧ w.frozen? ⟨b, 3, none⟩ = false ∧ w.frozen? ⟨b, 4, none⟩ = false ∧ w.frozen? ⟨b, 5, none⟩ = false ∧ w.frozen? ⟨b, 6, none⟩ = false ∧ w.frozen? ⟨b, 7, none⟩ = false) :=
  ⟨⟨cell_of_row w b 0 _ _ _ h, cell_of_row w b 1 _ _ _ h, cell_of_row w b 2 _ _ _ h, cell_of_row w b 3 _ _ _ h, cell_of_row w b 4 _ _ _ h, cell_of_row w b 5 _ _ _ h, cell_of_row w b 6 _ _ _ h, cell_of_row w b 7 _ _ _ h⟩, ⟨frozen_of_row w b 0 _ _ h, frozen_of_row w b 1 _ _ h, frozen_of_row w b 2 _ _ h, frozen_of_row w b 3 _ _ h, frozen_of_row w b 4 _ _ h, frozen_of_row w b 5 _ _ h, frozen_of_row w b 6 _ _ h, frozen_of_row w b 7 _ _ h⟩⟩
theorem below8 {B : Nat} {w w' : World} (h : Below B w w') (b : Nat) (hb : B ≤ b) (v0 v1 v2 v3 v4 v5 v6 v7 : Value) : Below B w ((((((((w'.setCell ⟨b, 0, none⟩ v0).setCell ⟨b, 1, none⟩ v1).setCell ⟨b, 2, none⟩ v2).setCell ⟨b, 3, none⟩ v3).setCell ⟨b, 4, none⟩ v4).setCell ⟨b, 5, none⟩ v5).setCell ⟨b, 6, none⟩ v6).setCell ⟨b, 7, none⟩ v7) :=
  (((((((h.setCell hb _).setCell hb _).setCell hb _).setCell hb _).setCell hb _).setCell hb _).setCell hb _).setCell hb _
/-- 'Bytes', of words -/
theorem Bytes_ok (s : St) (w : World) :
    Calls Tryd.prog 27 #[.agg #[.int .i64 (U s.a), .int .i64 (U s.b), .int .i64 (U s.c), .int .i64 (U s.d), .int .i64 (U s.e), .int .i64 (U s.f), .int .i64 (U s.g), .int .i64 (U s.h)]] w fun e w' => e = .returned (.tuple #[.string ⟨(St.by s 8).toArray⟩, .int .i64 0]) ∧ Below w.heap.size w w' := by
  go_enter Tryd.func27, Tryd.ntmps27
  go_wp2_with fail
  refine (narrow_st s _).mono ?_
  rintro en w1 ⟨rfl, hb1⟩
  have hz1 := hb1.size
  have hB1 : Below w.heap.size w w1 := ((Below.refl _ w).alloc (Nat.le_refl _) _).trans (hb1.mono (by simp))
  simp only [World.size_alloc] at hz1
  have HB1 := Lib.hid hB1
  clear hB1 hb1
  go_wp2_with fail
  refine (bytes_any s _).mono ?_
  rintro en w2 ⟨rfl, hb2⟩
  have HB2 := Lib.hid hb2
  clear hb2
  go_wp2
  go_ret2
  exact ⟨rfl, (HB1.out.alloc (by omega) _).trans (HB2.out.mono (by simp; omega))⟩
end Go.Proofs.YtjimpfcgcbbipaaDoor
