/- The package's round and its bytes answer as the arithmetic of words says, and with their errors where an argument is outside. Conditions: the variables lie as the initialisation lays them. -/
import Derived.Test.YtohekmioeifpfaaDoorRows
import Derived.Test.YtohekmioeifpfaaDoorByt
import Derived.WalkKit
import Derived.WalkLawsBesides
import Derived.WalkSpells
import Derived.Outline
import Derived.Lib.Hide
import Derived.Deep.QuietTactic
import Derived.BigQuiet
import Derived.Deep.RegionHeld3
import Derived.Deep.RegionWith
import Derived.Deep.DrawnRows
import Derived.RegionTactic
import Derived.ChangeAlike
namespace Go.Proofs.YtohekmioeifpfaaDoor
open Go.RowKit
open Rd
attribute [local go_sem] mod_U wrap64_U

/-- what the package's functions read of its variables -/
structure Env (a0 a1 : Addr) (B : Nat) (w : World) : Prop where
  laid : Laid a0 a1 B w
  con : ∀ i, i < 64 → w.cell? ⟨3, i, none⟩ = some (.int .u32 (U (K i)))
theorem Env.below {a0 a1 : Addr} {B : Nat} {w w' : World} (h : Env a0 a1 B w) (hb : Below B w w') : Env a0 a1 B w' :=
  ⟨h.laid.below hb, fun i hi => (hb.cell (p := ⟨3, i, none⟩) (by have := h.laid.b3; simp; omega)).trans (h.con i hi)⟩
theorem Env.below' {a0 a1 : Addr} {B : Nat} {w w' : World} (h : Env a0 a1 B w) (hb : Below w.heap.size w w') : Env a0 a1 B w' := h.below (hb.mono h.laid.bw)
theorem Env.bw {a0 a1 : Addr} {B : Nat} {w : World} (h : Env a0 a1 B w) : B ≤ w.heap.size := h.laid.bw
theorem Env.b3 {a0 a1 : Addr} {B : Nat} {w : World} (h : Env a0 a1 B w) : 3 < B := h.laid.b3
theorem narrow_st (s : St) (w : World) :
    Calls Tryd.prog 27 #[.agg #[.int .i64 (U s.a), .int .i64 (U s.b), .int .i64 (U s.c), .int .i64 (U s.d), .int .i64 (U s.e), .int .i64 (U s.f), .int .i64 (U s.g), .int .i64 (U s.h)]] w fun en w' => en = .returned (.tuple #[.agg #[.int .u32 (U s.a), .int .u32 (U s.b), .int .u32 (U s.c), .int .u32 (U s.d), .int .u32 (U s.e), .int .u32 (U s.f), .int .u32 (U s.g), .int .u32 (U s.h)], .nilIface]) ∧ Below w.heap.size w w' :=
  narrow_ok _ _ _ _ _ _ _ _ w
theorem wide_st (s : St) (w : World) :
    Calls Tryd.prog 30 #[.agg #[.int .u32 (U s.a), .int .u32 (U s.b), .int .u32 (U s.c), .int .u32 (U s.d), .int .u32 (U s.e), .int .u32 (U s.f), .int .u32 (U s.g), .int .u32 (U s.h)]] w fun en w' => en = .returned (.agg #[.int .i64 (U s.a), .int .i64 (U s.b), .int .i64 (U s.c), .int .i64 (U s.d), .int .i64 (U s.e), .int .i64 (U s.f), .int .i64 (U s.g), .int .i64 (U s.h)]) ∧ Below w.heap.size w w' :=
  (wide_any _ _ _ _ _ _ _ _ w).mono fun _ _ ⟨he, hw⟩ => ⟨he, by rw [hw]; exact (((Below.refl _ _).alloc (Nat.le_refl _) _).alloc (by simp) _).alloc (by simp; omega) _⟩
theorem eight {w : World} {b : Nat} {v0 v1 v2 v3 v4 v5 v6 v7 : Value} {t : TypeId} (h : w.heap[b]? = some (.cells #[v0, v1, v2, v3, v4, v5, v6, v7] t (0, 0))) :
    (w.cell? ⟨b, 0, none⟩ = some v0 ∧ w.cell? ⟨b, 1, none⟩ = some v1 ∧ w.cell? ⟨b, 2, none⟩ = some v2 ∧ w.cell? ⟨b, 3, none⟩ = some v3 ∧ w.cell? ⟨b, 4, none⟩ = some v4 ∧ w.cell? ⟨b, 5, none⟩ = some v5 ∧ w.cell? ⟨b, 6, none⟩ = some v6 ∧ w.cell? ⟨b, 7, none⟩ = some v7) ∧ (w.frozen? ⟨b, 0, none⟩ = false ∧ w.frozen? ⟨b, 1, none⟩ = false ∧ w.frozen? ⟨b, 2, none⟩ = false ∧ w.frozen? ⟨b, 3, none⟩ = false ∧ w.frozen? ⟨b, 4, none⟩ = false ∧ w.frozen? ⟨b, 5, none⟩ = false ∧ w.frozen? ⟨b, 6, none⟩ = false ∧ w.frozen? ⟨b, 7, none⟩ = false) :=
  ⟨⟨cell_of_row w b 0 _ _ _ h, cell_of_row w b 1 _ _ _ h, cell_of_row w b 2 _ _ _ h, cell_of_row w b 3 _ _ _ h, cell_of_row w b 4 _ _ _ h, cell_of_row w b 5 _ _ _ h, cell_of_row w b 6 _ _ _ h, cell_of_row w b 7 _ _ _ h⟩, ⟨frozen_of_row w b 0 _ _ h, frozen_of_row w b 1 _ _ h, frozen_of_row w b 2 _ _ h, frozen_of_row w b 3 _ _ h, frozen_of_row w b 4 _ _ h, frozen_of_row w b 5 _ _ h, frozen_of_row w b 6 _ _ h, frozen_of_row w b 7 _ _ h⟩⟩
theorem below8 {B : Nat} {w w' : World} (h : Below B w w') (b : Nat) (hb : B ≤ b) (v0 v1 v2 v3 v4 v5 v6 v7 : Value) : Below B w ((((((((w'.setCell ⟨b, 0, none⟩ v0).setCell ⟨b, 1, none⟩ v1).setCell ⟨b, 2, none⟩ v2).setCell ⟨b, 3, none⟩ v3).setCell ⟨b, 4, none⟩ v4).setCell ⟨b, 5, none⟩ v5).setCell ⟨b, 6, none⟩ v6).setCell ⟨b, 7, none⟩ v7) :=
  (((((((h.setCell hb _).setCell hb _).setCell hb _).setCell hb _).setCell hb _).setCell hb _).setCell hb _).setCell hb _
set_option maxRecDepth 100000 in
set_option maxHeartbeats 1000000 in
theorem Round_ok (s : St) (i : Nat) (hi : i < 64) (x : BitVec 32) {a0 a1 : Addr} {B : Nat} (w : World) (E : Env a0 a1 B w) :
    Calls Tryd.prog 13 #[.agg #[.int .i64 (U s.a), .int .i64 (U s.b), .int .i64 (U s.c), .int .i64 (U s.d), .int .i64 (U s.e), .int .i64 (U s.f), .int .i64 (U s.g), .int .i64 (U s.h)], .int .i64 i, .int .i64 (U x)] w fun e w' => e = .returned (.tuple #[.agg #[.int .i64 (U (s.step i x).a), .int .i64 (U (s.step i x).b), .int .i64 (U (s.step i x).c), .int .i64 (U (s.step i x).d), .int .i64 (U (s.step i x).e), .int .i64 (U (s.step i x).f), .int .i64 (U (s.step i x).g), .int .i64 (U (s.step i x).h)], .int .i64 0]) ∧ Below w.heap.size w w' := by
  have HE := Lib.hid E
  clear E
  go_enter Tryd.func13, Tryd.ntmps13
  go_wp2_with fail
  refine (narrow_st s _).mono ?_
  rintro en w1 ⟨rfl, hb1⟩
  have hr1 := (hb1.block (w.heap.size + 1) (by simp)).trans (heap_alloc2_new w _ _)
  have hz1 := hb1.size
  have hB1 : Below w.heap.size w w1 := (((Below.refl _ w).alloc (Nat.le_refl _) _).alloc (by simp) _).trans (hb1.mono (by simp; omega))
  simp only [World.size_alloc] at hz1
  have HR1 := Lib.hid hr1
  have HB1 := Lib.hid hB1
  clear hr1 hB1 hb1
  have hU1 := U_nonneg x
  have hU2 : U x ≤ 4294967295 := by have := U_lt x; omega
  go_wp2_with fail
  refine (checkRound_ok _ _ (by omega) (by omega) hU1 hU2 _).mono ?_
  rintro en w2 ⟨rfl, rfl⟩
  go_wp2_with fail
  refine (round_st s x i hi _ ?_).mono ?_
  · exact ((HE.out.below' HB1.out).below' ((Below.refl _ _).alloc (Nat.le_refl _) _)).con i hi
  rintro en w2 ⟨rfl, hb2⟩
  have hz2 := hb2.size
  simp only [World.size_alloc] at hz2
  have hr2 := (hb2.block (w.heap.size + 1) (by simp; omega)).trans ((Below.heap_alloc w1 _ _ (by omega)).trans HR1.out)
  have hB2 : Below w.heap.size w w2 := (HB1.out.alloc (by omega) _).trans (hb2.mono (by simp; omega))
  have HR2 := Lib.hid hr2
  have HB2 := Lib.hid hB2
  clear hr2 hB2 hb2
  go_wp2_with fail
  refine (wide_st _ _).mono ?_
  rintro en w3 ⟨rfl, hb3⟩
  have hr3 := (hb3.block (w.heap.size + 1) (by omega)).trans HR2.out
  obtain ⟨⟨c0, c1, c2, c3, c4, c5, c6, c7⟩, ⟨f0, f1, f2, f3, f4, f5, f6, f7⟩⟩ := eight hr3
  have hB3 : Below w.heap.size w w3 := HB2.out.trans (hb3.mono (by omega))
  have HB3 := Lib.hid hB3
  clear hr3 hB3 hb3
  go_wp2
  refine bodyPost_ret (v := .tuple #[.agg #[.int .i64 (U (s.step i x).a), .int .i64 (U (s.step i x).b), .int .i64 (U (s.step i x).c), .int .i64 (U (s.step i x).d), .int .i64 (U (s.step i x).e), .int .i64 (U (s.step i x).f), .int .i64 (U (s.step i x).g), .int .i64 (U (s.step i x).h)], .int .i64 0]) (by simp [results, Tryd.results13, go_sem, *]) rfl ⟨rfl, below8 HB3.out _ (by omega) _ _ _ _ _ _ _ _⟩

set_option maxRecDepth 100000 in
set_option maxHeartbeats 1000000 in
theorem Round_badState (x0 x1 x2 x3 x4 x5 x6 x7 : Int) (hne : (U (BitVec.ofInt 32 x0) == x0 && (U (BitVec.ofInt 32 x1) == x1 && (U (BitVec.ofInt 32 x2) == x2 && (U (BitVec.ofInt 32 x3) == x3 && (U (BitVec.ofInt 32 x4) == x4 && (U (BitVec.ofInt 32 x5) == x5 && (U (BitVec.ofInt 32 x6) == x6 && (U (BitVec.ofInt 32 x7) == x7)))))))) = false) (i x : Int) {a0 a1 : Addr} {B : Nat} (w : World) (E : Env a0 a1 B w) :
    Calls Tryd.prog 13 #[.agg #[.int .i64 x0, .int .i64 x1, .int .i64 x2, .int .i64 x3, .int .i64 x4, .int .i64 x5, .int .i64 x6, .int .i64 x7], .int .i64 i, .int .i64 x] w fun e w' => e = .returned (.tuple #[.agg #[.int .i64 0, .int .i64 0, .int .i64 0, .int .i64 0, .int .i64 0, .int .i64 0, .int .i64 0, .int .i64 0], .int .i64 11]) ∧ Below w.heap.size w w' := by
  have HE := Lib.hid E
  have HN := Lib.hid hne
  clear E hne
  go_enter Tryd.func13, Tryd.ntmps13
  go_wp2_with fail
  refine (narrow_bad x0 x1 x2 x3 x4 x5 x6 x7 HN.out _ (a0 := a0) (a1 := a1) (B := B) ?_).mono ?_
  · exact (HE.out.below' (((Below.refl _ _).alloc (Nat.le_refl _) _).alloc (by simp) _)).laid
  rintro en w1 ⟨rfl, hb1⟩
  have hr1 := (hb1.block (w.heap.size + 1) (by simp)).trans (heap_alloc2_new w _ _)
  have hz1 := hb1.size
  have hB1 : Below w.heap.size w w1 := (((Below.refl _ w).alloc (Nat.le_refl _) _).alloc (by simp) _).trans (hb1.mono (by simp; omega))
  simp only [World.size_alloc] at hz1
  have HR1 := Lib.hid hr1
  have HB1 := Lib.hid hB1
  clear hr1 hB1 hb1
  go_wp2_with fail
  refine (number_word _ (a0 := a0) (a1 := a1) (B := B) ?_).mono ?_
  · exact ((HE.out.below' HB1.out).below' ((Below.refl _ _).alloc (Nat.le_refl _) _)).laid
  rintro en w2 ⟨rfl, rfl⟩
  have hr2 := (Below.heap_alloc w1 (.cells #[.int .u32 0, .int .u32 0, .int .u32 0, .int .u32 0, .int .u32 0, .int .u32 0, .int .u32 0, .int .u32 0] 55) (w.heap.size + 1) (by omega)).trans HR1.out
  obtain ⟨⟨c0, c1, c2, c3, c4, c5, c6, c7⟩, ⟨f0, f1, f2, f3, f4, f5, f6, f7⟩⟩ := eight hr2
  clear hr2
  go_wp2
  refine bodyPost_ret (v := .tuple #[.agg #[.int .i64 0, .int .i64 0, .int .i64 0, .int .i64 0, .int .i64 0, .int .i64 0, .int .i64 0, .int .i64 0], .int .i64 11]) (by simp [results, Tryd.results13, go_sem, *]) rfl ⟨rfl, ?_⟩
  repeat (first | (with_reducible exact HB1.out) | (with_reducible refine Below.alloc ?_ (by first | omega | (simp; omega) | simp) _) | (with_reducible refine Below.setCell ?_ (by first | omega | (simp; omega) | simp) _))
set_option maxRecDepth 100000 in
set_option maxHeartbeats 1000000 in
theorem Round_badRound (s : St) (i x : Int) (h : ¬ (0 ≤ i ∧ i < 64 ∧ 0 ≤ x ∧ x ≤ 4294967295)) {a0 a1 : Addr} {B : Nat} (w : World) (E : Env a0 a1 B w) :
    Calls Tryd.prog 13 #[.agg #[.int .i64 (U s.a), .int .i64 (U s.b), .int .i64 (U s.c), .int .i64 (U s.d), .int .i64 (U s.e), .int .i64 (U s.f), .int .i64 (U s.g), .int .i64 (U s.h)], .int .i64 i, .int .i64 x] w fun e w' => e = .returned (.tuple #[.agg #[.int .i64 0, .int .i64 0, .int .i64 0, .int .i64 0, .int .i64 0, .int .i64 0, .int .i64 0, .int .i64 0], .int .i64 11]) ∧ Below w.heap.size w w' := by
  have HE := Lib.hid E
  have HN := Lib.hid h
  clear E h
  go_enter Tryd.func13, Tryd.ntmps13
  go_wp2_with fail
  refine (narrow_st s _).mono ?_
  rintro en w1 ⟨rfl, hb1⟩
  have hr1 := (hb1.block (w.heap.size + 1) (by simp)).trans (heap_alloc2_new w _ _)
  have hz1 := hb1.size
  have hB1 : Below w.heap.size w w1 := (((Below.refl _ w).alloc (Nat.le_refl _) _).alloc (by simp) _).trans (hb1.mono (by simp; omega))
  simp only [World.size_alloc] at hz1
  have HR1 := Lib.hid hr1
  have HB1 := Lib.hid hB1
  clear hr1 hB1 hb1
  go_wp2_with fail
  refine (checkRound_bad _ _ HN.out _ (a0 := a0) (a1 := a1) (B := B) ?_).mono ?_
  · exact ((HE.out.below' HB1.out).below' ((Below.refl _ _).alloc (Nat.le_refl _) _)).laid
  rintro en w2 ⟨rfl, rfl⟩
  go_wp2_with fail
  refine (number_word _ (a0 := a0) (a1 := a1) (B := B) ?_).mono ?_
  · exact ((HE.out.below' HB1.out).below' ((Below.refl _ _).alloc (Nat.le_refl _) _)).laid
  rintro en w2 ⟨rfl, rfl⟩
  have hr2 := (Below.heap_alloc w1 (.cells #[.int .u32 (U s.a), .int .u32 (U s.b), .int .u32 (U s.c), .int .u32 (U s.d), .int .u32 (U s.e), .int .u32 (U s.f), .int .u32 (U s.g), .int .u32 (U s.h)] 55) (w.heap.size + 1) (by omega)).trans HR1.out
  obtain ⟨⟨c0, c1, c2, c3, c4, c5, c6, c7⟩, ⟨f0, f1, f2, f3, f4, f5, f6, f7⟩⟩ := eight hr2
  clear hr2
  go_wp2
  refine bodyPost_ret (v := .tuple #[.agg #[.int .i64 0, .int .i64 0, .int .i64 0, .int .i64 0, .int .i64 0, .int .i64 0, .int .i64 0, .int .i64 0], .int .i64 11]) (by simp [results, Tryd.results13, go_sem, *]) rfl ⟨rfl, ?_⟩
  repeat (first | (with_reducible exact HB1.out) | (with_reducible refine Below.alloc ?_ (by first | omega | (simp; omega) | simp) _) | (with_reducible refine Below.setCell ?_ (by first | omega | (simp; omega) | simp) _))
/-- 'Bytes', of words -/
theorem Bytes_ok (s : St) (w : World) :
    Calls Tryd.prog 17 #[.agg #[.int .i64 (U s.a), .int .i64 (U s.b), .int .i64 (U s.c), .int .i64 (U s.d), .int .i64 (U s.e), .int .i64 (U s.f), .int .i64 (U s.g), .int .i64 (U s.h)]] w fun e w' => e = .returned (.tuple #[.string ⟨(St.by s 8).toArray⟩, .int .i64 0]) ∧ Below w.heap.size w w' := by
  go_enter Tryd.func17, Tryd.ntmps17
  go_wp2_with fail
  refine (narrow_st s _).mono ?_
  rintro en w1 ⟨rfl, hb1⟩
  have hz1 := hb1.size
  have hB1 : Below w.heap.size w w1 := ((Below.refl _ w).alloc (Nat.le_refl _) _).trans (hb1.mono (by simp))
  simp only [World.size_alloc] at hz1
  have HB1 := Lib.hid hB1
  clear hB1 hb1
  go_wp2_with fail
  refine (bytes_any s _).mono ?_
  rintro en w2 ⟨rfl, hb2⟩
  have HB2 := Lib.hid hb2
  clear hb2
  go_wp2
  go_ret2
  exact ⟨rfl, (HB1.out.alloc (by omega) _).trans (HB2.out.mono (by simp; omega))⟩
/-- 'Bytes', where one is no word -/
theorem Bytes_bad (x0 x1 x2 x3 x4 x5 x6 x7 : Int) (hne : (U (BitVec.ofInt 32 x0) == x0 && (U (BitVec.ofInt 32 x1) == x1 && (U (BitVec.ofInt 32 x2) == x2 && (U (BitVec.ofInt 32 x3) == x3 && (U (BitVec.ofInt 32 x4) == x4 && (U (BitVec.ofInt 32 x5) == x5 && (U (BitVec.ofInt 32 x6) == x6 && (U (BitVec.ofInt 32 x7) == x7)))))))) = false) {a0 a1 : Addr} {B : Nat} (w : World) (E : Env a0 a1 B w) :
    Calls Tryd.prog 17 #[.agg #[.int .i64 x0, .int .i64 x1, .int .i64 x2, .int .i64 x3, .int .i64 x4, .int .i64 x5, .int .i64 x6, .int .i64 x7]] w fun e w' => e = .returned (.tuple #[.string ⟨#[]⟩, .int .i64 11]) ∧ Below w.heap.size w w' := by
  have HE := Lib.hid E
  have HN := Lib.hid hne
  clear E hne
  go_enter Tryd.func17, Tryd.ntmps17
  go_wp2_with fail
  refine (narrow_bad x0 x1 x2 x3 x4 x5 x6 x7 HN.out _ (a0 := a0) (a1 := a1) (B := B) ?_).mono ?_
  · exact (HE.out.below' ((Below.refl _ _).alloc (Nat.le_refl _) _)).laid
  rintro en w1 ⟨rfl, hb1⟩
  have hz1 := hb1.size
  have hB1 : Below w.heap.size w w1 := ((Below.refl _ w).alloc (Nat.le_refl _) _).trans (hb1.mono (by simp))
  simp only [World.size_alloc] at hz1
  have HB1 := Lib.hid hB1
  clear hB1 hb1
  go_wp2_with fail
  refine (number_word _ (a0 := a0) (a1 := a1) (B := B) ?_).mono ?_
  · exact ((HE.out.below' HB1.out).below' ((Below.refl _ _).alloc (Nat.le_refl _) _)).laid
  rintro en w2 ⟨rfl, rfl⟩
  go_wp2
  go_ret2
  exact ⟨rfl, HB1.out.alloc (by omega) _⟩
end Go.Proofs.YtohekmioeifpfaaDoor
