/- A state's bytes are those of its words, four by four. Conditions: none over words. The package's round and its bytes answer as the arithmetic of words says, and with their errors where an argument is outside. Conditions: the variables lie as the initialisation lays them. -/
import Derived.Test.YthojdcmkajmdjaaDoorRows
import Derived.Test.YthojdcmkajmdjaaDoorNr
import Derived.Test.YthojdcmkajmdjaaDoorWd
import Derived.WalkKit
import Derived.WalkLawsBesides
import Derived.WalkSpells
import Derived.Outline
import Derived.OwnWalk
import Derived.Laws.IdiomStrings
import Derived.Deep.MidRow
import Derived.Lib.Hide
import Derived.Deep.QuietTactic
import Derived.BigQuiet
import Derived.Deep.RegionHeld3
import Derived.Deep.RegionWith
import Derived.Deep.DrawnRows
import Derived.RegionTactic
import Derived.ChangeAlike
namespace Go.Proofs.YthojdcmkajmdjaaDoor
open Go.RowKit
open Rd
attribute [local go_sem] shr24 shr16 shr8 mod_lo8

theorem info5 : (Tryd.prog.info? 5).map (fun i => (i.zero, i.size, i.bytes)) = some (some (.int .u8 0), 1, 1) := by kernel_rfl
theorem get_w (s : St) (k : Nat) (hk : k < 8) : (#[.int .u32 (U s.a), .int .u32 (U s.b), .int .u32 (U s.c), .int .u32 (U s.d), .int .u32 (U s.e), .int .u32 (U s.f), .int .u32 (U s.g), .int .u32 (U s.h)] : Array Value)[k]? = some (.int .u32 (U (s.w k))) := by
  match k, hk with
  | 0, _ => rfl
  | 1, _ => rfl
  | 2, _ => rfl
  | 3, _ => rfl
  | 4, _ => rfl
  | 5, _ => rfl
  | 6, _ => rfl
  | 7, _ => rfl
theorem div24 (x : BitVec 32) : U x / (16777216 : Int) % (256 : Int) = ((lo8 (x >>> 24)).toNat : Int) := by rw [shr24, mod_lo8]
theorem div16 (x : BitVec 32) : U x / (65536 : Int) % (256 : Int) = ((lo8 (x >>> 16)).toNat : Int) := by rw [shr16, mod_lo8]
theorem div8 (x : BitVec 32) : U x / (256 : Int) % (256 : Int) = ((lo8 (x >>> 8)).toNat : Int) := by rw [shr8, mod_lo8]
/-- the cells of a new block, one by one -/
theorem news_at (w : World) (l : List Value) (t : TypeId) : ∀ j u, l[j]? = some u → (w.alloc (.cells l.toArray t)).cell? ((⟨w.heap.size, 0, none⟩ : Addr).add j) = some u := by
  intro j u hj
  rw [Addr.add_mid, cell_of_row _ _ _ _ _ _ (heap_alloc_new w _), Nat.zero_add]
  simpa using hj
def u8s (l : List UInt8) : List Value := l.map fun b => Value.int .u8 (b.toNat : Int)
theorem by_length (s : St) (k : Nat) : (St.by s k).length = 4 * k := by
  induction k with
  | zero => rfl
  | succ k ih => simp [St.by, by4, ih]; omega
set_option maxRecDepth 100000 in
set_option maxHeartbeats 1000000 in
theorem bytes_any (s : St) (w : World) :
    Calls Tryd.prog 65 #[.agg #[.int .u32 (U s.a), .int .u32 (U s.b), .int .u32 (U s.c), .int .u32 (U s.d), .int .u32 (U s.e), .int .u32 (U s.f), .int .u32 (U s.g), .int .u32 (U s.h)]] w fun e w' => e = .returned (.string ⟨(St.by s 8).toArray⟩) ∧ Below w.heap.size w w' := by
  obtain ⟨i0, hi, hz0, hz1, hz2⟩ := info_parts info5
  have hb2 : i0.bytes * 32 ≤ 281474976710656 := by rw [hz2]; omega
  have hb3 : 32 ≤ maxLen := by unfold maxLen; omega
  go_enter Tryd.func65, Tryd.ntmps65
  go_wp2_with (at_make; refine wpList_make_own _ rfl _ _ 29 rfl w.heap.size 5 i0 (.int .u8 0) 1 Tryd.underlying29 hi hz0 hz1 .i64 .i64 32 32 rfl rfl rfl hb2 hb3 ?c4 ?c5; (case c4 => simp); intro w1 hown hgrow; rw [World.size_alloc] at hown; have hbx := (hgrow.block w.heap.size (by simp) (by simp)).trans (heap_alloc_new w _); have c0 : w1.cell? ⟨w.heap.size, 0, none⟩ = some (.int .u32 (U s.a)) := cell_of_row w1 _ 0 _ _ _ hbx; have c1 : w1.cell? ⟨w.heap.size, 1, none⟩ = some (.int .u32 (U s.b)) := cell_of_row w1 _ 1 _ _ _ hbx; have c2 : w1.cell? ⟨w.heap.size, 2, none⟩ = some (.int .u32 (U s.c)) := cell_of_row w1 _ 2 _ _ _ hbx; have c3 : w1.cell? ⟨w.heap.size, 3, none⟩ = some (.int .u32 (U s.d)) := cell_of_row w1 _ 3 _ _ _ hbx; have c4 : w1.cell? ⟨w.heap.size, 4, none⟩ = some (.int .u32 (U s.e)) := cell_of_row w1 _ 4 _ _ _ hbx; have c5 : w1.cell? ⟨w.heap.size, 5, none⟩ = some (.int .u32 (U s.f)) := cell_of_row w1 _ 5 _ _ _ hbx; have c6 : w1.cell? ⟨w.heap.size, 6, none⟩ = some (.int .u32 (U s.g)) := cell_of_row w1 _ 6 _ _ _ hbx; have c7 : w1.cell? ⟨w.heap.size, 7, none⟩ = some (.int .u32 (U s.h)) := cell_of_row w1 _ 7 _ _ _ hbx; have hB1 : Below w.heap.size w w1 := ((Below.refl _ w).alloc (Nat.le_refl _) _).grown hgrow (by simp) (by simp); have HO := Lib.hid hown; have HB := Lib.hid hB1; clear hown hgrow hbx hB1)
  clear c0 c1 c2 c3 c4 c5 c6 c7
  go_loopw [3, 8] (fun v i wr => ∃ k : Nat, k ≤ 8 ∧ i = .int .i64 k ∧ v = .slice (some ⟨w.heap.size + 1, 0, none⟩) (4 * k) 32 ∧ wr.ownsRow w.heap.size 5 1 v (4 * k) (u8s (St.by s k)) ∧ Below w.heap.size w wr ∧ w.heap.size + 1 < wr.heap.size) (fun _ i _ => 8 - (intOf i).toNat)
  case atStart => exact ⟨0, by omega, rfl, rfl, HO.out, HB.out, by have := HO.out.lt (w.heap.size + 1) rfl; omega⟩
  case round =>
    obtain ⟨k, hk, rfl, rfl, hown, hb, hlt⟩ := hrel
    by_cases h8 : k < 8
    · have hix := run_index_words 114 8 Tryd.underlying114 _ k _ h8 (get_w s k h8) wr
      have i1 : (k : Int) < 8 := by omega
      have hroom : 4 * k + 4 ≤ 32 := by omega
      have HOW := Lib.hid hown
      have HBB := Lib.hid hb
      clear hown hb
      have d24 := div24 (s.w k)
      have d16 := div16 (s.w k)
      have d8 := div8 (s.w k)
      have hnews := news_at wr (u8s (by4 (s.w k))) 5
      have hone : ∀ u ∈ u8s (by4 (s.w k)), u.oneCell' = true := by
        intro u hu; simp only [u8s, List.mem_map] at hu; obtain ⟨b, _, rfl⟩ := hu; rfl
      have HN := Lib.hid hnews
      have H1 := Lib.hid hone
      clear hnews hone
      go_wp2_with (at_builtin; refine wpList_append_fits _ rfl _ _ 29 rfl w.heap.size 5 i0 1 Tryd.underlying29 hi hz1 (w.heap.size + 1) (4 * k) 32 (u8s (St.by s k)) rfl (HOW.out.alloc _) ⟨wr.heap.size, 0, none⟩ 4 4 (u8s (by4 (s.w k))) rfl rfl HN.out H1.out hroom ?_; intro w2 hown2 hgrow2)
      go_roundw
      case rel =>
        refine ⟨k + 1, by omega, by go_num, ?_, ?_, HBB.out.trans ?_, ?_⟩
        · rw [show 4 * (k + 1) = 4 * k + 4 by omega]
        · rw [show 4 * (k + 1) = 4 * k + 4 by omega, show u8s (St.by s (k + 1)) = u8s (St.by s k) ++ u8s (by4 (s.w k)) by simp [u8s, St.by]]
          exact hown2
        · have h := ((Below.refl w.heap.size wr).alloc (by omega) (.cells (u8s (by4 (s.w k))).toArray 5)).grown hgrow2 (by simp; omega) (by simp)
          exact h
        · have h := hgrow2.size
          simp at h
          omega
      case measure => simp [intOf]; omega
    · obtain rfl : k = 8 := by omega
      have hcs := hown.cells (g := w.heap.size + 1) rfl
      have hlen := by_length s 8
      have hconv : (convert 29 9 (.slice (some ⟨w.heap.size + 1, 0, none⟩) (4 * 8) 32)).run Tryd.prog wr = .ok (.string ⟨(St.by s 8).toArray⟩) wr := by
        rw [← hlen]
        exact run_convert_bytes_back wr 29 9 5 _ 32 (St.by s 8) Tryd.underlying29 Tryd.underlying5 Tryd.underlying9 (fun j hj => hcs j _ (by simp [u8s, hj]))
      have HBB := Lib.hid hb
      clear hown hb hcs hlen
      go_wp2
      go_ret
      exact ⟨rfl, HBB.out⟩
end Go.Proofs.YthojdcmkajmdjaaDoor

namespace Go.Proofs.YthojdcmkajmdjaaDoor
open Go.RowKit
open Rd
attribute [local go_sem] mod_U wrap64_U

/-- what the packages' functions read of their variables -/
structure Env (B : Nat) (w : World) : Prop where
  b6 : 6 < B
  bw : B ≤ w.heap.size
  con : ∀ i, i < 64 → w.cell? ⟨6, i, none⟩ = some (.int .u32 (U (K i)))
  el : ∃ a, w.cell? ⟨0, 0, none⟩ = some (.iface 159 (.pointer (some a)))
  et : w.cell? ⟨2, 0, none⟩ = some (.iface 122 (.agg #[.pointer (some ⟨7, 36, none⟩)]))
theorem Env.below {B : Nat} {w w' : World} (h : Env B w) (hb : Below B w w') : Env B w' :=
  ⟨h.b6, Nat.le_trans h.bw hb.size, fun i hi => (hb.cell (p := ⟨6, i, none⟩) (by have := h.b6; simp; omega)).trans (h.con i hi),
    by obtain ⟨a, ha⟩ := h.el; exact ⟨a, (hb.cell (p := ⟨0, 0, none⟩) (by have := h.b6; simp; omega)).trans ha⟩,
    (hb.cell (p := ⟨2, 0, none⟩) (by have := h.b6; simp; omega)).trans h.et⟩
theorem Env.below' {B : Nat} {w w' : World} (h : Env B w) (hb : Below w.heap.size w w') : Env B w' := h.below (hb.mono h.bw)
theorem narrow_st (s : St) (w : World) :
    Calls Tryd.prog 63 #[.agg #[.int .i64 (U s.a), .int .i64 (U s.b), .int .i64 (U s.c), .int .i64 (U s.d), .int .i64 (U s.e), .int .i64 (U s.f), .int .i64 (U s.g), .int .i64 (U s.h)]] w fun en w' => en = .returned (.tuple #[.agg #[.int .u32 (U s.a), .int .u32 (U s.b), .int .u32 (U s.c), .int .u32 (U s.d), .int .u32 (U s.e), .int .u32 (U s.f), .int .u32 (U s.g), .int .u32 (U s.h)], .nilIface]) ∧ Below w.heap.size w w' :=
  narrow_ok _ _ _ _ _ _ _ _ w
theorem wide_st (s : St) (w : World) :
    Calls Tryd.prog 76 #[.agg #[.int .u32 (U s.a), .int .u32 (U s.b), .int .u32 (U s.c), .int .u32 (U s.d), .int .u32 (U s.e), .int .u32 (U s.f), .int .u32 (U s.g), .int .u32 (U s.h)]] w fun en w' => en = .returned (.agg #[.int .i64 (U s.a), .int .i64 (U s.b), .int .i64 (U s.c), .int .i64 (U s.d), .int .i64 (U s.e), .int .i64 (U s.f), .int .i64 (U s.g), .int .i64 (U s.h)]) ∧ Below w.heap.size w w' :=
  (wide_any _ _ _ _ _ _ _ _ w).mono fun _ _ ⟨he, hw⟩ => ⟨he, by rw [hw]; exact (((Below.refl _ _).alloc (Nat.le_refl _) _).alloc (by simp) _).alloc (by simp; omega) _⟩
theorem eight {w : World} {b : Nat} {v0 v1 v2 v3 v4 v5 v6 v7 : Value} {t : TypeId} (h : w.heap[b]? = some (.cells #[v0, v1, v2, v3, v4, v5, v6, v7] t (0, 0))) :
    (w.cell? ⟨b, 0, none⟩ = some v0 ∧ w.cell? ⟨b, 1, none⟩ = some v1 ∧ w.cell? ⟨b, 2, none⟩ = some v2 ∧ w.cell? ⟨b, 3, none⟩ = some v3 ∧ w.cell? ⟨b, 4, none⟩ = some v4 ∧ w.cell? ⟨b, 5, none⟩ = some v5 ∧ w.cell? ⟨b, 6, none⟩ = some v6 ∧ w.cell? ⟨b, 7, none⟩ = some v7) ∧ (w.frozen? ⟨b, 0, none⟩ = false ∧ w.frozen? ⟨b, 1, none⟩ = false ∧ w.frozen? ⟨b, 2, none⟩ = false ∧ w.frozen? ⟨b, 3, none⟩ = false ∧ w.frozen? ⟨b, 4, none⟩ = false ∧ w.frozen? ⟨b, 5, none⟩ = false ∧ w.frozen? ⟨b, 6, none⟩ = false ∧ w.frozen? ⟨b, 7, none⟩ = false) :=
  ⟨⟨cell_of_row w b 0 _ _ _ h, cell_of_row w b 1 _ _ _ h, cell_of_row w b 2 _ _ _ h, cell_of_row w b 3 _ _ _ h, cell_of_row w b 4 _ _ _ h, cell_of_row w b 5 _ _ _ h, cell_of_row w b 6 _ _ _ h, cell_of_row w b 7 _ _ _ h⟩, ⟨frozen_of_row w b 0 _ _ h, frozen_of_row w b 1 _ _ h, frozen_of_row w b 2 _ _ h, frozen_of_row w b 3 _ _ h, frozen_of_row w b 4 _ _ h, frozen_of_row w b 5 _ _ h, frozen_of_row w b 6 _ _ h, frozen_of_row w b 7 _ _ h⟩⟩
theorem below8 {B : Nat} {w w' : World} (h : Below B w w') (b : Nat) (hb : B ≤ b) (v0 v1 v2 v3 v4 v5 v6 v7 : Value) : Below B w ((((((((w'.setCell ⟨b, 0, none⟩ v0).setCell ⟨b, 1, none⟩ v1).setCell ⟨b, 2, none⟩ v2).setCell ⟨b, 3, none⟩ v3).setCell ⟨b, 4, none⟩ v4).setCell ⟨b, 5, none⟩ v5).setCell ⟨b, 6, none⟩ v6).setCell ⟨b, 7, none⟩ v7) :=
  (((((((h.setCell hb _).setCell hb _).setCell hb _).setCell hb _).setCell hb _).setCell hb _).setCell hb _).setCell hb _
/-- 'Bytes', of words -/
theorem Bytes_ok (s : St) (w : World) :
    Calls Tryd.prog 47 #[.agg #[.int .i64 (U s.a), .int .i64 (U s.b), .int .i64 (U s.c), .int .i64 (U s.d), .int .i64 (U s.e), .int .i64 (U s.f), .int .i64 (U s.g), .int .i64 (U s.h)]] w fun e w' => e = .returned (.tuple #[.string ⟨(St.by s 8).toArray⟩, .int .i64 0]) ∧ Below w.heap.size w w' := by
  go_enter Tryd.func47, Tryd.ntmps47
  go_wp2_with fail
  refine (narrow_st s _).mono ?_
  rintro en w1 ⟨rfl, hb1⟩
  have hz1 := hb1.size
  have hB1 : Below w.heap.size w w1 := ((Below.refl _ w).alloc (Nat.le_refl _) _).trans (hb1.mono (by simp))
  simp only [World.size_alloc] at hz1
  have HB1 := Lib.hid hB1
  clear hB1 hb1
  go_wp2_with fail
  refine (bytes_any s _).mono ?_
  rintro en w2 ⟨rfl, hb2⟩
  have HB2 := Lib.hid hb2
  clear hb2
  go_wp2
  go_ret2
  exact ⟨rfl, (HB1.out.alloc (by omega) _).trans (HB2.out.mono (by simp; omega))⟩
end Go.Proofs.YthojdcmkajmdjaaDoor
