/- A state to which another one's words are added, word by word. Conditions: those of each rule. -/
import Derived.Test.YthojdcmkajmdjaaDoorHs
import Derived.Deep.DeepCutAuto
import Derived.ProofKit
import Derived.OpenShut
import Derived.Lib.LaidTab
import Derived.StillTailTactics
import Derived.Deep.RegionHeld
namespace Go.Proofs.YthojdcmkajmdjaaDoor
open Go.ChangeShapes Go.WideShapes Go.ChangeAt Go.RowKit
open Go.ChangeMaps (open_string shut_string)
open Rd
attribute [local go_sem ↓] Go.wp_at_zero Go.wp_at_succ
def mixV (t s : St) (k j : Nat) : Value := .int .i64 (if j < k then U ((t.add s).w j) else U (t.w j))
/-- the cells of the state to which k words have been added -/
def mixA (t s : St) (k : Nat) : Array Value := #[mixV t s k 0, mixV t s k 1, mixV t s k 2, mixV t s k 3, mixV t s k 4, mixV t s k 5, mixV t s k 6, mixV t s k 7]
theorem mixA_get (t s : St) (k : Nat) (h : k < 8) : (mixA t s k)[k]? = some (.int .i64 (U (t.w k))) := by
  rcases k with _ | _ | _ | _ | _ | _ | _ | _ | k <;> first | rfl | omega
theorem mixA_set (t s : St) (k : Nat) (h : k < 8) : (mixA t s k).setIfInBounds k (.int .i64 (U ((t.add s).w k))) = mixA t s (k + 1) := by
  rcases k with _ | _ | _ | _ | _ | _ | _ | _ | k <;> first | rfl | omega
theorem mixA_zero (t s : St) : mixA t s 0 = #[.int .i64 (U t.a), .int .i64 (U t.b), .int .i64 (U t.c), .int .i64 (U t.d), .int .i64 (U t.e), .int .i64 (U t.f), .int .i64 (U t.g), .int .i64 (U t.h)] := rfl
theorem mixA_all (t s : St) : mixA t s 8 = #[.int .i64 (U (t.add s).a), .int .i64 (U (t.add s).b), .int .i64 (U (t.add s).c), .int .i64 (U (t.add s).d), .int .i64 (U (t.add s).e), .int .i64 (U (t.add s).f), .int .i64 (U (t.add s).g), .int .i64 (U (t.add s).h)] := rfl
theorem stA_get (s : St) (k : Nat) (h : k < 8) : (#[.int .i64 (U s.a), .int .i64 (U s.b), .int .i64 (U s.c), .int .i64 (U s.d), .int .i64 (U s.e), .int .i64 (U s.f), .int .i64 (U s.g), .int .i64 (U s.h)] : Array Value)[k]? = some (.int .i64 (U (s.w k))) := by
  rcases k with _ | _ | _ | _ | _ | _ | _ | _ | k <;> first | rfl | omega
theorem add_w (t s : St) (k : Nat) (h : k < 8) : (t.add s).w k = t.w k + s.w k := by
  rcases k with _ | _ | _ | _ | _ | _ | _ | _ | k <;> first | rfl | omega
theorem stored8 (w1 : World) (g : Nat) (v0 v1 v2 v3 v4 v5 v6 v7 u0 u1 u2 u3 u4 u5 u6 u7 : Value) (h : w1.heap[g]? = some (.cells #[v0, v1, v2, v3, v4, v5, v6, v7] 58 (0, 0))) :
    ((((((((w1.setCell ⟨g, 0, none⟩ u0).setCell ⟨g, 1, none⟩ u1).setCell ⟨g, 2, none⟩ u2).setCell ⟨g, 3, none⟩ u3).setCell ⟨g, 4, none⟩ u4).setCell ⟨g, 5, none⟩ u5).setCell ⟨g, 6, none⟩ u6).setCell ⟨g, 7, none⟩ u7).heap[g]? = some (.cells #[u0, u1, u2, u3, u4, u5, u6, u7] 58 (0, 0)) := by
  have h0 := heap_setCell_same w1 g 0 _ _ u0 h
  have h1 := heap_setCell_same _ g 1 _ _ u1 h0
  have h2 := heap_setCell_same _ g 2 _ _ u2 h1
  have h3 := heap_setCell_same _ g 3 _ _ u3 h2
  have h4 := heap_setCell_same _ g 4 _ _ u4 h3
  have h5 := heap_setCell_same _ g 5 _ _ u5 h4
  have h6 := heap_setCell_same _ g 6 _ _ u6 h5
  have h7 := heap_setCell_same _ g 7 _ _ u7 h6
  have e : ((((((((#[v0, v1, v2, v3, v4, v5, v6, v7].setIfInBounds 0 u0).setIfInBounds 1 u1).setIfInBounds 2 u2).setIfInBounds 3 u3).setIfInBounds 4 u4).setIfInBounds 5 u5).setIfInBounds 6 u6).setIfInBounds 7 u7 : Array Value) = #[u0, u1, u2, u3, u4, u5, u6, u7] := by simp
  rw [e] at h7
  exact h7
theorem add_wrap (x y : BitVec 32) : (wrap64 (U x + U y)).tmod 4294967296 = U (x + y) := by
  have h1 := U_nonneg x; have h2 := U_lt x; have h3 := U_nonneg y; have h4 := U_lt y
  rw [show wrap64 (U x + U y) = U x + U y by unfold wrap64; omega]
  rw [Int.tmod_eq_emod_of_nonneg (by omega)]
  exact mod_add x y
theorem cvBytes (l : List UInt8) (w : World) (g n : Nat) (hn : l.length = n) (h : w.heap[g]? = some (.cells (l.map fun b => Value.int .u8 (b.toNat : Int)).toArray 5 (0, 0))) : (convert 29 9 (.slice (some ⟨g, 0, none⟩) n n)).run Tryd.prog w = .ok (.string ⟨l.toArray⟩) w := by
  have hc := run_convert_bytes_back w 29 9 5 ⟨g, 0, none⟩ n l Tryd.underlying29 Tryd.underlying5 Tryd.underlying9 (fun j hj => by
    rw [Addr.add_mid, cell_of_row w g _ _ _ _ h, Nat.zero_add]
    simp [hj])
  rw [hn] at hc
  exact hc
theorem cv4 (w : World) (b0 b1 b2 b3 : UInt8) : (convert 29 9 (.slice (some ⟨w.heap.size, 0, none⟩) 4 4)).run Tryd.prog (w.alloc (.cells #[.int .u8 (b0.toNat : Int), .int .u8 (b1.toNat : Int), .int .u8 (b2.toNat : Int), .int .u8 (b3.toNat : Int)] 5)) = .ok (.string ⟨#[b0, b1, b2, b3]⟩) (w.alloc (.cells #[.int .u8 (b0.toNat : Int), .int .u8 (b1.toNat : Int), .int .u8 (b2.toNat : Int), .int .u8 (b3.toNat : Int)] 5)) :=
  cvBytes [b0, b1, b2, b3] _ w.heap.size 4 rfl (heap_alloc_new w _)
theorem cv4d (w : World) (b0 b1 b2 b3 : UInt8) : (convert 29 9 (.slice (some ⟨w.heap.size, 0, none⟩) 4 4)).run Tryd.prog (w.alloc (.cells #[.int .u8 (b0.toNat : Int), .int .u8 (b1.toNat : Int), .int .u8 (b2.toNat : Int), .int .u8 (b3.toNat : Int)] 5)).drew = .ok (.string ⟨#[b0, b1, b2, b3]⟩) (w.alloc (.cells #[.int .u8 (b0.toNat : Int), .int .u8 (b1.toNat : Int), .int .u8 (b2.toNat : Int), .int .u8 (b3.toNat : Int)] 5)).drew :=
  cvBytes [b0, b1, b2, b3] _ w.heap.size 4 rfl (heap_alloc_new w _)
theorem u8_wrap (n : Int) (b : UInt8) (h : n % 256 = (b.toNat : Int)) : IntKind.u8.wrap n = (b.toNat : Int) := by
  rw [← h]
  rfl
theorem q24 (x : BitVec 32) : IntKind.u8.wrap (IntKind.i64.wrap ((U x).tdiv 16777216)) = ((lo8 (x >>> 24)).toNat : Int) := by
  have h1 := U_nonneg x; have h2 := U_lt x
  apply u8_wrap
  rw [Int.tdiv_eq_ediv_of_nonneg h1, show IntKind.i64.wrap (U x / 16777216) = U x / 16777216 by rw [IntWalk.i64_left]; unfold wrap64; omega]
  exact div24 x
theorem q16 (x : BitVec 32) : IntKind.u8.wrap ((IntKind.i64.wrap ((U x).tdiv 65536)).tmod 256) = ((lo8 (x >>> 16)).toNat : Int) := by
  have h1 := U_nonneg x; have h2 := U_lt x
  apply u8_wrap
  rw [Int.tdiv_eq_ediv_of_nonneg h1, show IntKind.i64.wrap (U x / 65536) = U x / 65536 by rw [IntWalk.i64_left]; unfold wrap64; omega, Int.tmod_eq_emod_of_nonneg (by omega), Int.emod_emod_of_dvd _ (by decide)]
  exact div16 x
theorem q8 (x : BitVec 32) : IntKind.u8.wrap ((IntKind.i64.wrap ((U x).tdiv 256)).tmod 256) = ((lo8 (x >>> 8)).toNat : Int) := by
  have h1 := U_nonneg x; have h2 := U_lt x
  apply u8_wrap
  rw [Int.tdiv_eq_ediv_of_nonneg h1, show IntKind.i64.wrap (U x / 256) = U x / 256 by rw [IntWalk.i64_left]; unfold wrap64; omega, Int.tmod_eq_emod_of_nonneg (by omega), Int.emod_emod_of_dvd _ (by decide)]
  exact div8 x
theorem q0 (x : BitVec 32) : IntKind.u8.wrap ((U x).tmod 256) = ((lo8 x).toNat : Int) := by
  have h1 := U_nonneg x; have h2 := U_lt x
  apply u8_wrap
  rw [Int.tmod_eq_emod_of_nonneg (by omega), Int.emod_emod_of_dvd _ (by decide)]
  exact mod_lo8 x
theorem B8_bit (b : UInt8) (i : Nat) (hi : i < 32) : (B8 b).getLsbD i = b.toBitVec.getLsbD i := by
  unfold B8
  rw [BitVec.getLsbD_ofNat]
  simp [hi]
  rfl
theorem bit_hi (b : UInt8) (i : Nat) (hi : 8 ≤ i) : b.toBitVec.getLsbD i = false := BitVec.getLsbD_of_ge _ _ hi
theorem lo8_eq (x : BitVec 32) (b : UInt8) (h : ∀ i, i < 8 → x.getLsbD i = b.toBitVec.getLsbD i) : lo8 x = b := by
  apply UInt8.toBitVec_inj.1
  apply BitVec.eq_of_getLsbD_eq
  intro i hi
  rw [← h i hi]
  show (BitVec.ofNat 8 x.toNat).getLsbD i = _
  simp [hi]
theorem lo24 (b0 b1 b2 b3 : UInt8) : lo8 (W4 b0 b1 b2 b3 >>> 24) = b0 := by
  apply lo8_eq
  intro i hi
  simp only [W4, BitVec.getLsbD_ushiftRight, BitVec.getLsbD_or, BitVec.getLsbD_shiftLeft]
  rw [B8_bit b0 _ (by omega), B8_bit b1 _ (by omega), B8_bit b2 _ (by omega), B8_bit b3 _ (by omega), bit_hi b1 _ (by omega), bit_hi b2 _ (by omega), bit_hi b3 _ (by omega)]
  rw [show 24 + i - 24 = i by omega]
  simp; omega
theorem lo16 (b0 b1 b2 b3 : UInt8) : lo8 (W4 b0 b1 b2 b3 >>> 16) = b1 := by
  apply lo8_eq
  intro i hi
  simp only [W4, BitVec.getLsbD_ushiftRight, BitVec.getLsbD_or, BitVec.getLsbD_shiftLeft]
  rw [B8_bit b1 _ (by omega), B8_bit b2 _ (by omega), B8_bit b3 _ (by omega), bit_hi b2 _ (by omega), bit_hi b3 _ (by omega)]
  rw [show 16 + i - 16 = i by omega, show decide (16 + i < 24) = true by simp; omega]
  simp; omega
theorem lo88 (b0 b1 b2 b3 : UInt8) : lo8 (W4 b0 b1 b2 b3 >>> 8) = b2 := by
  apply lo8_eq
  intro i hi
  simp only [W4, BitVec.getLsbD_ushiftRight, BitVec.getLsbD_or, BitVec.getLsbD_shiftLeft]
  rw [B8_bit b2 _ (by omega), B8_bit b3 _ (by omega), bit_hi b3 _ (by omega)]
  rw [show 8 + i - 8 = i by omega, show decide (8 + i < 24) = true by simp; omega, show decide (8 + i < 16) = true by simp; omega]
  simp; omega
theorem lo00 (b0 b1 b2 b3 : UInt8) : lo8 (W4 b0 b1 b2 b3) = b3 := by
  apply lo8_eq
  intro i hi
  simp only [W4, BitVec.getLsbD_or, BitVec.getLsbD_shiftLeft]
  rw [B8_bit b3 _ (by omega)]
  rw [show decide (i < 24) = true by simp; omega, show decide (i < 16) = true by simp; omega, show decide (i < 8) = true by simp; omega]
  simp
end Go.Proofs.YthojdcmkajmdjaaDoor
