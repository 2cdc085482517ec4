/- The reference's bytes of a state are those of its words, or an error. Conditions: those of each rule. -/
import Derived.Test.YtjimpfcgcbbipaaDoorMix
import Derived.Test.YtjimpfcgcbbipaaDoorRefA
import Derived.Test.YtjimpfcgcbbipaaDoorRefB
import Derived.StillTailTactics
import Derived.Deep.RegionHeld
import Derived.Deep.RegionWith
import Derived.Deep.DrawnRows
import Derived.Deep.DeepCutAuto
import Derived.Deep.QuietTactic
import Derived.BigQuiet
import Derived.WalkKit
import Derived.WalkLawsBesides
import Derived.WalkSpells
import Derived.Outline
import Derived.Lib.Hide
namespace Go.Proofs.YtjimpfcgcbbipaaDoor
open Go.ChangeShapes Go.WideShapes Go.ChangeAt Go.RowKit
open Go.ChangeMaps (open_string shut_string)
open Rd
attribute [local go_sem ↓] Go.wp_at_zero Go.wp_at_succ
theorem by_cat (s : St) (k : Nat) : (⟨(St.by s k).toArray⟩ : ByteArray) ++ ⟨#[lo8 (s.w k >>> 24), lo8 (s.w k >>> 16), lo8 (s.w k >>> 8), lo8 (s.w k)]⟩ = ⟨(St.by s (k + 1)).toArray⟩ := by
  apply ByteArray.ext
  rw [ByteArray.data_append]
  apply Array.toList_inj.1
  rw [Array.toList_append]
  rfl
theorem by_size4 (s : St) (k : Nat) : (⟨(St.by s k).toArray⟩ : ByteArray).size = 4 * k := by
  show (St.by s k).toArray.size = 4 * k
  simp [by_length]
set_option maxRecDepth 100000 in
set_option maxHeartbeats 1000000 in
theorem Bytes18_bad (x0 x1 x2 x3 x4 x5 x6 x7 : Int) (hn : (U (BitVec.ofInt 32 x0) == x0 && (U (BitVec.ofInt 32 x1) == x1 && (U (BitVec.ofInt 32 x2) == x2 && (U (BitVec.ofInt 32 x3) == x3 && (U (BitVec.ofInt 32 x4) == x4 && (U (BitVec.ofInt 32 x5) == x5 && (U (BitVec.ofInt 32 x6) == x6 && (U (BitVec.ofInt 32 x7) == x7)))))))) = false) (w : World) : Calls Tryd.prog 34 #[.agg #[.int .i64 x0, .int .i64 x1, .int .i64 x2, .int .i64 x3, .int .i64 x4, .int .i64 x5, .int .i64 x6, .int .i64 x7]] w fun e w' => e = .returned (.tuple #[.string ⟨#[]⟩, .int .i64 11]) ∧ Below w.heap.size w w' := by
  have HN := Lib.hid hn
  clear hn
  go_enter Tryd.func34, Tryd.ntmps34
  go_wp2_with fail
  refine (words_bad x0 x1 x2 x3 x4 x5 x6 x7 HN.out _).mono ?_
  rintro e w1 ⟨rfl, hb1⟩
  have HB1 := Lib.hid (((Below.refl _ w).alloc (Nat.le_refl _) _).trans (hb1.mono (by simp)))
  clear hb1
  go_wp2
  exact bodyPost_ret (v := .tuple #[.string ⟨#[]⟩, .int .i64 11]) (by simp [results, Tryd.results34, go_sem]) rfl ⟨rfl, HB1.out⟩
set_option maxRecDepth 100000 in
set_option maxHeartbeats 1000000 in
theorem Bytes18_ok (s : St) (w : World) : Calls Tryd.prog 34 #[.agg #[.int .i64 (U s.a), .int .i64 (U s.b), .int .i64 (U s.c), .int .i64 (U s.d), .int .i64 (U s.e), .int .i64 (U s.f), .int .i64 (U s.g), .int .i64 (U s.h)]] w fun e w' => e = .returned (.tuple #[.string ⟨(St.by s 8).toArray⟩, .int .i64 0]) ∧ Below w.heap.size w w' := by
  go_enter Tryd.func34, Tryd.ntmps34
  go_wp2_with fail
  refine (words_ok s _).mono ?_
  rintro e w1 ⟨rfl, hb1⟩
  have hz1 := hb1.size
  simp only [World.size_alloc] at hz1
  have HX := Lib.hid ((hb1.block w.heap.size (by simp)).trans (heap_alloc_new w _))
  have HB1 := Lib.hid (((Below.refl _ w).alloc (Nat.le_refl _) _).trans (hb1.mono (by simp)))
  clear hb1
  go_wp2_with fail
  go_loopw [4, 5] (fun t i wr => ∃ k : Nat, k ≤ 8 ∧ i = .int .i64 k ∧ t = .string ⟨(St.by s k).toArray⟩ ∧ wr.heap[w.heap.size]? = some (.cells #[.int .i64 (U s.a), .int .i64 (U s.b), .int .i64 (U s.c), .int .i64 (U s.d), .int .i64 (U s.e), .int .i64 (U s.f), .int .i64 (U s.g), .int .i64 (U s.h)] 45 (0, 0)) ∧ Below w.heap.size w wr) (fun _ i _ => 8 - (intOf i).toNat)
  case atStart => exact ⟨0, by omega, rfl, rfl, HX.out, HB1.out⟩
  case round =>
    obtain ⟨k, hk, rfl, rfl, hxr, hbr⟩ := hrel
    have HXR := Lib.hid hxr
    have HBR := Lib.hid hbr
    by_cases hlt : k < 8
    · have hc : wr.cell? ⟨w.heap.size, k, none⟩ = some (.int .i64 (U (s.w k))) := (cell_of_row wr w.heap.size k _ _ _ hxr).trans (stA_get s k hlt)
      have hlx : w.heap.size < wr.heap.size := (Array.getElem?_eq_some_iff.1 hxr).1
      have i1 : (k : Int) < 8 := by omega
      clear hxr hbr
      have hmx : ¬ 9223372036854775807 < (⟨(St.by s k).toArray⟩ : ByteArray).size + 4 := by rw [by_size4]; omega
      have hcv := cv4
      have hcvd := cv4d
      have e24 := q24 (s.w k)
      have e16 := q16 (s.w k)
      have e8 := q8 (s.w k)
      have e0 := q0 (s.w k)
      obtain ⟨pre, hpre⟩ : ∃ p, (⟨(St.by s k).toArray⟩ : ByteArray) = p := ⟨_, rfl⟩
      rw [hpre] at hmx ⊢
      have HP := Lib.hid hpre
      clear hpre
      go_wp2_with fail
      go_region_held (fun w' => w'.cell? ⟨w.heap.size, k, none⟩ = some (.int .i64 (U (s.w k)))) (repeat (first | assumption | apply keepA | apply keepD | apply keepD1)) (first | fail)
      go_wp2
      go_roundw
      case rel =>
        refine ⟨k + 1, by omega, by go_num, ?_, ?_, (HBR.out.alloc HBR.out.size _).drew⟩
        · rw [← by_cat, HP.out]
        · exact (Below.heap_alloc _ _ _ hlx).trans HXR.out
      case measure => simp [intOf]; omega
    · obtain rfl : k = 8 := by omega
      clear hxr hbr
      go_wp2
      exact bodyPost_ret (v := .tuple #[.string ⟨(St.by s 8).toArray⟩, .int .i64 0]) (by simp [results, Tryd.results34, go_sem]) rfl ⟨rfl, HBR.out⟩
end Go.Proofs.YtjimpfcgcbbipaaDoor
