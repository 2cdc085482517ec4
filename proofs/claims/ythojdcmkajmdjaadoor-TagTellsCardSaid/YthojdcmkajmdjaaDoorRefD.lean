/- The reference's schedule of a block is the arithmetic's, word by word. Conditions: the block has sixty-four bytes, or there is an error. -/
import Derived.Test.YthojdcmkajmdjaaDoorMix
import Derived.Test.YthojdcmkajmdjaaDoorRf
import Derived.Deep.RegionHeldLaw
import Derived.Deep.RegionLaw
import Derived.Deep.AppendLies
import Derived.OwnWalk
import Derived.StillTailTactics
import Derived.Deep.RegionHeld
import Derived.Deep.RegionWith
import Derived.Deep.DrawnRows
import Derived.Deep.DeepCutAuto
import Derived.Deep.QuietTactic
import Derived.BigQuiet
import Derived.WalkKit
import Derived.WalkLawsBesides
import Derived.WalkSpells
import Derived.Outline
import Derived.Lib.Hide
namespace Go.Proofs.YthojdcmkajmdjaaDoor
open Go.ChangeShapes Go.WideShapes Go.ChangeAt Go.RowKit
open Go.ChangeMaps (open_string shut_string)
open Rd
attribute [local go_sem ↓] Go.wp_at_zero Go.wp_at_succ
theorem four_sum (x : BitVec 32) : 16777216 * ((lo8 (x >>> 24)).toNat : Int) + 65536 * ((lo8 (x >>> 16)).toNat : Int) + 256 * ((lo8 (x >>> 8)).toNat : Int) + ((lo8 x).toNat : Int) = U x := by
  have h1 := U_nonneg x; have h2 := U_lt x
  have a := div24 x; have b := div16 x; have c := div8 x; have d := mod_lo8 x
  omega
theorem W4_sum (b0 b1 b2 b3 : UInt8) : 16777216 * (b0.toNat : Int) + 65536 * (b1.toNat : Int) + 256 * (b2.toNat : Int) + (b3.toNat : Int) = U (W4 b0 b1 b2 b3) := by
  have h := four_sum (W4 b0 b1 b2 b3)
  rw [lo24, lo16, lo88, lo00] at h
  exact h
theorem wrap_small (n : Int) (h : 0 ≤ n ∧ n < 9223372036854775808) : IntKind.i64.wrap n = n := by
  rw [IntWalk.i64_left]; unfold wrap64; omega
theorem sum4 (a b c d : BitVec 32) : (IntKind.i64.wrap (IntKind.i64.wrap (IntKind.i64.wrap (U a + U b) + U c) + U d)).tmod 4294967296 = U (a + (b + c + d)) := by
  have h1 := U_nonneg a; have h2 := U_lt a; have h3 := U_nonneg b; have h4 := U_lt b; have h5 := U_nonneg c; have h6 := U_lt c; have h7 := U_nonneg d; have h8 := U_lt d
  rw [wrap_small (U a + U b) (by omega), wrap_small (U a + U b + U c) (by omega), wrap_small (U a + U b + U c + U d) (by omega), Int.tmod_eq_emod_of_nonneg (by omega)]
  have e1 := mod_add b c; have e2 := mod_add (b + c) d; have e3 := mod_add a (b + c + d)
  omega
set_option maxRecDepth 100000 in
set_option maxHeartbeats 20000000 in
theorem Schedule12_ok (s : ByteArray) (hs : s.size = 64) (w : World) :
    Calls Tryd.prog 52 #[.string s] w fun e w' => ∃ G c, e = .returned (.tuple #[.slice (some ⟨G, 0, none⟩) 64 c, .int .i64 0]) ∧ w.heap.size ≤ G ∧ G < w'.heap.size ∧ (∀ j, j < 64 → w'.cell? ⟨G, j, none⟩ = some (.int .i64 (U ((Wd (mw s)) j)))) ∧ Below w.heap.size w w' := by
  obtain ⟨i0, hi, hz0, hz1, hz2⟩ := info_parts info3i
  have HS := Lib.hid hs
  have hsi : (s.size : Int) = 64 := by omega
  clear hs
  go_enter Tryd.func52, Tryd.ntmps52
  go_wp2_with fail
  go_loopw [4, 5] (fun v i wr => ∃ t k : Nat, k ≤ 16 ∧ t = 4 * k ∧ i = .int .i64 t ∧ wr.ownsRow w.heap.size 3 1 v k (ints (mw s) k) ∧ Below w.heap.size w wr) (fun _ i _ => 64 - (intOf i).toNat)
  case atStart => exact ⟨0, 0, by omega, rfl, rfl, World.ownsRow_nil _ _ _ _, Below.refl _ _⟩
  case round =>
    clear hsi
    obtain ⟨t, k, hk, ht, rfl, hown, hbr⟩ := hrel
    have HOW := Lib.hid hown
    have HBR := Lib.hid hbr
    have HT := Lib.hid ht
    clear hown hbr
    by_cases hlt : t < 64
    · have hs3 : t + 3 < s.size := by have := HS.out; omega
      have i0' : (t : Int) < 64 := by omega
      have i00 : (t : Int) < (s.size : Int) := by omega
      have i1 : (t : Int) + 1 < (s.size : Int) := by omega
      have i2 : (t : Int) + 2 < (s.size : Int) := by omega
      have i3 : (t : Int) + 3 < (s.size : Int) := by omega
      have j1 : (0 : Int) ≤ (t : Int) + 1 := by omega
      have j2 : (0 : Int) ≤ (t : Int) + 2 := by omega
      have j3 : (0 : Int) ≤ (t : Int) + 3 := by omega
      have k1 : ((t : Int) + 1).toNat = t + 1 := by omega
      have k2 : ((t : Int) + 2).toNat = t + 2 := by omega
      have k3 : ((t : Int) + 3).toNat = t + 3 := by omega
      have e1 : IntKind.i64.wrap ((t : Int) + 1) = (t : Int) + 1 := wrap_small _ (by omega)
      have e2 : IntKind.i64.wrap ((t : Int) + 2) = (t : Int) + 2 := wrap_small _ (by omega)
      have e3 : IntKind.i64.wrap ((t : Int) + 3) = (t : Int) + 3 := wrap_small _ (by omega)
      have hq0 : t < s.size := by omega
      have hq1 : t + 1 < s.size := by omega
      have hq2 : t + 2 < s.size := by omega
      have hb0 := (s[t]'hq0).toNat_lt; have hb1 := (s[t + 1]'hq1).toNat_lt; have hb2 := (s[t + 2]'hq2).toNat_lt; have hb3 := (s[t + 3]'hs3).toNat_lt
      have hv : (IntKind.i64.wrap (IntKind.i64.wrap (IntKind.i64.wrap (IntKind.i64.wrap (16777216 * IntKind.i64.wrap ((s[t]'hq0).toNat : Int)) + IntKind.i64.wrap (65536 * IntKind.i64.wrap ((s[t + 1]'hq1).toNat : Int))) + IntKind.i64.wrap (256 * IntKind.i64.wrap ((s[t + 2]'hq2).toNat : Int))) + IntKind.i64.wrap ((s[t + 3]'hs3).toNat : Int))) = U (mw s k) := by
        rw [wrap_small ((s[t]'hq0).toNat : Int) (by omega), wrap_small ((s[t + 1]'hq1).toNat : Int) (by omega), wrap_small ((s[t + 2]'hq2).toNat : Int) (by omega), wrap_small ((s[t + 3]'hs3).toNat : Int) (by omega)]
        rw [wrap_small (16777216 * _) (by omega), wrap_small (65536 * _) (by omega), wrap_small (256 * _) (by omega), wrap_small (_ + 65536 * _) (by omega), wrap_small (_ + 256 * _) (by omega), wrap_small _ (by omega), W4_sum]
        unfold mw
        subst ht
        rw [dif_pos hs3]
      have HV := Lib.hid hv
      clear hb0 hb1 hb2 hb3 ht hv
      go_wp2_with fail
      have e4 : IntKind.i64.wrap ((t : Int) + 4) = (t : Int) + 4 := wrap_small _ (by omega)
      go_region_held_law (fun w' => True) (trivial) (first
        | (refine step_append_lies _ rfl (.tmp 18) (.tmp 44) 79 rfl w.heap.size 3 i0 (.int .i64 0) 1 8 Tryd.underlying79 hi hz0 hz1 hz2 rfl (by decide) u4 k (ints (mw s) k) (by simp [Act.eval]) (HOW.out.alloc _).drew ⟨wr.heap.size, 0, none⟩ 1 1 [.int .i64 (IntKind.i64.wrap (IntKind.i64.wrap (IntKind.i64.wrap (IntKind.i64.wrap (16777216 * IntKind.i64.wrap ((s[t]'hq0).toNat : Int)) + IntKind.i64.wrap (65536 * IntKind.i64.wrap ((s[t + 1]'hq1).toNat : Int))) + IntKind.i64.wrap (256 * IntKind.i64.wrap ((s[t + 2]'hq2).toNat : Int))) + IntKind.i64.wrap ((s[t + 3]'hs3).toNat : Int)))] (by simp [Act.eval]) rfl (fun j u hu => news_at wr [.int .i64 (IntKind.i64.wrap (IntKind.i64.wrap (IntKind.i64.wrap (IntKind.i64.wrap (16777216 * IntKind.i64.wrap ((s[t]'hq0).toNat : Int)) + IntKind.i64.wrap (65536 * IntKind.i64.wrap ((s[t + 1]'hq1).toNat : Int))) + IntKind.i64.wrap (256 * IntKind.i64.wrap ((s[t + 2]'hq2).toNat : Int))) + IntKind.i64.wrap ((s[t + 3]'hs3).toNat : Int)))] 3 j u hu) (by intro u hu; simp at hu; subst hu; rfl) (by decide) (by unfold maxLen; omega) (by omega) (by have := HBR.out.size; simp; omega) _ rfl ?_; intro g cap w1 hown1 hgrow1 hor hlt1; rw [HV.out] at hown1; have HOW1 := Lib.hid hown1; have HGR1 := Lib.hid hgrow1; clear hown1 hgrow1 hor hlt1))
      all_goals
        go_wp2
        go_roundw
        case rel =>
          refine ⟨t + 4, k + 1, by have := HT.out; omega, by have := HT.out; omega, by go_num, ?_, HBR.out.trans (((Below.refl _ wr).alloc HBR.out.size _).drew.grown HGR1.out (by have := HBR.out.size; simp; omega) (fun q hq => (HOW.out.lt q hq).1))⟩
          rw [ints_succ, Wd_low _ _ (by have := HT.out; omega)]
          exact HOW1.out
        case measure => simp [intOf]; omega
    · have hk16 : k = 16 := by have := HT.out; omega
      have ht64 : ¬ (t : Int) < 64 := by omega
      clear ht
      go_wp2_with fail
      go_loopw [4, 6] (fun v i wq => ∃ m : Nat, 16 ≤ m ∧ m ≤ 64 ∧ i = .int .i64 m ∧ wq.ownsRow w.heap.size 3 1 v m (ints (mw s) m) ∧ Below w.heap.size w wq) (fun _ i _ => 64 - (intOf i).toNat)
      case atStart => exact ⟨16, by omega, by omega, rfl, by have h := HOW.out; rw [hk16] at h; exact h, HBR.out⟩
      case round =>
        obtain ⟨m, hm1, hm2, rfl, hownm, hbm⟩ := hrel
        obtain ⟨g, c, rfl, hgb, hgl⟩ := hownm.form (by omega)
        have HOM := Lib.hid hownm
        have HBM := Lib.hid hbm
        by_cases hlm : m < 64
        · have x15 : (wr.cell? ⟨g, m - 15, none⟩) = some (.int .i64 (U (Wd (mw s) (m - 15)))) := (hownm.cellAt (m - 15) (by omega)).trans (ints_get _ _ _ (by omega))
          have x2 : (wr.cell? ⟨g, m - 2, none⟩) = some (.int .i64 (U (Wd (mw s) (m - 2)))) := (hownm.cellAt (m - 2) (by omega)).trans (ints_get _ _ _ (by omega))
          have x16 : (wr.cell? ⟨g, m - 16, none⟩) = some (.int .i64 (U (Wd (mw s) (m - 16)))) := (hownm.cellAt (m - 16) (by omega)).trans (ints_get _ _ _ (by omega))
          have x7 : (wr.cell? ⟨g, m - 7, none⟩) = some (.int .i64 (U (Wd (mw s) (m - 7)))) := (hownm.cellAt (m - 7) (by omega)).trans (ints_get _ _ _ (by omega))
          have y15 : wrap64 ((m : Int) - 15) = ((m - 15 : Nat) : Int) := by unfold wrap64; omega
          have y2 : wrap64 ((m : Int) - 2) = ((m - 2 : Nat) : Int) := by unfold wrap64; omega
          have y16 : IntKind.i64.wrap ((m : Int) - 16) = ((m - 16 : Nat) : Int) := by rw [IntWalk.i64_left]; unfold wrap64; omega
          have y7 : IntKind.i64.wrap ((m : Int) - 7) = ((m - 7 : Nat) : Int) := by rw [IntWalk.i64_left]; unfold wrap64; omega
          have z15 : m - 15 < m := by omega
          have z2 : m - 2 < m := by omega
          have z16 : m - 16 < m := by omega
          have z7 : m - 7 < m := by omega
          have i1 : (m : Int) < 64 := by omega
          have q3 : U (Wd (mw s) (m - 15)) / (8 : Int) = U (Wd (mw s) (m - 15) >>> 3) := by have h := shr (Wd (mw s) (m - 15)) 3; simpa using h
          have q10 : U (Wd (mw s) (m - 2)) / (1024 : Int) = U (Wd (mw s) (m - 2) >>> 10) := by have h := shr (Wd (mw s) (m - 2)) 10; simpa using h
          clear hownm hbm
          go_wp2_with (first
            | (go_at_call_of 68 (Value.int .i64 7); refine (turn_7 _ _).mono ?_; rintro en w' ⟨rfl, n1, rfl⟩)
            | (go_at_call_of 68 (Value.int .i64 18); refine (turn_18 _ _).mono ?_; rintro en w' ⟨rfl, n2, rfl⟩)
            | (go_at_call_of 68 (Value.int .i64 17); refine (turn_17 _ _).mono ?_; rintro en w' ⟨rfl, n3, rfl⟩)
            | (go_at_call_of 68 (Value.int .i64 19); refine (turn_19 _ _).mono ?_; rintro en w' ⟨rfl, n4, rfl⟩)
            | (go_at_call 67; refine (xor_any _ _ _ _).mono ?_; rintro en w' ⟨rfl, rfl⟩))
          have hWd : Wd (mw s) m = Wd (mw s) (m - 16) + (((Wd (mw s) (m - 15)).rotateRight 7 ^^^ (Wd (mw s) (m - 15)).rotateRight 18 ^^^ Wd (mw s) (m - 15) >>> 3) + Wd (mw s) (m - 7) + ((Wd (mw s) (m - 2)).rotateRight 17 ^^^ (Wd (mw s) (m - 2)).rotateRight 19 ^^^ Wd (mw s) (m - 2) >>> 10)) := Wd_rec (mw s) m (by omega)
          have x16' : (wr.drewN (n1 + n2 + n3 + n4)).cell? ⟨g, m - 16, none⟩ = some (.int .i64 (U (Wd (mw s) (m - 16)))) := x16
          have x7' : (wr.drewN (n1 + n2 + n3 + n4)).cell? ⟨g, m - 7, none⟩ = some (.int .i64 (U (Wd (mw s) (m - 7)))) := x7
          have HOM2 : Hid ((wr.drewN (n1 + n2 + n3 + n4)).ownsRow w.heap.size 3 1 (.slice (some ⟨g, 0, none⟩) m c) m (ints (mw s) m)) := Lib.hid HOM.out
          have HBM2 := Lib.hid (below_drewN HBM.out (n1 + n2 + n3 + n4))
          clear x16 x7 x15 x2 q3 q10 y15 y2 z15 z2 HOM HBM
          generalize wr.drewN (n1 + n2 + n3 + n4) = w2 at *
          generalize ((Wd (mw s) (m - 15)).rotateRight 7 ^^^ (Wd (mw s) (m - 15)).rotateRight 18 ^^^ Wd (mw s) (m - 15) >>> 3) = s0 at *
          generalize ((Wd (mw s) (m - 2)).rotateRight 17 ^^^ (Wd (mw s) (m - 2)).rotateRight 19 ^^^ Wd (mw s) (m - 2) >>> 10) = s1 at *
          have HV : Hid ((IntKind.i64.wrap (IntKind.i64.wrap (IntKind.i64.wrap (U (Wd (mw s) (m - 16)) + U s0) + U (Wd (mw s) (m - 7))) + U s1)).tmod 4294967296 = U (Wd (mw s) m)) := Lib.hid (by
            rw [hWd]; exact sum4 _ _ _ _)
          clear hWd
          go_region_law (first
            | (refine step_append_lies _ rfl (.tmp 74) (.tmp 91) 79 rfl w.heap.size 3 i0 (.int .i64 0) 1 8 Tryd.underlying79 hi hz0 hz1 hz2 rfl (by decide) (.slice (some ⟨g, 0, none⟩) m c) m (ints (mw s) m) (by simp [Act.eval]) (HOM2.out.alloc _).drew ⟨w2.heap.size, 0, none⟩ 1 1 [.int .i64 ((IntKind.i64.wrap (IntKind.i64.wrap (IntKind.i64.wrap (U (Wd (mw s) (m - 16)) + U s0) + U (Wd (mw s) (m - 7))) + U s1)).tmod 4294967296)] (by simp [Act.eval]) rfl (fun j u hu => news_at w2 [.int .i64 ((IntKind.i64.wrap (IntKind.i64.wrap (IntKind.i64.wrap (U (Wd (mw s) (m - 16)) + U s0) + U (Wd (mw s) (m - 7))) + U s1)).tmod 4294967296)] 3 j u hu) (by intro u hu; simp at hu; subst hu; rfl) (by decide) (by unfold maxLen; omega) (by omega) (by have := HBM2.out.size; simp; omega) _ rfl ?_; intro g1 cap w1 hown1 hgrow1 hor hlt1; rw [HV.out] at hown1; have HOW1 := Lib.hid hown1; have HGR1 := Lib.hid hgrow1; clear hown1 hgrow1 hor hlt1))
          all_goals
            go_wp2
            have key : ∀ i : Value, i = .int .i64 ((m + 1 : Nat) : Int) → ∃ m' : Nat, 16 ≤ m' ∧ m' ≤ 64 ∧ i = .int .i64 m' ∧ w1.ownsRow w.heap.size 3 1 (.slice (some ⟨g1, 0, none⟩) (m + 1) cap) m' (ints (mw s) m') ∧ Below w.heap.size w w1 := by
              intro i hi
              refine ⟨m + 1, by omega, by omega, hi, ?_, HBM2.out.trans (((Below.refl _ w2).alloc HBM2.out.size _).drew.grown HGR1.out (by have := HBM2.out.size; simp; omega) (fun q hq => (HOM2.out.lt q hq).1))⟩
              rw [ints_succ]
              exact HOW1.out
            go_roundw
            case rel => first | exact key _ (by go_num) | ((repeat apply Exists.intro); exact ⟨key _ (by go_num), rfl⟩)
            case measure => simp [intOf]; omega
        · obtain rfl : m = 64 := by omega
          have hcs : ∀ j, j < 64 → wr.cell? ⟨g, j, none⟩ = some (.int .i64 (U (Wd (mw s) j))) := fun j hj => (hownm.cellAt j (by omega)).trans (ints_get _ _ _ (by omega))
          have HCS := Lib.hid hcs
          have HBM := Lib.hid hbm
          clear hownm hbm hcs
          go_wp2
          refine bodyPost_ret (v := .tuple #[.slice (some ⟨g, 0, none⟩) 64 c, .int .i64 0]) ?_ rfl ?_
          · simp [results, Tryd.results52, go_sem]
          · exact ⟨g, c, rfl, hgb, hgl, HCS.out, HBM.out⟩
end Go.Proofs.YthojdcmkajmdjaaDoor
