/- The package's schedule answers as the arithmetic of words says, and with its error for a block of another length. Conditions: the variables lie as the initialisation lays them. -/
import Derived.Test.YtohekmioeifpfaaDoorRows
import Derived.Test.YtohekmioeifpfaaDoorApi
import Derived.Test.YtohekmioeifpfaaDoorSched
import Derived.WalkKit
import Derived.WalkLawsBesides
import Derived.WalkSpells
import Derived.Outline
import Derived.OwnWalk
import Derived.Deep.MidRow
import Derived.Lib.Hide
import Derived.Deep.QuietTactic
import Derived.BigQuiet
import Derived.Deep.RegionHeld3
import Derived.Deep.RegionWith
import Derived.Deep.DrawnRows
import Derived.RegionTactic
import Derived.ChangeAlike
namespace Go.Proofs.YtohekmioeifpfaaDoor
open Go.RowKit
open Rd
attribute [local go_sem] mod_U wrap64_U

theorem info3i : (Tryd.prog.info? 3).map (fun i => (i.zero, i.size, i.bytes)) = some (some (.int .i64 0), 1, 8) := by kernel_rfl
/-- the first k words, as ints -/
def ints (m : Nat → BitVec 32) (k : Nat) : List Value := (List.range k).map fun j => .int .i64 (U (Wd m j))
theorem ints_succ (m : Nat → BitVec 32) (k : Nat) : ints m (k + 1) = ints m k ++ [.int .i64 (U (Wd m k))] := by simp [ints, List.range_succ]
theorem ints_get (m : Nat → BitVec 32) (k j : Nat) (h : j < k) : (ints m k)[j]? = some (.int .i64 (U (Wd m j))) := by simp [ints, h]
/-- what 'Schedule' leaves: a new list of the words, and no error -/
def SchedPost (m : Nat → BitVec 32) (w : World) (e : Ending) (w' : World) : Prop :=
  ∃ G, e = .returned (.tuple #[.slice (some ⟨G, 0, none⟩) 64 64, .int .i64 0]) ∧ w.heap.size ≤ G ∧ G < w'.heap.size ∧ (∀ j, j < 64 → w'.cell? ⟨G, j, none⟩ = some (.int .i64 (U (Wd m j)))) ∧ Below w.heap.size w w'
set_option maxRecDepth 100000 in
set_option maxHeartbeats 1000000 in
theorem Schedule_ok (s : ByteArray) (hs : s.size = 64) (w : World) :
    Calls Tryd.prog 11 #[.string s] w (SchedPost (mw s) w) := by
  obtain ⟨i0, hi, hz0, hz1, hz2⟩ := info_parts info3i
  have hb2 : i0.bytes * 64 ≤ 281474976710656 := by rw [hz2]; omega
  have hb3 : 64 ≤ maxLen := by unfold maxLen; omega
  have HS := Lib.hid hs
  clear hs
  go_enter Tryd.func11, Tryd.ntmps11
  go_wp2_with (first
    | (go_at_call 22; refine (checkBlock_ok s HS.out _).mono ?_; rintro e w' ⟨rfl, rfl⟩)
    | (at_make; refine wpList_make_own _ rfl _ _ 26 rfl w.heap.size 3 i0 (.int .i64 0) 1 Tryd.underlying26 hi hz0 hz1 .i64 .i64 64 64 rfl rfl rfl hb2 hb3 (Nat.le_refl _) ?_; intro w1 hown hgrow; have hB1 := (Below.refl w.heap.size w).grown hgrow (Nat.le_refl _) (by simp); have HO := Lib.hid hown; have HB := Lib.hid hB1; have HG := Lib.hid hgrow; clear hown hgrow hB1)
    | (go_at_call 24; refine (sched_any s HS.out _).mono ?_; rintro e w2 ⟨rfl, hb2'⟩; have HB2 := Lib.hid hb2'; clear hb2'))
  have hg2 : w1.grownBy w2 none := ⟨HB2.out.os, HB2.out.tape, HB2.out.output, HB2.out.size, fun k hk _ => HB2.out.block k hk⟩
  have hown2 := HO.out.kept hg2 (Or.inr (by simp [Value.ownBlock]))
  have hlt2 := (hown2.lt w.heap.size rfl).2
  have hB2 := HB.out.trans (HB2.out.mono HB.out.size)
  have HO2 := Lib.hid hown2
  have HBB := Lib.hid hB2
  clear hg2 hown2 hB2 HO HB HG HB2
  go_loopw [5, 17] (fun v i wr => ∃ k : Nat, k ≤ 64 ∧ i = .int .i64 k ∧ v = .slice (some ⟨w.heap.size, 0, none⟩) k 64 ∧ wr.ownsRow w.heap.size 3 1 v k (ints (mw s) k) ∧ Below w.heap.size w wr ∧ w.heap.size < wr.heap.size) (fun _ i _ => 64 - (intOf i).toNat)
  case atStart => exact ⟨0, by omega, rfl, rfl, HO2.out, HBB.out, hlt2⟩
  case round =>
    obtain ⟨k, hk, rfl, rfl, hown, hb, hlt⟩ := hrel
    by_cases h8 : k < 64
    · have hix := run_index_words 49 64 Tryd.underlying49 _ k _ h8 (schA_get (mw s) k h8) wr
      have i1 : (k : Int) < 64 := by omega
      have hroom : k + 1 ≤ 64 := by omega
      have hnews := news_at wr [.int .i64 (U (Wd (mw s) k))] 3
      have hone : ∀ u ∈ [Value.int .i64 (U (Wd (mw s) k))], u.oneCell' = true := by
        intro u hu; simp only [List.mem_singleton] at hu; subst hu; rfl
      have HOW := Lib.hid hown
      have HBW := Lib.hid hb
      have HN := Lib.hid hnews
      have H1 := Lib.hid hone
      clear hown hb hnews hone
      go_wp2_with (at_builtin; refine wpList_append_fits _ rfl _ _ 26 rfl w.heap.size 3 i0 1 Tryd.underlying26 hi hz1 w.heap.size k 64 (ints (mw s) k) rfl (HOW.out.alloc _) ⟨wr.heap.size, 0, none⟩ 1 1 [.int .i64 (U (Wd (mw s) k))] rfl rfl HN.out H1.out hroom ?_; intro w3 hown3 hgrow3)
      go_roundw
      case rel =>
        refine ⟨k + 1, by omega, by go_num, rfl, by rw [ints_succ]; exact hown3, HBW.out.trans ?_, ?_⟩
        · exact ((Below.refl w.heap.size wr).alloc (by omega) (.cells [Value.int .i64 (U (Wd (mw s) k))].toArray 3)).grown hgrow3 (by simp; omega) (by simp)
        · have h := hgrow3.size
          simp at h
          omega
      case measure => simp [intOf]; omega
    · obtain rfl : k = 64 := by omega
      have hcs := hown.cells (g := w.heap.size) rfl
      have HC : Hid (∀ j, j < 64 → wr.cell? ⟨w.heap.size, j, none⟩ = some (.int .i64 (U (Wd (mw s) j)))) := Lib.hid fun j hj => by
        have h := hcs j _ (ints_get (mw s) 64 j hj)
        rwa [Addr.add_mid, Nat.zero_add] at h
      have HBW := Lib.hid hb
      have HL := Lib.hid hlt
      clear hown hb hcs
      go_wp2
      go_ret2
      exact ⟨_, rfl, Nat.le_refl _, HL.out, HC.out, HBW.out⟩
set_option maxRecDepth 100000 in
theorem Schedule_bad (s : ByteArray) (hs : s.size ≠ 64) {a0 a1 : Addr} {B : Nat} (w : World) (E : Env a0 a1 B w) :
    Calls Tryd.prog 11 #[.string s] w fun e w' => e = .returned (.tuple #[.slice none 0 0, .int .i64 10]) ∧ w = w' := by
  have HS := Lib.hid hs
  have HE := Lib.hid E
  clear hs E
  go_enter Tryd.func11, Tryd.ntmps11
  go_wp2_with (first
    | (go_at_call 22; refine (checkBlock_bad s HS.out _ HE.out.laid).mono ?_; rintro e w' ⟨rfl, rfl⟩)
    | (go_at_call 23; refine (number_block _ HE.out.laid).mono ?_; rintro e w' ⟨rfl, rfl⟩))
  go_ret2
  exact ⟨rfl, rfl⟩
end Go.Proofs.YtohekmioeifpfaaDoor
