/- A state to which another one's words are added, word by word, and what the calls of the package tell to the statement RoundsParts. Conditions: those of each rule. -/
import Derived.Test.YtohekmioeifpfaaDoorDoor
import Derived.Test.YtohekmioeifpfaaDoorShown
import Derived.Test.YtohekmioeifpfaaDoorLawLib
import Derived.Test.YtohekmioeifpfaaDoorTell
import Derived.Test.YtohekmioeifpfaaDoorCut
import Derived.StillTailTactics
import Derived.Deep.RegionHeld
import Derived.Deep.RegionWith
import Derived.Deep.DrawnRows
import Derived.Deep.DeepCutAuto
import Derived.Deep.QuietTactic
import Derived.BigQuiet
import Derived.WalkKit
import Derived.WalkLawsBesides
import Derived.WalkSpells
import Derived.Outline
import Derived.Lib.Hide
namespace Go.Proofs.YtohekmioeifpfaaDoor
open Go.ChangeShapes Go.WideShapes Go.ChangeAt Go.RowKit
open Go.ChangeMaps (open_string shut_string)
open Rd

attribute [local go_sem ↓] Go.wp_at_zero Go.wp_at_succ
/-- what a call of Compress is known to tell, in any world that is laid -/
def Tells15 (x0 x1 x2 x3 x4 x5 x6 x7 : Int) (b : ByteArray) (t0 t1 t2 t3 t4 t5 t6 t7 e : Int) : Prop :=
  ∀ (w : World), (∃ (a0 a1 : Addr) (B : Nat), Env a0 a1 B w) → Calls Tryd.prog 15 #[.agg #[.int .i64 x0, .int .i64 x1, .int .i64 x2, .int .i64 x3, .int .i64 x4, .int .i64 x5, .int .i64 x6, .int .i64 x7], .string b] w fun en w' => en = .returned (.tuple #[.agg #[.int .i64 t0, .int .i64 t1, .int .i64 t2, .int .i64 t3, .int .i64 t4, .int .i64 t5, .int .i64 t6, .int .i64 t7], .int .i64 e]) ∧ Below w.heap.size w w'
/-- what a call of Schedule is known to tell of its error, in any world that is laid -/
def Tells11 (b : ByteArray) (f : Int) : Prop :=
  ∀ (w : World), (∃ (a0 a1 : Addr) (B : Nat), Env a0 a1 B w) → Calls Tryd.prog 11 #[.string b] w fun en w' => ∃ v, en = .returned (.tuple #[v, .int .i64 f]) ∧ Below w.heap.size w w'
theorem sched_f (b : ByteArray) : ∃ f, Tells11 b f ∧ (f = 0 ↔ b.size = 64) ∧ (f = 10 ↔ b.size ≠ 64) := by
  by_cases h : b.size = 64
  · exact ⟨0, fun w _ => (Schedule_ok b h w).mono (fun _ _ ⟨G, he, _, _, _, hb⟩ => ⟨_, he, hb⟩), by simp [h], by simp [h]⟩
  · exact ⟨10, fun w ⟨_, _, _, E⟩ => (Schedule_bad b h w E).mono (fun _ _ ⟨he, hw⟩ => ⟨_, he, hw ▸ Below.refl _ _⟩), by simp [h], by simp [h]⟩

def mixV (t s : St) (k j : Nat) : Value := .int .i64 (if j < k then U ((t.add s).w j) else U (t.w j))
/-- the cells of the state to which k words have been added -/
def mixA (t s : St) (k : Nat) : Array Value := #[mixV t s k 0, mixV t s k 1, mixV t s k 2, mixV t s k 3, mixV t s k 4, mixV t s k 5, mixV t s k 6, mixV t s k 7]
theorem mixA_get (t s : St) (k : Nat) (h : k < 8) : (mixA t s k)[k]? = some (.int .i64 (U (t.w k))) := by
  rcases k with _ | _ | _ | _ | _ | _ | _ | _ | k <;> first | rfl | omega
theorem mixA_set (t s : St) (k : Nat) (h : k < 8) : (mixA t s k).setIfInBounds k (.int .i64 (U ((t.add s).w k))) = mixA t s (k + 1) := by
  rcases k with _ | _ | _ | _ | _ | _ | _ | _ | k <;> first | rfl | omega
theorem mixA_zero (t s : St) : mixA t s 0 = #[.int .i64 (U t.a), .int .i64 (U t.b), .int .i64 (U t.c), .int .i64 (U t.d), .int .i64 (U t.e), .int .i64 (U t.f), .int .i64 (U t.g), .int .i64 (U t.h)] := rfl
theorem mixA_all (t s : St) : mixA t s 8 = #[.int .i64 (U (t.add s).a), .int .i64 (U (t.add s).b), .int .i64 (U (t.add s).c), .int .i64 (U (t.add s).d), .int .i64 (U (t.add s).e), .int .i64 (U (t.add s).f), .int .i64 (U (t.add s).g), .int .i64 (U (t.add s).h)] := rfl
theorem stA_get (s : St) (k : Nat) (h : k < 8) : (#[.int .i64 (U s.a), .int .i64 (U s.b), .int .i64 (U s.c), .int .i64 (U s.d), .int .i64 (U s.e), .int .i64 (U s.f), .int .i64 (U s.g), .int .i64 (U s.h)] : Array Value)[k]? = some (.int .i64 (U (s.w k))) := by
  rcases k with _ | _ | _ | _ | _ | _ | _ | _ | k <;> first | rfl | omega
theorem add_w (t s : St) (k : Nat) (h : k < 8) : (t.add s).w k = t.w k + s.w k := by
  rcases k with _ | _ | _ | _ | _ | _ | _ | _ | k <;> first | rfl | omega
theorem stored8 (w1 : World) (g : Nat) (v0 v1 v2 v3 v4 v5 v6 v7 u0 u1 u2 u3 u4 u5 u6 u7 : Value) (h : w1.heap[g]? = some (.cells #[v0, v1, v2, v3, v4, v5, v6, v7] 23 (0, 0))) :
    ((((((((w1.setCell ⟨g, 0, none⟩ u0).setCell ⟨g, 1, none⟩ u1).setCell ⟨g, 2, none⟩ u2).setCell ⟨g, 3, none⟩ u3).setCell ⟨g, 4, none⟩ u4).setCell ⟨g, 5, none⟩ u5).setCell ⟨g, 6, none⟩ u6).setCell ⟨g, 7, none⟩ u7).heap[g]? = some (.cells #[u0, u1, u2, u3, u4, u5, u6, u7] 23 (0, 0)) := by
  have h0 := heap_setCell_same w1 g 0 _ _ u0 h
  have h1 := heap_setCell_same _ g 1 _ _ u1 h0
  have h2 := heap_setCell_same _ g 2 _ _ u2 h1
  have h3 := heap_setCell_same _ g 3 _ _ u3 h2
  have h4 := heap_setCell_same _ g 4 _ _ u4 h3
  have h5 := heap_setCell_same _ g 5 _ _ u5 h4
  have h6 := heap_setCell_same _ g 6 _ _ u6 h5
  have h7 := heap_setCell_same _ g 7 _ _ u7 h6
  have e : ((((((((#[v0, v1, v2, v3, v4, v5, v6, v7].setIfInBounds 0 u0).setIfInBounds 1 u1).setIfInBounds 2 u2).setIfInBounds 3 u3).setIfInBounds 4 u4).setIfInBounds 5 u5).setIfInBounds 6 u6).setIfInBounds 7 u7 : Array Value) = #[u0, u1, u2, u3, u4, u5, u6, u7] := by simp
  rw [e] at h7
  exact h7
theorem add_wrap (x y : BitVec 32) : (wrap64 (U x + U y)).tmod 4294967296 = U (x + y) := by
  have h1 := U_nonneg x; have h2 := U_lt x; have h3 := U_nonneg y; have h4 := U_lt y
  rw [show wrap64 (U x + U y) = U x + U y by unfold wrap64; omega]
  rw [Int.tmod_eq_emod_of_nonneg (by omega)]
  exact mod_add x y
set_option maxRecDepth 100000 in
set_option maxHeartbeats 1000000 in
theorem walkPartsBad (x0 x1 x2 x3 x4 x5 x6 x7 : Int) (b : ByteArray) (a : ByteArray) (e f g : Int) (h1 : Tells15 x0 x1 x2 x3 x4 x5 x6 x7 (cutB b) 0 0 0 0 0 0 0 0 e) (h2 : Tells11 (cutB b) f) (h3 : Tells17 x0 x1 x2 x3 x4 x5 x6 x7 a g) (hc : (e = 10 ∨ e = 11) ∧ (f = 10 ∨ f = 0 ∧ g = 11)) (w : World) {a0 a1 : Addr} {B : Nat} (E : Env a0 a1 B w) :
    Calls Tryd.prog 4 #[.agg #[.int .i64 x0, .int .i64 x1, .int .i64 x2, .int .i64 x3, .int .i64 x4, .int .i64 x5, .int .i64 x6, .int .i64 x7], .string b] w fun e w' => e = .returned (.bool true) ∧ Below w.heap.size w w' := by
  have HE := Lib.hid E
  have H1 := Lib.hid h1
  have H2 := Lib.hid h2
  have H3 := Lib.hid h3
  have HC := Lib.hid hc
  clear E h1 h2 h3 hc
  go_enter Tryd.func4, Tryd.ntmps4
  go_wp2_with fail
  refine (shown_any _ (HE.out.below' ((Below.refl _ _).alloc (Nat.le_refl _) _))).mono ?_
  rintro e w1 ⟨rfl, hb1⟩
  have hz1 := hb1.size
  simp only [World.size_alloc] at hz1
  have hbx := (hb1.block w.heap.size (by simp)).trans (heap_alloc_new w _)
  obtain ⟨⟨c0, c1, c2, c3, c4, c5, c6, c7⟩, _⟩ := eight hbx
  have HB1 := Lib.hid (((Below.refl _ w).alloc (Nat.le_refl _) _).trans (hb1.mono (by simp)))
  have HX := Lib.hid hbx
  clear hb1 hbx
  go_wp2_with fail
  refine (cut_any b _).mono ?_
  rintro e wc ⟨rfl, rfl⟩
  go_wp2_with fail
  refine (H1.out _ ⟨_, _, _, HE.out.below' HB1.out⟩).mono ?_
  rintro e w2 ⟨rfl, hb2⟩
  have hz2 := hb2.size
  have hbx2 := (hb2.block w.heap.size (by omega)).trans HX.out
  have HB2 := Lib.hid (HB1.out.trans (hb2.mono (by omega)))
  have HX2 := Lib.hid hbx2
  clear c0 c1 c2 c3 c4 c5 c6 c7
  obtain ⟨⟨c0, c1, c2, c3, c4, c5, c6, c7⟩, _⟩ := eight hbx2
  have hl2 : w.heap.size < w2.heap.size := by omega
  clear hb2 hbx2
  go_wp2_with fail
  refine (H2.out _ ⟨_, _, _, (HE.out.below' HB2.out).below' ((Below.refl _ _).alloc (Nat.le_refl _) _)⟩).mono ?_
  rintro en w3 ⟨v, rfl, hb3⟩
  have hz3 := hb3.size
  simp only [World.size_alloc] at hz3
  have ht3 := (hb3.block w2.heap.size (by simp)).trans (heap_alloc_new w2 _)
  have hs3 := ((hb3.block w.heap.size (by simp; omega)).trans (Below.heap_alloc _ _ _ (by omega))).trans HX2.out
  have HB3 := Lib.hid ((HB2.out.alloc (by omega) _).trans (hb3.mono (by simp; omega)))
  have HT3 := Lib.hid ht3
  have HS3 := Lib.hid hs3
  clear hb3 c0 c1 c2 c3 c4 c5 c6 c7
  obtain ⟨⟨c0, c1, c2, c3, c4, c5, c6, c7⟩, _⟩ := eight hs3
  clear ht3 hs3
  go_wp2_with fail
  refine (H3.out _ ⟨_, _, _, HE.out.below' HB3.out⟩).mono ?_
  rintro en w4 ⟨rfl, hb4⟩
  have hz4 := hb4.size
  have ht4 := (hb4.block w2.heap.size (by omega)).trans HT3.out
  have HB4 := Lib.hid (HB3.out.trans (hb4.mono (by omega)))
  clear c0 c1 c2 c3 c4 c5 c6 c7
  obtain ⟨⟨c0, c1, c2, c3, c4, c5, c6, c7⟩, _⟩ := eight ht4
  clear hb4 ht4
  have h8 := eq8 0 0 0 0 0 0 0 0 0 0 0 0 0 0 0 0 w4
  rcases HC.out with ⟨rfl | rfl, rfl | ⟨rfl, rfl⟩⟩
  all_goals
    go_wp2
    go_ret
    exact ⟨rfl, HB4.out⟩
end Go.Proofs.YtohekmioeifpfaaDoor
