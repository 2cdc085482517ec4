/- The statements' first thirty scalars of a list, their texts cut, lie in a row of their own. Conditions: the list's cells. -/
import Derived.Test.YtkliecngkcjieaaGreatDoorBox
import Derived.Deep.AppendLies
set_option maxRecDepth 100000
namespace Go.Proofs.YtkliecngkcjieaaGreatDoor
open Go.RowKit Go.Shelf
open Scs
open Go.Sort (HoldsK)
/-- the scalars of a list, as far as one, cut -/
def fewL (X : Nat → Sc) (k : Nat) : List Sc := (List.range k).map fun j => cutS (X j)
theorem fewL_succ (X : Nat → Sc) (k : Nat) : fewL X (k + 1) = fewL X k ++ [cutS (X k)] := by simp [fewL, List.range_succ]
theorem fewL_len (X : Nat → Sc) (k : Nat) : (fewL X k).length = k := by simp [fewL]
theorem fewL_short (X : Nat → Sc) (k t : Nat) (ht : t < k) : ((fewL X k).toArray[t]!).2.2.size ≤ 100 := by
  have h : (fewL X k).toArray[t]! = cutS (X t) := by simp [fewL, ht]
  rw [h]
  exact cutT_size _
/-- a row that a slice owns, as a slice of scalars -/
theorem sl_own {W : World} {b n : Nat} {v : Value} {L : List Sc} (h : W.ownsRow b 23 3 v n (flatS L)) (hn : n = L.length) (hs : n ≤ 1000000) (hz : ∀ t, t < L.length → L.toArray[t]!.2.2.size ≤ 1000000) : ∃ p c, v = .slice p n c ∧ Sl W p L.toArray := by
  rcases h with ⟨ha, ⟨h1, h2⟩ | ⟨g, c', cur, hv, hbg, hg, hnc, hcm, hcs, htake⟩⟩
  · exact ⟨none, 0, by rw [h1, h2], by rw [List.size_toArray]; omega, by simpa using hz, .inl (by rw [List.size_toArray]; omega)⟩
  · refine ⟨_, _, hv, by rw [List.size_toArray]; omega, by simpa using hz, .inr ⟨g, 0, rfl, (Array.getElem?_eq_some_iff.1 hg).1, ?_⟩⟩
    exact holds_row (d := L.toArray) (b := b) (n := n) (c := c') ⟨ha, .inr ⟨g, c', cur, rfl, hbg, hg, hnc, hcm, hcs, htake⟩⟩ (by simpa using hn)
set_option maxHeartbeats 4000000 in
theorem Few_ok (a : Option Addr) (len cap : Nat) (X : Nat → Sc) (w : World)
    (hV : ∀ i, i < len → ∃ g o, a = some ⟨g, o, none⟩ ∧ g < w.heap.size ∧ w.cell? ⟨g, o + i * 3, none⟩ = some (.int .i64 (X i).1) ∧ w.cell? ⟨g, o + i * 3 + 1, none⟩ = some (.int .i64 (X i).2.1) ∧ w.cell? ⟨g, o + i * 3 + 2, none⟩ = some (.string (X i).2.2)) :
    Calls Tryz.prog 20 #[.slice a len cap] w fun e w' => ∃ v n, e = .returned v ∧ n ≤ 30 ∧ w'.ownsRow w.heap.size 23 3 v n (flatS (fewL X n)) ∧ Below w.heap.size w w' := by
  obtain ⟨i0, hi, hz0, hz1, hz2⟩ := info_parts info23
  have HV := Lib.hid hV
  clear hV
  go_enter Tryz.func20, Tryz.ntmps20
  go_wp2_with fail
  go_loopw [3, 4] (fun v i wr => ∃ k : Nat, k ≤ 30 ∧ i = .int .i64 k ∧ wr.ownsRow w.heap.size 23 3 v k (flatS (fewL X k)) ∧ Below w.heap.size w wr) (fun _ i _ => 30 - (intOf i).toNat)
  case atStart => exact ⟨0, by omega, rfl, World.ownsRow_nil _ _ _ _, Below.refl _ _⟩
  case round =>
    obtain ⟨k, hk, rfl, hown, hbr⟩ := hrel
    have HOW := Lib.hid hown
    have HBR := Lib.hid hbr
    clear hown hbr
    by_cases hlt : k < len
    · have i1 : (k : Int) < (len : Int) := by omega
      by_cases hlt2 : k < 30
      · have i2 : (k : Int) < 30 := by omega
        obtain ⟨g, o, rfl, hg, hc0, hc1, hc2⟩ := HV.out k hlt
        have x0 := (HBR.out.cell (p := ⟨g, o + k * 3, none⟩) hg).trans hc0
        have x1 := (HBR.out.cell (p := ⟨g, o + k * 3 + 1, none⟩) hg).trans hc1
        have x2 := (HBR.out.cell (p := ⟨g, o + k * 3 + 2, none⟩) hg).trans hc2
        have hC := fun w => Cut_any (X k) w
        have hXS := fewL_succ X k
        obtain ⟨x, hx⟩ : ∃ x, X k = x := ⟨_, rfl⟩
        rw [hx] at x0 x1 x2 hC hXS
        obtain ⟨y, hy⟩ : ∃ y, cutS x = y := ⟨_, rfl⟩
        rw [hy] at hC hXS
        unfold aggS at hC
        have HC := Lib.hid hC
        have HX := Lib.hid hXS
        have hgw : g < wr.heap.size := Nat.lt_of_lt_of_le hg HBR.out.size
        clear hx hy hC hXS hc0 hc1 hc2
        go_wp2_with fail
        refine (HC.out _).mono ?_
        rintro e w5 ⟨rfl, hb5⟩
        have HB5 := Lib.hid (HBR.out.trans (hb5.mono HBR.out.size))
        have hown5 : w5.ownsRow w.heap.size 23 3 u3 k (flatS (fewL X k)) := by
          rcases HOW.out with ⟨ha, h1 | ⟨g', c', cur, hv, hbg, hg2, hr2⟩⟩
          · exact ⟨ha, .inl h1⟩
          · exact ⟨ha, .inr ⟨g', c', cur, hv, hbg, (hb5.block g' (Array.getElem?_eq_some_iff.1 hg2).1).trans hg2, hr2⟩⟩
        have HOW5 := Lib.hid hown5
        clear hb5 hown5 x0 x1 x2
        go_wp2_with (first
          | (at_builtin
             refine wpList_append_lies _ rfl _ _ 34 rfl w.heap.size 23 i0 (.agg #[.int .i64 0, .int .i64 0, .string ⟨#[]⟩]) 3 32 Tryz.underlying34 hi hz0 hz1 hz2 rfl (by decide) _ _ _ rfl (HOW5.out.alloc _) ⟨w5.heap.size, 0, none⟩ 1 1 [.int .i64 y.1, .int .i64 y.2.1, .string y.2.2] rfl rfl (World.news_of_block (heap_alloc_new w5 _)) (by intro u hu; simp at hu; rcases hu with rfl | rfl | rfl <;> rfl) (by decide) (by unfold maxLen; omega) (by omega) (by have := HB5.out.size; simp; omega) _ rfl ?_
             intro g6 cap6 w6 hown6 hgr6 _ _
             have HOW6 := Lib.hid hown6
             have HGR6 := Lib.hid hgr6
             clear hown6 hgr6))
        go_roundw
        case rel =>
          refine ⟨k + 1, by omega, by go_num, ?_, ?_⟩
          · rw [HX.out, flatS_snoc]
            exact HOW6.out
          · refine ((HB5.out.alloc HB5.out.size _).grown HGR6.out (by have := HB5.out.size; simp; omega) fun q hq => ?_)
            rcases HOW5.out with ⟨_, ⟨h1, _⟩ | ⟨g', c', cur, hv, hbg, _⟩⟩
            · rw [h1] at hq; cases hq
            · rw [hv] at hq
              obtain rfl : g' = q := Option.some.inj hq
              exact hbg
        case measure => simp [intOf]; omega
      · have i2 : ¬ (k : Int) < 30 := by omega
        go_wp2
        go_ret
        exact ⟨_, rfl, k, hk, HOW.out, HBR.out⟩
    · have i1 : ¬ (k : Int) < (len : Int) := by omega
      go_wp2
      go_ret
      exact ⟨_, rfl, k, hk, HOW.out, HBR.out⟩
end Go.Proofs.YtkliecngkcjieaaGreatDoor
