/- The statement's first fifteen calls, their texts cut at three hundred bytes, lie in a row of their own. Conditions: the list's cells. -/
import Derived.Test.YtjimpfcgcbbipaaDoorRefD
namespace Go.Proofs.YtjimpfcgcbbipaaDoor
open Go.ChangeShapes Go.WideShapes Go.ChangeAt Go.RowKit
open Rd
attribute [local go_sem ↓] Go.wp_at_zero Go.wp_at_succ
theorem info37 : (Tryd.prog.info? 37).map (fun i => (i.zero, i.size, i.bytes)) = some (some (.agg #[.int .i64 0, .string ⟨#[]⟩]), 2, 24) := by kernel_rfl
/-- the calls' cells, one behind the other -/
def opsL (Kd : Nat → Int) (Tx : Nat → ByteArray) (k : Nat) : List Value := (List.range k).flatMap fun j => [.int .i64 (Kd j), .string (cutB (Tx j))]
theorem opsL_succ (Kd : Nat → Int) (Tx : Nat → ByteArray) (k : Nat) : opsL Kd Tx (k + 1) = opsL Kd Tx k ++ [.int .i64 (Kd k), .string (cutB (Tx k))] := by
  simp [opsL, List.range_succ]
set_option maxRecDepth 100000 in
set_option maxHeartbeats 2000000 in
theorem Few_ok (a : Option Addr) (len cap : Nat) (Kd : Nat → Int) (Tx : Nat → ByteArray) (w : World)
    (hV : ∀ i, i < len → ∃ g o, a = some ⟨g, o, none⟩ ∧ g < w.heap.size ∧ w.cell? ⟨g, o + i * 2, none⟩ = some (.int .i64 (Kd i)) ∧ w.cell? ⟨g, o + i * 2 + 1, none⟩ = some (.string (Tx i))) :
    Calls Tryd.prog 16 #[.slice a len cap] w fun e w' => ∃ v n, e = .returned v ∧ n ≤ 15 ∧ w'.ownsRow w.heap.size 37 2 v n (opsL Kd Tx n) ∧ Below w.heap.size w w' := by
  obtain ⟨i0, hi, hz0, hz1, hz2⟩ := info_parts info37
  have HV := Lib.hid hV
  clear hV
  go_enter Tryd.func16, Tryd.ntmps16
  go_wp2_with fail
  go_loopw [3, 4] (fun v i wr => ∃ k : Nat, k ≤ 15 ∧ i = .int .i64 k ∧ wr.ownsRow w.heap.size 37 2 v k (opsL Kd Tx k) ∧ Below w.heap.size w wr) (fun _ i _ => 15 - (intOf i).toNat)
  case atStart => exact ⟨0, by omega, rfl, World.ownsRow_nil _ _ _ _, Below.refl _ _⟩
  case round =>
    obtain ⟨k, hk, rfl, hown, hbr⟩ := hrel
    have HOW := Lib.hid hown
    have HBR := Lib.hid hbr
    clear hown hbr
    by_cases hlt : k < len
    · have i1 : (k : Int) < (len : Int) := by omega
      by_cases hlt2 : k < 15
      · have i2 : (k : Int) < 15 := by omega
        obtain ⟨g, o, rfl, hg, hc0, hc1⟩ := HV.out k hlt
        have x0 := (HBR.out.cell (p := ⟨g, o + k * 2, none⟩) hg).trans hc0
        have x1 := (HBR.out.cell (p := ⟨g, o + k * 2 + 1, none⟩) hg).trans hc1
        obtain ⟨kd, hkd⟩ : ∃ z, Kd k = z := ⟨_, rfl⟩
        obtain ⟨tx, htx⟩ : ∃ z, Tx k = z := ⟨_, rfl⟩
        rw [hkd] at x0
        rw [htx] at x1
        obtain ⟨ct, hct⟩ : ∃ z, cutB tx = z := ⟨_, rfl⟩
        have hC := fun w => cut_any tx w
        rw [hct] at hC
        have HC := Lib.hid hC
        have HX : Hid (opsL Kd Tx (k + 1) = opsL Kd Tx k ++ [.int .i64 kd, .string ct]) := Lib.hid (by rw [opsL_succ, hkd, htx, hct])
        have hgw : g < wr.heap.size := Nat.lt_of_lt_of_le hg HBR.out.size
        clear hkd htx hct hC hc0 hc1
        go_wp2_with fail
        go_region_law (first
          | (refine step_append_lies _ rfl (.tmp 15) (.tmp 28) 29 rfl w.heap.size 37 i0 (.agg #[.int .i64 0, .string ⟨#[]⟩]) 2 24 Tryd.underlying29 hi hz0 hz1 hz2 rfl (by decide) u3 k (opsL Kd Tx k) (by simp [Act.eval]) (HOW.out.alloc _).drew ⟨wr.heap.size, 0, none⟩ 1 1 [.int .i64 kd, .string ct] (by simp [Act.eval]) rfl (fun j u hu => news_at wr [.int .i64 kd, .string ct] 37 j u hu) (by intro u hu; simp at hu; rcases hu with rfl | rfl <;> rfl) (by decide) (by unfold maxLen; omega) (by omega) (by have := HBR.out.size; simp; omega) _ rfl ?_; intro g1 cap1 w1 hown1 hgrow1 hor hlt1; have HOW1 := Lib.hid hown1; have HGR1 := Lib.hid hgrow1; clear hown1 hgrow1 hor hlt1)
          | (go_simp; refine (HC.out _).mono ?_; rintro e w' ⟨rfl, rfl⟩))
        all_goals
          go_wp2
          go_roundw
          case rel =>
            refine ⟨k + 1, by omega, by go_num, ?_, HBR.out.trans (((Below.refl _ wr).alloc HBR.out.size _).drew.grown HGR1.out (by have := HBR.out.size; simp; omega) (fun q hq => (HOW.out.lt q hq).1))⟩
            rw [HX.out]
            exact HOW1.out
          case measure => simp [intOf]; omega
      · have i2 : ¬ (k : Int) < 15 := by omega
        go_wp2
        go_ret
        exact ⟨_, rfl, k, hk, HOW.out, HBR.out⟩
    · have i1 : ¬ (k : Int) < (len : Int) := by omega
      go_wp2
      go_ret
      exact ⟨_, rfl, k, hk, HOW.out, HBR.out⟩
end Go.Proofs.YtjimpfcgcbbipaaDoor
