/- A node follows some rules if it follows each; the library tells where a number, a scalar of a list is first such. Conditions: the rules keep what lay. -/
import Derived.Test.YtfpcjdopfodfnaaGreatDoorArv
set_option maxRecDepth 100000
namespace Go.Proofs.YtfpcjdopfodfnaaGreatDoor
open Go.RowKit Go.Shelf
open Scs
/-- a function value that tells b of V -/
def RuleV (w : World) (V v : Value) (b : Bool) : Prop := ∃ g lb, v = .func (.func g) #[] lb ∧ (∀ args w, (callFunc g args).run Tryz.prog w = .ok (.enter g args) w) ∧
  ∀ W, Below w.heap.size w W → Calls Tryz.prog g (#[V] ++ lb) W fun e W' => e = .returned (.bool b) ∧ Below W.heap.size W W'
theorem RuleV.below {w w' : World} {V v : Value} {b : Bool} (h : RuleV w V v b) (hb : Below w.heap.size w w') : RuleV w' V v b := by
  obtain ⟨g, lb, hv, eg, hC⟩ := h
  exact ⟨g, lb, hv, eg, fun W hW => hC W (hb.trans (hW.mono hb.size))⟩
set_option maxHeartbeats 2000000 in
theorem follows_any (k a b : Int) (s : ByteArray) (pk : Option Addr) (nk ck : Nat) (pd : Option Addr) (nd cd : Nat) (n : Int) (br c : Nat) (bs : List Bool) (hl : bs.length ≤ 1000) (w : World) (hbr : br < w.heap.size)
    (hR : ∀ j (hj : j < bs.length), ∃ v, w.cell? ⟨br, j, none⟩ = some v ∧ RuleV w (.agg #[.int .i64 k, .int .i64 a, .int .i64 b, .string s, .slice pk nk ck, .slice pd nd cd, .int .i64 n]) v bs[j]) :
    Calls Tryz.prog 74 #[.agg #[.int .i64 k, .int .i64 a, .int .i64 b, .string s, .slice pk nk ck, .slice pd nd cd, .int .i64 n], .slice (some ⟨br, 0, none⟩) bs.length c] w fun e w' => e = .returned (.bool (bs.all id)) ∧ Below w.heap.size w w' := by
  have HR := Lib.hid hR
  clear hR
  obtain ⟨m, hm⟩ : ∃ m, bs.length = m := ⟨_, rfl⟩
  have HM := Lib.hid hm
  have hl2 : m ≤ 1000 := by omega
  rw [hm]
  clear hm hl
  go_enter Tryz.func74, Tryz.ntmps74
  go_wp2_with fail
  go_loopw [6, 9] (fun _ i wr => ∃ j : Nat, j ≤ m ∧ i = .int .i64 j ∧ (∀ t (ht : t < bs.length), t < j → bs[t] = true) ∧ wr.heap[w.heap.size]? = some (.cells #[.int .i64 k, .int .i64 a, .int .i64 b, .string s, .slice pk nk ck, .slice pd nd cd, .int .i64 n] 58 (0, 0)) ∧ Below w.heap.size w wr) (fun _ i _ => m - (intOf i).toNat)
  case atStart => exact ⟨0, Nat.zero_le _, rfl, fun t _ h => absurd h (Nat.not_lt_zero _), heap_alloc_new w _, (Below.refl _ _).alloc (Nat.le_refl _) _⟩
  case round =>
    obtain ⟨j, hj, rfl, hok, hx, hbw⟩ := hrel
    have HOK := Lib.hid hok
    have HX := Lib.hid hx
    have HBW := Lib.hid hbw
    clear hok hx hbw
    by_cases hlt : j < m
    · obtain ⟨v, hv, g, lb, rfl, eg, hC⟩ := HR.out j (by rw [HM.out]; exact hlt)
      have hv2 := (HBW.out.cell (p := ⟨br, j, none⟩) hbr).trans hv
      obtain ⟨f, hf⟩ : ∃ f, bs[j]'(by rw [HM.out]; exact hlt) = f := ⟨_, rfl⟩
      rw [hf] at hC
      have hC2 := hC wr HBW.out
      have HF := Lib.hid hf
      have HC := Lib.hid hC2
      have p0 : wr.cell? ⟨w.heap.size, 0, none⟩ = some (.int .i64 k) := cell_of_row _ _ 0 _ _ _ HX.out
      have p1 : wr.cell? ⟨w.heap.size, 1, none⟩ = some (.int .i64 a) := cell_of_row _ _ 1 _ _ _ HX.out
      have p2 : wr.cell? ⟨w.heap.size, 2, none⟩ = some (.int .i64 b) := cell_of_row _ _ 2 _ _ _ HX.out
      have p3 : wr.cell? ⟨w.heap.size, 3, none⟩ = some (.string s) := cell_of_row _ _ 3 _ _ _ HX.out
      have p4 : wr.cell? ⟨w.heap.size, 4, none⟩ = some (.slice pk nk ck) := cell_of_row _ _ 4 _ _ _ HX.out
      have p5 : wr.cell? ⟨w.heap.size, 5, none⟩ = some (.slice pd nd cd) := cell_of_row _ _ 5 _ _ _ HX.out
      have p6 : wr.cell? ⟨w.heap.size, 6, none⟩ = some (.int .i64 n) := cell_of_row _ _ 6 _ _ _ HX.out
      clear hC hC2 hf hv
      cases f
      · go_wp2_with fail
        refine HC.out.mono ?_
        rintro e w5 ⟨rfl, hb5⟩
        have HB5 := Lib.hid (HBW.out.trans (hb5.mono HBW.out.size))
        clear hb5
        go_wp2_with fail
        go_ret
        refine ⟨ret_bool ?_, HB5.out⟩
        symm
        rw [List.all_eq_false]
        exact ⟨bs[j]'(by rw [HM.out]; exact hlt), List.getElem_mem _, by rw [HF.out]; decide⟩
      · go_wp2_with fail
        refine HC.out.mono ?_
        rintro e w5 ⟨rfl, hb5⟩
        have hx5 := (hb5.block w.heap.size (Array.getElem?_eq_some_iff.1 HX.out).1).trans HX.out
        have HX5 := Lib.hid hx5
        have HB5 := Lib.hid (HBW.out.trans (hb5.mono HBW.out.size))
        clear hb5 hx5
        go_wp2_with fail
        go_roundw
        case rel =>
          refine ⟨j + 1, by omega, by go_num, fun t ht hlt2 => ?_, HX5.out, HB5.out⟩
          rcases Nat.lt_or_ge t j with h | h
          · exact HOK.out t ht h
          · obtain rfl : t = j := by omega
            exact HF.out
        case measure => simp [intOf]; omega
    · go_wp2_with fail
      go_ret
      refine ⟨ret_bool ?_, HBW.out⟩
      symm
      rw [List.all_eq_true]
      intro z hz
      obtain ⟨t, ht, rfl⟩ := List.getElem_of_mem hz
      exact HOK.out t ht (by have := HM.out; omega)
end Go.Proofs.YtfpcjdopfodfnaaGreatDoor
