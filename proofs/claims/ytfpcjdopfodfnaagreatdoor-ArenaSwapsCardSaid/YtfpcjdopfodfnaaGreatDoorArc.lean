/- The library tells whether one of some numbers, of some scalars is such. Conditions: what tells it keeps what lay. -/
import Derived.Test.YtfpcjdopfodfnaaGreatDoorArf
set_option maxRecDepth 100000
namespace Go.Proofs.YtfpcjdopfodfnaaGreatDoor
open Go.RowKit Go.Shelf
open Scs
theorem any_take_snoc {α : Type} [Inhabited α] (l : Array α) (p : α → Bool) (j : Nat) (hj : j < l.size) : (l.toList.take (j + 1)).any p = ((l.toList.take j).any p || p l[j]!) := by
  rw [List.take_add_one, Array.getElem?_toList, Array.getElem?_eq_getElem hj, getElem!_pos l j hj]
  simp
theorem any_of_take {α : Type} {l : List α} {p : α → Bool} {j : Nat} (h : (l.take j).any p = true) : l.any p = true := by
  rw [List.any_eq_true] at h ⊢
  obtain ⟨x, hx, hp⟩ := h
  exact ⟨x, List.mem_of_mem_take hx, hp⟩
set_option maxHeartbeats 2000000 in
theorem indexI_any (g : Nat) (lb : Array Value) (p : Int → Bool) (l : Array Int) (a : Option Addr) (c : Nat) (w : World) (hl : Il w a l) (eg : ∀ args w, (callFunc g args).run Tryz.prog w = .ok (.enter g args) w)
    (hC : ∀ W, Below w.heap.size w W → ∀ z, Calls Tryz.prog g (#[.int .i64 z] ++ lb) W fun e W' => e = .returned (.bool (p z)) ∧ Below W.heap.size W W') :
    Calls Tryz.prog 109 #[.slice a l.size c, .func (.func g) #[] lb] w fun e w' => (∃ m : Int, e = .returned (.int .i64 m) ∧ (0 ≤ m ↔ l.toList.any p = true)) ∧ Below w.heap.size w w' := by
  have hsm := hl.small
  have HL := Lib.hid hl
  have HC := Lib.hid hC
  have hgs := fun j h => any_take_snoc l p j h
  have htk : l.toList.take l.size = l.toList := List.take_length
  obtain ⟨m, hm⟩ : ∃ m, l.size = m := ⟨_, rfl⟩
  have HM := Lib.hid hm
  rw [hm] at hsm hgs htk ⊢
  obtain ⟨R, hR⟩ : ∃ R, l.toList.any p = R := ⟨_, rfl⟩
  have HRR := Lib.hid hR
  rw [hR]
  clear hR
  have HGS := Lib.hid hgs
  have HTK := Lib.hid htk
  clear hl hC hm hgs htk
  go_enter Tryz.func109, Tryz.ntmps109
  go_wp2_with fail
  go_loopw [5, 8] (fun _ i wr => ∃ j : Nat, j ≤ m ∧ i = .int .i64 j ∧ (l.toList.take j).any p = false ∧ Below w.heap.size w wr) (fun _ i _ => m - (intOf i).toNat)
  case atStart => exact ⟨0, Nat.zero_le _, rfl, rfl, Below.refl _ _⟩
  case round =>
    obtain ⟨j, hj, rfl, hok, hbw⟩ := hrel
    have HOK := Lib.hid hok
    have HBW := Lib.hid hbw
    clear hok hbw
    by_cases hlt : j < m
    · have i1 : (j : Int) < (m : Int) := by omega
      obtain ⟨blk, off, rfl, hbl, hc0⟩ := HL.out.at j (by rw [HM.out]; exact hlt)
      have x0 := (HBW.out.cell (p := ⟨blk, off + j, none⟩) hbl).trans hc0
      have hC2 := HC.out wr HBW.out l[j]!
      have hst := HGS.out j hlt
      obtain ⟨z, hz⟩ : ∃ z, l[j]! = z := ⟨_, rfl⟩
      rw [hz] at x0 hC2 hst
      have HC2 := Lib.hid hC2
      clear hC2 hz hc0
      cases hp : p z
      · rw [hp, HOK.out] at hst
        have HST := Lib.hid hst
        have hcc := HC2.out
        rw [hp] at hcc
        have HCC := Lib.hid hcc
        clear hst hp hcc
        go_wp2_with fail
        refine HCC.out.mono ?_
        rintro e w5 ⟨rfl, hb5⟩
        have HB5 := Lib.hid (HBW.out.trans (hb5.mono HBW.out.size))
        clear hb5 x0
        go_wp2_with fail
        go_roundw
        case rel => exact ⟨j + 1, by omega, by go_num, HST.out, HB5.out⟩
        case measure => simp [intOf]; omega
      · rw [hp, Bool.or_true] at hst
        have HST := Lib.hid hst
        have hcc := HC2.out
        rw [hp] at hcc
        have HCC := Lib.hid hcc
        clear hst hp hcc
        go_wp2_with fail
        refine HCC.out.mono ?_
        rintro e w5 ⟨rfl, hb5⟩
        have HB5 := Lib.hid (HBW.out.trans (hb5.mono HBW.out.size))
        clear hb5 x0
        go_wp2_with fail
        go_ret
        exact ⟨⟨_, rfl, ⟨fun _ => HRR.out ▸ any_of_take HST.out, fun _ => by omega⟩⟩, HB5.out⟩
    · have i1 : ¬ (j : Int) < (m : Int) := by omega
      obtain rfl : j = m := by omega
      have hf := HOK.out
      rw [HTK.out] at hf
      have HF := Lib.hid hf
      clear hf
      go_wp2_with fail
      go_ret
      exact ⟨⟨_, rfl, ⟨fun h => absurd h (by decide), fun h => by rw [← HRR.out, HF.out] at h; cases h⟩⟩, HBW.out⟩
theorem containsI_any (g : Nat) (lb : Array Value) (p : Int → Bool) (l : Array Int) (a : Option Addr) (c : Nat) (w : World) (hl : Il w a l) (eg : ∀ args w, (callFunc g args).run Tryz.prog w = .ok (.enter g args) w)
    (hC : ∀ W, Below w.heap.size w W → ∀ z, Calls Tryz.prog g (#[.int .i64 z] ++ lb) W fun e W' => e = .returned (.bool (p z)) ∧ Below W.heap.size W W') :
    Calls Tryz.prog 96 #[.slice a l.size c, .func (.func g) #[] lb] w fun e w' => e = .returned (.bool (l.toList.any p)) ∧ Below w.heap.size w w' := by
  have h := indexI_any g lb p l a c w hl eg hC
  have HH := Lib.hid h
  clear h hl hC
  go_enter Tryz.func96, Tryz.ntmps96
  go_wp2_with fail
  refine HH.out.mono ?_
  rintro e w5 ⟨⟨m, rfl, hm⟩, hb5⟩
  have HB5 := Lib.hid hb5
  have HM := Lib.hid hm
  clear hb5 hm
  go_wp2_with fail
  go_ret
  refine ⟨ret_bool ?_, HB5.out⟩
  rw [Bool.eq_iff_iff, ← HM.out]
  simp
set_option maxHeartbeats 2000000 in
theorem indexS_any (g : Nat) (lb : Array Value) (p : Sc → Bool) (l : Array Sc) (a : Option Addr) (c : Nat) (w : World) (hl : Sl w a l) (eg : ∀ args w, (callFunc g args).run Tryz.prog w = .ok (.enter g args) w)
    (hC : ∀ W, Below w.heap.size w W → ∀ j, j < l.size → Calls Tryz.prog g (#[aggS l[j]!] ++ lb) W fun e W' => e = .returned (.bool (p l[j]!)) ∧ Below W.heap.size W W') :
    Calls Tryz.prog 110 #[.slice a l.size c, .func (.func g) #[] lb] w fun e w' => (∃ m : Int, e = .returned (.int .i64 m) ∧ (0 ≤ m ↔ l.toList.any p = true)) ∧ Below w.heap.size w w' := by
  have hsm := hl.small
  have HL := Lib.hid hl
  have HC := Lib.hid hC
  have hgs := fun j h => any_take_snoc l p j h
  have htk : l.toList.take l.size = l.toList := List.take_length
  obtain ⟨m, hm⟩ : ∃ m, l.size = m := ⟨_, rfl⟩
  have HM := Lib.hid hm
  rw [hm] at hsm hgs htk ⊢
  obtain ⟨R, hR⟩ : ∃ R, l.toList.any p = R := ⟨_, rfl⟩
  have HRR := Lib.hid hR
  rw [hR]
  clear hR
  have HGS := Lib.hid hgs
  have HTK := Lib.hid htk
  clear hl hC hm hgs htk
  go_enter Tryz.func110, Tryz.ntmps110
  go_wp2_with fail
  go_loopw [5, 8] (fun _ i wr => ∃ j : Nat, j ≤ m ∧ i = .int .i64 j ∧ (l.toList.take j).any p = false ∧ Below w.heap.size w wr) (fun _ i _ => m - (intOf i).toNat)
  case atStart => exact ⟨0, Nat.zero_le _, rfl, rfl, Below.refl _ _⟩
  case round =>
    obtain ⟨j, hj, rfl, hok, hbw⟩ := hrel
    have HOK := Lib.hid hok
    have HBW := Lib.hid hbw
    clear hok hbw
    by_cases hlt : j < m
    · have i1 : (j : Int) < (m : Int) := by omega
      obtain ⟨blk, off, rfl, hbl, hc0, hc1, hc2⟩ := HL.out.at j (by rw [HM.out]; exact hlt)
      have x0 := (HBW.out.cell (p := ⟨blk, off + j * 3, none⟩) hbl).trans hc0
      have x1 := (HBW.out.cell (p := ⟨blk, off + j * 3 + 1, none⟩) hbl).trans hc1
      have x2 := (HBW.out.cell (p := ⟨blk, off + j * 3 + 2, none⟩) hbl).trans hc2
      have hC2 := HC.out wr HBW.out j (by rw [HM.out]; exact hlt)
      have hst := HGS.out j hlt
      obtain ⟨z, hz⟩ : ∃ z, l[j]! = z := ⟨_, rfl⟩
      rw [hz] at x0 x1 x2 hC2 hst
      unfold aggS at hC2
      have HC2 := Lib.hid hC2
      clear hC2 hz hc0 hc1 hc2
      cases hp : p z
      · rw [hp, HOK.out] at hst
        have HST := Lib.hid hst
        have hcc := HC2.out
        rw [hp] at hcc
        have HCC := Lib.hid hcc
        clear hst hp hcc
        go_wp2_with fail
        refine HCC.out.mono ?_
        rintro e w5 ⟨rfl, hb5⟩
        have HB5 := Lib.hid (HBW.out.trans (hb5.mono HBW.out.size))
        clear hb5 x0 x1 x2
        go_wp2_with fail
        go_roundw
        case rel => exact ⟨j + 1, by omega, by go_num, HST.out, HB5.out⟩
        case measure => simp [intOf]; omega
      · rw [hp, Bool.or_true] at hst
        have HST := Lib.hid hst
        have hcc := HC2.out
        rw [hp] at hcc
        have HCC := Lib.hid hcc
        clear hst hp hcc
        go_wp2_with fail
        refine HCC.out.mono ?_
        rintro e w5 ⟨rfl, hb5⟩
        have HB5 := Lib.hid (HBW.out.trans (hb5.mono HBW.out.size))
        clear hb5 x0 x1 x2
        go_wp2_with fail
        go_ret
        exact ⟨⟨_, rfl, ⟨fun _ => HRR.out ▸ any_of_take HST.out, fun _ => by omega⟩⟩, HB5.out⟩
    · have i1 : ¬ (j : Int) < (m : Int) := by omega
      obtain rfl : j = m := by omega
      have hf := HOK.out
      rw [HTK.out] at hf
      have HF := Lib.hid hf
      clear hf
      go_wp2_with fail
      go_ret
      exact ⟨⟨_, rfl, ⟨fun h => absurd h (by decide), fun h => by rw [← HRR.out, HF.out] at h; cases h⟩⟩, HBW.out⟩
theorem containsS_any (g : Nat) (lb : Array Value) (p : Sc → Bool) (l : Array Sc) (a : Option Addr) (c : Nat) (w : World) (hl : Sl w a l) (eg : ∀ args w, (callFunc g args).run Tryz.prog w = .ok (.enter g args) w)
    (hC : ∀ W, Below w.heap.size w W → ∀ j, j < l.size → Calls Tryz.prog g (#[aggS l[j]!] ++ lb) W fun e W' => e = .returned (.bool (p l[j]!)) ∧ Below W.heap.size W W') :
    Calls Tryz.prog 97 #[.slice a l.size c, .func (.func g) #[] lb] w fun e w' => e = .returned (.bool (l.toList.any p)) ∧ Below w.heap.size w w' := by
  have h := indexS_any g lb p l a c w hl eg hC
  have HH := Lib.hid h
  clear h hl hC
  go_enter Tryz.func97, Tryz.ntmps97
  go_wp2_with fail
  refine HH.out.mono ?_
  rintro e w5 ⟨⟨m, rfl, hm⟩, hb5⟩
  have HB5 := Lib.hid hb5
  have HM := Lib.hid hm
  clear hb5 hm
  go_wp2_with fail
  go_ret
  refine ⟨ret_bool ?_, HB5.out⟩
  rw [Bool.eq_iff_iff, ← HM.out]
  simp
end Go.Proofs.YtfpcjdopfodfnaaGreatDoor
