/- What stands for a sign behind a backslash, and the sign that a letter stands for there, lie in maps. Conditions: none. A sign is put behind others as it stands between quotes. Conditions: the row is the call's own. -/
import Derived.Test.YtkliecngkcjieaaGreatDoorRnw
import Derived.Test.YtkliecngkcjieaaGreatDoorShf2
import Derived.Test.YtkliecngkcjieaaGreatDoorQuo
import Derived.Deep.AppendLies
import Derived.Shelf.RegionOpen
set_option maxRecDepth 100000
namespace Go.Proofs.YtkliecngkcjieaaGreatDoor
open Go.RowKit Go.Shelf
/-- entries, and what is met at a key -/
def entI : List (Int × Value) → Nat → List MapEntry
  | [], _ => []
  | (k, v) :: t, i => { key := .int .i32 k, val := v, born := i } :: entI t (i + 1)
def lookI (k : Int) : List (Int × Value) → Option Value
  | [] => none
  | (k', v) :: t => if k = k' then some v else lookI k t
theorem insI (T : TypeId) {e : TypeId} (w : World) (es : Array MapEntry) (c : Nat) (k : Int) (v : Value) (hT : Tryz.prog.underlying T = some (.map 21 e)) (h : Instr.findNow (.int .i32) (.int .i32 k) es.toList 0 = some none) :
    (Instr.mapUpdate T (.map (some w.heap.size)) (.int .i32 k) v).run Tryz.prog (w.alloc (.map es c)) = .ok () (w.alloc (.map (es.push { key := .int .i32 k, val := v, born := c }) (c + 1))) := by
  have hb : (w.alloc (.map es c)).heap[w.heap.size]? = some (.map es c) := heap_alloc_new w _
  have hc : (Instr.checkKey false 10000 21 (.int .i32 k)).run Tryz.prog (w.alloc (.map es c)) = .ok () (w.alloc (.map es c)) := MapKept.run_checkKey (k := .int .i32 k) Tryz.underlying21 (by simp [MapKept.IsKey]) false 9999
  simp [Instr.mapUpdate, run_underlying hT, MapKept.run_getObj_map hb, hc, MapKept.run_findKey Tryz.underlying21 h, MapKept.run_setObj_map _ hb, Result.andThen]
  exact set_new w _ _
theorem findNow_lookI (k : Int) : ∀ (ps : List (Int × Value)) (i j : Nat), (lookI k ps = none → Instr.findNow (.int .i32) (.int .i32 k) (entI ps i) j = some none) ∧
    (∀ v, lookI k ps = some v → ∃ m, Instr.findNow (.int .i32) (.int .i32 k) (entI ps i) j = some (some (m, v)))
  | [], _, _ => ⟨fun _ => rfl, fun _ h => by cases h⟩
  | (k', v) :: t, i, j => by
    obtain ⟨h1, h2⟩ := findNow_lookI k t (i + 1) (j + 1)
    unfold lookI
    by_cases h : k = k'
    · rw [if_pos h]
      refine ⟨(fun hh => by cases hh), (fun v' hv => ⟨j, ?_⟩)⟩
      cases hv
      simp [entI, Instr.findNow, Instr.sameNow, h]
    · rw [if_neg h]
      have hs : ∀ r, Instr.findNow (.int .i32) (.int .i32 k) (entI t (i + 1)) (j + 1) = r → Instr.findNow (.int .i32) (.int .i32 k) (entI ((k', v) :: t) i) j = r := fun r hr => by
        have hb : (k == k') = false := by simp [h]
        simp [entI, Instr.findNow, Instr.sameNow, hb, hr]
      exact ⟨fun hh => hs _ (h1 hh), fun v' hv => by obtain ⟨m, hm⟩ := h2 v' hv; exact ⟨m, hs _ hm⟩⟩
theorem lookupI (T e : TypeId) (z : Value) (w : World) (b c : Nat) (k : Int) (ps : List (Int × Value)) (hT : Tryz.prog.underlying T = some (.map 21 e)) (hz : (zeroValue e).run Tryz.prog w = .ok z w)
    (hb : w.heap[b]? = some (.map (entI ps 0).toArray c)) :
    (Instr.lookup T (.map (some b)) (.int .i32 k) true).run Tryz.prog w = .ok (.tuple #[(lookI k ps).getD z, .bool (lookI k ps).isSome]) w := by
  have hc : ∀ e, (Instr.checkKey e 10000 21 (.int .i32 k)).run Tryz.prog w = .ok () w := fun e => MapKept.run_checkKey (k := .int .i32 k) Tryz.underlying21 (by simp [MapKept.IsKey]) e 9999
  cases h : lookI k ps with
  | none =>
    have hf := (findNow_lookI k ps 0 0).1 h
    simp [Instr.lookup, run_underlying hT, MapKept.run_getObj_map hb, hc, MapKept.run_findKey (l := (entI ps 0).toArray.toList) Tryz.underlying21 hf, hz, Result.andThen]
  | some v =>
    obtain ⟨m, hf⟩ := (findNow_lookI k ps 0 0).2 v h
    simp [Instr.lookup, run_underlying hT, MapKept.run_getObj_map hb, hc, MapKept.run_findKey (l := (entI ps 0).toArray.toList) Tryz.underlying21 hf, Result.andThen]
def lettersP : List (Int × Value) := [(34, .int .u8 34), (92, .int .u8 92), (10, .int .u8 110), (9, .int .u8 116), (13, .int .u8 114)]
def signsP : List (Int × Value) := [(110, .int .i32 10), (116, .int .i32 9), (114, .int .i32 13), (48, .int .i32 0)]
set_option maxHeartbeats 1000000 in
theorem letters_any (w : World) : Calls Tryz.prog 102 #[] w fun e w' => e = .returned (.map (some w.heap.size)) ∧ w' = w.alloc (.map (entI lettersP 0).toArray 5) := by
  have hmm := @run_makeMap Tryz.prog
  have i0 : (Instr.mapUpdate 121 (.map (some w.heap.size)) (.int .i32 34) (.int .u8 34)).run Tryz.prog (w.alloc (.map #[] 0)) = .ok () (w.alloc (.map #[{ key := .int .i32 34, val := .int .u8 34, born := 0 }] 1)) := insI 121 w #[] 0 34 (.int .u8 34) Tryz.underlying121 (by kernel_rfl)
  have i1 : (Instr.mapUpdate 121 (.map (some w.heap.size)) (.int .i32 92) (.int .u8 92)).run Tryz.prog (w.alloc (.map #[{ key := .int .i32 34, val := .int .u8 34, born := 0 }] 1)) = .ok () (w.alloc (.map #[{ key := .int .i32 34, val := .int .u8 34, born := 0 }, { key := .int .i32 92, val := .int .u8 92, born := 1 }] 2)) := insI 121 w #[{ key := .int .i32 34, val := .int .u8 34, born := 0 }] 1 92 (.int .u8 92) Tryz.underlying121 (by kernel_rfl)
  have i2 : (Instr.mapUpdate 121 (.map (some w.heap.size)) (.int .i32 10) (.int .u8 110)).run Tryz.prog (w.alloc (.map #[{ key := .int .i32 34, val := .int .u8 34, born := 0 }, { key := .int .i32 92, val := .int .u8 92, born := 1 }] 2)) = .ok () (w.alloc (.map #[{ key := .int .i32 34, val := .int .u8 34, born := 0 }, { key := .int .i32 92, val := .int .u8 92, born := 1 }, { key := .int .i32 10, val := .int .u8 110, born := 2 }] 3)) := insI 121 w #[{ key := .int .i32 34, val := .int .u8 34, born := 0 }, { key := .int .i32 92, val := .int .u8 92, born := 1 }] 2 10 (.int .u8 110) Tryz.underlying121 (by kernel_rfl)
  have i3 : (Instr.mapUpdate 121 (.map (some w.heap.size)) (.int .i32 9) (.int .u8 116)).run Tryz.prog (w.alloc (.map #[{ key := .int .i32 34, val := .int .u8 34, born := 0 }, { key := .int .i32 92, val := .int .u8 92, born := 1 }, { key := .int .i32 10, val := .int .u8 110, born := 2 }] 3)) = .ok () (w.alloc (.map #[{ key := .int .i32 34, val := .int .u8 34, born := 0 }, { key := .int .i32 92, val := .int .u8 92, born := 1 }, { key := .int .i32 10, val := .int .u8 110, born := 2 }, { key := .int .i32 9, val := .int .u8 116, born := 3 }] 4)) := insI 121 w #[{ key := .int .i32 34, val := .int .u8 34, born := 0 }, { key := .int .i32 92, val := .int .u8 92, born := 1 }, { key := .int .i32 10, val := .int .u8 110, born := 2 }] 3 9 (.int .u8 116) Tryz.underlying121 (by kernel_rfl)
  have i4 : (Instr.mapUpdate 121 (.map (some w.heap.size)) (.int .i32 13) (.int .u8 114)).run Tryz.prog (w.alloc (.map #[{ key := .int .i32 34, val := .int .u8 34, born := 0 }, { key := .int .i32 92, val := .int .u8 92, born := 1 }, { key := .int .i32 10, val := .int .u8 110, born := 2 }, { key := .int .i32 9, val := .int .u8 116, born := 3 }] 4)) = .ok () (w.alloc (.map #[{ key := .int .i32 34, val := .int .u8 34, born := 0 }, { key := .int .i32 92, val := .int .u8 92, born := 1 }, { key := .int .i32 10, val := .int .u8 110, born := 2 }, { key := .int .i32 9, val := .int .u8 116, born := 3 }, { key := .int .i32 13, val := .int .u8 114, born := 4 }] 5)) := insI 121 w #[{ key := .int .i32 34, val := .int .u8 34, born := 0 }, { key := .int .i32 92, val := .int .u8 92, born := 1 }, { key := .int .i32 10, val := .int .u8 110, born := 2 }, { key := .int .i32 9, val := .int .u8 116, born := 3 }] 4 13 (.int .u8 114) Tryz.underlying121 (by kernel_rfl)
  go_enter Tryz.func102, Tryz.ntmps102
  go_wp2
  go_ret
  exact ⟨rfl, rfl⟩
set_option maxHeartbeats 1000000 in
theorem letS_any (w : World) : Calls Tryz.prog 111 #[] w fun e w' => e = .returned (.map (some w.heap.size)) ∧ w' = w.alloc (.map (entI signsP 0).toArray 4) := by
  have hmm := @run_makeMap Tryz.prog
  have i0 : (Instr.mapUpdate 143 (.map (some w.heap.size)) (.int .i32 110) (.int .i32 10)).run Tryz.prog (w.alloc (.map #[] 0)) = .ok () (w.alloc (.map #[{ key := .int .i32 110, val := .int .i32 10, born := 0 }] 1)) := insI 143 w #[] 0 110 (.int .i32 10) Tryz.underlying143 (by kernel_rfl)
  have i1 : (Instr.mapUpdate 143 (.map (some w.heap.size)) (.int .i32 116) (.int .i32 9)).run Tryz.prog (w.alloc (.map #[{ key := .int .i32 110, val := .int .i32 10, born := 0 }] 1)) = .ok () (w.alloc (.map #[{ key := .int .i32 110, val := .int .i32 10, born := 0 }, { key := .int .i32 116, val := .int .i32 9, born := 1 }] 2)) := insI 143 w #[{ key := .int .i32 110, val := .int .i32 10, born := 0 }] 1 116 (.int .i32 9) Tryz.underlying143 (by kernel_rfl)
  have i2 : (Instr.mapUpdate 143 (.map (some w.heap.size)) (.int .i32 114) (.int .i32 13)).run Tryz.prog (w.alloc (.map #[{ key := .int .i32 110, val := .int .i32 10, born := 0 }, { key := .int .i32 116, val := .int .i32 9, born := 1 }] 2)) = .ok () (w.alloc (.map #[{ key := .int .i32 110, val := .int .i32 10, born := 0 }, { key := .int .i32 116, val := .int .i32 9, born := 1 }, { key := .int .i32 114, val := .int .i32 13, born := 2 }] 3)) := insI 143 w #[{ key := .int .i32 110, val := .int .i32 10, born := 0 }, { key := .int .i32 116, val := .int .i32 9, born := 1 }] 2 114 (.int .i32 13) Tryz.underlying143 (by kernel_rfl)
  have i3 : (Instr.mapUpdate 143 (.map (some w.heap.size)) (.int .i32 48) (.int .i32 0)).run Tryz.prog (w.alloc (.map #[{ key := .int .i32 110, val := .int .i32 10, born := 0 }, { key := .int .i32 116, val := .int .i32 9, born := 1 }, { key := .int .i32 114, val := .int .i32 13, born := 2 }] 3)) = .ok () (w.alloc (.map #[{ key := .int .i32 110, val := .int .i32 10, born := 0 }, { key := .int .i32 116, val := .int .i32 9, born := 1 }, { key := .int .i32 114, val := .int .i32 13, born := 2 }, { key := .int .i32 48, val := .int .i32 0, born := 3 }] 4)) := insI 143 w #[{ key := .int .i32 110, val := .int .i32 10, born := 0 }, { key := .int .i32 116, val := .int .i32 9, born := 1 }, { key := .int .i32 114, val := .int .i32 13, born := 2 }] 3 48 (.int .i32 0) Tryz.underlying143 (by kernel_rfl)
  go_enter Tryz.func111, Tryz.ntmps111
  go_wp2
  go_ret
  exact ⟨rfl, rfl⟩
theorem look_letters (w : World) (b : Nat) (k : Int) (hb : w.heap[b]? = some (.map (entI lettersP 0).toArray 5)) :
    (Instr.lookup 121 (.map (some b)) (.int .i32 k) true).run Tryz.prog w = .ok (.tuple #[(lookI k lettersP).getD (.int .u8 0), .bool (lookI k lettersP).isSome]) w :=
  lookupI 121 5 (.int .u8 0) w b 5 k lettersP Tryz.underlying121 (by kernel_rfl) hb
theorem look_signs (w : World) (b : Nat) (k : Int) (hb : w.heap[b]? = some (.map (entI signsP 0).toArray 4)) :
    (Instr.lookup 143 (.map (some b)) (.int .i32 k) true).run Tryz.prog w = .ok (.tuple #[(lookI k signsP).getD (.int .i32 0), .bool (lookI k signsP).isSome]) w :=
  lookupI 143 21 (.int .i32 0) w b 4 k signsP Tryz.underlying143 (by kernel_rfl) hb
end Go.Proofs.YtkliecngkcjieaaGreatDoor

set_option maxRecDepth 100000
namespace Go.Proofs.YtkliecngkcjieaaGreatDoor
open Go.RowKit Go.Shelf
open Quo
theorem info5 : (Tryz.prog.info? 5).map (fun i => (i.zero, i.size, i.bytes)) = some (some (.int .u8 0), 1, 1) := by kernel_rfl
/-- bytes' cells -/
abbrev bc (l : List UInt8) : List Value := Go.Lib.byteCells l
theorem look_case (r : Int) (h0 : 0 ≤ r) : (lookI r lettersP = none ∧ (r < 128 → qr r = if r < 32 ∨ r = 127 then [92, 120, hexd (r.toNat / 16), hexd (r.toNat % 16)] else [r.toNat.toUInt8])) ∨ ∃ c : Nat, c < 256 ∧ lookI r lettersP = some (.int .u8 (c : Int)) ∧ qr r = [92, c.toUInt8] := by
  by_cases h1 : r = 34
  · subst h1; exact .inr ⟨34, by omega, rfl, rfl⟩
  by_cases h2 : r = 92
  · subst h2; exact .inr ⟨92, by omega, rfl, rfl⟩
  by_cases h3 : r = 10
  · subst h3; exact .inr ⟨110, by omega, rfl, rfl⟩
  by_cases h4 : r = 9
  · subst h4; exact .inr ⟨116, by omega, rfl, rfl⟩
  by_cases h5 : r = 13
  · subst h5; exact .inr ⟨114, by omega, rfl, rfl⟩
  refine .inl ⟨by simp [lookI, lettersP, h1, h2, h3, h4, h5], fun h => ?_⟩
  unfold qr
  rw [if_pos h]
  have e : (r.toNat.toUInt8).toNat = r.toNat := by simp; omega
  have en : ∀ n : UInt8, r ≠ n.toNat → ¬ r.toNat.toUInt8 = n := fun n hn he => by
    have := congrArg UInt8.toNat he
    rw [e] at this
    omega
  unfold qb
  rw [if_neg (en 34 h1), if_neg (en 92 h2), if_neg (en 10 h3), if_neg (en 9 h4), if_neg (en 13 h5), e]
  by_cases h6 : r < 32 ∨ r = 127
  · rw [if_pos h6, if_pos (by omega)]
  · rw [if_neg h6, if_neg (by omega)]
theorem plain_any (r : Int) (w : World) : Calls Tryz.prog 129 #[.int .i32 r] w fun e w' => e = .returned (.bool (decide (32 ≤ r ∧ r ≠ 127))) ∧ w = w' := by
  by_cases h1 : 32 ≤ r
  · by_cases h2 : r = 127
    · rw [decide_eq_false (by omega)]
      have h2' : (r != 127) = false := by simp [h2]
      go_enter Tryz.func129, Tryz.ntmps129
      go_wp2
      go_ret
      exact ⟨rfl, rfl⟩
    · rw [decide_eq_true (by omega)]
      have h2' : (r != 127) = true := by simp [h2]
      go_enter Tryz.func129, Tryz.ntmps129
      go_wp2
      go_ret
      exact ⟨rfl, rfl⟩
  · rw [decide_eq_false (by omega)]
    go_enter Tryz.func129, Tryz.ntmps129
    go_wp2
    go_ret
    exact ⟨rfl, rfl⟩
set_option maxHeartbeats 2000000 in
theorem appendQuoted_letter (B : Nat) (v : Value) (n : Nat) (xs : List Value) (r : Int) (c : Nat) (b : Nat) (w : World) (hown : w.ownsRow B 5 1 v n xs) (hn : n ≤ 1099511627776) (hB : B ≤ w.heap.size)
    (hm : w.heap[b]? = some (.map (entI lettersP 0).toArray 5)) (hc : c < 256) (hl : lookI r lettersP = some (.int .u8 (c : Int))) (hq : qr r = [92, c.toUInt8]) :
    Calls Tryz.prog 104 #[v, .int .i32 r, .map (some b)] w fun e w' => ∃ v', e = .returned v' ∧ w'.ownsRow B 5 1 v' (n + (qr r).length) (xs ++ bc (qr r)) ∧ ∃ o, (w.alloc o).grownBy w' v.ownBlock := by
  obtain ⟨i0, hi, hz0, hz1, hz2⟩ := info_parts info5
  have hlk := look_letters w b r hm
  rw [hl] at hlk
  simp only [Option.getD_some, Option.isSome_some] at hlk
  have hbc : bc (qr r) = [.int .u8 92, .int .u8 (c : Int)] := by
    rw [hq]
    simp [bc, Go.Lib.byteCells]
    omega
  have hlen : (qr r).length = 2 := by rw [hq]; rfl
  rw [hbc, hlen]
  have HM := Lib.hid hm
  have HOW := Lib.hid hown
  clear hm hl hq hbc hlen hown
  go_enter Tryz.func104, Tryz.ntmps104
  go_wp2_with (first
    | (at_builtin
       refine wpList_append_lies _ rfl _ _ 92 rfl B 5 i0 (.int .u8 0) 1 1 Tryz.underlying92 hi hz0 hz1 hz2 rfl (by decide) v n xs rfl (HOW.out.alloc _) ⟨w.heap.size, 0, none⟩ 2 2 [.int .u8 92, .int .u8 (c : Int)] rfl rfl (World.news_of_block (heap_alloc_new w _)) (by intro u hu; simp at hu; rcases hu with rfl | rfl <;> rfl) (by decide) (by unfold maxLen; omega) (by omega) (by simp; omega) _ rfl ?_
       intro g cap w' hown' hgr _ _))
  go_ret
  exact ⟨_, rfl, hown', _, hgr⟩
theorem qr_plain (r : Int) (h0 : 32 ≤ r) (h1 : r ≤ 1114111) (h2 : r ≠ 127) (hl : lookI r lettersP = none) : bc (qr r) = Go.Lib.runeCells r ∧ (qr r).length = (Go.Lib.runeCells r).length := by
  have e : qr r = Go.Lib.encodeRune r := by
    rcases look_case r (by omega) with ⟨_, h⟩ | ⟨c, _, h, _⟩
    · by_cases h128 : r < 128
      · rw [h h128, if_neg (by omega)]
        unfold Go.Lib.encodeRune
        rw [Go.Lib.encodeRuneZ_one (by omega) (by omega)]
        rfl
      · unfold qr
        rw [if_neg h128]
    · rw [hl] at h; cases h
  rw [e, Go.Lib.runeCells_length]
  exact ⟨Go.Lib.byteCells_encodeRune r, rfl⟩
set_option maxHeartbeats 2000000 in
theorem appendQuoted_plain (B : Nat) (v : Value) (n : Nat) (xs : List Value) (r : Int) (b : Nat) (w : World) (hown : w.ownsRow B 5 1 v n xs) (hn : n ≤ 1099511627776) (hB : B ≤ w.heap.size)
    (hm : w.heap[b]? = some (.map (entI lettersP 0).toArray 5)) (hl : lookI r lettersP = none) (h0 : 32 ≤ r) (h1 : r ≤ 1114111) (h2 : r ≠ 127) :
    Calls Tryz.prog 104 #[v, .int .i32 r, .map (some b)] w fun e w' => ∃ v', e = .returned v' ∧ w'.ownsRow B 5 1 v' (n + (qr r).length) (xs ++ bc (qr r)) ∧ ∃ o, (w.alloc o).grownBy w' v.ownBlock := by
  have hlk := look_letters w b r hm
  rw [hl] at hlk
  simp only [Option.getD_none, Option.isSome_none] at hlk
  obtain ⟨e1, e2⟩ := qr_plain r h0 h1 h2 hl
  have hP := fun w => plain_any r w
  rw [decide_eq_true ⟨h0, h2⟩] at hP
  have hA := Tryz.utf8_AppendRune_plain B v n xs r (by omega) (by omega) w hown (by omega) hB
  rw [e1, e2]
  have HP := Lib.hid hP
  have HA := Lib.hid hA
  clear hm hl e1 e2 hP hA hown
  go_enter Tryz.func104, Tryz.ntmps104
  go_wp2_with fail
  refine (HP.out _).mono ?_
  rintro e w' ⟨rfl, rfl⟩
  go_wp2_with fail
  refine HA.out.mono ?_
  rintro e w' ⟨v', rfl, hown', hgr⟩
  go_wp2_with fail
  go_ret
  exact ⟨_, rfl, hown', hgr⟩
abbrev hexS : ByteArray := ⟨#[48, 49, 50, 51, 52, 53, 54, 55, 56, 57, 97, 98, 99, 100, 101, 102]⟩
theorem hex_facts (r : Int) (h0 : 0 ≤ r) (h1 : r < 32 ∨ r = 127) :
    bits BinOp.and IntKind.i32 r 15 = r % 16 ∧ (∀ h, (hexS[(r / 16).toNat]'h).toNat = (hexd (r.toNat / 16)).toNat) ∧ (∀ h, (hexS[(r % 16).toNat]'h).toNat = (hexd (r.toNat % 16)).toNat) := by
  have h : r = 0 ∨ r = 1 ∨ r = 2 ∨ r = 3 ∨ r = 4 ∨ r = 5 ∨ r = 6 ∨ r = 7 ∨ r = 8 ∨ r = 9 ∨ r = 10 ∨ r = 11 ∨ r = 12 ∨ r = 13 ∨ r = 14 ∨ r = 15 ∨ r = 16 ∨ r = 17 ∨ r = 18 ∨ r = 19 ∨ r = 20 ∨ r = 21 ∨ r = 22 ∨ r = 23 ∨ r = 24 ∨ r = 25 ∨ r = 26 ∨ r = 27 ∨ r = 28 ∨ r = 29 ∨ r = 30 ∨ r = 31 ∨ r = 127 := by omega
  rcases h with rfl | rfl | rfl | rfl | rfl | rfl | rfl | rfl | rfl | rfl | rfl | rfl | rfl | rfl | rfl | rfl | rfl | rfl | rfl | rfl | rfl | rfl | rfl | rfl | rfl | rfl | rfl | rfl | rfl | rfl | rfl | rfl | rfl
  all_goals exact ⟨by decide +kernel, fun h => by rfl, fun h => by rfl⟩
set_option maxHeartbeats 4000000 in
theorem appendQuoted_hex (B : Nat) (v : Value) (n : Nat) (xs : List Value) (r : Int) (b : Nat) (w : World) (hown : w.ownsRow B 5 1 v n xs) (hn : n ≤ 1099511627776) (hB : B ≤ w.heap.size)
    (hm : w.heap[b]? = some (.map (entI lettersP 0).toArray 5)) (hl : lookI r lettersP = none) (h0 : 0 ≤ r) (h1 : r < 32 ∨ r = 127) :
    Calls Tryz.prog 104 #[v, .int .i32 r, .map (some b)] w fun e w' => ∃ v', e = .returned v' ∧ w'.ownsRow B 5 1 v' (n + (qr r).length) (xs ++ bc (qr r)) ∧ ∃ o, (w.alloc o).grownBy w' v.ownBlock := by
  obtain ⟨i0, hi, hz0, hz1, hz2⟩ := info_parts info5
  have hlk := look_letters w b r hm
  rw [hl] at hlk
  simp only [Option.getD_none, Option.isSome_none] at hlk
  have hP := fun w => plain_any r w
  rw [decide_eq_false (by omega)] at hP
  obtain ⟨fa, f1, f2⟩ := hex_facts r h0 h1
  have x0 : 0 ≤ r / 16 := by omega
  have x1 : r / 16 < 16 := by omega
  have y0 : 0 ≤ r % 16 := by omega
  have y1 : r % 16 < 16 := by omega
  have hbx := (hexd (r.toNat / 16)).toNat_lt
  have hby := (hexd (r.toNat % 16)).toNat_lt
  have hq : qr r = [92, 120, hexd (r.toNat / 16), hexd (r.toNat % 16)] := by
    rcases look_case r h0 with ⟨_, h⟩ | ⟨c, _, h, _⟩
    · rw [h (by omega), if_pos h1]
    · rw [hl] at h; cases h
  have hlen : (qr r).length = 4 := by rw [hq]; rfl
  have hbc : bc (qr r) = [.int .u8 92, .int .u8 120, .int .u8 ((hexd (r.toNat / 16)).toNat : Int), .int .u8 ((hexd (r.toNat % 16)).toNat : Int)] := by
    rw [hq]; rfl
  rw [hlen, hbc]
  obtain ⟨cx, hcx⟩ : ∃ c : Nat, (hexd (r.toNat / 16)).toNat = c := ⟨_, rfl⟩
  obtain ⟨cy, hcy⟩ : ∃ c : Nat, (hexd (r.toNat % 16)).toNat = c := ⟨_, rfl⟩
  rw [hcx] at f1 hbx ⊢
  rw [hcy] at f2 hby ⊢
  have HP := Lib.hid hP
  have HM := Lib.hid hm
  have HOW := Lib.hid hown
  clear hm hP hown hcx hcy hq hlen hbc
  go_enter Tryz.func104, Tryz.ntmps104
  go_wp2_with fail
  refine (HP.out _).mono ?_
  rintro e w' ⟨rfl, rfl⟩
  go_wp2_with fail
  go_region_law (refine step_append_lies _ rfl (.tmp 27) (.tmp 34) 92 rfl B 5 i0 (.int .u8 0) 1 1 Tryz.underlying92 hi hz0 hz1 hz2 rfl (by decide) v n xs (by simp [Act.eval]) (HOW.out.alloc _).drew ⟨w.heap.size, 0, none⟩ 4 4 [.int .u8 92, .int .u8 120, .int .u8 (cx : Int), .int .u8 (cy : Int)] (by simp [Act.eval]) rfl (World.news_of_block (heap_alloc_new w _)) (by intro u hu; simp at hu; rcases hu with rfl | rfl | rfl | rfl <;> rfl) (by decide) (by unfold maxLen; omega) (by omega) (by simp; omega) _ rfl ?_; intro g cap w' hown' hgr _ _)
  all_goals
    go_wp2
    go_ret
    exact ⟨_, rfl, hown', _, ⟨hgr.os, hgr.tape, hgr.output, hgr.size, hgr.block⟩⟩
theorem appendQuoted_any (B : Nat) (v : Value) (n : Nat) (xs : List Value) (r : Int) (b : Nat) (w : World) (hown : w.ownsRow B 5 1 v n xs) (hn : n ≤ 1099511627776) (hB : B ≤ w.heap.size)
    (hm : w.heap[b]? = some (.map (entI lettersP 0).toArray 5)) (h0 : 0 ≤ r) (h1 : r ≤ 1114111) :
    Calls Tryz.prog 104 #[v, .int .i32 r, .map (some b)] w fun e w' => ∃ v', e = .returned v' ∧ w'.ownsRow B 5 1 v' (n + (qr r).length) (xs ++ bc (qr r)) ∧ ∃ o, (w.alloc o).grownBy w' v.ownBlock := by
  rcases look_case r h0 with ⟨hl, _⟩ | ⟨c, hc, hl, hq⟩
  · by_cases h2 : r < 32 ∨ r = 127
    · exact appendQuoted_hex B v n xs r b w hown hn hB hm hl h0 h2
    · exact appendQuoted_plain B v n xs r b w hown hn hB hm hl (by omega) h1 (by omega)
  · exact appendQuoted_letter B v n xs r c b w hown hn hB hm hc hl hq
theorem qr_len (r : Int) : 1 ≤ (qr r).length ∧ (qr r).length ≤ 4 := by
  unfold qr
  split
  · unfold qb
    repeat' split
    all_goals simp
  · have h := Go.Lib.runeCells_length r
    have h2 := Go.Lib.encodeRuneZ_length r
    have h3 : (Go.Lib.runeCells r).length = (Go.Lib.encodeRuneZ r).length := by simp [Go.Lib.runeCells]
    omega
end Go.Proofs.YtkliecngkcjieaaGreatDoor
