/- What stands for a sign behind a backslash, and the sign that a letter stands for there, lie in maps. Conditions: none. -/
import Derived.Test.YtkliecngkcjieaaGreatDoorWor
set_option maxRecDepth 100000
namespace Go.Proofs.YtkliecngkcjieaaGreatDoor
open Go.RowKit Go.Shelf
/-- entries, and what is met at a key -/
def entI : List (Int × Value) → Nat → List MapEntry
  | [], _ => []
  | (k, v) :: t, i => { key := .int .i32 k, val := v, born := i } :: entI t (i + 1)
def lookI (k : Int) : List (Int × Value) → Option Value
  | [] => none
  | (k', v) :: t => if k = k' then some v else lookI k t
theorem insI (T : TypeId) {e : TypeId} (w : World) (es : Array MapEntry) (c : Nat) (k : Int) (v : Value) (hT : Tryz.prog.underlying T = some (.map 21 e)) (h : Instr.findNow (.int .i32) (.int .i32 k) es.toList 0 = some none) :
    (Instr.mapUpdate T (.map (some w.heap.size)) (.int .i32 k) v).run Tryz.prog (w.alloc (.map es c)) = .ok () (w.alloc (.map (es.push { key := .int .i32 k, val := v, born := c }) (c + 1))) := by
  have hb : (w.alloc (.map es c)).heap[w.heap.size]? = some (.map es c) := heap_alloc_new w _
  have hc : (Instr.checkKey false 10000 21 (.int .i32 k)).run Tryz.prog (w.alloc (.map es c)) = .ok () (w.alloc (.map es c)) := MapKept.run_checkKey (k := .int .i32 k) Tryz.underlying21 (by simp [MapKept.IsKey]) false 9999
  simp [Instr.mapUpdate, run_underlying hT, MapKept.run_getObj_map hb, hc, MapKept.run_findKey Tryz.underlying21 h, MapKept.run_setObj_map _ hb, Result.andThen]
  exact set_new w _ _
theorem findNow_lookI (k : Int) : ∀ (ps : List (Int × Value)) (i j : Nat), (lookI k ps = none → Instr.findNow (.int .i32) (.int .i32 k) (entI ps i) j = some none) ∧
    (∀ v, lookI k ps = some v → ∃ m, Instr.findNow (.int .i32) (.int .i32 k) (entI ps i) j = some (some (m, v)))
  | [], _, _ => ⟨fun _ => rfl, fun _ h => by cases h⟩
  | (k', v) :: t, i, j => by
    obtain ⟨h1, h2⟩ := findNow_lookI k t (i + 1) (j + 1)
    unfold lookI
    by_cases h : k = k'
    · rw [if_pos h]
      refine ⟨(fun hh => by cases hh), (fun v' hv => ⟨j, ?_⟩)⟩
      cases hv
      simp [entI, Instr.findNow, Instr.sameNow, h]
    · rw [if_neg h]
      have hs : ∀ r, Instr.findNow (.int .i32) (.int .i32 k) (entI t (i + 1)) (j + 1) = r → Instr.findNow (.int .i32) (.int .i32 k) (entI ((k', v) :: t) i) j = r := fun r hr => by
        have hb : (k == k') = false := by simp [h]
        simp [entI, Instr.findNow, Instr.sameNow, hb, hr]
      exact ⟨fun hh => hs _ (h1 hh), fun v' hv => by obtain ⟨m, hm⟩ := h2 v' hv; exact ⟨m, hs _ hm⟩⟩
theorem lookupI (T e : TypeId) (z : Value) (w : World) (b c : Nat) (k : Int) (ps : List (Int × Value)) (hT : Tryz.prog.underlying T = some (.map 21 e)) (hz : (zeroValue e).run Tryz.prog w = .ok z w)
    (hb : w.heap[b]? = some (.map (entI ps 0).toArray c)) :
    (Instr.lookup T (.map (some b)) (.int .i32 k) true).run Tryz.prog w = .ok (.tuple #[(lookI k ps).getD z, .bool (lookI k ps).isSome]) w := by
  have hc : ∀ e, (Instr.checkKey e 10000 21 (.int .i32 k)).run Tryz.prog w = .ok () w := fun e => MapKept.run_checkKey (k := .int .i32 k) Tryz.underlying21 (by simp [MapKept.IsKey]) e 9999
  cases h : lookI k ps with
  | none =>
    have hf := (findNow_lookI k ps 0 0).1 h
    simp [Instr.lookup, run_underlying hT, MapKept.run_getObj_map hb, hc, MapKept.run_findKey (l := (entI ps 0).toArray.toList) Tryz.underlying21 hf, hz, Result.andThen]
  | some v =>
    obtain ⟨m, hf⟩ := (findNow_lookI k ps 0 0).2 v h
    simp [Instr.lookup, run_underlying hT, MapKept.run_getObj_map hb, hc, MapKept.run_findKey (l := (entI ps 0).toArray.toList) Tryz.underlying21 hf, Result.andThen]
def lettersP : List (Int × Value) := [(34, .int .u8 34), (92, .int .u8 92), (10, .int .u8 110), (9, .int .u8 116), (13, .int .u8 114)]
def signsP : List (Int × Value) := [(110, .int .i32 10), (116, .int .i32 9), (114, .int .i32 13), (48, .int .i32 0)]
set_option maxHeartbeats 1000000 in
theorem letters_any (w : World) : Calls Tryz.prog 102 #[] w fun e w' => e = .returned (.map (some w.heap.size)) ∧ w' = w.alloc (.map (entI lettersP 0).toArray 5) := by
  have hmm := @run_makeMap Tryz.prog
  have i0 : (Instr.mapUpdate 121 (.map (some w.heap.size)) (.int .i32 34) (.int .u8 34)).run Tryz.prog (w.alloc (.map #[] 0)) = .ok () (w.alloc (.map #[{ key := .int .i32 34, val := .int .u8 34, born := 0 }] 1)) := insI 121 w #[] 0 34 (.int .u8 34) Tryz.underlying121 (by kernel_rfl)
  have i1 : (Instr.mapUpdate 121 (.map (some w.heap.size)) (.int .i32 92) (.int .u8 92)).run Tryz.prog (w.alloc (.map #[{ key := .int .i32 34, val := .int .u8 34, born := 0 }] 1)) = .ok () (w.alloc (.map #[{ key := .int .i32 34, val := .int .u8 34, born := 0 }, { key := .int .i32 92, val := .int .u8 92, born := 1 }] 2)) := insI 121 w #[{ key := .int .i32 34, val := .int .u8 34, born := 0 }] 1 92 (.int .u8 92) Tryz.underlying121 (by kernel_rfl)
  have i2 : (Instr.mapUpdate 121 (.map (some w.heap.size)) (.int .i32 10) (.int .u8 110)).run Tryz.prog (w.alloc (.map #[{ key := .int .i32 34, val := .int .u8 34, born := 0 }, { key := .int .i32 92, val := .int .u8 92, born := 1 }] 2)) = .ok () (w.alloc (.map #[{ key := .int .i32 34, val := .int .u8 34, born := 0 }, { key := .int .i32 92, val := .int .u8 92, born := 1 }, { key := .int .i32 10, val := .int .u8 110, born := 2 }] 3)) := insI 121 w #[{ key := .int .i32 34, val := .int .u8 34, born := 0 }, { key := .int .i32 92, val := .int .u8 92, born := 1 }] 2 10 (.int .u8 110) Tryz.underlying121 (by kernel_rfl)
  have i3 : (Instr.mapUpdate 121 (.map (some w.heap.size)) (.int .i32 9) (.int .u8 116)).run Tryz.prog (w.alloc (.map #[{ key := .int .i32 34, val := .int .u8 34, born := 0 }, { key := .int .i32 92, val := .int .u8 92, born := 1 }, { key := .int .i32 10, val := .int .u8 110, born := 2 }] 3)) = .ok () (w.alloc (.map #[{ key := .int .i32 34, val := .int .u8 34, born := 0 }, { key := .int .i32 92, val := .int .u8 92, born := 1 }, { key := .int .i32 10, val := .int .u8 110, born := 2 }, { key := .int .i32 9, val := .int .u8 116, born := 3 }] 4)) := insI 121 w #[{ key := .int .i32 34, val := .int .u8 34, born := 0 }, { key := .int .i32 92, val := .int .u8 92, born := 1 }, { key := .int .i32 10, val := .int .u8 110, born := 2 }] 3 9 (.int .u8 116) Tryz.underlying121 (by kernel_rfl)
  have i4 : (Instr.mapUpdate 121 (.map (some w.heap.size)) (.int .i32 13) (.int .u8 114)).run Tryz.prog (w.alloc (.map #[{ key := .int .i32 34, val := .int .u8 34, born := 0 }, { key := .int .i32 92, val := .int .u8 92, born := 1 }, { key := .int .i32 10, val := .int .u8 110, born := 2 }, { key := .int .i32 9, val := .int .u8 116, born := 3 }] 4)) = .ok () (w.alloc (.map #[{ key := .int .i32 34, val := .int .u8 34, born := 0 }, { key := .int .i32 92, val := .int .u8 92, born := 1 }, { key := .int .i32 10, val := .int .u8 110, born := 2 }, { key := .int .i32 9, val := .int .u8 116, born := 3 }, { key := .int .i32 13, val := .int .u8 114, born := 4 }] 5)) := insI 121 w #[{ key := .int .i32 34, val := .int .u8 34, born := 0 }, { key := .int .i32 92, val := .int .u8 92, born := 1 }, { key := .int .i32 10, val := .int .u8 110, born := 2 }, { key := .int .i32 9, val := .int .u8 116, born := 3 }] 4 13 (.int .u8 114) Tryz.underlying121 (by kernel_rfl)
  go_enter Tryz.func102, Tryz.ntmps102
  go_wp2
  go_ret
  exact ⟨rfl, rfl⟩
set_option maxHeartbeats 1000000 in
theorem letS_any (w : World) : Calls Tryz.prog 111 #[] w fun e w' => e = .returned (.map (some w.heap.size)) ∧ w' = w.alloc (.map (entI signsP 0).toArray 4) := by
  have hmm := @run_makeMap Tryz.prog
  have i0 : (Instr.mapUpdate 143 (.map (some w.heap.size)) (.int .i32 110) (.int .i32 10)).run Tryz.prog (w.alloc (.map #[] 0)) = .ok () (w.alloc (.map #[{ key := .int .i32 110, val := .int .i32 10, born := 0 }] 1)) := insI 143 w #[] 0 110 (.int .i32 10) Tryz.underlying143 (by kernel_rfl)
  have i1 : (Instr.mapUpdate 143 (.map (some w.heap.size)) (.int .i32 116) (.int .i32 9)).run Tryz.prog (w.alloc (.map #[{ key := .int .i32 110, val := .int .i32 10, born := 0 }] 1)) = .ok () (w.alloc (.map #[{ key := .int .i32 110, val := .int .i32 10, born := 0 }, { key := .int .i32 116, val := .int .i32 9, born := 1 }] 2)) := insI 143 w #[{ key := .int .i32 110, val := .int .i32 10, born := 0 }] 1 116 (.int .i32 9) Tryz.underlying143 (by kernel_rfl)
  have i2 : (Instr.mapUpdate 143 (.map (some w.heap.size)) (.int .i32 114) (.int .i32 13)).run Tryz.prog (w.alloc (.map #[{ key := .int .i32 110, val := .int .i32 10, born := 0 }, { key := .int .i32 116, val := .int .i32 9, born := 1 }] 2)) = .ok () (w.alloc (.map #[{ key := .int .i32 110, val := .int .i32 10, born := 0 }, { key := .int .i32 116, val := .int .i32 9, born := 1 }, { key := .int .i32 114, val := .int .i32 13, born := 2 }] 3)) := insI 143 w #[{ key := .int .i32 110, val := .int .i32 10, born := 0 }, { key := .int .i32 116, val := .int .i32 9, born := 1 }] 2 114 (.int .i32 13) Tryz.underlying143 (by kernel_rfl)
  have i3 : (Instr.mapUpdate 143 (.map (some w.heap.size)) (.int .i32 48) (.int .i32 0)).run Tryz.prog (w.alloc (.map #[{ key := .int .i32 110, val := .int .i32 10, born := 0 }, { key := .int .i32 116, val := .int .i32 9, born := 1 }, { key := .int .i32 114, val := .int .i32 13, born := 2 }] 3)) = .ok () (w.alloc (.map #[{ key := .int .i32 110, val := .int .i32 10, born := 0 }, { key := .int .i32 116, val := .int .i32 9, born := 1 }, { key := .int .i32 114, val := .int .i32 13, born := 2 }, { key := .int .i32 48, val := .int .i32 0, born := 3 }] 4)) := insI 143 w #[{ key := .int .i32 110, val := .int .i32 10, born := 0 }, { key := .int .i32 116, val := .int .i32 9, born := 1 }, { key := .int .i32 114, val := .int .i32 13, born := 2 }] 3 48 (.int .i32 0) Tryz.underlying143 (by kernel_rfl)
  go_enter Tryz.func111, Tryz.ntmps111
  go_wp2
  go_ret
  exact ⟨rfl, rfl⟩
theorem look_letters (w : World) (b : Nat) (k : Int) (hb : w.heap[b]? = some (.map (entI lettersP 0).toArray 5)) :
    (Instr.lookup 121 (.map (some b)) (.int .i32 k) true).run Tryz.prog w = .ok (.tuple #[(lookI k lettersP).getD (.int .u8 0), .bool (lookI k lettersP).isSome]) w :=
  lookupI 121 5 (.int .u8 0) w b 5 k lettersP Tryz.underlying121 (by kernel_rfl) hb
theorem look_signs (w : World) (b : Nat) (k : Int) (hb : w.heap[b]? = some (.map (entI signsP 0).toArray 4)) :
    (Instr.lookup 143 (.map (some b)) (.int .i32 k) true).run Tryz.prog w = .ok (.tuple #[(lookI k signsP).getD (.int .i32 0), .bool (lookI k signsP).isSome]) w :=
  lookupI 143 21 (.int .i32 0) w b 4 k signsP Tryz.underlying143 (by kernel_rfl) hb
end Go.Proofs.YtkliecngkcjieaaGreatDoor
