/- A map whose keys are scalars tells which were put in. Conditions: none. -/
import Derived.Test.YtfpcjdopfodfnaaGreatDoorEch
import Derived.MapKept
import Derived.WideKeyRuns
set_option maxRecDepth 100000
namespace Go.Proofs.YtfpcjdopfodfnaaGreatDoor
open Go.RowKit Go.Shelf
open Scs
/-- the entries of those that were met, in order -/
def entS : List Sc → Nat → List MapEntry
  | [], _ => []
  | x :: t, i => { key := aggS x, val := .bool true, born := i } :: entS t (i + 1)
theorem entS_len : ∀ (L : List Sc) (i : Nat), (entS L i).length = L.length
  | [], _ => rfl
  | _ :: t, i => by simp [entS, entS_len t (i + 1)]
theorem entS_snoc (x : Sc) : ∀ (L : List Sc) (i : Nat), entS (L ++ [x]) i = entS L i ++ [{ key := aggS x, val := .bool true, born := i + L.length }]
  | [], i => by simp [entS]
  | y :: t, i => by
    simp only [List.cons_append, entS, entS_snoc x t (i + 1), List.length_cons, List.cons.injEq, true_and]
    congr 2
    simp only [MapEntry.mk.injEq, true_and]
    omega
theorem check_any (em : Bool) (x : Sc) (w : World) : (Instr.checkKey em 10000 26 (aggS x)).run Tryz.prog w = .ok () w := by
  have u3 := Tryz.underlying3
  have a3 := Tryz.isAgg3
  have z3 := Tryz.sizeOf3
  have u9 := Tryz.underlying9
  have a9 := Tryz.isAgg9
  have z9 := Tryz.sizeOf9
  unfold aggS
  rw [show (10000 : Nat) = 9998 + 1 + 1 from rfl]
  unfold Instr.checkKey
  simp only []
  go_simp
  rw [show (9999 : Nat) = 9998 + 1 from rfl, MapKept.run_checkKey (k := .int .i64 x.1) u3 (by simp [MapKept.IsKey]) em 9998]
  simp only [Result.andThen_ok]
  rw [MapKept.run_checkKey (k := .int .i64 x.2.1) u3 (by simp [MapKept.IsKey]) em 9998]
  simp only [Result.andThen_ok]
  exact MapKept.run_checkKey (k := .string x.2.2) u9 (by simp [MapKept.IsKey]) em 9998
theorem equal_sc' (x y : Sc) (w : World) : (Op.equal 26 (aggS x) (aggS y)).run Tryz.prog w = .ok (decide (x = y)) w := by
  obtain ⟨k, n, s⟩ := x
  obtain ⟨k2, n2, s2⟩ := y
  rw [← sameB_iff]
  exact equal_sc k n s k2 n2 s2 w
theorem find_any (x : Sc) (w : World) : ∀ (L : List Sc) (i j : Nat), ∃ r, (Instr.findAsking 26 (aggS x) (entS L i) j).run Tryz.prog w = .ok r w ∧ (x ∈ L → ∃ m, r = some (m, .bool true)) ∧ (x ∉ L → r = none)
  | [], i, j => ⟨none, rfl, fun h => absurd h (by simp), fun _ => rfl⟩
  | y :: t, i, j => by
    obtain ⟨r, h1, h2, h3⟩ := find_any x w t (i + 1) (j + 1)
    by_cases h : x = y
    · refine ⟨some (j, .bool true), ?_, fun _ => ⟨j, rfl⟩, fun hn => absurd (by rw [h]; simp) hn⟩
      simp only [entS, Instr.findAsking]
      have := equal_sc' x y w
      rw [decide_eq_true h] at this
      subst h
      go_simp
    · refine ⟨r, ?_, fun hm => h2 (by simpa [h] using hm), fun hn => h3 (fun hm => hn (List.mem_cons_of_mem _ hm))⟩
      simp only [entS, Instr.findAsking]
      have := equal_sc' x y w
      rw [decide_eq_false h] at this
      go_simp
theorem findKey_any (x : Sc) (w : World) (L : List Sc) : ∃ r, (Instr.findKey 26 (aggS x) (entS L 0)).run Tryz.prog w = .ok r w ∧ (x ∈ L → ∃ m, r = some (m, .bool true)) ∧ (x ∉ L → r = none) := by
  obtain ⟨r, h1, h2⟩ := find_any x w L 0 0
  exact ⟨r, by rw [run_findKey_eq w (by rw [Tryz.underlying26])]; exact h1, h2⟩
/-- is one among some? -/
def inL (x : Sc) (L : List Sc) : Bool := L.any fun y => decide (x = y)
theorem inL_true {x : Sc} {L : List Sc} (h : x ∈ L) : inL x L = true := List.any_eq_true.2 ⟨x, h, by simp⟩
theorem inL_false {x : Sc} {L : List Sc} (h : x ∉ L) : inL x L = false := List.any_eq_false.2 fun y hy => by
  intro e
  have e := of_decide_eq_true e
  exact h (e ▸ hy)
theorem inL_iff {x : Sc} {L : List Sc} : inL x L = true ↔ x ∈ L := by
  constructor
  · intro h
    refine Classical.byContradiction fun hn => ?_
    rw [inL_false hn] at h
    cases h
  · exact inL_true
theorem lookup_met (w : World) (b : Nat) (x : Sc) (L : List Sc) (c : Nat) (hb : w.heap[b]? = some (.map (entS L 0).toArray c)) :
    (Instr.lookup 160 (.map (some b)) (aggS x) false).run Tryz.prog w = .ok (.bool (inL x L)) w := by
  have hc : ∀ em, (Instr.checkKey em 10000 26 (aggS x)).run Tryz.prog w = .ok () w := fun em => check_any em x w
  obtain ⟨r, hf, h1, h2⟩ := findKey_any x w L
  have hz : (zeroValue 4).run Tryz.prog w = .ok (.bool false) w := by kernel_rfl
  by_cases h : x ∈ L
  · obtain ⟨m, rfl⟩ := h1 h
    rw [inL_true h]
    simp [Instr.lookup, run_underlying Tryz.underlying160, MapKept.run_getObj_map hb, hc, hf, Result.andThen]
  · obtain rfl := h2 h
    rw [inL_false h]
    simp [Instr.lookup, run_underlying Tryz.underlying160, MapKept.run_getObj_map hb, hc, hf, hz, Result.andThen]
theorem update_new (w : World) (b : Nat) (x : Sc) (L : List Sc) (hb : w.heap[b]? = some (.map (entS L 0).toArray L.length)) (h : x ∉ L) :
    (Instr.mapUpdate 160 (.map (some b)) (aggS x) (.bool true)).run Tryz.prog w = .ok () (w.putObj b (.map (entS (L ++ [x]) 0).toArray (L ++ [x]).length)) := by
  have hc : ∀ em, (Instr.checkKey em 10000 26 (aggS x)).run Tryz.prog w = .ok () w := fun em => check_any em x w
  obtain ⟨r, hf, _, h2⟩ := findKey_any x w L
  obtain rfl := h2 h
  rw [entS_snoc]
  simp [Instr.mapUpdate, run_underlying Tryz.underlying160, MapKept.run_getObj_map hb, hc, hf, MapKept.run_setObj_map _ hb, Result.andThen]
  rfl
end Go.Proofs.YtfpcjdopfodfnaaGreatDoor
