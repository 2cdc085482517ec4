/- The library's sort of scalars' rows, over the package's comparison, lays them in order. Conditions: the row's block is new to nobody else. -/
import Derived.Test.YtfpcjdopfodfnaaGreatDoorEch
import Derived.Test.YtfpcjdopfodfnaaGreatDoorShf
import Derived.Shelf.SlSortCmp.NoneTotal
import Derived.Laws.AppendOwn
set_option maxRecDepth 100000
namespace Go.Proofs.YtfpcjdopfodfnaaGreatDoor
open Go.RowKit Go.Shelf
open Scs
open Go.Sort (HoldsK flatK grow)
/-- scalars' cells, one behind the other -/
def flatS (L : List Sc) : List Value := L.flatMap encS
theorem flatS_snoc (L : List Sc) (x : Sc) : flatS (L ++ [x]) = flatS L ++ [.int .i64 x.1, .int .i64 x.2.1, .string x.2.2] := by simp [flatS, encS]
theorem flatS_len : ∀ L : List Sc, (flatS L).length = L.length * 3
  | [] => rfl
  | x :: t => by
    have := flatS_len t
    unfold flatS at this ⊢
    rw [List.flatMap_cons, List.length_append, this, List.length_cons]
    show 3 + _ = _
    omega
theorem flatS_get : ∀ (L : List Sc) (j : Nat), j < L.length * 3 → (flatS L)[j]? = some ((encS L[j / 3]!)[j % 3]!)
  | [], j, h => by simp at h
  | x :: t, j, h => by
    by_cases hj : j < 3
    · have e1 : j / 3 = 0 := by omega
      have e2 : j % 3 = j := by omega
      rw [e1, e2]
      have hl : (flatS (x :: t))[j]? = (encS x)[j]? := by
        unfold flatS
        rw [List.flatMap_cons, List.getElem?_append_left (by show j < 3; exact hj)]
      rw [hl]
      show (encS x)[j]? = some ((encS x)[j]!)
      have hlen : j < (encS x).length := hj
      rw [List.getElem?_eq_getElem hlen, List.getElem!_eq_getElem?_getD, List.getElem?_eq_getElem hlen]
      rfl
    · have e1 : j / 3 = (j - 3) / 3 + 1 := by omega
      have e2 : j % 3 = (j - 3) % 3 := by omega
      have ih := flatS_get t (j - 3) (by simp at h; omega)
      rw [e1, e2]
      have hl : (flatS (x :: t))[j]? = (flatS t)[j - 3]? := by
        unfold flatS
        rw [List.flatMap_cons, List.getElem?_append_right (by show 3 ≤ j; omega)]
        rfl
      rw [hl, ih]
      rfl
theorem holds_row {W : World} {g n : Nat} {d : Array Sc} {c : Nat} {b : Nat} (h : W.ownsRow b 26 3 (.slice (some ⟨g, 0, none⟩) n c) n (flatS d.toList)) (hn : n = d.size) : HoldsK encS 3 W g 0 d := by
  subst hn
  rcases h with ⟨_, ⟨h1, _⟩ | ⟨g', c', cur, hv, _, hg, hnc, _, hcs, htake⟩⟩
  · cases h1
  · obtain rfl : g = g' := by injection hv with h _ _; injection h with h; injection h
    intro j hj
    rw [Go.Sort.size_flatK] at hj
    rw [Go.Sort.get_flatK _ _ _ _ hj]
    have h1 := flatS_get d.toList j (by rw [Array.length_toList]; exact hj)
    rw [← htake, List.getElem?_take_of_lt hj, Array.getElem?_toList] at h1
    refine ⟨?_, frozen_of_row _ _ _ _ _ hg⟩
    rw [cell_of_row _ _ _ _ _ _ hg, Nat.zero_add, h1]
    congr 3
    simp [getElem!_def]
theorem grown_sortK {w : World} {g n : Nat} {os : Array Obj} (d : Array Sc) : w.grownBy (sortWorldK encS 3 w g 0 n d os) (some g) := by
  unfold sortWorldK Go.Sort.putRowK
  refine ⟨rfl, rfl, rfl, by simp [grow], fun k hk hne => ?_⟩
  rw [Go.Sort.heap_grow_old _ _ (by simpa using hk)]
  have : g ≠ k := fun e => hne (by rw [e])
  simp [Go.Sort.putRow, Go.Sort.mapBlock, Go.Sort.ahead, Array.getElem?_modify, this]
theorem cmp_lays (blk off size : Nat) (w : World) : Go.Proofs.CmpLays Tryz.prog 24 #[] encS 3 cmpSc blk off size w :=
  fun _ _ _ _ x y => Compare_any x y _
theorem leSc_eq : (fun x y : Sc => !(ltOf cmpSc) y x) = leSc := by
  funext x y
  unfold leSc ltOf
  rw [ltOf_cmp]
theorem swo' : Go.Sort.SWO (ltOf cmpSc) := swo
theorem SortFunc_any (g cap : Nat) (d : Array Sc) (w : World) (hH : HoldsK encS 3 w g 0 d) (hg : g < w.heap.size) (hs : d.size ≤ 1000000) :
    Calls Tryz.prog 50 #[.slice (some ⟨g, 0, none⟩) d.size cap, .func (.func 24) #[] #[]] w fun e w' => e = .returned (.tuple #[]) ∧ HoldsK encS 3 w' g 0 (sortSc d.toList).toArray ∧ w.grownBy w' (some g) := by
  have eg : ∀ args w, (callFunc 24 args).run Tryz.prog w = .ok (.enter 24 args) w := enters_of Tryz.func24 (by kernel_rfl) rfl
  have h := AnyQ.slices_SortFunc_total Tryz.sortS 3 (fun w => Tryz.isAgg26 w) (fun w => Tryz.sizeOf26 w) encS (fun _ => rfl)
    (fun x v hv => by simp [encS] at hv; rcases hv with rfl | rfl | rfl <;> rfl) cmpSc swo' 24 #[] g 0 cap d w eg (cmp_lays g 0 d.size w) hH hg (by omega)
    (fun x y h1 h2 => by unfold ltOf at h1 h2; rw [ltOf_cmp] at h1 h2; exact lt_conn h1 h2)
  refine h.mono ?_
  rintro e w' ⟨rfl, n, os, rfl⟩
  rw [leSc_eq]
  exact ⟨rfl, holdsK_sortWorldK_c encS 3 w g 0 d _ n os hH hg (by simp), grown_sortK _⟩
end Go.Proofs.YtfpcjdopfodfnaaGreatDoor
