/- What a text says, plain, is told as the document tells it: its value, or its error. Conditions: the library's tables lie as they are laid; the text is not too long. -/
import Derived.Test.YtkliecngkcjieaaGreatDoorScl
set_option maxRecDepth 100000
namespace Go.Proofs.YtkliecngkcjieaaGreatDoor
open Go.RowKit Go.Shelf
open Pl Seqo
inductive Val where
  | null | bool (b : Bool) | none | int (n : Int) | text
def wordsW : List (List UInt8 × Val) := [([], .null), ([110, 117, 108, 108], .null), ([126], .null), ([116, 114, 117, 101], .bool true), ([102, 97, 108, 115, 101], .bool false),
  ([46, 105, 110, 102], .none), ([43, 46, 105, 110, 102], .none), ([45, 46, 105, 110, 102], .none), ([46, 110, 97, 110], .none)]
def lookW (l : List UInt8) : List (List UInt8 × Val) → Option Val
  | [] => Option.none
  | (k, v) :: t => if l = k then some v else lookW l t
def Val.iface (s : ByteArray) : Val → Value
  | .null => .nilIface
  | .bool b => .iface 4 (.bool b)
  | .none => .iface 80 (.agg #[])
  | .int n => .iface 3 (.int .i64 n)
  | .text => .iface 9 (.string s)
/-- a text's value -/
def valOf (l : List UInt8) : Val := match lookW l wordsW with
  | some v => v
  | Option.none => if looksR l = true then (match numB l with | some n => .int n | Option.none => .none) else .text
theorem look_map (s : ByteArray) (l : List UInt8) : ∀ (ps : List (List UInt8 × Val)), look l (ps.map fun p => (p.1, p.2.iface s)) = (lookW l ps).map (Val.iface s)
  | [] => rfl
  | (k, v) :: t => by
    simp only [List.map_cons, look, lookW]
    split
    · rfl
    · exact look_map s l t
theorem valV_of (s : ByteArray) : valV s = (valOf s.data.toList).iface s := by
  unfold valV valOf
  rw [show wordsP = wordsW.map fun p => (p.1, p.2.iface s) from rfl, look_map]
  cases lookW s.data.toList wordsW with
  | some v => rfl
  | none =>
    simp only [Option.map_none]
    cases looksR s.data.toList
    · rfl
    · cases numB s.data.toList <;> rfl
structure Res where
  k : Int
  n : Int
  s : ByteArray
  e : Int
def Res.val (r : Res) : Value := .tuple #[.agg #[.int .i64 r.k, .int .i64 r.n, .string r.s], .int .i64 r.e]
def Val.res (s : ByteArray) : Val → Res
  | .null => ⟨0, 0, ⟨#[]⟩, 0⟩
  | .bool b => ⟨1, if b = true then 1 else 0, ⟨#[]⟩, 0⟩
  | .none => ⟨0, 0, ⟨#[]⟩, 50⟩
  | .int n => ⟨2, n, ⟨#[]⟩, 0⟩
  | .text => ⟨3, 0, s, 0⟩
/-- what a text is resolved to -/
def resolveR (s : ByteArray) : Res := if s.data.toList ≠ [] ∧ mayR false s.data.toList = false then ⟨0, 0, ⟨#[]⟩, 51⟩ else (valOf s.data.toList).res s
def readR (s : ByteArray) (flow : Bool) : Res := if mayR flow s.data.toList = false then ⟨0, 0, ⟨#[]⟩, 51⟩ else resolveR s
abbrev zero3 : Obj := .cells #[.int .i64 0, .int .i64 0, .string ⟨#[]⟩] 23
/-- the result's own cells, behind a call -/
theorem res_cells {w w1 : World} (hb : Below (w.alloc zero3).heap.size (w.alloc zero3) w1) : w1.heap[w.heap.size]? = some zero3 ∧ w.heap.size < w1.heap.size ∧ Below w.heap.size w w1 :=
  ⟨(hb.block w.heap.size (by simp)).trans (heap_alloc_new w _), by have := hb.size; simp at this; omega, ((Below.refl _ w).alloc (Nat.le_refl _) _).trans (hb.mono (by simp))⟩
/-- a text that may not stand plain -/
theorem Resolve_no (s : ByteArray) (hs : s.size ≤ 1099511627776) (w : World) (E : Env w) (hne : s.data.toList ≠ []) (hm : mayR false s.data.toList = false) :
    Calls Tryz.prog 42 #[.string s] w fun e w' => e = .returned (.tuple #[.agg #[.int .i64 0, .int .i64 0, .string ⟨#[]⟩], .int .i64 51]) ∧ Below w.heap.size w w' := by
  have hM := May_any s hs false _ (E.below ((Below.refl _ w).alloc (Nat.le_refl _) zero3))
  rw [hm] at hM
  have HM := Lib.hid hM
  have h1 : s.toList.isEmpty = false := by rw [ByteArray.toList_eq]; simpa using hne
  have h2 : (!s.toList.isEmpty) = true := by rw [h1]; rfl
  clear E hM hne hm
  go_enter Tryz.func42, Tryz.ntmps42
  go_wp2_with fail
  refine HM.out.mono ?_
  rintro e w1 ⟨rfl, hb1⟩
  obtain ⟨hx1, hz1, hb⟩ := res_cells hb1
  have HB1 := Lib.hid hb
  have c0 := cell_of_row _ _ 0 _ _ _ hx1
  have c1 := cell_of_row _ _ 1 _ _ _ hx1
  have c2 := cell_of_row _ _ 2 _ _ _ hx1
  have f0 := frozen_of_row _ _ 0 _ _ hx1
  have f1 := frozen_of_row _ _ 1 _ _ hx1
  have f2 := frozen_of_row _ _ 2 _ _ hx1
  simp at c0 c1 c2
  have HX1 := Lib.hid hx1
  clear hb1 hx1 hb
  go_wp2_with fail
  have hr := store3 HX1.out (.int .i64 0) (.int .i64 0) (.string ⟨#[]⟩)
  have hbb := ((HB1.out.setCell (p := ⟨w.heap.size, 0, none⟩) (Nat.le_refl _) (.int .i64 0)).setCell (p := ⟨w.heap.size, 1, none⟩) (Nat.le_refl _) (.int .i64 0)).setCell (p := ⟨w.heap.size, 2, none⟩) (Nat.le_refl _) (.string ⟨#[]⟩)
  clear c0 c1 c2 f0 f1 f2
  generalize ((w1.setCell ⟨w.heap.size, 0, none⟩ (.int .i64 0)).setCell ⟨w.heap.size, 1, none⟩ (.int .i64 0)).setCell ⟨w.heap.size, 2, none⟩ (.string ⟨#[]⟩) = wz at hr hbb ⊢
  have r0 := cell_of_row _ _ 0 _ _ _ hr
  have r1 := cell_of_row _ _ 1 _ _ _ hr
  have r2 := cell_of_row _ _ 2 _ _ _ hr
  exact bodyPost_ret (v := .tuple #[.agg #[.int .i64 0, .int .i64 0, .string ⟨#[]⟩], .int .i64 51]) (by simp [results, Tryz.results42, go_sem, r0, r1, r2]) rfl ⟨rfl, hbb⟩
theorem Resolve_null (s : ByteArray) (hs : s.size ≤ 1099511627776) (w : World) (E : Env w) (hne : s.data.toList ≠ []) (hm : mayR false s.data.toList = true) (hv : valOf s.data.toList = .null) :
    Calls Tryz.prog 42 #[.string s] w fun e w' => e = .returned (.tuple #[.agg #[.int .i64 0, .int .i64 0, .string ⟨#[]⟩], .int .i64 0]) ∧ Below w.heap.size w w' := by
  have ta : ∀ w, (Instr.typeAssert (.nilIface) 20 80 true).run Tryz.prog w = .ok (.tuple #[.agg #[], .bool false]) w := fun _ => by kernel_rfl
  have hV : valV s = .nilIface := by rw [valV_of, hv]; rfl
  have E0 := E.below ((Below.refl _ w).alloc (Nat.le_refl _) zero3)
  have HV := Lib.hid hV
  have hM := May_any s hs false _ E0
  rw [hm] at hM
  have HM := Lib.hid hM
  have h1 : s.toList.isEmpty = false := by rw [ByteArray.toList_eq]; simpa using hne
  have h2 : (!s.toList.isEmpty) = true := by rw [h1]; rfl
  have HE0 := Lib.hid E0
  clear E E0 hM hne hm hv hV
  go_enter Tryz.func42, Tryz.ntmps42
  go_wp2_with fail
  refine HM.out.mono ?_
  rintro e w1 ⟨rfl, hb1⟩
  obtain ⟨hx1, hz1, hb⟩ := res_cells hb1
  have HB1 := Lib.hid hb
  have HE1 := Lib.hid (HE0.out.below hb1)
  have c0 := cell_of_row _ _ 0 _ _ _ hx1
  have c1 := cell_of_row _ _ 1 _ _ _ hx1
  have c2 := cell_of_row _ _ 2 _ _ _ hx1
  have f0 := frozen_of_row _ _ 0 _ _ hx1
  have f1 := frozen_of_row _ _ 1 _ _ hx1
  have f2 := frozen_of_row _ _ 2 _ _ hx1
  simp at c0 c1 c2
  have HX1 := Lib.hid hx1
  have hV2 := valueOf_any s hs w1 HE1.out
  rw [HV.out] at hV2
  have HV2 := Lib.hid hV2
  clear hb1 hx1 hb hV2
  go_wp2_with fail
  refine HV2.out.mono ?_
  rintro e w2 ⟨rfl, hb2⟩
  have hx2 := (hb2.block w.heap.size (by omega)).trans HX1.out
  have hz2 : w.heap.size < w2.heap.size := by have := hb2.size; omega
  have HB2 := Lib.hid (HB1.out.trans (hb2.mono (by omega)))
  have HE2 := Lib.hid (HE1.out.below hb2)
  clear c0 c1 c2 f0 f1 f2
  clear hb2
  have c0 := cell_of_row _ _ 0 _ _ _ hx2
  have c1 := cell_of_row _ _ 1 _ _ _ hx2
  have c2 := cell_of_row _ _ 2 _ _ _ hx2
  have f0 := frozen_of_row _ _ 0 _ _ hx2
  have f1 := frozen_of_row _ _ 1 _ _ hx2
  have f2 := frozen_of_row _ _ 2 _ _ hx2
  simp at c0 c1 c2
  have HX2 := Lib.hid hx2
  clear hx2
  go_wp2_with fail
  refine (scalar_null _).mono ?_
  rintro e w3 ⟨rfl, hb3⟩
  have hx3 := (hb3.block w.heap.size (by simp; omega)).trans (keep_alloc HX2.out)
  have hz3 : w.heap.size < w3.heap.size := by have := hb3.size; simp at this; omega
  have HB3 := Lib.hid (HB2.out.trans (((Below.refl _ w2).alloc (Nat.le_refl _) (.cells #[] 80)).trans (hb3.mono (by simp)) |>.mono (by omega)))
  clear c0 c1 c2 f0 f1 f2
  have c0 := cell_of_row _ _ 0 _ _ _ hx3
  have c1 := cell_of_row _ _ 1 _ _ _ hx3
  have c2 := cell_of_row _ _ 2 _ _ _ hx3
  have f0 := frozen_of_row _ _ 0 _ _ hx3
  have f1 := frozen_of_row _ _ 1 _ _ hx3
  have f2 := frozen_of_row _ _ 2 _ _ hx3
  simp at c0 c1 c2
  have HX3 := Lib.hid hx3
  clear hb3 hx3
  go_wp2_with fail
  have hr := store3 HX3.out (.int .i64 0) (.int .i64 0) (.string ⟨#[]⟩)
  have hbb := ((HB3.out.setCell (p := ⟨w.heap.size, 0, none⟩) (Nat.le_refl _) (.int .i64 0)).setCell (p := ⟨w.heap.size, 1, none⟩) (Nat.le_refl _) (.int .i64 0)).setCell (p := ⟨w.heap.size, 2, none⟩) (Nat.le_refl _) (.string ⟨#[]⟩)
  clear c0 c1 c2 f0 f1 f2
  generalize ((w3.setCell ⟨w.heap.size, 0, none⟩ (.int .i64 0)).setCell ⟨w.heap.size, 1, none⟩ (.int .i64 0)).setCell ⟨w.heap.size, 2, none⟩ (.string ⟨#[]⟩) = wz at hr hbb ⊢
  have r0 := cell_of_row _ _ 0 _ _ _ hr
  have r1 := cell_of_row _ _ 1 _ _ _ hr
  have r2 := cell_of_row _ _ 2 _ _ _ hr
  exact bodyPost_ret (v := .tuple #[.agg #[.int .i64 0, .int .i64 0, .string ⟨#[]⟩], .int .i64 0]) (by simp [results, Tryz.results42, go_sem, r0, r1, r2]) rfl ⟨rfl, hbb⟩
theorem Resolve_true (s : ByteArray) (hs : s.size ≤ 1099511627776) (w : World) (E : Env w) (hne : s.data.toList ≠ []) (hm : mayR false s.data.toList = true) (hv : valOf s.data.toList = .bool true) :
    Calls Tryz.prog 42 #[.string s] w fun e w' => e = .returned (.tuple #[.agg #[.int .i64 1, .int .i64 1, .string ⟨#[]⟩], .int .i64 0]) ∧ Below w.heap.size w w' := by
  have ta : ∀ w, (Instr.typeAssert (.iface 4 (.bool true)) 20 80 true).run Tryz.prog w = .ok (.tuple #[.agg #[], .bool false]) w := fun _ => by kernel_rfl
  have hV : valV s = .iface 4 (.bool true) := by rw [valV_of, hv]; rfl
  have E0 := E.below ((Below.refl _ w).alloc (Nat.le_refl _) zero3)
  have HV := Lib.hid hV
  have hM := May_any s hs false _ E0
  rw [hm] at hM
  have HM := Lib.hid hM
  have h1 : s.toList.isEmpty = false := by rw [ByteArray.toList_eq]; simpa using hne
  have h2 : (!s.toList.isEmpty) = true := by rw [h1]; rfl
  have HE0 := Lib.hid E0
  clear E E0 hM hne hm hv hV
  go_enter Tryz.func42, Tryz.ntmps42
  go_wp2_with fail
  refine HM.out.mono ?_
  rintro e w1 ⟨rfl, hb1⟩
  obtain ⟨hx1, hz1, hb⟩ := res_cells hb1
  have HB1 := Lib.hid hb
  have HE1 := Lib.hid (HE0.out.below hb1)
  have c0 := cell_of_row _ _ 0 _ _ _ hx1
  have c1 := cell_of_row _ _ 1 _ _ _ hx1
  have c2 := cell_of_row _ _ 2 _ _ _ hx1
  have f0 := frozen_of_row _ _ 0 _ _ hx1
  have f1 := frozen_of_row _ _ 1 _ _ hx1
  have f2 := frozen_of_row _ _ 2 _ _ hx1
  simp at c0 c1 c2
  have HX1 := Lib.hid hx1
  have hV2 := valueOf_any s hs w1 HE1.out
  rw [HV.out] at hV2
  have HV2 := Lib.hid hV2
  clear hb1 hx1 hb hV2
  go_wp2_with fail
  refine HV2.out.mono ?_
  rintro e w2 ⟨rfl, hb2⟩
  have hx2 := (hb2.block w.heap.size (by omega)).trans HX1.out
  have hz2 : w.heap.size < w2.heap.size := by have := hb2.size; omega
  have HB2 := Lib.hid (HB1.out.trans (hb2.mono (by omega)))
  have HE2 := Lib.hid (HE1.out.below hb2)
  clear c0 c1 c2 f0 f1 f2
  clear hb2
  have c0 := cell_of_row _ _ 0 _ _ _ hx2
  have c1 := cell_of_row _ _ 1 _ _ _ hx2
  have c2 := cell_of_row _ _ 2 _ _ _ hx2
  have f0 := frozen_of_row _ _ 0 _ _ hx2
  have f1 := frozen_of_row _ _ 1 _ _ hx2
  have f2 := frozen_of_row _ _ 2 _ _ hx2
  simp at c0 c1 c2
  have HX2 := Lib.hid hx2
  clear hx2
  go_wp2_with fail
  refine (scalar_true _).mono ?_
  rintro e w3 ⟨rfl, hb3⟩
  have hx3 := (hb3.block w.heap.size (by simp; omega)).trans (keep_alloc HX2.out)
  have hz3 : w.heap.size < w3.heap.size := by have := hb3.size; simp at this; omega
  have HB3 := Lib.hid (HB2.out.trans (((Below.refl _ w2).alloc (Nat.le_refl _) (.cells #[] 80)).trans (hb3.mono (by simp)) |>.mono (by omega)))
  clear c0 c1 c2 f0 f1 f2
  have c0 := cell_of_row _ _ 0 _ _ _ hx3
  have c1 := cell_of_row _ _ 1 _ _ _ hx3
  have c2 := cell_of_row _ _ 2 _ _ _ hx3
  have f0 := frozen_of_row _ _ 0 _ _ hx3
  have f1 := frozen_of_row _ _ 1 _ _ hx3
  have f2 := frozen_of_row _ _ 2 _ _ hx3
  simp at c0 c1 c2
  have HX3 := Lib.hid hx3
  clear hb3 hx3
  go_wp2_with fail
  have hr := store3 HX3.out (.int .i64 1) (.int .i64 1) (.string ⟨#[]⟩)
  have hbb := ((HB3.out.setCell (p := ⟨w.heap.size, 0, none⟩) (Nat.le_refl _) (.int .i64 1)).setCell (p := ⟨w.heap.size, 1, none⟩) (Nat.le_refl _) (.int .i64 1)).setCell (p := ⟨w.heap.size, 2, none⟩) (Nat.le_refl _) (.string ⟨#[]⟩)
  clear c0 c1 c2 f0 f1 f2
  generalize ((w3.setCell ⟨w.heap.size, 0, none⟩ (.int .i64 1)).setCell ⟨w.heap.size, 1, none⟩ (.int .i64 1)).setCell ⟨w.heap.size, 2, none⟩ (.string ⟨#[]⟩) = wz at hr hbb ⊢
  have r0 := cell_of_row _ _ 0 _ _ _ hr
  have r1 := cell_of_row _ _ 1 _ _ _ hr
  have r2 := cell_of_row _ _ 2 _ _ _ hr
  exact bodyPost_ret (v := .tuple #[.agg #[.int .i64 1, .int .i64 1, .string ⟨#[]⟩], .int .i64 0]) (by simp [results, Tryz.results42, go_sem, r0, r1, r2]) rfl ⟨rfl, hbb⟩
theorem Resolve_false (s : ByteArray) (hs : s.size ≤ 1099511627776) (w : World) (E : Env w) (hne : s.data.toList ≠ []) (hm : mayR false s.data.toList = true) (hv : valOf s.data.toList = .bool false) :
    Calls Tryz.prog 42 #[.string s] w fun e w' => e = .returned (.tuple #[.agg #[.int .i64 1, .int .i64 0, .string ⟨#[]⟩], .int .i64 0]) ∧ Below w.heap.size w w' := by
  have ta : ∀ w, (Instr.typeAssert (.iface 4 (.bool false)) 20 80 true).run Tryz.prog w = .ok (.tuple #[.agg #[], .bool false]) w := fun _ => by kernel_rfl
  have hV : valV s = .iface 4 (.bool false) := by rw [valV_of, hv]; rfl
  have E0 := E.below ((Below.refl _ w).alloc (Nat.le_refl _) zero3)
  have HV := Lib.hid hV
  have hM := May_any s hs false _ E0
  rw [hm] at hM
  have HM := Lib.hid hM
  have h1 : s.toList.isEmpty = false := by rw [ByteArray.toList_eq]; simpa using hne
  have h2 : (!s.toList.isEmpty) = true := by rw [h1]; rfl
  have HE0 := Lib.hid E0
  clear E E0 hM hne hm hv hV
  go_enter Tryz.func42, Tryz.ntmps42
  go_wp2_with fail
  refine HM.out.mono ?_
  rintro e w1 ⟨rfl, hb1⟩
  obtain ⟨hx1, hz1, hb⟩ := res_cells hb1
  have HB1 := Lib.hid hb
  have HE1 := Lib.hid (HE0.out.below hb1)
  have c0 := cell_of_row _ _ 0 _ _ _ hx1
  have c1 := cell_of_row _ _ 1 _ _ _ hx1
  have c2 := cell_of_row _ _ 2 _ _ _ hx1
  have f0 := frozen_of_row _ _ 0 _ _ hx1
  have f1 := frozen_of_row _ _ 1 _ _ hx1
  have f2 := frozen_of_row _ _ 2 _ _ hx1
  simp at c0 c1 c2
  have HX1 := Lib.hid hx1
  have hV2 := valueOf_any s hs w1 HE1.out
  rw [HV.out] at hV2
  have HV2 := Lib.hid hV2
  clear hb1 hx1 hb hV2
  go_wp2_with fail
  refine HV2.out.mono ?_
  rintro e w2 ⟨rfl, hb2⟩
  have hx2 := (hb2.block w.heap.size (by omega)).trans HX1.out
  have hz2 : w.heap.size < w2.heap.size := by have := hb2.size; omega
  have HB2 := Lib.hid (HB1.out.trans (hb2.mono (by omega)))
  have HE2 := Lib.hid (HE1.out.below hb2)
  clear c0 c1 c2 f0 f1 f2
  clear hb2
  have c0 := cell_of_row _ _ 0 _ _ _ hx2
  have c1 := cell_of_row _ _ 1 _ _ _ hx2
  have c2 := cell_of_row _ _ 2 _ _ _ hx2
  have f0 := frozen_of_row _ _ 0 _ _ hx2
  have f1 := frozen_of_row _ _ 1 _ _ hx2
  have f2 := frozen_of_row _ _ 2 _ _ hx2
  simp at c0 c1 c2
  have HX2 := Lib.hid hx2
  clear hx2
  go_wp2_with fail
  refine (scalar_false _).mono ?_
  rintro e w3 ⟨rfl, hb3⟩
  have hx3 := (hb3.block w.heap.size (by simp; omega)).trans (keep_alloc HX2.out)
  have hz3 : w.heap.size < w3.heap.size := by have := hb3.size; simp at this; omega
  have HB3 := Lib.hid (HB2.out.trans (((Below.refl _ w2).alloc (Nat.le_refl _) (.cells #[] 80)).trans (hb3.mono (by simp)) |>.mono (by omega)))
  clear c0 c1 c2 f0 f1 f2
  have c0 := cell_of_row _ _ 0 _ _ _ hx3
  have c1 := cell_of_row _ _ 1 _ _ _ hx3
  have c2 := cell_of_row _ _ 2 _ _ _ hx3
  have f0 := frozen_of_row _ _ 0 _ _ hx3
  have f1 := frozen_of_row _ _ 1 _ _ hx3
  have f2 := frozen_of_row _ _ 2 _ _ hx3
  simp at c0 c1 c2
  have HX3 := Lib.hid hx3
  clear hb3 hx3
  go_wp2_with fail
  have hr := store3 HX3.out (.int .i64 1) (.int .i64 0) (.string ⟨#[]⟩)
  have hbb := ((HB3.out.setCell (p := ⟨w.heap.size, 0, none⟩) (Nat.le_refl _) (.int .i64 1)).setCell (p := ⟨w.heap.size, 1, none⟩) (Nat.le_refl _) (.int .i64 0)).setCell (p := ⟨w.heap.size, 2, none⟩) (Nat.le_refl _) (.string ⟨#[]⟩)
  clear c0 c1 c2 f0 f1 f2
  generalize ((w3.setCell ⟨w.heap.size, 0, none⟩ (.int .i64 1)).setCell ⟨w.heap.size, 1, none⟩ (.int .i64 0)).setCell ⟨w.heap.size, 2, none⟩ (.string ⟨#[]⟩) = wz at hr hbb ⊢
  have r0 := cell_of_row _ _ 0 _ _ _ hr
  have r1 := cell_of_row _ _ 1 _ _ _ hr
  have r2 := cell_of_row _ _ 2 _ _ _ hr
  exact bodyPost_ret (v := .tuple #[.agg #[.int .i64 1, .int .i64 0, .string ⟨#[]⟩], .int .i64 0]) (by simp [results, Tryz.results42, go_sem, r0, r1, r2]) rfl ⟨rfl, hbb⟩
theorem Resolve_none (s : ByteArray) (hs : s.size ≤ 1099511627776) (w : World) (E : Env w) (hne : s.data.toList ≠ []) (hm : mayR false s.data.toList = true) (hv : valOf s.data.toList = .none) :
    Calls Tryz.prog 42 #[.string s] w fun e w' => e = .returned (.tuple #[.agg #[.int .i64 0, .int .i64 0, .string ⟨#[]⟩], .int .i64 50]) ∧ Below w.heap.size w w' := by
  have ta : ∀ w, (Instr.typeAssert (.iface 80 (.agg #[])) 20 80 true).run Tryz.prog w = .ok (.tuple #[.agg #[], .bool true]) w := fun _ => by kernel_rfl
  have hV : valV s = .iface 80 (.agg #[]) := by rw [valV_of, hv]; rfl
  have E0 := E.below ((Below.refl _ w).alloc (Nat.le_refl _) zero3)
  have HV := Lib.hid hV
  have hM := May_any s hs false _ E0
  rw [hm] at hM
  have HM := Lib.hid hM
  have h1 : s.toList.isEmpty = false := by rw [ByteArray.toList_eq]; simpa using hne
  have h2 : (!s.toList.isEmpty) = true := by rw [h1]; rfl
  have HE0 := Lib.hid E0
  clear E E0 hM hne hm hv hV
  go_enter Tryz.func42, Tryz.ntmps42
  go_wp2_with fail
  refine HM.out.mono ?_
  rintro e w1 ⟨rfl, hb1⟩
  obtain ⟨hx1, hz1, hb⟩ := res_cells hb1
  have HB1 := Lib.hid hb
  have HE1 := Lib.hid (HE0.out.below hb1)
  have c0 := cell_of_row _ _ 0 _ _ _ hx1
  have c1 := cell_of_row _ _ 1 _ _ _ hx1
  have c2 := cell_of_row _ _ 2 _ _ _ hx1
  have f0 := frozen_of_row _ _ 0 _ _ hx1
  have f1 := frozen_of_row _ _ 1 _ _ hx1
  have f2 := frozen_of_row _ _ 2 _ _ hx1
  simp at c0 c1 c2
  have HX1 := Lib.hid hx1
  have hV2 := valueOf_any s hs w1 HE1.out
  rw [HV.out] at hV2
  have HV2 := Lib.hid hV2
  clear hb1 hx1 hb hV2
  go_wp2_with fail
  refine HV2.out.mono ?_
  rintro e w2 ⟨rfl, hb2⟩
  have hx2 := (hb2.block w.heap.size (by omega)).trans HX1.out
  have hz2 : w.heap.size < w2.heap.size := by have := hb2.size; omega
  have HB2 := Lib.hid (HB1.out.trans (hb2.mono (by omega)))
  have HE2 := Lib.hid (HE1.out.below hb2)
  clear c0 c1 c2 f0 f1 f2
  clear hb2
  have c0 := cell_of_row _ _ 0 _ _ _ hx2
  have c1 := cell_of_row _ _ 1 _ _ _ hx2
  have c2 := cell_of_row _ _ 2 _ _ _ hx2
  have f0 := frozen_of_row _ _ 0 _ _ hx2
  have f1 := frozen_of_row _ _ 1 _ _ hx2
  have f2 := frozen_of_row _ _ 2 _ _ hx2
  simp at c0 c1 c2
  have HX2 := Lib.hid hx2
  clear hx2
  go_wp2_with fail
  have hr0 := store3 HX2.out (.int .i64 0) (.int .i64 0) (.string ⟨#[]⟩)
  have hbb0 := ((HB2.out.setCell (p := ⟨w.heap.size, 0, none⟩) (Nat.le_refl _) (.int .i64 0)).setCell (p := ⟨w.heap.size, 1, none⟩) (Nat.le_refl _) (.int .i64 0)).setCell (p := ⟨w.heap.size, 2, none⟩) (Nat.le_refl _) (.string ⟨#[]⟩)
  clear c0 c1 c2 f0 f1 f2
  generalize ((w2.setCell ⟨w.heap.size, 0, none⟩ (.int .i64 0)).setCell ⟨w.heap.size, 1, none⟩ (.int .i64 0)).setCell ⟨w.heap.size, 2, none⟩ (.string ⟨#[]⟩) = wy at hr0 hbb0 ⊢
  have hr := keep_alloc (o' := .cells #[] 80) hr0
  have hbb := hbb0.alloc hbb0.size (.cells #[] 80)
  generalize wy.alloc (.cells #[] 80) = wz at hr hbb ⊢
  have r0 := cell_of_row _ _ 0 _ _ _ hr
  have r1 := cell_of_row _ _ 1 _ _ _ hr
  have r2 := cell_of_row _ _ 2 _ _ _ hr
  exact bodyPost_ret (v := .tuple #[.agg #[.int .i64 0, .int .i64 0, .string ⟨#[]⟩], .int .i64 50]) (by simp [results, Tryz.results42, go_sem, r0, r1, r2]) rfl ⟨rfl, hbb⟩
theorem Resolve_int (s : ByteArray) (hs : s.size ≤ 1099511627776) (n : Int) (w : World) (E : Env w) (hne : s.data.toList ≠ []) (hm : mayR false s.data.toList = true) (hv : valOf s.data.toList = .int n) :
    Calls Tryz.prog 42 #[.string s] w fun e w' => e = .returned (.tuple #[.agg #[.int .i64 2, .int .i64 n, .string ⟨#[]⟩], .int .i64 0]) ∧ Below w.heap.size w w' := by
  have ta : ∀ w, (Instr.typeAssert (.iface 3 (.int .i64 n)) 20 80 true).run Tryz.prog w = .ok (.tuple #[.agg #[], .bool false]) w := fun _ => by kernel_rfl
  have hV : valV s = .iface 3 (.int .i64 n) := by rw [valV_of, hv]; rfl
  have E0 := E.below ((Below.refl _ w).alloc (Nat.le_refl _) zero3)
  have HV := Lib.hid hV
  have hM := May_any s hs false _ E0
  rw [hm] at hM
  have HM := Lib.hid hM
  have h1 : s.toList.isEmpty = false := by rw [ByteArray.toList_eq]; simpa using hne
  have h2 : (!s.toList.isEmpty) = true := by rw [h1]; rfl
  have HE0 := Lib.hid E0
  clear E E0 hM hne hm hv hV
  go_enter Tryz.func42, Tryz.ntmps42
  go_wp2_with fail
  refine HM.out.mono ?_
  rintro e w1 ⟨rfl, hb1⟩
  obtain ⟨hx1, hz1, hb⟩ := res_cells hb1
  have HB1 := Lib.hid hb
  have HE1 := Lib.hid (HE0.out.below hb1)
  have c0 := cell_of_row _ _ 0 _ _ _ hx1
  have c1 := cell_of_row _ _ 1 _ _ _ hx1
  have c2 := cell_of_row _ _ 2 _ _ _ hx1
  have f0 := frozen_of_row _ _ 0 _ _ hx1
  have f1 := frozen_of_row _ _ 1 _ _ hx1
  have f2 := frozen_of_row _ _ 2 _ _ hx1
  simp at c0 c1 c2
  have HX1 := Lib.hid hx1
  have hV2 := valueOf_any s hs w1 HE1.out
  rw [HV.out] at hV2
  have HV2 := Lib.hid hV2
  clear hb1 hx1 hb hV2
  go_wp2_with fail
  refine HV2.out.mono ?_
  rintro e w2 ⟨rfl, hb2⟩
  have hx2 := (hb2.block w.heap.size (by omega)).trans HX1.out
  have hz2 : w.heap.size < w2.heap.size := by have := hb2.size; omega
  have HB2 := Lib.hid (HB1.out.trans (hb2.mono (by omega)))
  have HE2 := Lib.hid (HE1.out.below hb2)
  clear c0 c1 c2 f0 f1 f2
  clear hb2
  have c0 := cell_of_row _ _ 0 _ _ _ hx2
  have c1 := cell_of_row _ _ 1 _ _ _ hx2
  have c2 := cell_of_row _ _ 2 _ _ _ hx2
  have f0 := frozen_of_row _ _ 0 _ _ hx2
  have f1 := frozen_of_row _ _ 1 _ _ hx2
  have f2 := frozen_of_row _ _ 2 _ _ hx2
  simp at c0 c1 c2
  have HX2 := Lib.hid hx2
  clear hx2
  go_wp2_with fail
  refine (scalar_int n _).mono ?_
  rintro e w3 ⟨rfl, hb3⟩
  have hx3 := (hb3.block w.heap.size (by simp; omega)).trans (keep_alloc HX2.out)
  have hz3 : w.heap.size < w3.heap.size := by have := hb3.size; simp at this; omega
  have HB3 := Lib.hid (HB2.out.trans (((Below.refl _ w2).alloc (Nat.le_refl _) (.cells #[] 80)).trans (hb3.mono (by simp)) |>.mono (by omega)))
  clear c0 c1 c2 f0 f1 f2
  have c0 := cell_of_row _ _ 0 _ _ _ hx3
  have c1 := cell_of_row _ _ 1 _ _ _ hx3
  have c2 := cell_of_row _ _ 2 _ _ _ hx3
  have f0 := frozen_of_row _ _ 0 _ _ hx3
  have f1 := frozen_of_row _ _ 1 _ _ hx3
  have f2 := frozen_of_row _ _ 2 _ _ hx3
  simp at c0 c1 c2
  have HX3 := Lib.hid hx3
  clear hb3 hx3
  go_wp2_with fail
  have hr := store3 HX3.out (.int .i64 2) (.int .i64 n) (.string ⟨#[]⟩)
  have hbb := ((HB3.out.setCell (p := ⟨w.heap.size, 0, none⟩) (Nat.le_refl _) (.int .i64 2)).setCell (p := ⟨w.heap.size, 1, none⟩) (Nat.le_refl _) (.int .i64 n)).setCell (p := ⟨w.heap.size, 2, none⟩) (Nat.le_refl _) (.string ⟨#[]⟩)
  clear c0 c1 c2 f0 f1 f2
  generalize ((w3.setCell ⟨w.heap.size, 0, none⟩ (.int .i64 2)).setCell ⟨w.heap.size, 1, none⟩ (.int .i64 n)).setCell ⟨w.heap.size, 2, none⟩ (.string ⟨#[]⟩) = wz at hr hbb ⊢
  have r0 := cell_of_row _ _ 0 _ _ _ hr
  have r1 := cell_of_row _ _ 1 _ _ _ hr
  have r2 := cell_of_row _ _ 2 _ _ _ hr
  exact bodyPost_ret (v := .tuple #[.agg #[.int .i64 2, .int .i64 n, .string ⟨#[]⟩], .int .i64 0]) (by simp [results, Tryz.results42, go_sem, r0, r1, r2]) rfl ⟨rfl, hbb⟩
theorem Resolve_text (s : ByteArray) (hs : s.size ≤ 1099511627776) (w : World) (E : Env w) (hne : s.data.toList ≠ []) (hm : mayR false s.data.toList = true) (hv : valOf s.data.toList = .text) :
    Calls Tryz.prog 42 #[.string s] w fun e w' => e = .returned (.tuple #[.agg #[.int .i64 3, .int .i64 0, .string s], .int .i64 0]) ∧ Below w.heap.size w w' := by
  have ta : ∀ w, (Instr.typeAssert (.iface 9 (.string s)) 20 80 true).run Tryz.prog w = .ok (.tuple #[.agg #[], .bool false]) w := fun _ => by kernel_rfl
  have hV : valV s = .iface 9 (.string s) := by rw [valV_of, hv]; rfl
  have E0 := E.below ((Below.refl _ w).alloc (Nat.le_refl _) zero3)
  have HV := Lib.hid hV
  have hM := May_any s hs false _ E0
  rw [hm] at hM
  have HM := Lib.hid hM
  have h1 : s.toList.isEmpty = false := by rw [ByteArray.toList_eq]; simpa using hne
  have h2 : (!s.toList.isEmpty) = true := by rw [h1]; rfl
  have HE0 := Lib.hid E0
  clear E E0 hM hne hm hv hV
  go_enter Tryz.func42, Tryz.ntmps42
  go_wp2_with fail
  refine HM.out.mono ?_
  rintro e w1 ⟨rfl, hb1⟩
  obtain ⟨hx1, hz1, hb⟩ := res_cells hb1
  have HB1 := Lib.hid hb
  have HE1 := Lib.hid (HE0.out.below hb1)
  have c0 := cell_of_row _ _ 0 _ _ _ hx1
  have c1 := cell_of_row _ _ 1 _ _ _ hx1
  have c2 := cell_of_row _ _ 2 _ _ _ hx1
  have f0 := frozen_of_row _ _ 0 _ _ hx1
  have f1 := frozen_of_row _ _ 1 _ _ hx1
  have f2 := frozen_of_row _ _ 2 _ _ hx1
  simp at c0 c1 c2
  have HX1 := Lib.hid hx1
  have hV2 := valueOf_any s hs w1 HE1.out
  rw [HV.out] at hV2
  have HV2 := Lib.hid hV2
  clear hb1 hx1 hb hV2
  go_wp2_with fail
  refine HV2.out.mono ?_
  rintro e w2 ⟨rfl, hb2⟩
  have hx2 := (hb2.block w.heap.size (by omega)).trans HX1.out
  have hz2 : w.heap.size < w2.heap.size := by have := hb2.size; omega
  have HB2 := Lib.hid (HB1.out.trans (hb2.mono (by omega)))
  have HE2 := Lib.hid (HE1.out.below hb2)
  clear c0 c1 c2 f0 f1 f2
  clear hb2
  have c0 := cell_of_row _ _ 0 _ _ _ hx2
  have c1 := cell_of_row _ _ 1 _ _ _ hx2
  have c2 := cell_of_row _ _ 2 _ _ _ hx2
  have f0 := frozen_of_row _ _ 0 _ _ hx2
  have f1 := frozen_of_row _ _ 1 _ _ hx2
  have f2 := frozen_of_row _ _ 2 _ _ hx2
  simp at c0 c1 c2
  have HX2 := Lib.hid hx2
  clear hx2
  go_wp2_with fail
  refine (scalar_text s hs _).mono ?_
  rintro e w3 ⟨rfl, hb3⟩
  have hx3 := (hb3.block w.heap.size (by simp; omega)).trans (keep_alloc HX2.out)
  have hz3 : w.heap.size < w3.heap.size := by have := hb3.size; simp at this; omega
  have HB3 := Lib.hid (HB2.out.trans (((Below.refl _ w2).alloc (Nat.le_refl _) (.cells #[] 80)).trans (hb3.mono (by simp)) |>.mono (by omega)))
  clear c0 c1 c2 f0 f1 f2
  have c0 := cell_of_row _ _ 0 _ _ _ hx3
  have c1 := cell_of_row _ _ 1 _ _ _ hx3
  have c2 := cell_of_row _ _ 2 _ _ _ hx3
  have f0 := frozen_of_row _ _ 0 _ _ hx3
  have f1 := frozen_of_row _ _ 1 _ _ hx3
  have f2 := frozen_of_row _ _ 2 _ _ hx3
  simp at c0 c1 c2
  have HX3 := Lib.hid hx3
  clear hb3 hx3
  go_wp2_with fail
  have hr := store3 HX3.out (.int .i64 3) (.int .i64 0) (.string s)
  have hbb := ((HB3.out.setCell (p := ⟨w.heap.size, 0, none⟩) (Nat.le_refl _) (.int .i64 3)).setCell (p := ⟨w.heap.size, 1, none⟩) (Nat.le_refl _) (.int .i64 0)).setCell (p := ⟨w.heap.size, 2, none⟩) (Nat.le_refl _) (.string s)
  clear c0 c1 c2 f0 f1 f2
  generalize ((w3.setCell ⟨w.heap.size, 0, none⟩ (.int .i64 3)).setCell ⟨w.heap.size, 1, none⟩ (.int .i64 0)).setCell ⟨w.heap.size, 2, none⟩ (.string s) = wz at hr hbb ⊢
  have r0 := cell_of_row _ _ 0 _ _ _ hr
  have r1 := cell_of_row _ _ 1 _ _ _ hr
  have r2 := cell_of_row _ _ 2 _ _ _ hr
  exact bodyPost_ret (v := .tuple #[.agg #[.int .i64 3, .int .i64 0, .string s], .int .i64 0]) (by simp [results, Tryz.results42, go_sem, r0, r1, r2]) rfl ⟨rfl, hbb⟩
theorem Resolve_null0 (s : ByteArray) (hs : s.size ≤ 1099511627776) (w : World) (E : Env w) (hne : s.data.toList = []) (hv : valOf s.data.toList = .null) :
    Calls Tryz.prog 42 #[.string s] w fun e w' => e = .returned (.tuple #[.agg #[.int .i64 0, .int .i64 0, .string ⟨#[]⟩], .int .i64 0]) ∧ Below w.heap.size w w' := by
  have ta : ∀ w, (Instr.typeAssert (.nilIface) 20 80 true).run Tryz.prog w = .ok (.tuple #[.agg #[], .bool false]) w := fun _ => by kernel_rfl
  have hV : valV s = .nilIface := by rw [valV_of, hv]; rfl
  have E0 := E.below ((Below.refl _ w).alloc (Nat.le_refl _) zero3)
  have HV := Lib.hid hV
  have h1 : s.toList.isEmpty = true := by rw [ByteArray.toList_eq, hne]; rfl
  have h2 : (!s.toList.isEmpty) = false := by rw [h1]; rfl
  have hV2 := valueOf_any s hs _ E0
  rw [HV.out] at hV2
  have HV2 := Lib.hid hV2
  have HE0 := Lib.hid E0
  clear E E0 hne hv hV hV2
  go_enter Tryz.func42, Tryz.ntmps42
  go_wp2_with fail
  refine HV2.out.mono ?_
  rintro e w2 ⟨rfl, hb2⟩
  obtain ⟨hx2, hz2, hb⟩ := res_cells hb2
  have HB2 := Lib.hid hb
  have HE2 := Lib.hid (HE0.out.below hb2)
  have c0 := cell_of_row _ _ 0 _ _ _ hx2
  have c1 := cell_of_row _ _ 1 _ _ _ hx2
  have c2 := cell_of_row _ _ 2 _ _ _ hx2
  have f0 := frozen_of_row _ _ 0 _ _ hx2
  have f1 := frozen_of_row _ _ 1 _ _ hx2
  have f2 := frozen_of_row _ _ 2 _ _ hx2
  simp at c0 c1 c2
  have HX2 := Lib.hid hx2
  clear hb2 hx2 hb
  go_wp2_with fail
  refine (scalar_null _).mono ?_
  rintro e w3 ⟨rfl, hb3⟩
  have hx3 := (hb3.block w.heap.size (by simp; omega)).trans (keep_alloc HX2.out)
  have hz3 : w.heap.size < w3.heap.size := by have := hb3.size; simp at this; omega
  have HB3 := Lib.hid (HB2.out.trans (((Below.refl _ w2).alloc (Nat.le_refl _) (.cells #[] 80)).trans (hb3.mono (by simp)) |>.mono (by omega)))
  clear c0 c1 c2 f0 f1 f2
  have c0 := cell_of_row _ _ 0 _ _ _ hx3
  have c1 := cell_of_row _ _ 1 _ _ _ hx3
  have c2 := cell_of_row _ _ 2 _ _ _ hx3
  have f0 := frozen_of_row _ _ 0 _ _ hx3
  have f1 := frozen_of_row _ _ 1 _ _ hx3
  have f2 := frozen_of_row _ _ 2 _ _ hx3
  simp at c0 c1 c2
  have HX3 := Lib.hid hx3
  clear hb3 hx3
  go_wp2_with fail
  have hr := store3 HX3.out (.int .i64 0) (.int .i64 0) (.string ⟨#[]⟩)
  have hbb := ((HB3.out.setCell (p := ⟨w.heap.size, 0, none⟩) (Nat.le_refl _) (.int .i64 0)).setCell (p := ⟨w.heap.size, 1, none⟩) (Nat.le_refl _) (.int .i64 0)).setCell (p := ⟨w.heap.size, 2, none⟩) (Nat.le_refl _) (.string ⟨#[]⟩)
  clear c0 c1 c2 f0 f1 f2
  generalize ((w3.setCell ⟨w.heap.size, 0, none⟩ (.int .i64 0)).setCell ⟨w.heap.size, 1, none⟩ (.int .i64 0)).setCell ⟨w.heap.size, 2, none⟩ (.string ⟨#[]⟩) = wz at hr hbb ⊢
  have r0 := cell_of_row _ _ 0 _ _ _ hr
  have r1 := cell_of_row _ _ 1 _ _ _ hr
  have r2 := cell_of_row _ _ 2 _ _ _ hr
  exact bodyPost_ret (v := .tuple #[.agg #[.int .i64 0, .int .i64 0, .string ⟨#[]⟩], .int .i64 0]) (by simp [results, Tryz.results42, go_sem, r0, r1, r2]) rfl ⟨rfl, hbb⟩
theorem Resolve_any (s : ByteArray) (hs : s.size ≤ 1099511627776) (w : World) (E : Env w) : Calls Tryz.prog 42 #[.string s] w fun e w' => e = .returned (resolveR s).val ∧ Below w.heap.size w w' := by
  unfold resolveR
  by_cases hne : s.data.toList = []
  · rw [if_neg (fun h => h.1 hne)]
    have hv : valOf s.data.toList = .null := by rw [hne]; rfl
    rw [hv]
    exact Resolve_null0 s hs w E hne hv
  · cases hm : mayR false s.data.toList
    · rw [if_pos ⟨hne, rfl⟩]
      exact Resolve_no s hs w E hne hm
    · rw [if_neg (fun h => by have := h.2; cases this)]
      cases hv : valOf s.data.toList with
      | null => exact Resolve_null s hs w E hne hm hv
      | bool b =>
        cases b
        · exact Resolve_false s hs w E hne hm hv
        · exact Resolve_true s hs w E hne hm hv
      | none => exact Resolve_none s hs w E hne hm hv
      | int n => exact Resolve_int s hs n w E hne hm hv
      | text => exact Resolve_text s hs w E hne hm hv
end Go.Proofs.YtkliecngkcjieaaGreatDoor
