/- Which scalars are right is told as the document tells it. Conditions: the library's tables of texts lie as they are laid; the text is not too long. A text's number is that of its digits, if it is written as that number is. Conditions: the library's tables lie as they are laid; the text is not too long. The words that say something else than themselves, with their values, lie in a map; a text is looked up in it. Conditions: none. -/
import Derived.Test.YtkliecngkcjieaaGreatDoorBlk
import Derived.Maps.Own
import Derived.Maps.OwnOps
import Derived.Maps.OwnSet
import Derived.Laws.IdiomMaps
import Derived.WideMake
set_option maxRecDepth 100000
namespace Go.Proofs.YtkliecngkcjieaaGreatDoor
open Go.RowKit Go.Shelf
open Pl Seqo
def scV (k n : Int) (s : ByteArray) : Value := .agg #[.int .i64 k, .int .i64 n, .string s]
def rightR (k n : Int) (l : List UInt8) : Bool :=
  if (k == 0) = true then (if n = 0 then l.isEmpty else false)
  else if (k == 1) = true then (if n = 0 then l.isEmpty else if n = 1 then l.isEmpty else false)
  else if (k == 2) = true then (if -999999999999999 ≤ n then (if n ≤ 999999999999999 then l.isEmpty else false) else false)
  else if (k == 3) = true then (if n = 0 then Go.Lib.validD l else false) else false
set_option maxRecDepth 100000 in
set_option maxHeartbeats 4000000 in
theorem Right_any (k n : Int) (s : ByteArray) (hs : s.size ≤ 1099511627776) (w : World) (E : Env w) :
    Calls Tryz.prog 26 #[.agg #[.int .i64 k, .int .i64 n, .string s]] w fun e w' => e = .returned (.bool (rightR k n s.data.toList)) ∧ Below w.heap.size w w' := by
  by_cases h0 : n = 0
  all_goals
    try subst h0
    first
      | have hR := right_any s hs _ (E.below ((Below.refl _ _).alloc (Nat.le_refl _) (.cells #[.int .i64 k, .int .i64 0, .string s] 23)))
      | skip
    have HR := Lib.hid hR
    have HE := Lib.hid E
    obtain ⟨l, hl⟩ : ∃ l, s.data.toList = l := ⟨_, rfl⟩
    have hle : s.toList.isEmpty = l.isEmpty := by rw [ByteArray.toList_eq, hl]
    rw [hl] at HR ⊢
    clear hR E hl
    go_enter Tryz.func26, Tryz.ntmps26
    go_wp2_with (go_at_call 40; refine HR.out.mono ?_; rintro e w1 ⟨rfl, hb1⟩; have HB1 := Lib.hid hb1; clear hb1)
    all_goals
      go_ret
      first
        | (refine ⟨ret_bool ?_, (Below.refl _ _).alloc (Nat.le_refl _) _⟩; unfold rightR; simp [*]; done)
        | (refine ⟨ret_bool ?_, (Below.refl _ _).alloc (Nat.le_refl _) _⟩; unfold rightR; simp [*]; omega)
        | (refine ⟨ret_bool ?_, ((Below.refl _ w).alloc (Nat.le_refl _) _).trans (HB1.out.mono (by simp))⟩; unfold rightR; simp [*]; done)
end Go.Proofs.YtkliecngkcjieaaGreatDoor

set_option maxRecDepth 100000
namespace Go.Proofs.YtkliecngkcjieaaGreatDoor
open Go.RowKit Go.Shelf
open Pl Seqo
/-- a text's number -/
def numB (l : List UInt8) : Option Int := match Go.Lib.atoiAll l with
  | .ok v => if Go.Lib.itoa v = l then (if -999999999999999 ≤ v ∧ v ≤ 999999999999999 then some v else none) else none
  | _ => none
def ifaceOf : Option Int → Value
  | some v => .iface 3 (.int .i64 v)
  | none => .iface 80 (.agg #[])
theorem grow_below (w : World) (k : Nat) (os : Array Obj) : Below w.heap.size w (Go.Sort.grow (w.drewN k) os) :=
  ⟨rfl, rfl, rfl, by simp [Go.Sort.grow, World.drewN], fun j hj => by simp [Go.Sort.grow, World.drewN, Array.getElem?_append_left hj]⟩
theorem ret_v {x y : Value} (h : x = y) : Ending.returned x = Ending.returned y := by rw [h]
set_option maxHeartbeats 1000000 in
theorem numberOf_any (s : ByteArray) (hs : s.size ≤ 1099511627776) (w : World) (E : Env w) :
    Calls Tryz.prog 99 #[.string s] w fun e w' => e = .returned (ifaceOf (numB s.data.toList)) ∧ Below w.heap.size w w' := by
  have HE := Lib.hid E
  obtain ⟨R, hR⟩ : ∃ R, numB s.data.toList = R := ⟨_, rfl⟩
  rw [hR]
  unfold numB at hR
  cases ha : Go.Lib.atoiAll s.data.toList with
  | «syntax» =>
    rw [ha] at hR
    subst hR
    obtain ⟨tp, p, hv⟩ := E.syn
    have hA := Tryz.strconv_Atoi_syntax_var s (by omega) ha tp p w hv
    have HA := Lib.hid hA
    clear hA hv E ha
    go_enter Tryz.func99, Tryz.ntmps99
    go_wp2_with fail
    refine HA.out.mono ?_
    rintro e w1 ⟨N, rfl, hN, _, hb1⟩
    have HB1 := Lib.hid hb1
    clear hb1
    go_wp2_with fail
    go_ret
    exact ⟨rfl, HB1.out⟩
  | range =>
    rw [ha] at hR
    subst hR
    obtain ⟨tp, p, hv⟩ := E.rng
    have hA := Tryz.strconv_Atoi_range_var s (by omega) ha tp p w hv
    obtain ⟨X, hX⟩ : ∃ X, Go.Lib.atoiSat s.data.toList = X := ⟨_, rfl⟩
    rw [hX] at hA
    have HA := Lib.hid hA
    clear hA hv E ha hX
    go_enter Tryz.func99, Tryz.ntmps99
    go_wp2_with fail
    refine HA.out.mono ?_
    rintro e w1 ⟨N, rfl, hN, _, hb1⟩
    have HB1 := Lib.hid hb1
    clear hb1
    go_wp2_with fail
    go_ret
    exact ⟨rfl, HB1.out⟩
  | ok v =>
    rw [ha] at hR
    have hA := Tryz.strconv_Atoi_ok s (by omega) v ha w
    obtain ⟨v0, v1⟩ := Go.Lib.atoiAll_bounds ha
    have HA := Lib.hid hA
    have HR := Lib.hid hR
    clear hA E ha hR
    go_enter Tryz.func99, Tryz.ntmps99
    go_wp2_with fail
    refine HA.out.mono ?_
    rintro e w1 ⟨rfl, hw1⟩
    have hb1 : Below w.heap.size w w1 := by
      rcases hw1 with rfl | ⟨t, rfl⟩
      · exact Below.refl _ _
      · exact Go.Lib.bytesWorld_below w 5 t
    have E1 := HE.out.below hb1
    have hI := Tryz.strconv_Itoa v v0 v1 w1 E1.pow
    obtain ⟨D, hD⟩ : ∃ D : ByteArray, (⟨(Go.Lib.itoa v).toArray⟩ : ByteArray) = D := ⟨_, rfl⟩
    have hDl : D.data.toList = Go.Lib.itoa v := by rw [← hD]
    rw [hD] at hI
    have HI := Lib.hid hI
    have HB1 := Lib.hid hb1
    have HE1 := Lib.hid E1
    have HD := Lib.hid hDl
    clear hI hb1 E1 hw1 hD hDl
    go_wp2_with fail
    refine HI.out.mono ?_
    rintro e w2 ⟨rfl, k, os, hw2⟩
    have hb2 : Below w1.heap.size w1 w2 := by rw [hw2]; exact grow_below w1 k os
    have HB2 := Lib.hid (HB1.out.trans (hb2.mono HB1.out.size))
    have HE2 := Lib.hid (HE1.out.below hb2)
    clear hb2 hw2
    have hRt := Right_any 2 v ⟨#[]⟩ (by decide) w2 HE2.out
    by_cases he : Go.Lib.itoa v = s.data.toList
    · have hq : (D.toList == s.toList) = true := by rw [ByteArray.toList_eq, ByteArray.toList_eq, HD.out, he]; simp
      have HQ := Lib.hid he
      clear he
      by_cases hv : -999999999999999 ≤ v ∧ v ≤ 999999999999999
      · rw [show rightR 2 v (⟨#[]⟩ : ByteArray).data.toList = true by simp [rightR, hv.1, hv.2]] at hRt
        have HRT := Lib.hid hRt
        have HV := Lib.hid hv
        clear hRt hv
        go_wp2_with fail
        refine HRT.out.mono ?_
        rintro e w3 ⟨rfl, hb3⟩
        have HB3 := Lib.hid (HB2.out.trans (hb3.mono HB2.out.size))
        clear hb3
        go_wp2_with fail
        go_ret
        have h := HR.out
        simp only [HQ.out, HV.out, and_self, if_true] at h
        exact ⟨by rw [← h]; rfl, HB3.out⟩
      · rw [show rightR 2 v (⟨#[]⟩ : ByteArray).data.toList = false by
          simp only [rightR, show ((2 : Int) == 0) = false from rfl, show ((2 : Int) == 1) = false from rfl, show ((2 : Int) == 2) = true from rfl, Bool.false_eq_true, if_false, if_true]
          repeat' split
          all_goals first | rfl | omega] at hRt
        have HRT := Lib.hid hRt
        have HV := Lib.hid hv
        clear hRt hv
        go_wp2_with fail
        refine HRT.out.mono ?_
        rintro e w3 ⟨rfl, hb3⟩
        have HB3 := Lib.hid (HB2.out.trans (hb3.mono HB2.out.size))
        clear hb3
        go_wp2_with fail
        go_ret
        have h := HR.out
        simp only [HQ.out, if_true, if_neg HV.out] at h
        exact ⟨by rw [← h]; rfl, HB3.out⟩
    · have hq : (D.toList == s.toList) = false := by rw [ByteArray.toList_eq, ByteArray.toList_eq, HD.out]; simpa using he
      have HQ := Lib.hid he
      clear he hRt
      go_wp2_with fail
      go_ret
      have h := HR.out
      simp only [if_neg HQ.out] at h
      exact ⟨by rw [← h]; rfl, HB2.out⟩
end Go.Proofs.YtkliecngkcjieaaGreatDoor

set_option maxRecDepth 100000
namespace Go.Proofs.YtkliecngkcjieaaGreatDoor
open Go.RowKit Go.Shelf
open Pl Seqo
theorem set_new (w : World) (o o' : Obj) : { w.alloc o with heap := (w.alloc o).heap.setIfInBounds w.heap.size o' } = w.alloc o' := by
  simp only [World.alloc]
  congr 1
  apply Array.ext'
  simp [Array.setIfInBounds, Array.toList_push]
theorem ins (w : World) (es : Array MapEntry) (c : Nat) (k : ByteArray) (v : Value) (h : Instr.findNow .string (.string k) es.toList 0 = some none) :
    (Instr.mapUpdate 119 (.map (some w.heap.size)) (.string k) v).run Tryz.prog (w.alloc (.map es c)) = .ok () (w.alloc (.map (es.push { key := .string k, val := v, born := c }) (c + 1))) := by
  have hb : (w.alloc (.map es c)).heap[w.heap.size]? = some (.map es c) := heap_alloc_new w _
  have hc : (Instr.checkKey false 10000 9 (.string k)).run Tryz.prog (w.alloc (.map es c)) = .ok () (w.alloc (.map es c)) := MapKept.run_checkKey (k := .string k) Tryz.underlying9 (by simp [MapKept.IsKey]) false 9999
  simp [Instr.mapUpdate, run_underlying Tryz.underlying119, MapKept.run_getObj_map hb, hc, MapKept.run_findKey Tryz.underlying9 h, MapKept.run_setObj_map _ hb, Result.andThen]
  exact set_new w _ _
/-- the words and their values -/
def none_ : Value := .iface 80 (.agg #[])
def wordsP : List (List UInt8 × Value) := [([], .nilIface), ([110, 117, 108, 108], .nilIface), ([126], .nilIface), ([116, 114, 117, 101], .iface 4 (.bool true)), ([102, 97, 108, 115, 101], .iface 4 (.bool false)),
  ([46, 105, 110, 102], none_), ([43, 46, 105, 110, 102], none_), ([45, 46, 105, 110, 102], none_), ([46, 110, 97, 110], none_)]
def entries : List (List UInt8 × Value) → Nat → List MapEntry
  | [], _ => []
  | (k, v) :: t, i => { key := .string ⟨k.toArray⟩, val := v, born := i } :: entries t (i + 1)
def look (l : List UInt8) : List (List UInt8 × Value) → Option Value
  | [] => none
  | (k, v) :: t => if l = k then some v else look l t
theorem findNow_look (s : ByteArray) : ∀ (ps : List (List UInt8 × Value)) (i j : Nat), (look s.data.toList ps = none → Instr.findNow .string (.string s) (entries ps i) j = some none) ∧
    (∀ v, look s.data.toList ps = some v → ∃ m, Instr.findNow .string (.string s) (entries ps i) j = some (some (m, v)))
  | [], _, _ => ⟨fun _ => rfl, fun _ h => by cases h⟩
  | (k, v) :: t, i, j => by
    obtain ⟨h1, h2⟩ := findNow_look s t (i + 1) (j + 1)
    have e : (s == (⟨k.toArray⟩ : ByteArray)) = decide (s.data.toList = k) := by
      rw [Bool.eq_iff_iff, decide_eq_true_iff]
      constructor
      · intro h
        have := (MapKept.bytes_beq s _).1 h
        rw [this]
      · intro h
        apply (MapKept.bytes_beq s _).2
        subst h
        cases s; simp
    unfold look
    by_cases h : s.data.toList = k
    · rw [if_pos h]
      refine ⟨(fun hh => by cases hh), (fun v' hv => ⟨j, ?_⟩)⟩
      cases hv
      simp [entries, Instr.findNow, Instr.sameNow, e, h]
    · rw [if_neg h]
      have hs : ∀ r, Instr.findNow .string (.string s) (entries t (i + 1)) (j + 1) = r → Instr.findNow .string (.string s) (entries ((k, v) :: t) i) j = r := fun r hr => by
        simp [entries, Instr.findNow, Instr.sameNow, e, h, hr]
      exact ⟨fun hh => hs _ (h1 hh), fun v' hv => by obtain ⟨m, hm⟩ := h2 v' hv; exact ⟨m, hs _ hm⟩⟩
set_option maxRecDepth 100000 in
set_option maxHeartbeats 1000000 in
theorem words_any (w : World) : Calls Tryz.prog 97 #[] w fun e w' => e = .returned (.map (some w.heap.size)) ∧ w' = w.alloc (.map (entries wordsP 0).toArray 9) := by
  have hmm := @run_makeMap Tryz.prog
  have i0 : (Instr.mapUpdate 119 (.map (some w.heap.size)) (.string ⟨#[]⟩) (.nilIface)).run Tryz.prog (w.alloc (.map #[] 0)) = .ok () (w.alloc (.map #[{ key := .string ⟨#[]⟩, val := .nilIface, born := 0 }] 1)) := ins w #[] 0 ⟨#[]⟩ (.nilIface) (by kernel_rfl)
  have i1 : (Instr.mapUpdate 119 (.map (some w.heap.size)) (.string ⟨#[110, 117, 108, 108]⟩) (.nilIface)).run Tryz.prog (w.alloc (.map #[{ key := .string ⟨#[]⟩, val := .nilIface, born := 0 }] 1)) = .ok () (w.alloc (.map #[{ key := .string ⟨#[]⟩, val := .nilIface, born := 0 }, { key := .string ⟨#[110, 117, 108, 108]⟩, val := .nilIface, born := 1 }] 2)) := ins w #[{ key := .string ⟨#[]⟩, val := .nilIface, born := 0 }] 1 ⟨#[110, 117, 108, 108]⟩ (.nilIface) (by kernel_rfl)
  have i2 : (Instr.mapUpdate 119 (.map (some w.heap.size)) (.string ⟨#[126]⟩) (.nilIface)).run Tryz.prog (w.alloc (.map #[{ key := .string ⟨#[]⟩, val := .nilIface, born := 0 }, { key := .string ⟨#[110, 117, 108, 108]⟩, val := .nilIface, born := 1 }] 2)) = .ok () (w.alloc (.map #[{ key := .string ⟨#[]⟩, val := .nilIface, born := 0 }, { key := .string ⟨#[110, 117, 108, 108]⟩, val := .nilIface, born := 1 }, { key := .string ⟨#[126]⟩, val := .nilIface, born := 2 }] 3)) := ins w #[{ key := .string ⟨#[]⟩, val := .nilIface, born := 0 }, { key := .string ⟨#[110, 117, 108, 108]⟩, val := .nilIface, born := 1 }] 2 ⟨#[126]⟩ (.nilIface) (by kernel_rfl)
  have i3 : (Instr.mapUpdate 119 (.map (some w.heap.size)) (.string ⟨#[116, 114, 117, 101]⟩) (.iface 4 (.bool true))).run Tryz.prog (w.alloc (.map #[{ key := .string ⟨#[]⟩, val := .nilIface, born := 0 }, { key := .string ⟨#[110, 117, 108, 108]⟩, val := .nilIface, born := 1 }, { key := .string ⟨#[126]⟩, val := .nilIface, born := 2 }] 3)) = .ok () (w.alloc (.map #[{ key := .string ⟨#[]⟩, val := .nilIface, born := 0 }, { key := .string ⟨#[110, 117, 108, 108]⟩, val := .nilIface, born := 1 }, { key := .string ⟨#[126]⟩, val := .nilIface, born := 2 }, { key := .string ⟨#[116, 114, 117, 101]⟩, val := .iface 4 (.bool true), born := 3 }] 4)) := ins w #[{ key := .string ⟨#[]⟩, val := .nilIface, born := 0 }, { key := .string ⟨#[110, 117, 108, 108]⟩, val := .nilIface, born := 1 }, { key := .string ⟨#[126]⟩, val := .nilIface, born := 2 }] 3 ⟨#[116, 114, 117, 101]⟩ (.iface 4 (.bool true)) (by kernel_rfl)
  have i4 : (Instr.mapUpdate 119 (.map (some w.heap.size)) (.string ⟨#[102, 97, 108, 115, 101]⟩) (.iface 4 (.bool false))).run Tryz.prog (w.alloc (.map #[{ key := .string ⟨#[]⟩, val := .nilIface, born := 0 }, { key := .string ⟨#[110, 117, 108, 108]⟩, val := .nilIface, born := 1 }, { key := .string ⟨#[126]⟩, val := .nilIface, born := 2 }, { key := .string ⟨#[116, 114, 117, 101]⟩, val := .iface 4 (.bool true), born := 3 }] 4)) = .ok () (w.alloc (.map #[{ key := .string ⟨#[]⟩, val := .nilIface, born := 0 }, { key := .string ⟨#[110, 117, 108, 108]⟩, val := .nilIface, born := 1 }, { key := .string ⟨#[126]⟩, val := .nilIface, born := 2 }, { key := .string ⟨#[116, 114, 117, 101]⟩, val := .iface 4 (.bool true), born := 3 }, { key := .string ⟨#[102, 97, 108, 115, 101]⟩, val := .iface 4 (.bool false), born := 4 }] 5)) := ins w #[{ key := .string ⟨#[]⟩, val := .nilIface, born := 0 }, { key := .string ⟨#[110, 117, 108, 108]⟩, val := .nilIface, born := 1 }, { key := .string ⟨#[126]⟩, val := .nilIface, born := 2 }, { key := .string ⟨#[116, 114, 117, 101]⟩, val := .iface 4 (.bool true), born := 3 }] 4 ⟨#[102, 97, 108, 115, 101]⟩ (.iface 4 (.bool false)) (by kernel_rfl)
  have i5 : (Instr.mapUpdate 119 (.map (some w.heap.size)) (.string ⟨#[46, 105, 110, 102]⟩) (.iface 80 (.agg #[]))).run Tryz.prog (w.alloc (.map #[{ key := .string ⟨#[]⟩, val := .nilIface, born := 0 }, { key := .string ⟨#[110, 117, 108, 108]⟩, val := .nilIface, born := 1 }, { key := .string ⟨#[126]⟩, val := .nilIface, born := 2 }, { key := .string ⟨#[116, 114, 117, 101]⟩, val := .iface 4 (.bool true), born := 3 }, { key := .string ⟨#[102, 97, 108, 115, 101]⟩, val := .iface 4 (.bool false), born := 4 }] 5)) = .ok () (w.alloc (.map #[{ key := .string ⟨#[]⟩, val := .nilIface, born := 0 }, { key := .string ⟨#[110, 117, 108, 108]⟩, val := .nilIface, born := 1 }, { key := .string ⟨#[126]⟩, val := .nilIface, born := 2 }, { key := .string ⟨#[116, 114, 117, 101]⟩, val := .iface 4 (.bool true), born := 3 }, { key := .string ⟨#[102, 97, 108, 115, 101]⟩, val := .iface 4 (.bool false), born := 4 }, { key := .string ⟨#[46, 105, 110, 102]⟩, val := .iface 80 (.agg #[]), born := 5 }] 6)) := ins w #[{ key := .string ⟨#[]⟩, val := .nilIface, born := 0 }, { key := .string ⟨#[110, 117, 108, 108]⟩, val := .nilIface, born := 1 }, { key := .string ⟨#[126]⟩, val := .nilIface, born := 2 }, { key := .string ⟨#[116, 114, 117, 101]⟩, val := .iface 4 (.bool true), born := 3 }, { key := .string ⟨#[102, 97, 108, 115, 101]⟩, val := .iface 4 (.bool false), born := 4 }] 5 ⟨#[46, 105, 110, 102]⟩ (.iface 80 (.agg #[])) (by kernel_rfl)
  have i6 : (Instr.mapUpdate 119 (.map (some w.heap.size)) (.string ⟨#[43, 46, 105, 110, 102]⟩) (.iface 80 (.agg #[]))).run Tryz.prog (w.alloc (.map #[{ key := .string ⟨#[]⟩, val := .nilIface, born := 0 }, { key := .string ⟨#[110, 117, 108, 108]⟩, val := .nilIface, born := 1 }, { key := .string ⟨#[126]⟩, val := .nilIface, born := 2 }, { key := .string ⟨#[116, 114, 117, 101]⟩, val := .iface 4 (.bool true), born := 3 }, { key := .string ⟨#[102, 97, 108, 115, 101]⟩, val := .iface 4 (.bool false), born := 4 }, { key := .string ⟨#[46, 105, 110, 102]⟩, val := .iface 80 (.agg #[]), born := 5 }] 6)) = .ok () (w.alloc (.map #[{ key := .string ⟨#[]⟩, val := .nilIface, born := 0 }, { key := .string ⟨#[110, 117, 108, 108]⟩, val := .nilIface, born := 1 }, { key := .string ⟨#[126]⟩, val := .nilIface, born := 2 }, { key := .string ⟨#[116, 114, 117, 101]⟩, val := .iface 4 (.bool true), born := 3 }, { key := .string ⟨#[102, 97, 108, 115, 101]⟩, val := .iface 4 (.bool false), born := 4 }, { key := .string ⟨#[46, 105, 110, 102]⟩, val := .iface 80 (.agg #[]), born := 5 }, { key := .string ⟨#[43, 46, 105, 110, 102]⟩, val := .iface 80 (.agg #[]), born := 6 }] 7)) := ins w #[{ key := .string ⟨#[]⟩, val := .nilIface, born := 0 }, { key := .string ⟨#[110, 117, 108, 108]⟩, val := .nilIface, born := 1 }, { key := .string ⟨#[126]⟩, val := .nilIface, born := 2 }, { key := .string ⟨#[116, 114, 117, 101]⟩, val := .iface 4 (.bool true), born := 3 }, { key := .string ⟨#[102, 97, 108, 115, 101]⟩, val := .iface 4 (.bool false), born := 4 }, { key := .string ⟨#[46, 105, 110, 102]⟩, val := .iface 80 (.agg #[]), born := 5 }] 6 ⟨#[43, 46, 105, 110, 102]⟩ (.iface 80 (.agg #[])) (by kernel_rfl)
  have i7 : (Instr.mapUpdate 119 (.map (some w.heap.size)) (.string ⟨#[45, 46, 105, 110, 102]⟩) (.iface 80 (.agg #[]))).run Tryz.prog (w.alloc (.map #[{ key := .string ⟨#[]⟩, val := .nilIface, born := 0 }, { key := .string ⟨#[110, 117, 108, 108]⟩, val := .nilIface, born := 1 }, { key := .string ⟨#[126]⟩, val := .nilIface, born := 2 }, { key := .string ⟨#[116, 114, 117, 101]⟩, val := .iface 4 (.bool true), born := 3 }, { key := .string ⟨#[102, 97, 108, 115, 101]⟩, val := .iface 4 (.bool false), born := 4 }, { key := .string ⟨#[46, 105, 110, 102]⟩, val := .iface 80 (.agg #[]), born := 5 }, { key := .string ⟨#[43, 46, 105, 110, 102]⟩, val := .iface 80 (.agg #[]), born := 6 }] 7)) = .ok () (w.alloc (.map #[{ key := .string ⟨#[]⟩, val := .nilIface, born := 0 }, { key := .string ⟨#[110, 117, 108, 108]⟩, val := .nilIface, born := 1 }, { key := .string ⟨#[126]⟩, val := .nilIface, born := 2 }, { key := .string ⟨#[116, 114, 117, 101]⟩, val := .iface 4 (.bool true), born := 3 }, { key := .string ⟨#[102, 97, 108, 115, 101]⟩, val := .iface 4 (.bool false), born := 4 }, { key := .string ⟨#[46, 105, 110, 102]⟩, val := .iface 80 (.agg #[]), born := 5 }, { key := .string ⟨#[43, 46, 105, 110, 102]⟩, val := .iface 80 (.agg #[]), born := 6 }, { key := .string ⟨#[45, 46, 105, 110, 102]⟩, val := .iface 80 (.agg #[]), born := 7 }] 8)) := ins w #[{ key := .string ⟨#[]⟩, val := .nilIface, born := 0 }, { key := .string ⟨#[110, 117, 108, 108]⟩, val := .nilIface, born := 1 }, { key := .string ⟨#[126]⟩, val := .nilIface, born := 2 }, { key := .string ⟨#[116, 114, 117, 101]⟩, val := .iface 4 (.bool true), born := 3 }, { key := .string ⟨#[102, 97, 108, 115, 101]⟩, val := .iface 4 (.bool false), born := 4 }, { key := .string ⟨#[46, 105, 110, 102]⟩, val := .iface 80 (.agg #[]), born := 5 }, { key := .string ⟨#[43, 46, 105, 110, 102]⟩, val := .iface 80 (.agg #[]), born := 6 }] 7 ⟨#[45, 46, 105, 110, 102]⟩ (.iface 80 (.agg #[])) (by kernel_rfl)
  have i8 : (Instr.mapUpdate 119 (.map (some w.heap.size)) (.string ⟨#[46, 110, 97, 110]⟩) (.iface 80 (.agg #[]))).run Tryz.prog (w.alloc (.map #[{ key := .string ⟨#[]⟩, val := .nilIface, born := 0 }, { key := .string ⟨#[110, 117, 108, 108]⟩, val := .nilIface, born := 1 }, { key := .string ⟨#[126]⟩, val := .nilIface, born := 2 }, { key := .string ⟨#[116, 114, 117, 101]⟩, val := .iface 4 (.bool true), born := 3 }, { key := .string ⟨#[102, 97, 108, 115, 101]⟩, val := .iface 4 (.bool false), born := 4 }, { key := .string ⟨#[46, 105, 110, 102]⟩, val := .iface 80 (.agg #[]), born := 5 }, { key := .string ⟨#[43, 46, 105, 110, 102]⟩, val := .iface 80 (.agg #[]), born := 6 }, { key := .string ⟨#[45, 46, 105, 110, 102]⟩, val := .iface 80 (.agg #[]), born := 7 }] 8)) = .ok () (w.alloc (.map #[{ key := .string ⟨#[]⟩, val := .nilIface, born := 0 }, { key := .string ⟨#[110, 117, 108, 108]⟩, val := .nilIface, born := 1 }, { key := .string ⟨#[126]⟩, val := .nilIface, born := 2 }, { key := .string ⟨#[116, 114, 117, 101]⟩, val := .iface 4 (.bool true), born := 3 }, { key := .string ⟨#[102, 97, 108, 115, 101]⟩, val := .iface 4 (.bool false), born := 4 }, { key := .string ⟨#[46, 105, 110, 102]⟩, val := .iface 80 (.agg #[]), born := 5 }, { key := .string ⟨#[43, 46, 105, 110, 102]⟩, val := .iface 80 (.agg #[]), born := 6 }, { key := .string ⟨#[45, 46, 105, 110, 102]⟩, val := .iface 80 (.agg #[]), born := 7 }, { key := .string ⟨#[46, 110, 97, 110]⟩, val := .iface 80 (.agg #[]), born := 8 }] 9)) := ins w #[{ key := .string ⟨#[]⟩, val := .nilIface, born := 0 }, { key := .string ⟨#[110, 117, 108, 108]⟩, val := .nilIface, born := 1 }, { key := .string ⟨#[126]⟩, val := .nilIface, born := 2 }, { key := .string ⟨#[116, 114, 117, 101]⟩, val := .iface 4 (.bool true), born := 3 }, { key := .string ⟨#[102, 97, 108, 115, 101]⟩, val := .iface 4 (.bool false), born := 4 }, { key := .string ⟨#[46, 105, 110, 102]⟩, val := .iface 80 (.agg #[]), born := 5 }, { key := .string ⟨#[43, 46, 105, 110, 102]⟩, val := .iface 80 (.agg #[]), born := 6 }, { key := .string ⟨#[45, 46, 105, 110, 102]⟩, val := .iface 80 (.agg #[]), born := 7 }] 8 ⟨#[46, 110, 97, 110]⟩ (.iface 80 (.agg #[])) (by kernel_rfl)
  go_enter Tryz.func97, Tryz.ntmps97
  go_wp2
  go_ret
  exact ⟨rfl, rfl⟩
theorem lookup_none (w : World) (b : Nat) (s : ByteArray) (hb : w.heap[b]? = some (.map (entries wordsP 0).toArray 9)) (h : look s.data.toList wordsP = none) :
    (Instr.lookup 119 (.map (some b)) (.string s) true).run Tryz.prog w = .ok (.tuple #[.nilIface, .bool false]) w := by
  have hc : ∀ e, (Instr.checkKey e 10000 9 (.string s)).run Tryz.prog w = .ok () w := fun e => MapKept.run_checkKey (k := .string s) Tryz.underlying9 (by simp [MapKept.IsKey]) e 9999
  have hf := (findNow_look s wordsP 0 0).1 h
  have hz : (zeroValue 20).run Tryz.prog w = .ok .nilIface w := by kernel_rfl
  simp [Instr.lookup, run_underlying Tryz.underlying119, MapKept.run_getObj_map hb, hc, MapKept.run_findKey (l := (entries wordsP 0).toArray.toList) Tryz.underlying9 hf, hz, Result.andThen]
theorem lookup_some (w : World) (b : Nat) (s : ByteArray) (v : Value) (hb : w.heap[b]? = some (.map (entries wordsP 0).toArray 9)) (h : look s.data.toList wordsP = some v) :
    (Instr.lookup 119 (.map (some b)) (.string s) true).run Tryz.prog w = .ok (.tuple #[v, .bool true]) w := by
  have hc : ∀ e, (Instr.checkKey e 10000 9 (.string s)).run Tryz.prog w = .ok () w := fun e => MapKept.run_checkKey (k := .string s) Tryz.underlying9 (by simp [MapKept.IsKey]) e 9999
  obtain ⟨m, hf⟩ := (findNow_look s wordsP 0 0).2 v h
  simp [Instr.lookup, run_underlying Tryz.underlying119, MapKept.run_getObj_map hb, hc, MapKept.run_findKey (l := (entries wordsP 0).toArray.toList) Tryz.underlying9 hf, Result.andThen]
/-- a text's value -/
def valV (s : ByteArray) : Value := match look s.data.toList wordsP with
  | some v => v
  | none => if looksR s.data.toList = true then ifaceOf (numB s.data.toList) else .iface 9 (.string s)
set_option maxHeartbeats 1000000 in
theorem valueOf_any (s : ByteArray) (hs : s.size ≤ 1099511627776) (w : World) (E : Env w) :
    Calls Tryz.prog 65 #[.string s] w fun e w' => e = .returned (valV s) ∧ Below w.heap.size w w' := by
  obtain ⟨R, hR⟩ : ∃ R, valV s = R := ⟨_, rfl⟩
  rw [hR]
  unfold valV at hR
  obtain ⟨w1, hw1⟩ : ∃ w1, w.alloc (.map (entries wordsP 0).toArray 9) = w1 := ⟨_, rfl⟩
  have hb1 : Below w.heap.size w w1 := by rw [← hw1]; exact (Below.refl _ _).alloc (Nat.le_refl _) _
  have hx1 : w1.heap[w.heap.size]? = some (.map (entries wordsP 0).toArray 9) := by rw [← hw1]; exact heap_alloc_new w _
  have E1 := E.below hb1
  have hW := words_any w
  rw [hw1] at hW
  have HW := Lib.hid hW
  have HB1 := Lib.hid hb1
  have HE1 := Lib.hid E1
  clear hw1 hb1 E E1 hW
  cases hl : look s.data.toList wordsP with
  | some v =>
    rw [hl] at hR
    have hk := lookup_some w1 w.heap.size s v hx1 hl
    have HR := Lib.hid hR
    clear hl hx1 hR
    go_enter Tryz.func65, Tryz.ntmps65
    go_wp2_with fail
    refine HW.out.mono ?_
    rintro e w' ⟨rfl, rfl⟩
    go_wp2_with fail
    go_ret
    exact ⟨by rw [← HR.out]; rfl, HB1.out⟩
  | none =>
    rw [hl] at hR
    have hk := lookup_none w1 w.heap.size s hx1 hl
    clear hl hx1
    have hL := looks_any s hs w1 HE1.out
    cases hlk : looksR s.data.toList
    · rw [hlk] at hL hR
      have HL := Lib.hid hL
      have HR := Lib.hid hR
      clear hL hR hlk
      go_enter Tryz.func65, Tryz.ntmps65
      go_wp2_with fail
      refine HW.out.mono ?_
      rintro e w' ⟨rfl, rfl⟩
      go_wp2_with fail
      refine HL.out.mono ?_
      rintro e w2 ⟨rfl, hb2⟩
      have HB2 := Lib.hid (HB1.out.trans (hb2.mono HB1.out.size))
      clear hb2
      go_wp2_with fail
      go_ret
      exact ⟨by rw [← HR.out]; rfl, HB2.out⟩
    · rw [hlk] at hL hR
      have HL := Lib.hid hL
      have HR := Lib.hid hR
      clear hL hR hlk
      go_enter Tryz.func65, Tryz.ntmps65
      go_wp2_with fail
      refine HW.out.mono ?_
      rintro e w' ⟨rfl, rfl⟩
      go_wp2_with fail
      refine HL.out.mono ?_
      rintro e w2 ⟨rfl, hb2⟩
      have E2 := HE1.out.below hb2
      have HB2 := Lib.hid (HB1.out.trans (hb2.mono HB1.out.size))
      have HE2 := Lib.hid E2
      clear hb2 E2
      go_wp2_with fail
      refine (numberOf_any s hs w2 HE2.out).mono ?_
      rintro e w3 ⟨rfl, hb3⟩
      have HB3 := Lib.hid (HB2.out.trans (hb3.mono HB2.out.size))
      clear hb3
      go_wp2_with fail
      go_ret
      exact ⟨by rw [← HR.out]; rfl, HB3.out⟩
end Go.Proofs.YtkliecngkcjieaaGreatDoor
