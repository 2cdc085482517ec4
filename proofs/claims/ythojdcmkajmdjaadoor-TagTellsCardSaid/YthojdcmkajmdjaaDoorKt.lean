/- Which number a refusal has. Conditions: none. A keyed hasher's sum of some texts is that of them one behind the other, or the hasher's refusal. Conditions: the hasher, the key and the texts lie in blocks of their own. A keyed hasher is made of a key, or of its sum, or none is, of one that is too long. Conditions: the surroundings. A key's bytes, each xor a number, as a text. Conditions: the key has sixty-four bytes. A text's tag under a key is that of the standard, or the answer is that one of them is too long. Conditions: the surroundings. -/
import Derived.Test.YthojdcmkajmdjaaDoorHt
import Derived.Test.YthojdcmkajmdjaaDoorRows
import Derived.WalkKit
import Derived.WalkLawsBesides
import Derived.WalkSpells
import Derived.Outline
import Derived.Lib.Hide
import Derived.Test.YthojdcmkajmdjaaDoorHs
import Derived.Test.YthojdcmkajmdjaaDoorJf
import Derived.Test.YthojdcmkajmdjaaDoorAdd
import Derived.WalkMore
import Derived.Deep.MidRow
namespace Go.Proofs.YthojdcmkajmdjaaDoor
open Go.RowKit
open Hx
theorem assert_nil (w : World) : (Instr.typeAssert .nilIface 36 68 true).run Tryd.prog w = .ok (.tuple #[.int .i64 0, .bool false]) w := by kernel_rfl
theorem assert_some (n : Int) (w : World) : (Instr.typeAssert (.iface 68 (.int .i64 n)) 36 68 true).run Tryd.prog w = .ok (.tuple #[.int .i64 n, .bool true]) w := by kernel_rfl
set_option maxRecDepth 100000 in
theorem knumber_nil (w : World) :
    Calls Tryd.prog 21 #[.nilIface] w fun e w' => e = .returned (.int .i64 0) ∧ w' = w := by
  have ha := assert_nil
  go_enter Tryd.func21, Tryd.ntmps21
  go_wp2
  go_ret
  exact ⟨rfl, rfl⟩
set_option maxRecDepth 100000 in
theorem knumber_some (n : Int) (w : World) :
    Calls Tryd.prog 21 #[.iface 68 (.int .i64 n)] w fun e w' => e = .returned (.int .i64 n) ∧ w' = w := by
  have hb := assert_some n
  go_enter Tryd.func21, Tryd.ntmps21
  go_wp2
  go_ret
  exact ⟨rfl, rfl⟩
end Go.Proofs.YthojdcmkajmdjaaDoor

namespace Go.Proofs.YthojdcmkajmdjaaDoor
open Go.RowKit Go.Shelf
open Rd Dg Hx Box
/-- the cells of a keyed hasher -/
def kA (hb : Nat) (K : List UInt8) : Array Value := ((.pointer (some ⟨hb, 0, none⟩) : Value) :: K.map cellOf).toArray
theorem kA_zero (hb : Nat) (K : List UInt8) : (kA hb K)[0]? = some (.pointer (some ⟨hb, 0, none⟩)) := by simp [kA]
/-- a keyed hasher lies at kb, its hasher at hb, its key is K -/
def Keyed (kb hb : Nat) (K : List UInt8) (w : World) : Prop := w.heap[kb]? = some (.cells (kA hb K) 67 (0, 0))
theorem Keyed.kept {kb hb : Nat} {K : List UInt8} {w w' : World} (h : Keyed kb hb K w) (e : w'.heap[kb]? = w.heap[kb]?) : Keyed kb hb K w' := e.trans h
theorem Keyed.lt {kb hb : Nat} {K : List UInt8} {w : World} (h : Keyed kb hb K w) : kb < w.heap.size := (Array.getElem?_eq_some_iff.1 h).1
theorem Keyed.cell {kb hb : Nat} {K : List UInt8} {w : World} (h : Keyed kb hb K w) : w.cell? ⟨kb, 0, none⟩ = some (.pointer (some ⟨hb, 0, none⟩)) := (cell_of_row _ _ 0 _ _ _ h).trans (kA_zero hb K)
/-- texts, one behind the other -/
def flat (T : List ByteArray) : List UInt8 := (T.map (·.data.toList)).flatten
theorem flat_take (T : List ByteArray) (t : Nat) (h : t < T.length) : flat (T.take (t + 1)) = flat (T.take t) ++ T[t].data.toList := by
  unfold flat
  rw [List.take_succ_eq_append_getElem h, List.map_append, List.flatten_append]
  simp only [List.map_cons, List.map_nil, List.flatten_cons, List.flatten_nil, List.append_nil]
theorem flat_le (T : List ByteArray) (t : Nat) : (flat (T.take t)).length ≤ (flat T).length := by
  have e : flat T = flat (T.take t) ++ flat (T.drop t) := by
    unfold flat
    rw [← List.flatten_append, ← List.map_append, List.take_append_drop]
  rw [e, List.length_append]
  omega
set_option maxRecDepth 100000 in
set_option maxHeartbeats 4000000 in
theorem ksum_any (kb hb tb : Nat) (K : List UInt8) (T : List ByteArray) (m : List UInt8) (B : Nat) (w : World) (E : Env B w) (hB : B ≤ hb) (hkh : kb ≠ hb) (hth : tb ≠ hb) (hTl : T.length ≤ 1000)
    (hk : Keyed kb hb K w) (hh : Holds hb 90 m w) (hT : w.heap[tb]? = some (.cells (T.map Value.string).toArray 9 (0, 0))) :
    Calls Tryd.prog 34 #[.pointer (some ⟨kb, 0, none⟩), .slice (some ⟨tb, 0, none⟩) T.length T.length] w fun e w' =>
      (((flat T).length ≤ 100000 ∧ e = .returned (.tuple #[.string (dig (flat T)), .nilIface])) ∨ (100000 < (flat T).length ∧ e = .returned (.tuple #[.string ⟨#[]⟩, .iface 68 (.int .i64 20)]))) ∧ (∃ m', Holds hb 90 m' w') ∧ w.grownBy w' (some hb) := by
  have hkc := hk.cell
  have hkl := hk.lt
  have hhl := hh.lt
  have htl : tb < w.heap.size := (Array.getElem?_eq_some_iff.1 hT).1
  have HE := Lib.hid E
  have HK := Lib.hid hk
  have HH := Lib.hid hh
  have HT := Lib.hid hT
  clear E hk hh hT
  go_enter Tryd.func34, Tryd.ntmps34
  go_wp2_with fail
  refine (Reset_any hb 90 m _ HH.out).mono ?_
  rintro e w1 ⟨rfl, hh1, hg1⟩
  have hz1 := hg1.size
  have HH1 := Lib.hid hh1
  have HG1 := Lib.hid hg1
  clear hh1 hg1 HH
  go_wp2_with fail
  go_loopw [16] (fun i wr => ∃ t : Nat, t ≤ T.length ∧ i = .int .i64 t ∧ (flat (T.take t)).length ≤ 100000 ∧ Holds hb 90 (flat (T.take t)) wr ∧ w.grownBy wr (some hb)) (fun i _ => T.length - (intOf i).toNat)
  case atStart => exact ⟨0, by omega, rfl, by simp [flat], HH1.out, HG1.out⟩
  case round =>
    obtain ⟨t, ht, rfl, hfl, hhr, hgr⟩ := hrel
    have hzr := hgr.size
    have hkr : Keyed kb hb K wr := HK.out.kept (hgr.block kb hkl (by simp; omega))
    have hTr : wr.heap[tb]? = some (.cells (T.map Value.string).toArray 9 (0, 0)) := (hgr.block tb htl (by simp; omega)).trans HT.out
    have hkcr := hkr.cell
    by_cases hlt : t < T.length
    · have hlti : (t : Int) < (T.length : Int) := by omega
      have hct : wr.cell? ⟨tb, t, none⟩ = some (.string T[t]) := (cell_of_row _ _ t _ _ _ hTr).trans (by simp [hlt])
      have hft := flat_take T t hlt
      have hle := flat_le T (t + 1)
      obtain ⟨s, hs⟩ : ∃ s, T[t] = s := ⟨_, rfl⟩
      rw [hs] at hct hft
      obtain ⟨M, hM⟩ : ∃ M, flat (T.take t) = M := ⟨_, rfl⟩
      rw [hM] at hfl hft hhr
      have HHR := Lib.hid hhr
      have HGR := Lib.hid hgr
      have HFT := Lib.hid hft
      have HLE := Lib.hid hle
      have hER := HE.out.on hB hgr
      have HER := Lib.hid hER
      clear hhr hgr hft hle hER hs hM hkr hTr hkc
      by_cases hfit : M.length + s.size ≤ 100000
      · go_wp2_with fail
        refine (Write_ok hb 90 M s hfit B wr HER.out hB HHR.out).mono ?_
        rintro e w3 ⟨rfl, hh3, hg3⟩
        have HH3 := Lib.hid hh3
        have HG3 := Lib.hid hg3
        clear hh3 hg3
        go_wp2
        refine ⟨⟨t + 1, by omega, by go_num, ?_, ?_, HGR.out.trans HG3.out⟩, ?_⟩
        · rw [HFT.out, List.length_append, Array.length_toList]; exact hfit
        · rw [HFT.out]; exact HH3.out
        · simp [intOf]; omega
      · go_wp2_with fail
        refine (Write_long hb 90 M s hfl (by omega) B wr HER.out HHR.out).mono ?_
        rintro e w3 ⟨rfl, hh3, hg3⟩
        have HH3 := Lib.hid hh3
        have HG3 := Lib.hid hg3
        clear hh3 hg3
        go_wp2
        refine bodyPost_ret (v := .tuple #[.string ⟨#[]⟩, .iface 68 (.int .i64 20)]) (by simp [results, Tryd.results34, go_sem]) rfl ⟨.inr ⟨?_, rfl⟩, ⟨_, HH3.out⟩, HGR.out.trans HG3.out⟩
        have h := HLE.out
        have e : s.data.toList.length = s.size := by rw [Array.length_toList]; rfl
        rw [HFT.out, List.length_append, e] at h
        omega
    · obtain rfl : t = T.length := by omega
      rw [List.take_length] at hfl hhr
      have HHR := Lib.hid hhr
      have HGR := Lib.hid hgr
      have HER := Lib.hid (HE.out.on hB hgr)
      have hlti : ¬ (T.length : Int) < (T.length : Int) := by omega
      have hS := hsum_any hb 90 (flat T) hfl B wr HER.out hB HHR.out
      obtain ⟨q, hq⟩ : ∃ q, dig (flat T) = q := ⟨_, rfl⟩
      rw [hq] at hS
      have HQ := Lib.hid hq
      have HF := Lib.hid hfl
      clear hhr hgr hkr hTr hkc hq hfl
      go_wp2_with fail
      refine hS.mono ?_
      rintro e w3 ⟨rfl, hh3, hg3⟩
      have HH3 := Lib.hid hh3
      have HG3 := Lib.hid hg3
      clear hh3 hg3 hS
      go_wp2
      refine bodyPost_ret (v := .tuple #[.string q, .nilIface]) (by simp [results, Tryd.results34, go_sem]) rfl ⟨.inl ⟨HF.out, by rw [HQ.out]⟩, ⟨_, HH3.out⟩, HGR.out.trans HG3.out⟩
end Go.Proofs.YthojdcmkajmdjaaDoor

namespace Go.Proofs.YthojdcmkajmdjaaDoor
open Go.RowKit Go.Shelf
open Rd Dg Hx Box
open Go.Lib (strCells strCells_length strCells_oneCell)
theorem flat_one (a : ByteArray) : flat [a] = a.data.toList := by simp [flat]
theorem flat_two (a b : ByteArray) : flat [a, b] = a.data.toList ++ b.data.toList := by simp [flat]
theorem strCells_cellOf (k : ByteArray) : strCells k = k.data.toList.map cellOf := rfl
theorem kA_copy (hb : Nat) (k : ByteArray) (h : k.size ≤ 64) :
    ((kA hb (List.replicate 64 0)).toList.take 1 ++ strCells k ++ (kA hb (List.replicate 64 0)).toList.drop (1 + k.size)).toArray = kA hb (padB k) := by
  rw [padB_is k h, strCells_cellOf]
  unfold kA
  apply Array.ext'
  rw [List.toList_toArray, List.toList_toArray, List.toList_toArray, List.map_append, Nat.add_comm 1, List.drop_succ_cons, List.map_replicate, List.map_replicate, List.drop_replicate]
  rfl
theorem zc67 (hb : Nat) : Tryd.zeroCells67.setIfInBounds 0 (.pointer (some ⟨hb, 0, none⟩)) = kA hb (List.replicate 64 0) := by kernel_rfl
theorem copy_key (kb hb : Nat) (k : ByteArray) (W : World) (hk : Keyed kb hb (List.replicate 64 0) W) (h : k.size ≤ 64) :
    ∃ W', (∀ ty, (Builtin.copy_ #[29, 9] ty #[.slice (some ⟨kb, 1, none⟩) 64 64, .string k]).run Tryd.prog W = .ok (.int .i64 (k.size : Int)) W') ∧ Keyed kb hb (padB k) W' ∧ W.grownBy W' (some kb) := by
  obtain ⟨i, hi, hz, hs1, _⟩ := info_parts info5b
  have hsz : (kA hb (List.replicate 64 0)).size = 65 := by simp [kA]
  refine ⟨_, fun ty => run_copy_text (P := Tryd.prog) W 29 9 ty 5 i Tryd.underlying29 hi hs1 kb 1 64 64 67 _ hk k h (by rw [hsz]; omega), ?_, ?_⟩
  · have e := setRow_heap W kb _ (((kA hb (List.replicate 64 0)).toList.take 1 ++ strCells k ++ (kA hb (List.replicate 64 0)).toList.drop (1 + k.size)).toArray) 67 (0, 0) hk
    rw [kA_copy hb k h] at e
    rw [kA_copy hb k h]
    exact e
  · exact ⟨rfl, rfl, rfl, by simp, fun j _ hne => setRow_other _ kb j _ (fun e => hne (by rw [e]))⟩
set_option maxRecDepth 100000 in
set_option maxHeartbeats 4000000 in
theorem keyedBy_ok (key : ByteArray) (hlen : key.size ≤ 100000) (B : Nat) (w : World) (E : Env B w) :
    Calls Tryd.prog 20 #[.string key] w fun e w' => ∃ kb hb, e = .returned (.tuple #[.pointer (some ⟨kb, 0, none⟩), .nilIface]) ∧ w.heap.size ≤ kb ∧ w.heap.size ≤ hb ∧ kb ≠ hb ∧ Keyed kb hb (padB (key64 key)) w' ∧ (∃ m, Holds hb 90 m w') ∧ Below w.heap.size w w' := by
  have HE := Lib.hid E
  have hBw := E.bw
  clear E
  by_cases hle : key.size ≤ 64
  · have hk64 : key64 key = key := by unfold key64; rw [if_neg (by omega)]
    rw [hk64]
    clear hk64
    have hlei : ¬ (64 : Int) < (key.size : Int) := by omega
    go_enter Tryd.func20, Tryd.ntmps20
    go_wp2_with fail
    refine (New_any _).mono ?_
    rintro e w1 ⟨rfl, hh1, hb1⟩
    have hz1 := hb1.size
    have hl1 := hh1.lt
    obtain ⟨Z, hZ⟩ : ∃ Z, kA w.heap.size (List.replicate 64 0) = Z := ⟨_, rfl⟩
    have hzc := zc67 w.heap.size
    rw [hZ] at hzc
    obtain ⟨w2, hw2⟩ : ∃ w2, w1.alloc (.cells Z 67) = w2 := ⟨_, rfl⟩
    have hk2 : Keyed w1.heap.size w.heap.size (List.replicate 64 0) w2 := by rw [Keyed, hZ, ← hw2]; exact heap_alloc_new w1 _
    have hh2 : Holds w.heap.size 90 [] w2 := by rw [← hw2]; exact hh1.kept (Below.heap_alloc _ _ _ hl1)
    have hb2 : Below w.heap.size w w2 := by rw [← hw2]; exact hb1.alloc hz1 _
    have hz2 : w2.heap.size = w1.heap.size + 1 := by rw [← hw2]; simp
    obtain ⟨w3, hc3, hk3, hg3⟩ := copy_key w1.heap.size w.heap.size key w2 hk2 hle
    have HC3 := Lib.hid (show Below w.heap.size w w3 ∧ Keyed w1.heap.size w.heap.size (padB key) w3 ∧ Holds w.heap.size 90 [] w3 from ⟨hb2.trans (below_of_grown hg3 hz1 (by omega)), hk3, hh2.kept (hg3.block _ hh2.lt (by simp; omega))⟩)
    clear hh1 hb1 hk2 hh2 hb2 hk3 hg3 hZ
    go_wp2
    refine bodyPost_ret (v := .tuple #[.pointer (some ⟨w1.heap.size, 0, none⟩), .nilIface]) (by simp [results, Tryd.results20, go_sem]) rfl ⟨_, _, rfl, hz1, Nat.le_refl _, by omega, HC3.out.2.1, ⟨_, HC3.out.2.2⟩, HC3.out.1⟩
  · have hk64 : key64 key = dig key.data.toList := by unfold key64; rw [if_pos (by omega)]
    rw [hk64]
    have hds := dig_size key.data.toList
    obtain ⟨q, hq⟩ : ∃ q, dig key.data.toList = q := ⟨_, rfl⟩
    rw [hq] at hds
    rw [hq]
    have HQ := Lib.hid hq
    clear hk64 hq
    have hlei : (64 : Int) < (key.size : Int) := by omega
    go_enter Tryd.func20, Tryd.ntmps20
    go_wp2_with fail
    refine (New_any _).mono ?_
    rintro e w1 ⟨rfl, hh1, hb1⟩
    have hz1 := hb1.size
    have hl1 := hh1.lt
    obtain ⟨Z, hZ⟩ : ∃ Z, kA w.heap.size (List.replicate 64 0) = Z := ⟨_, rfl⟩
    have hzc := zc67 w.heap.size
    rw [hZ] at hzc
    obtain ⟨w2, hw2⟩ : ∃ w2, w1.alloc (.cells Z 67) = w2 := ⟨_, rfl⟩
    have hk2 : Keyed w1.heap.size w.heap.size (List.replicate 64 0) w2 := by rw [Keyed, hZ, ← hw2]; exact heap_alloc_new w1 _
    have hh2 : Holds w.heap.size 90 [] w2 := by rw [← hw2]; exact hh1.kept (Below.heap_alloc _ _ _ hl1)
    have hb2 : Below w.heap.size w w2 := by rw [← hw2]; exact hb1.alloc hz1 _
    have hz2 : w2.heap.size = w1.heap.size + 1 := by rw [← hw2]; simp
    have HH2 := Lib.hid hh2
    have HK2 := Lib.hid hk2
    have HB2 := Lib.hid hb2
    have HE2 := Lib.hid (HE.out.below' hb2)
    clear hh1 hb1 hk2 hh2 hb2 hZ
    go_wp2_with fail
    have hz3 : (w2.alloc (.cells #[.string key] 9)).heap.size = w2.heap.size + 1 := by simp
    have hbb : Below w2.heap.size w2 (w2.alloc (.cells #[.string key] 9)) := (Below.refl _ w2).alloc (Nat.le_refl _) _
    have hT := heap_alloc_new w2 (.cells #[.string key] 9)
    rw [hz2] at hT
    have hS := ksum_any w1.heap.size w.heap.size (w1.heap.size + 1) (List.replicate 64 0) [key] [] B (w2.alloc (.cells #[.string key] 9)) (HE2.out.below' hbb) hBw (by omega) (by omega) (by simp)
      (HK2.out.kept (hbb.block _ (by omega))) (HH2.out.kept (hbb.block _ (by omega))) hT
    rw [flat_one, HQ.out] at hS
    obtain ⟨w4, hw4⟩ : ∃ w4, w2.alloc (.cells #[.string key] 9) = w4 := ⟨_, rfl⟩
    rw [hw4] at hS hbb hz3
    rw [hw4]
    have hkey : key.data.toList.length = key.size := by rw [Array.length_toList]; rfl
    have HBB := Lib.hid hbb
    clear hzc hT hbb hw4 hw2
    refine hS.mono ?_
    rintro e w5 ⟨hl, ⟨m5, hh5⟩, hg5⟩
    obtain rfl : e = .returned (.tuple #[.string q, .nilIface]) := by
      rcases hl with ⟨_, h⟩ | ⟨h, _⟩
      · exact h
      · omega
    have hz5 := hg5.size
    have hk5 : Keyed w1.heap.size w.heap.size (List.replicate 64 0) w5 := HK2.out.kept ((hg5.block _ (by omega) (by simp; omega)).trans (HBB.out.block _ (by omega)))
    have hb5 : Below w.heap.size w w5 := HB2.out.trans ((HBB.out.mono (by omega)).trans (below_of_grown hg5 (Nat.le_refl _) (by omega)))
    obtain ⟨w6, hc6, hk6, hg6⟩ := copy_key w1.heap.size w.heap.size q w5 hk5 (by omega)
    have HC6 := Lib.hid (show Below w.heap.size w w6 ∧ Keyed w1.heap.size w.heap.size (padB q) w6 ∧ Holds w.heap.size 90 m5 w6 from ⟨hb5.trans (below_of_grown hg6 hz1 (by omega)), hk6, hh5.kept (hg6.block _ hh5.lt (by simp; omega))⟩)
    clear hk5 hb5 hk6 hg6 hh5 hg5 hS hl
    go_wp2
    refine bodyPost_ret (v := .tuple #[.pointer (some ⟨w1.heap.size, 0, none⟩), .nilIface]) (by simp [results, Tryd.results20, go_sem]) rfl ⟨_, _, rfl, hz1, Nat.le_refl _, by omega, HC6.out.2.1, ⟨_, HC6.out.2.2⟩, HC6.out.1⟩
set_option maxRecDepth 100000 in
set_option maxHeartbeats 4000000 in
theorem keyedBy_long (key : ByteArray) (hlen : 100000 < key.size) (B : Nat) (w : World) (E : Env B w) :
    Calls Tryd.prog 20 #[.string key] w fun e w' => e = .returned (.tuple #[.pointer none, .iface 68 (.int .i64 20)]) ∧ Below w.heap.size w w' := by
  have HE := Lib.hid E
  have hBw := E.bw
  clear E
  have hlei : (64 : Int) < (key.size : Int) := by omega
  go_enter Tryd.func20, Tryd.ntmps20
  go_wp2_with fail
  refine (New_any _).mono ?_
  rintro e w1 ⟨rfl, hh1, hb1⟩
  have hz1 := hb1.size
  have hl1 := hh1.lt
  obtain ⟨Z, hZ⟩ : ∃ Z, kA w.heap.size (List.replicate 64 0) = Z := ⟨_, rfl⟩
  have hzc := zc67 w.heap.size
  rw [hZ] at hzc
  obtain ⟨w2, hw2⟩ : ∃ w2, w1.alloc (.cells Z 67) = w2 := ⟨_, rfl⟩
  have hk2 : Keyed w1.heap.size w.heap.size (List.replicate 64 0) w2 := by rw [Keyed, hZ, ← hw2]; exact heap_alloc_new w1 _
  have hh2 : Holds w.heap.size 90 [] w2 := by rw [← hw2]; exact hh1.kept (Below.heap_alloc _ _ _ hl1)
  have hb2 : Below w.heap.size w w2 := by rw [← hw2]; exact hb1.alloc hz1 _
  have hz2 : w2.heap.size = w1.heap.size + 1 := by rw [← hw2]; simp
  have HH2 := Lib.hid hh2
  have HK2 := Lib.hid hk2
  have HB2 := Lib.hid hb2
  have HE2 := Lib.hid (HE.out.below' hb2)
  clear hh1 hb1 hk2 hh2 hb2 hZ
  go_wp2_with fail
  have hz3 : (w2.alloc (.cells #[.string key] 9)).heap.size = w2.heap.size + 1 := by simp
  have hbb : Below w2.heap.size w2 (w2.alloc (.cells #[.string key] 9)) := (Below.refl _ w2).alloc (Nat.le_refl _) _
  have hT := heap_alloc_new w2 (.cells #[.string key] 9)
  rw [hz2] at hT
  have hS := ksum_any w1.heap.size w.heap.size (w1.heap.size + 1) (List.replicate 64 0) [key] [] B (w2.alloc (.cells #[.string key] 9)) (HE2.out.below' hbb) hBw (by omega) (by omega) (by simp)
    (HK2.out.kept (hbb.block _ (by omega))) (HH2.out.kept (hbb.block _ (by omega))) hT
  rw [flat_one] at hS
  obtain ⟨w4, hw4⟩ : ∃ w4, w2.alloc (.cells #[.string key] 9) = w4 := ⟨_, rfl⟩
  rw [hw4] at hS hbb hz3
  rw [hw4]
  have hkey : key.data.toList.length = key.size := by rw [Array.length_toList]; rfl
  have HBB := Lib.hid hbb
  clear hzc hT hbb hw4 hw2
  refine hS.mono ?_
  rintro e w5 ⟨⟨hl, rfl⟩ | ⟨hl, rfl⟩, ⟨m5, hh5⟩, hg5⟩
  · omega
  have hz5 := hg5.size
  have HB5 := Lib.hid (show Below w.heap.size w w5 from HB2.out.trans ((HBB.out.mono (by omega)).trans (below_of_grown hg5 (Nat.le_refl _) (by omega))))
  clear hh5 hg5 hS hl
  go_wp2
  refine bodyPost_ret (v := .tuple #[.pointer none, .iface 68 (.int .i64 20)]) (by simp [results, Tryd.results20, go_sem]) rfl ⟨rfl, HB5.out⟩
end Go.Proofs.YthojdcmkajmdjaaDoor

namespace Go.Proofs.YthojdcmkajmdjaaDoor
open Go.RowKit
open Rd Dg Hx
/-- a key's cells, t of them mixed -/
def mskA (L : List UInt8) (m : UInt8) (t : Nat) : Array Value := ((L.take t).map (fun b => cellOf (b ^^^ m)) ++ (L.drop t).map cellOf).toArray
theorem mskA_get (L : List UInt8) (m : UInt8) (t : Nat) (h : t < L.length) : (mskA L m t)[t]? = some (cellOf L[t]) := by
  unfold mskA
  rw [List.getElem?_toArray, List.getElem?_append_right (by simp; omega)]
  simp [List.getElem?_drop, Nat.min_eq_left (Nat.le_of_lt h), h]
theorem mskA_set (L : List UInt8) (m : UInt8) (t : Nat) (h : t < L.length) : (mskA L m t).setIfInBounds t (cellOf (L[t] ^^^ m)) = mskA L m (t + 1) := by
  unfold mskA
  apply Array.ext'
  have e : L.drop t = L[t] :: L.drop (t + 1) := List.drop_eq_getElem_cons h
  have e2 : L.take (t + 1) = L.take t ++ [L[t]] := List.take_succ_eq_append_getElem h
  have hl : ((L.take t).map (fun b => cellOf (b ^^^ m))).length = t := by simp; omega
  rw [e, e2, Array.toList_setIfInBounds, List.toList_toArray, List.toList_toArray, List.set_append_right _ _ (by omega), hl, Nat.sub_self]
  simp only [List.map_cons, List.set_cons_zero, List.map_append, List.map_nil, List.append_assoc, List.singleton_append]
theorem mskA_zero (L : List UInt8) (m : UInt8) : mskA L m 0 = (L.map cellOf).toArray := by simp [mskA]
theorem mskA_all (L : List UInt8) (m : UInt8) : mskA L m L.length = ((L.map (· ^^^ m)).map cellOf).toArray := by simp [mskA, List.map_map, Function.comp_def]
set_option maxRecDepth 100000 in
set_option maxHeartbeats 2000000 in
theorem masked_any (L : List UInt8) (hL : L.length = 64) (m : UInt8) (w : World) :
    Calls Tryd.prog 35 #[.agg (L.map cellOf).toArray, .int .u8 (m.toNat : Int)] w fun e w' => e = .returned (.string ⟨(L.map (· ^^^ m)).toArray⟩) ∧ Below w.heap.size w w' := by
  obtain ⟨A, hA⟩ : ∃ A, (L.map cellOf).toArray = A := ⟨_, rfl⟩
  rw [hA]
  have HA := Lib.hid hA
  clear hA
  go_enter Tryd.func35, Tryd.ntmps35
  go_wp2
  go_loopw [6] (fun i wr => ∃ t : Nat, t ≤ 64 ∧ i = .int .i64 t ∧ wr.heap[w.heap.size]? = some (.cells (mskA L m t) 65 (0, 0)) ∧ Below w.heap.size w wr) (fun i _ => 64 - (intOf i).toNat)
  case atStart =>
    refine ⟨0, by omega, rfl, ?_, (Below.refl _ w).alloc (Nat.le_refl _) _⟩
    rw [mskA_zero, HA.out]
    exact heap_alloc_new w _
  case round =>
    obtain ⟨t, ht, rfl, hr, hb⟩ := hrel
    by_cases hlt : t < 64
    · have htl : t < L.length := by omega
      have hc := (cell_of_row wr w.heap.size t _ _ _ hr).trans (mskA_get L m t htl)
      have hf := frozen_of_row wr w.heap.size t _ _ hr
      obtain ⟨x, hx⟩ : ∃ x, L[t] = x := ⟨_, rfl⟩
      have hset := mskA_set L m t htl
      rw [hx] at hc hset
      have hxx := bits8_xor x m
      obtain ⟨z, hz⟩ : ∃ z, x ^^^ m = z := ⟨_, rfl⟩
      rw [hz] at hxx hset
      have hi : (t : Int) < 64 := by omega
      rw [show cellOf x = Value.int .u8 (x.toNat : Int) from rfl] at hc
      have HR := Lib.hid hr
      have HB := Lib.hid hb
      have HS := Lib.hid hset
      have hlw : w.heap.size < wr.heap.size := block_lt_of_cell hc
      clear hr hb hset hx hz
      go_wp2
      have hg : wr.grownBy (wr.setCell ⟨w.heap.size, t, none⟩ (.int .u8 (z.toNat : Int))) (some w.heap.size) := gB_setCell (gB_refl _ _) _ _
      refine ⟨⟨t + 1, by omega, rfl, ?_, HB.out.trans (below_of_grown hg (Nat.le_refl _) (by omega))⟩, ?_⟩
      · rw [← HS.out]; exact heap_setCell_same wr _ _ _ _ _ HR.out
      · simp [intOf]; omega
    · obtain rfl : t = L.length := by omega
      rw [mskA_all] at hr
      obtain ⟨M, hM⟩ : ∃ M, L.map (· ^^^ m) = M := ⟨_, rfl⟩
      rw [hM] at hr
      have hMl : M.length = 64 := by rw [← hM, List.length_map, hL]
      have hi : ¬ (L.length : Int) < 64 := by omega
      have hcv := run_convert_bytes_back (P := Tryd.prog) wr 29 9 5 ⟨w.heap.size, 0, none⟩ 64 M Tryd.underlying29 Tryd.underlying5 Tryd.underlying9 (fun j hj => by
        rw [addr_add, Nat.zero_add, cell_of_row _ _ _ _ _ _ hr, List.getElem?_toArray, List.getElem?_map, List.getElem?_eq_getElem hj]; rfl)
      rw [hMl] at hcv
      have HR := Lib.hid hr
      have HB := Lib.hid hb
      have HM := Lib.hid hM
      clear hr hb hM
      go_wp2
      refine bodyPost_ret (v := .string ⟨M.toArray⟩) (by simp [results, Tryd.results35, go_sem]) rfl ⟨?_, HB.out⟩
      rw [HM.out]
end Go.Proofs.YthojdcmkajmdjaaDoor

namespace Go.Proofs.YthojdcmkajmdjaaDoor
open Go.RowKit Go.Shelf
open Rd Dg Hx Box
theorem size65 : (Tryd.prog.info? 65).map (·.size) = some 64 := by kernel_rfl
theorem Keyed.range {kb hb : Nat} {K : List UInt8} {w : World} (h : Keyed kb hb K w) : w.rangeAt kb 1 (K.map cellOf) := by
  intro j v hv
  rw [cell_of_row _ _ _ _ _ _ h]
  unfold kA
  rw [List.getElem?_toArray, Nat.add_comm, List.getElem?_cons_succ]
  exact hv
/-- the bytes of a text that is made of bytes -/
theorem lt_of (L : List UInt8) : (⟨L.toArray⟩ : ByteArray).data.toList = L := rfl
theorem sz_of (L : List UInt8) : (⟨L.toArray⟩ : ByteArray).size = L.length := by show L.toArray.size = _; simp
set_option maxRecDepth 100000 in
set_option maxHeartbeats 4000000 in
theorem ktag_any (kb hb : Nat) (K : List UInt8) (hK : K.length = 64) (text : ByteArray) (m : List UInt8) (B : Nat) (w : World) (E : Env B w) (hB : B ≤ hb) (hkh : kb ≠ hb)
    (hk : Keyed kb hb K w) (hh : Holds hb 90 m w) :
    Calls Tryd.prog 22 #[.pointer (some ⟨kb, 0, none⟩), .string text] w fun e w' =>
      ((64 + text.size ≤ 100000 ∧ e = .returned (.tuple #[.string (dig (K.map (· ^^^ 92) ++ (dig (K.map (· ^^^ 54) ++ text.data.toList)).data.toList)), .nilIface])) ∨ (100000 < 64 + text.size ∧ e = .returned (.tuple #[.string ⟨#[]⟩, .iface 68 (.int .i64 20)]))) ∧ w.grownBy w' (some hb) := by
  have hi65 := size65
  have hr := hk.range
  have hrl : (K.map cellOf).length = 64 := by rw [List.length_map, hK]
  obtain ⟨q1, hq1⟩ : ∃ q, (⟨(K.map (· ^^^ 54)).toArray⟩ : ByteArray) = q := ⟨_, rfl⟩
  obtain ⟨q2, hq2⟩ : ∃ q, (⟨(K.map (· ^^^ 92)).toArray⟩ : ByteArray) = q := ⟨_, rfl⟩
  have hl1 : q1.data.toList = K.map (· ^^^ 54) := by rw [← hq1]
  have hl2 : q2.data.toList = K.map (· ^^^ 92) := by rw [← hq2]
  have hs1 : q1.data.toList.length = 64 := by rw [hl1, List.length_map, hK]
  have hs2 : q2.data.toList.length = 64 := by rw [hl2, List.length_map, hK]
  have hM1 := fun w => masked_any K hK 54 w
  have hM2 := fun w => masked_any K hK 92 w
  rw [hq1] at hM1
  rw [hq2] at hM2
  rw [← hl1, ← hl2]
  have hst : text.data.toList.length = text.size := by rw [Array.length_toList]; rfl
  obtain ⟨d1, hd1⟩ : ∃ d, dig (q1.data.toList ++ text.data.toList) = d := ⟨_, rfl⟩
  obtain ⟨d2, hd2⟩ : ∃ d, dig (q2.data.toList ++ d1.data.toList) = d := ⟨_, rfl⟩
  have hsd : d1.data.toList.length = 32 := by
    have h := dig_size (q1.data.toList ++ text.data.toList)
    rw [hd1] at h
    rw [Array.length_toList]; exact h
  rw [hd1, hd2]
  have HM1 := Lib.hid hM1
  have HM2 := Lib.hid hM2
  have HD1 := Lib.hid hd1
  have HD2 := Lib.hid hd2
  have HKL := Lib.hid (show K.length = 64 from hK)
  have HE := Lib.hid E
  have HKK := Lib.hid hk
  have HH := Lib.hid hh
  have HR := Lib.hid hr
  have HI := Lib.hid (show (Tryd.prog.info? 65).map (·.size) = some (K.map cellOf).length by rw [hrl]; exact hi65)
  have hbl := hk.lt
  have hhl := hh.lt
  have HL1 := Lib.hid hs1
  have HL2 := Lib.hid hs2
  have HLT := Lib.hid hst
  have HLD := Lib.hid hsd
  clear hM1 hM2 hq1 hq2 hl1 hl2 hd1 hd2 E hk hh hr hi65 hrl hK hs1 hs2 hst hsd
  go_enter Tryd.func22, Tryd.ntmps22
  go_wp2_with (refine wpList_load_mid rfl 65 _ rfl kb 1 rfl (K.map cellOf) _ HR.out Tryd.underlying65 rfl HI.out ?_)
  refine (HM1.out w).mono ?_
  rintro e w1 ⟨rfl, hb1⟩
  have hz1 := hb1.size
  have HB1 := Lib.hid hb1
  clear hb1
  go_wp2_with fail
  have hbb : Below w.heap.size w (w1.alloc (.cells #[.string q1, .string text] 9)) := HB1.out.alloc hz1 _
  have hT := heap_alloc_new w1 (.cells #[.string q1, .string text] 9)
  have hS := ksum_any kb hb w1.heap.size K [q1, text] m B _ (HE.out.below' hbb) hB hkh (by omega) (by simp) (HKK.out.kept (hbb.block _ (by omega))) (HH.out.kept (hbb.block _ (by omega))) hT
  rw [flat_two, HD1.out, List.length_append, HL1.out, HLT.out] at hS
  obtain ⟨w2, hw2⟩ : ∃ w2, w1.alloc (.cells #[.string q1, .string text] 9) = w2 := ⟨_, rfl⟩
  rw [hw2] at hS hbb
  rw [hw2]
  have hz2 := hbb.size
  have HBB := Lib.hid hbb
  clear hT hbb hw2
  refine hS.mono ?_
  clear hS
  rintro e w3 ⟨hl, ⟨m3, hh3⟩, hg3⟩
  have hz3 := hg3.size
  have HG3 := Lib.hid (show w.grownBy w3 (some hb) from (gB_of_below HBB.out (some hb)).trans hg3)
  have HH3 := Lib.hid hh3
  have HK3 := Lib.hid (HKK.out.kept ((hg3.block _ (by omega) (by simp; omega)).trans (HBB.out.block _ hbl)))
  have HE3 := Lib.hid (HE.out.on hB HG3.out)
  clear hh3 hg3
  rcases hl with ⟨hl, rfl⟩ | ⟨hl, rfl⟩
  · have HR3 := Lib.hid HK3.out.range
    go_wp2_with (refine wpList_load_mid rfl 65 _ rfl kb 1 rfl (K.map cellOf) _ HR3.out Tryd.underlying65 rfl HI.out ?_)
    refine (HM2.out w3).mono ?_
    rintro e w4 ⟨rfl, hb4⟩
    have hz4 := hb4.size
    have HB4 := Lib.hid hb4
    clear hb4
    go_wp2_with fail
    have hbb : Below w3.heap.size w3 (w4.alloc (.cells #[.string q2, .string d1] 9)) := HB4.out.alloc hz4 _
    have hT := heap_alloc_new w4 (.cells #[.string q2, .string d1] 9)
    have hS := ksum_any kb hb w4.heap.size K [q2, d1] m3 B _ (HE3.out.below' hbb) hB hkh (by omega) (by simp) (HK3.out.kept (hbb.block _ (by omega))) (HH3.out.kept (hbb.block _ (by omega))) hT
    rw [flat_two, HD2.out, List.length_append, HL2.out, HLD.out] at hS
    obtain ⟨w5, hw5⟩ : ∃ w5, w4.alloc (.cells #[.string q2, .string d1] 9) = w5 := ⟨_, rfl⟩
    rw [hw5] at hS hbb
    rw [hw5]
    have HBB5 := Lib.hid hbb
    clear hT hbb hw5
    refine hS.mono ?_
    clear hS
    rintro e w6 ⟨hl6, ⟨m6, hh6⟩, hg6⟩
    obtain rfl : e = .returned (.tuple #[.string d2, .nilIface]) := by
      rcases hl6 with ⟨_, h⟩ | ⟨h, _⟩
      · exact h
      · omega
    have HG6 := Lib.hid (show w.grownBy w6 (some hb) from HG3.out.trans ((gB_of_below HBB5.out (some hb)).trans hg6))
    clear hh6 hg6 hl6
    go_wp2
    refine bodyPost_ret (v := .tuple #[.string d2, .nilIface]) (by simp [results, Tryd.results22, go_sem]) rfl ⟨.inl ⟨hl, rfl⟩, HG6.out⟩
  · go_wp2
    refine bodyPost_ret (v := .tuple #[.string ⟨#[]⟩, .iface 68 (.int .i64 20)]) (by simp [results, Tryd.results22, go_sem]) rfl ⟨.inr ⟨hl, rfl⟩, HG3.out⟩
set_option maxRecDepth 100000 in
set_option maxHeartbeats 4000000 in
theorem Of_ok (key text : ByteArray) (hk : key.size ≤ 100000) (ht : text.size ≤ 99936) (B : Nat) (w : World) (E : Env B w) :
    Calls Tryd.prog 12 #[.string key, .string text] w fun e w' => e = .returned (.tuple #[.string (hmac key text), .int .i64 0]) ∧ Below w.heap.size w w' := by
  have HE := Lib.hid E
  have hBw := E.bw
  clear E
  obtain ⟨q, hq⟩ : ∃ q, hmac key text = q := ⟨_, rfl⟩
  rw [hq]
  have HQ := Lib.hid hq
  clear hq
  go_enter Tryd.func12, Tryd.ntmps12
  go_wp2_with fail
  refine (keyedBy_ok key hk B w HE.out).mono ?_
  rintro e w1 ⟨kb, hb, rfl, hkb, hhb, hkh, hk1, ⟨m1, hh1⟩, hb1⟩
  have hz1 := hb1.size
  have HB1 := Lib.hid hb1
  have HE1 := Lib.hid (HE.out.below' hb1)
  have HK1 := Lib.hid hk1
  have HH1 := Lib.hid hh1
  clear hb1 hk1 hh1
  go_wp2_with fail
  refine (ktag_any kb hb (padB (key64 key)) (padB_length _) text m1 B w1 HE1.out (by omega) hkh HK1.out HH1.out).mono ?_
  rintro e w2 ⟨hl2, hg2⟩
  obtain rfl : e = .returned (.tuple #[.string q, .nilIface]) := by
    rcases hl2 with ⟨_, h⟩ | ⟨h, _⟩
    · rw [← HQ.out]; exact h
    · omega
  have hz2 := hg2.size
  have HB2 := Lib.hid (HB1.out.trans (below_of_grown hg2 hhb (by omega)))
  clear hg2 hl2
  go_wp2_with fail
  refine (knumber_nil _).mono ?_
  rintro e w3 ⟨rfl, rfl⟩
  go_wp2
  refine bodyPost_ret (v := .tuple #[.string q, .int .i64 0]) (by simp [results, Tryd.results12, go_sem]) rfl ⟨rfl, HB2.out⟩
set_option maxRecDepth 100000 in
set_option maxHeartbeats 4000000 in
theorem Of_long (key text : ByteArray) (hkt : 100000 < key.size ∨ 99936 < text.size) (B : Nat) (w : World) (E : Env B w) :
    Calls Tryd.prog 12 #[.string key, .string text] w fun e w' => e = .returned (.tuple #[.string ⟨#[]⟩, .int .i64 20]) ∧ Below w.heap.size w w' := by
  have HE := Lib.hid E
  have hBw := E.bw
  clear E
  by_cases hk : 100000 < key.size
  · go_enter Tryd.func12, Tryd.ntmps12
    go_wp2_with fail
    refine (keyedBy_long key hk B w HE.out).mono ?_
    rintro e w1 ⟨rfl, hb1⟩
    have HB1 := Lib.hid hb1
    clear hb1
    go_wp2_with fail
    refine (knumber_some 20 _).mono ?_
    rintro e w3 ⟨rfl, rfl⟩
    go_wp2
    refine bodyPost_ret (v := .tuple #[.string ⟨#[]⟩, .int .i64 20]) (by simp [results, Tryd.results12, go_sem]) rfl ⟨rfl, HB1.out⟩
  · have ht : 99936 < text.size := by omega
    have hk' : key.size ≤ 100000 := by omega
    clear hkt hk
    go_enter Tryd.func12, Tryd.ntmps12
    go_wp2_with fail
    refine (keyedBy_ok key hk' B w HE.out).mono ?_
    rintro e w1 ⟨kb, hb, rfl, hkb, hhb, hkh, hk1, ⟨m1, hh1⟩, hb1⟩
    have hz1 := hb1.size
    have HB1 := Lib.hid hb1
    have HE1 := Lib.hid (HE.out.below' hb1)
    have HK1 := Lib.hid hk1
    have HH1 := Lib.hid hh1
    clear hb1 hk1 hh1
    go_wp2_with fail
    refine (ktag_any kb hb (padB (key64 key)) (padB_length _) text m1 B w1 HE1.out (by omega) hkh HK1.out HH1.out).mono ?_
    rintro e w2 ⟨hl2, hg2⟩
    obtain rfl : e = .returned (.tuple #[.string ⟨#[]⟩, .iface 68 (.int .i64 20)]) := by
      rcases hl2 with ⟨h, _⟩ | ⟨_, h⟩
      · omega
      · exact h
    have hz2 := hg2.size
    have HB2 := Lib.hid (HB1.out.trans (below_of_grown hg2 hhb (by omega)))
    clear hg2 hl2
    go_wp2_with fail
    refine (knumber_some 20 _).mono ?_
    rintro e w3 ⟨rfl, rfl⟩
    go_wp2
    refine bodyPost_ret (v := .tuple #[.string ⟨#[]⟩, .int .i64 20]) (by simp [results, Tryd.results12, go_sem]) rfl ⟨rfl, HB2.out⟩
end Go.Proofs.YthojdcmkajmdjaaDoor
