/- The end of a message of n bytes is a byte 80, the fewest noughts, and 8 n as 8 bytes. Conditions: n is no more than a message's most. -/
import Derived.Test.YthojdcmkajmdjaaDoorBf
import Derived.Test.YthojdcmkajmdjaaDoorBt
import Derived.Laws.MakeOwn
import Derived.Lib.AppendZeros
namespace Go.Proofs.YthojdcmkajmdjaaDoor
open Go.RowKit
open Rd Dg
/-- noughts that an end has -/
def zN (n : Nat) : Nat := (64 - (n + 9) % 64) % 64
/-- a number's eight bytes, the first k of them -/
def be (m k : Nat) : List UInt8 := (List.range k).map fun j => UInt8.ofNat (m / 2 ^ (56 - 8 * j))
theorem be_succ (m k : Nat) : be m (k + 1) = be m k ++ [UInt8.ofNat (m / 2 ^ (56 - 8 * k))] := by simp [be, List.range_succ]
theorem be_length (m k : Nat) : (be m k).length = k := by simp [be]
def endL (n : Nat) : List UInt8 := 128 :: List.replicate (zN n) 0 ++ be (8 * n) 8
theorem endL_length (n : Nat) : (endL n).length = 1 + zN n + 8 := by simp [endL, be_length]; omega
theorem endL_whole (n : Nat) : (n + (endL n).length) % 64 = 0 := by rw [endL_length]; unfold zN; omega
theorem endL_bounds (n : Nat) : 9 ≤ (endL n).length ∧ (endL n).length ≤ 72 := by rw [endL_length]; unfold zN; omega
/-- the row that a slice of the end owns, before its number -/
theorem end_row (w : World) (E z : Nat) (cur : Array Value) (base : Nat) (hbE : base ≤ E) (hg : w.heap[E]? = some (.cells cur 5 (0, 0))) (hs : cur.size = 73) (hz : z < 64) (ht : cur.toList.take (1 + z) = u8s (128 :: List.replicate z 0)) :
    w.ownsRow base 5 1 (.slice (some ⟨E, 0, none⟩) (1 + z) 73) (1 + z) (u8s (128 :: List.replicate z 0)) :=
  ⟨by simp [u8s]; omega, .inr ⟨E, 73, cur, rfl, hbE, hg, by omega, by unfold maxLen; omega, by omega, by simpa using ht⟩⟩
theorem made_u8 (n : Nat) : (madeCells (Value.int .u8 0).cells n).toList = List.replicate n (Value.int .u8 0) := by
  simp only [madeCells, Value.cells, Array.toList_map]
  apply List.ext_getElem?
  intro j
  by_cases hj : j < n
  · simp [hj, Nat.mod_one]
  · simp [hj]
set_option maxRecDepth 100000 in
set_option maxHeartbeats 1000000 in
theorem endOf_any (n : Nat) (hn : n ≤ 100000) (w : World) :
    Calls Tryd.prog 46 #[.int .i64 (n : Int)] w fun e w' => e = .returned (.string ⟨(endL n).toArray⟩) ∧ Below w.heap.size w w' := by
  obtain ⟨i0, hi, hz0, hz1, hz2⟩ := info_parts info5b
  have hmk := run_make (P := Tryd.prog) w 29 5 i0 (.int .u8 0) Tryd.underlying29 hi hz0 .i64 .i64 1 73 (by omega) (by omega) (by rw [hz2]; omega) (by omega)
  rw [hz1] at hmk
  obtain ⟨Z, hZ⟩ : ∃ Z, madeCells (Value.int .u8 0).cells (Int.toNat 73 * 1) = Z := ⟨_, rfl⟩
  rw [hZ] at hmk
  have hmk' : (Instr.makeSlice 29 (.int .i64 1) (.int .i64 73)).run Tryd.prog w = .ok (.slice (some ⟨w.heap.size, 0, none⟩) 1 73) (w.alloc (.cells Z 5)) := hmk
  have hZl : Z.toList = List.replicate 73 (Value.int .u8 0) := by rw [← hZ]; exact made_u8 73
  have hZs : Z.size = 73 := by rw [← Array.length_toList, hZl, List.length_replicate]
  have hZ0 : Z[0]? = some (.int .u8 0) := by rw [← Array.getElem?_toList, hZl]; rfl
  obtain ⟨r, hr⟩ : ∃ r, (n + 9) % 64 = r := ⟨_, rfl⟩
  have hrem : ((n : Int) + 1 + 8) % 64 = (r : Int) := by omega
  have hzn : zN n < 64 := by unfold zN; omega
  by_cases h0 : r = 0
  · subst h0
    obtain ⟨zz, hrem0, hzz⟩ : ∃ zz : Int, ((n : Int) + 1 + 8) % 64 = zz ∧ zz = 0 := ⟨_, rfl, by omega⟩
    have hng : ¬ (0 < zz) := by omega
    clear hzz
    have hz : zN n = 0 := by unfold zN; omega
    have HROW : Hid ((w.alloc (.cells (Z.setIfInBounds 0 (.int .u8 128)) 5)).ownsRow w.heap.size 5 1 (.slice (some ⟨w.heap.size, 0, none⟩) (1 + zN n) 73) (1 + zN n) (u8s (128 :: List.replicate (zN n) 0))) :=
      Lib.hid (end_row _ w.heap.size (zN n) _ w.heap.size (Nat.le_refl _) (heap_alloc_new w _) (by simp [hZs]) hzn (by rw [hz, Array.toList_setIfInBounds, hZl]; rfl))
    have HBEL : Hid (Below w.heap.size w (w.alloc (.cells (Z.setIfInBounds 0 (.int .u8 128)) 5))) := Lib.hid ((Below.refl _ w).alloc (Nat.le_refl _) _)
    have HLT : Hid (w.heap.size < (w.alloc (.cells (Z.setIfInBounds 0 (.int .u8 128)) 5)).heap.size) := Lib.hid (by simp)
    have HZ := Lib.hid hz
    have HR := Lib.hid hr
    clear hmk hr hz hrem
    go_enter Tryd.func46, Tryd.ntmps46
    go_wp2

    go_loopw [4, 5] (fun v i wr => ∃ k : Nat, k ≤ 8 ∧ i = .int .i64 (56 - 8 * (k : Int)) ∧ v = .slice (some ⟨w.heap.size, 0, none⟩) (1 + zN n + k) 73 ∧ wr.ownsRow w.heap.size 5 1 v (1 + zN n + k) (u8s (128 :: List.replicate (zN n) 0 ++ be (8 * n) k)) ∧ Below w.heap.size w wr ∧ w.heap.size < wr.heap.size) (fun _ i _ => (intOf i + 8).toNat)
    case atStart => exact ⟨0, by omega, rfl, by rw [HZ.out], by have h := HROW.out; rw [HZ.out] at h ⊢; simpa [be] using h, HBEL.out, HLT.out⟩
    case round =>
      obtain ⟨k, hk, rfl, rfl, hown, hbr, hlt⟩ := hrel
      by_cases h8 : k < 8
      · have g1 : (0 : Int) ≤ 56 - 8 * (k : Int) := by omega
        obtain ⟨b, hb⟩ : ∃ b, UInt8.ofNat (8 * n / 2 ^ (56 - 8 * k)) = b := ⟨_, rfl⟩
        have hv : 8 * (n : Int) / 2 ^ (56 - 8 * k) % 256 = (b.toNat : Int) := by
          rw [← hb, UInt8.toNat_ofNat']
          simp
        have HBB := Lib.hid hb
        have HN := Lib.hid (news_at wr (u8s [b]) 5)
        have H1 : Hid (∀ u ∈ u8s [b], u.oneCell' = true) := Lib.hid (by intro u hu; simp only [u8s, List.map_cons, List.map_nil, List.mem_singleton] at hu; subst hu; rfl)
        have HOW := Lib.hid hown
        have HBR := Lib.hid hbr
        have hroom : 1 + zN n + k + 1 ≤ 73 := by omega
        clear hown hbr hb
        go_wp2_with (at_builtin; refine wpList_append_fits _ rfl _ _ 29 rfl w.heap.size 5 i0 1 Tryd.underlying29 hi hz1 w.heap.size (1 + zN n + k) 73 (u8s (128 :: List.replicate (zN n) 0 ++ be (8 * n) k)) rfl (HOW.out.alloc _) ⟨wr.heap.size, 0, none⟩ 1 1 (u8s [b]) rfl rfl HN.out H1.out hroom ?_; intro w2 hown2 hgrow2)
        have key : ∀ i : Value, i = .int .i64 (56 - 8 * ((k + 1 : Nat) : Int)) → ∃ k' : Nat, k' ≤ 8 ∧ i = .int .i64 (56 - 8 * (k' : Int)) ∧ Value.slice (some ⟨w.heap.size, 0, none⟩) (1 + zN n + k + 1) 73 = .slice (some ⟨w.heap.size, 0, none⟩) (1 + zN n + k') 73 ∧ w2.ownsRow w.heap.size 5 1 (.slice (some ⟨w.heap.size, 0, none⟩) (1 + zN n + k + 1) 73) (1 + zN n + k') (u8s (128 :: List.replicate (zN n) 0 ++ be (8 * n) k')) ∧ Below w.heap.size w w2 ∧ w.heap.size < w2.heap.size := by
          intro i hi
          refine ⟨k + 1, by omega, hi, rfl, ?_, HBR.out.trans ?_, ?_⟩
          · rw [be_succ, HBB.out, ← List.append_assoc]
            have e : u8s (128 :: List.replicate (zN n) 0 ++ be (8 * n) k ++ [b]) = u8s (128 :: List.replicate (zN n) 0 ++ be (8 * n) k) ++ u8s [b] := by simp [u8s]
            rw [e]
            exact hown2
          · exact ((Below.refl w.heap.size wr).alloc (by omega) (.cells (u8s [b]).toArray 5)).grown hgrow2 (by simp; omega) (by simp)
          · have h := hgrow2.size
            simp at h
            omega
        go_roundw
        case rel => first | exact key _ (by go_num) | ((repeat apply Exists.intro); exact ⟨key (.int .i64 (56 - 8 * (k : Int) - 8)) (by go_num), rfl⟩)
        case measure => simp [intOf]; omega
      · obtain rfl : k = 8 := by omega
        have hcs := hown.cells (g := w.heap.size) rfl
        have hlen : (endL n).length = 1 + zN n + 8 := endL_length n
        have hconv : (convert 29 9 (.slice (some ⟨w.heap.size, 0, none⟩) (1 + zN n + 8) 73)).run Tryd.prog wr = .ok (.string ⟨(endL n).toArray⟩) wr := by
          rw [← hlen]
          exact run_convert_bytes_back wr 29 9 5 _ 73 (endL n) Tryd.underlying29 Tryd.underlying5 Tryd.underlying9 (fun j hj => hcs j _ (by
            show (u8s (endL n))[j]? = _
            simp [u8s, hj]))
        have HBR := Lib.hid hbr
        clear hown hbr hcs hlen
        go_wp2
        go_ret
        exact ⟨rfl, HBR.out⟩
  · have hr0 : (0 : Int) < (r : Int) := by omega
    obtain ⟨z, hzk⟩ : ∃ z, 64 - r = z := ⟨_, rfl⟩
    have hki : (64 : Int) - (r : Int) = (z : Int) := by omega
    have hz : zN n = z := by unfold zN; omega
    have happ := fun ty => run_append_noughts (P := Tryd.prog) (w.alloc (.cells (Z.setIfInBounds 0 (.int .u8 128)) 5)) 29 3 ty 5 i0 .i64 Tryd.underlying29 Tryd.underlying3 hi hz0 hz1 hz2 w.heap.size 1 73 z _ (heap_alloc_new w _) (by omega) (by omega) (by omega) (by simp [hZs]; omega)
    obtain ⟨W1, hW1⟩ : ∃ W1, (w.alloc (.cells (Z.setIfInBounds 0 (.int .u8 128)) 5)).setRow w.heap.size ((Z.setIfInBounds 0 (Value.int .u8 128)).toList.take 1 ++ List.replicate z (Value.int .u8 0) ++ (Z.setIfInBounds 0 (Value.int .u8 128)).toList.drop (1 + z)).toArray = W1 := ⟨_, rfl⟩
    rw [hW1] at happ
    have hrow1 := setRow_heap (w.alloc (.cells (Z.setIfInBounds 0 (.int .u8 128)) 5)) w.heap.size _ ((Z.setIfInBounds 0 (Value.int .u8 128)).toList.take 1 ++ List.replicate z (Value.int .u8 0) ++ (Z.setIfInBounds 0 (Value.int .u8 128)).toList.drop (1 + z)).toArray 5 (0, 0) (heap_alloc_new w _)
    rw [hW1] at hrow1
    have hlL : (Z.setIfInBounds 0 (Value.int .u8 128)).toList.length = 73 := by simp [hZs]
    have ht1 : (Z.setIfInBounds 0 (Value.int .u8 128)).toList.take 1 = [Value.int .u8 128] := by rw [Array.toList_setIfInBounds, hZl]; rfl
    have HROW : Hid (W1.ownsRow w.heap.size 5 1 (.slice (some ⟨w.heap.size, 0, none⟩) (1 + zN n) 73) (1 + zN n) (u8s (128 :: List.replicate (zN n) 0))) :=
      Lib.hid (end_row _ w.heap.size (zN n) _ w.heap.size (Nat.le_refl _) hrow1 (by simp only [List.size_toArray, List.length_append, List.length_take, List.length_drop, List.length_replicate, hlL]; omega) hzn (by
        rw [hz, ht1]
        show ([Value.int .u8 128] ++ List.replicate z (Value.int .u8 0) ++ _).take (1 + z) = _
        rw [List.take_left' (by simp; omega)]
        simp [u8s]))
    have HBEL : Hid (Below w.heap.size w W1) := Lib.hid (by
      rw [← hW1]
      exact ((Below.refl _ w).alloc (Nat.le_refl _) _).trans ⟨rfl, rfl, rfl, by simp, fun k hk => setRow_other _ w.heap.size k _ (by omega)⟩)
    have HLT : Hid (w.heap.size < W1.heap.size) := Lib.hid (by rw [← hW1]; simp)
    have HZ := Lib.hid hz
    have HR := Lib.hid hr
    clear hmk hr hz hrow1 hW1 ht1 hlL
    go_enter Tryd.func46, Tryd.ntmps46
    go_wp2_with (at_builtin; refine Go.Lib.wpList_append_run _ rfl _ _ _ _ rfl _ _ rfl rfl _ _ (happ _) ?_)
    rw [← HZ.out]

    go_loopw [4, 5] (fun v i wr => ∃ k : Nat, k ≤ 8 ∧ i = .int .i64 (56 - 8 * (k : Int)) ∧ v = .slice (some ⟨w.heap.size, 0, none⟩) (1 + zN n + k) 73 ∧ wr.ownsRow w.heap.size 5 1 v (1 + zN n + k) (u8s (128 :: List.replicate (zN n) 0 ++ be (8 * n) k)) ∧ Below w.heap.size w wr ∧ w.heap.size < wr.heap.size) (fun _ i _ => (intOf i + 8).toNat)
    case atStart => exact ⟨0, by omega, rfl, rfl, by simpa [be] using HROW.out, HBEL.out, HLT.out⟩
    case round =>
      obtain ⟨k, hk, rfl, rfl, hown, hbr, hlt⟩ := hrel
      by_cases h8 : k < 8
      · have g1 : (0 : Int) ≤ 56 - 8 * (k : Int) := by omega
        obtain ⟨b, hb⟩ : ∃ b, UInt8.ofNat (8 * n / 2 ^ (56 - 8 * k)) = b := ⟨_, rfl⟩
        have hv : 8 * (n : Int) / 2 ^ (56 - 8 * k) % 256 = (b.toNat : Int) := by
          rw [← hb, UInt8.toNat_ofNat']
          simp
        have HBB := Lib.hid hb
        have HN := Lib.hid (news_at wr (u8s [b]) 5)
        have H1 : Hid (∀ u ∈ u8s [b], u.oneCell' = true) := Lib.hid (by intro u hu; simp only [u8s, List.map_cons, List.map_nil, List.mem_singleton] at hu; subst hu; rfl)
        have HOW := Lib.hid hown
        have HBR := Lib.hid hbr
        have hroom : 1 + zN n + k + 1 ≤ 73 := by omega
        clear hown hbr hb
        go_wp2_with (at_builtin; refine wpList_append_fits _ rfl _ _ 29 rfl w.heap.size 5 i0 1 Tryd.underlying29 hi hz1 w.heap.size (1 + zN n + k) 73 (u8s (128 :: List.replicate (zN n) 0 ++ be (8 * n) k)) rfl (HOW.out.alloc _) ⟨wr.heap.size, 0, none⟩ 1 1 (u8s [b]) rfl rfl HN.out H1.out hroom ?_; intro w2 hown2 hgrow2)
        have key : ∀ i : Value, i = .int .i64 (56 - 8 * ((k + 1 : Nat) : Int)) → ∃ k' : Nat, k' ≤ 8 ∧ i = .int .i64 (56 - 8 * (k' : Int)) ∧ Value.slice (some ⟨w.heap.size, 0, none⟩) (1 + zN n + k + 1) 73 = .slice (some ⟨w.heap.size, 0, none⟩) (1 + zN n + k') 73 ∧ w2.ownsRow w.heap.size 5 1 (.slice (some ⟨w.heap.size, 0, none⟩) (1 + zN n + k + 1) 73) (1 + zN n + k') (u8s (128 :: List.replicate (zN n) 0 ++ be (8 * n) k')) ∧ Below w.heap.size w w2 ∧ w.heap.size < w2.heap.size := by
          intro i hi
          refine ⟨k + 1, by omega, hi, rfl, ?_, HBR.out.trans ?_, ?_⟩
          · rw [be_succ, HBB.out, ← List.append_assoc]
            have e : u8s (128 :: List.replicate (zN n) 0 ++ be (8 * n) k ++ [b]) = u8s (128 :: List.replicate (zN n) 0 ++ be (8 * n) k) ++ u8s [b] := by simp [u8s]
            rw [e]
            exact hown2
          · exact ((Below.refl w.heap.size wr).alloc (by omega) (.cells (u8s [b]).toArray 5)).grown hgrow2 (by simp; omega) (by simp)
          · have h := hgrow2.size
            simp at h
            omega
        go_roundw
        case rel => first | exact key _ (by go_num) | ((repeat apply Exists.intro); exact ⟨key (.int .i64 (56 - 8 * (k : Int) - 8)) (by go_num), rfl⟩)
        case measure => simp [intOf]; omega
      · obtain rfl : k = 8 := by omega
        have hcs := hown.cells (g := w.heap.size) rfl
        have hlen : (endL n).length = 1 + zN n + 8 := endL_length n
        have hconv : (convert 29 9 (.slice (some ⟨w.heap.size, 0, none⟩) (1 + zN n + 8) 73)).run Tryd.prog wr = .ok (.string ⟨(endL n).toArray⟩) wr := by
          rw [← hlen]
          exact run_convert_bytes_back wr 29 9 5 _ 73 (endL n) Tryd.underlying29 Tryd.underlying5 Tryd.underlying9 (fun j hj => hcs j _ (by
            show (u8s (endL n))[j]? = _
            simp [u8s, hj]))
        have HBR := Lib.hid hbr
        clear hown hbr hcs hlen
        go_wp2
        go_ret
        exact ⟨rfl, HBR.out⟩
end Go.Proofs.YthojdcmkajmdjaaDoor
