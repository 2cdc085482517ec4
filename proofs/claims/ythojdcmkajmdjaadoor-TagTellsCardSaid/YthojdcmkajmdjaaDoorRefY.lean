/- The reference's digits and the texts of digits are the program's. Conditions: those of each rule. -/
import Derived.Test.YthojdcmkajmdjaaDoorHmk
import Derived.Test.YthojdcmkajmdjaaDoorCv1
import Derived.Deep.RegionWith
import Derived.Deep.DeepCutAuto
import Derived.Deep.QuietTactic
import Derived.BigQuiet
namespace Go.Proofs.YthojdcmkajmdjaaDoor
open Go.ChangeShapes Go.WideShapes Go.ChangeAt Go.RowKit Go.Shelf
open Go.ChangeMaps (open_string shut_string)
open Rd Dg Hx
/-- what the reference says of a digit -/
def dv (c : UInt8) : Int := match valC c with
  | some x => (x.toNat : Int)
  | none => -1
theorem dv_cases (c : UInt8) : (48 ≤ c.toNat ∧ c.toNat ≤ 57 ∧ dv c = (c.toNat : Int) - 48) ∨ (97 ≤ c.toNat ∧ c.toNat ≤ 102 ∧ dv c = (c.toNat : Int) - 87) ∨ (¬ (48 ≤ c.toNat ∧ c.toNat ≤ 57) ∧ ¬ (97 ≤ c.toNat ∧ c.toNat ≤ 102) ∧ dv c = -1) :=
  all8 (fun c => (48 ≤ c.toNat ∧ c.toNat ≤ 57 ∧ dv c = (c.toNat : Int) - 48) ∨ (97 ≤ c.toNat ∧ c.toNat ≤ 102 ∧ dv c = (c.toNat : Int) - 87) ∨ (¬ (48 ≤ c.toNat ∧ c.toNat ≤ 57) ∧ ¬ (97 ≤ c.toNat ∧ c.toNat ≤ 102) ∧ dv c = -1)) (by decide +kernel) c
theorem dv_some {c x : UInt8} (h : valC c = some x) : dv c = (x.toNat : Int) := by unfold dv; rw [h]
theorem dv_none {c : UInt8} (h : valC c = none) : dv c = -1 := by unfold dv; rw [h]
set_option maxRecDepth 100000 in
set_option maxHeartbeats 2000000 in
theorem digit_any (c : UInt8) (w : World) :
    Calls Tryd.prog 27 #[.int .u8 (c.toNat : Int)] w fun e w' => e = .returned (.int .i64 (dv c)) ∧ w = w' := by
  have hl := c.toNat_lt
  obtain ⟨d, hd⟩ : ∃ d, dv c = d := ⟨_, rfl⟩
  have hc := dv_cases c
  rw [hd] at hc
  rw [hd]
  obtain ⟨n, hn⟩ : ∃ n, c.toNat = n := ⟨_, rfl⟩
  rw [hn] at hc hl
  rw [hn]
  clear hd hn
  rcases hc with ⟨h1, h2, rfl⟩ | ⟨h1, h2, rfl⟩ | ⟨h1, h2, rfl⟩
  · have e : IntKind.u8.wrap ((n : Int) - 48) = (n : Int) - 48 := by simp [IntKind.wrap, IntKind.bits, IntKind.signed]; omega
    go_enter Tryd.func27, Tryd.ntmps27
    go_wp2
    all_goals first
      | omega
      | (go_ret; exact ⟨rfl, rfl⟩)
      | (go_ret; exact ⟨congrArg (fun z => Ending.returned (Value.int .i64 z)) (show _ = _ by omega), rfl⟩)
  · have e : IntKind.u8.wrap ((n : Int) - 97) = (n : Int) - 97 := by simp [IntKind.wrap, IntKind.bits, IntKind.signed]; omega
    go_enter Tryd.func27, Tryd.ntmps27
    go_wp2
    all_goals first
      | omega
      | (go_ret; exact ⟨rfl, rfl⟩)
      | (go_ret; exact ⟨congrArg (fun z => Ending.returned (Value.int .i64 z)) (show _ = _ by omega), rfl⟩)
  · go_enter Tryd.func27, Tryd.ntmps27
    go_wp2
    all_goals first
      | omega
      | (go_ret; exact ⟨rfl, rfl⟩)
      | (go_ret; exact ⟨congrArg (fun z => Ending.returned (Value.int .i64 z)) (show _ = _ by omega), rfl⟩)
theorem below_drewN {B : Nat} {a w : World} (h : Below B a w) (n : Nat) : Below B a (w.drewN n) := ⟨h.os, h.tape, h.output, h.size, h.block⟩
/-- the digits of a text's first bytes -/
def hexT (S : ByteArray) (t : Nat) : ByteArray := ⟨(hexL (S.data.toList.take t)).toArray⟩
theorem hexT_size (S : ByteArray) (t : Nat) (h : t ≤ S.size) : (hexT S t).size = 2 * t := by
  have hl : S.data.toList.length = S.size := by rw [Array.length_toList]; rfl
  show (hexL (S.data.toList.take t)).toArray.size = _
  rw [List.size_toArray, hexL_length, List.length_take, hl, Nat.min_eq_left h]
theorem hexT_succ (S : ByteArray) (t : Nat) (h : t < S.size) : hexT S t ++ ⟨#[hexC (S[t] >>> 4)]⟩ ++ ⟨#[hexC (S[t] &&& 15)]⟩ = hexT S (t + 1) := by
  have hl : t < S.data.toList.length := by rw [Array.length_toList]; exact h
  apply ByteArray.ext
  apply Array.toList_inj.1
  have e : S.data.toList[t] = S[t] := rfl
  rw [ByteArray.data_append, ByteArray.data_append, Array.toList_append, Array.toList_append]
  show hexL (S.data.toList.take t) ++ [hexC (S[t] >>> 4)] ++ [hexC (S[t] &&& 15)] = hexL (S.data.toList.take (t + 1))
  rw [List.take_succ_eq_append_getElem hl, hexL_append, e]
  simp [hexL]
theorem hexT_all (S : ByteArray) : hexT S S.size = ⟨(hexL S.data.toList).toArray⟩ := by
  have hl : S.data.toList.length = S.size := by rw [Array.length_toList]; rfl
  unfold hexT
  rw [List.take_of_length_le (by omega)]
theorem nibs (b : UInt8) : ((b >>> 4).toNat : Int) = (b.toNat : Int) / 16 ∧ ((b &&& 15).toNat : Int) = (b.toNat : Int) % 16 ∧ (b >>> 4).toNat < 16 ∧ (b &&& 15).toNat < 16 :=
  all8 (fun b => ((b >>> 4).toNat : Int) = (b.toNat : Int) / 16 ∧ ((b &&& 15).toNat : Int) = (b.toNat : Int) % 16 ∧ (b >>> 4).toNat < 16 ∧ (b &&& 15).toNat < 16) (by decide +kernel) b
theorem hex_at (x : UInt8) (h : x.toNat < 16) : (⟨#[48, 49, 50, 51, 52, 53, 54, 55, 56, 57, 97, 98, 99, 100, 101, 102]⟩ : ByteArray).extract x.toNat (x.toNat + 1) = ⟨#[hexC x]⟩ := by
  have key : ∀ n : Fin 16, (⟨#[48, 49, 50, 51, 52, 53, 54, 55, 56, 57, 97, 98, 99, 100, 101, 102]⟩ : ByteArray).extract n.1 (n.1 + 1) = ⟨#[hexC (UInt8.ofNat n.1)]⟩ := by decide +kernel
  have k := key ⟨x.toNat, h⟩
  simpa using k
set_option maxRecDepth 100000 in
set_option maxHeartbeats 2000000 in
theorem RefHex_ok (S : ByteArray) (hSs : S.size ≤ 1000000) (w : World) :
    Calls Tryd.prog 17 #[.string S] w fun e w' => e = .returned (.string ⟨(hexL S.data.toList).toArray⟩) ∧ Below w.heap.size w w' := by
  rw [← hexT_all]
  go_enter Tryd.func17, Tryd.ntmps17
  go_wp2_with fail
  go_loopw [4, 5] (fun a i wr => ∃ t : Nat, t ≤ S.size ∧ i = .int .i64 (t : Int) ∧ a = .string (hexT S t) ∧ Below w.heap.size w wr) (fun _ i _ => S.size - (intOf i).toNat)
  case atStart => exact ⟨0, by omega, rfl, rfl, Below.refl _ w⟩
  case round =>
    obtain ⟨t, ht, rfl, rfl, hbr⟩ := hrel
    have HBR := Lib.hid hbr
    clear hbr
    by_cases hlt : t < S.size
    · have i0 : (t : Int) < (S.size : Int) := by omega
      have s1 := hexT_size S t ht
      have c1 := hexT_succ S t hlt
      obtain ⟨A', hA'⟩ : ∃ A', hexT S (t + 1) = A' := ⟨_, rfl⟩
      obtain ⟨A, hA⟩ : ∃ A, hexT S t = A := ⟨_, rfl⟩
      rw [hA, hA'] at c1
      rw [hA] at s1
      rw [hA]
      obtain ⟨b, hb⟩ : ∃ b, S[t] = b := ⟨_, rfl⟩
      rw [hb] at c1
      obtain ⟨n1, n2, n3, n4⟩ := nibs b
      have q1 : (b.toNat : Int).tdiv 16 = ((b >>> 4).toNat : Int) := by rw [Int.tdiv_eq_ediv_of_nonneg (by omega), n1]
      have q2 : (b.toNat : Int).tmod 16 = ((b &&& 15).toNat : Int) := by rw [Int.tmod_eq_emod_of_nonneg (by omega), n2]
      obtain ⟨x, hx⟩ : ∃ x, b >>> 4 = x := ⟨_, rfl⟩
      obtain ⟨y, hy⟩ : ∃ y, b &&& 15 = y := ⟨_, rfl⟩
      rw [hx] at c1 q1 n1 n3
      rw [hy] at c1 q2 n2 n4
      have d1 := hex_at x n3
      have d2 := hex_at y n4
      have HA1 := Lib.hid hA'
      have C1 := Lib.hid c1
      have k1 : ((x.toNat : Int) + 1).toNat = x.toNat + 1 := by omega
      have k2 : ((y.toNat : Int) + 1).toNat = y.toNat + 1 := by omega
      have k3 : (x.toNat : Int) + 1 ≤ 16 := by omega
      have k4 : (y.toNat : Int) + 1 ≤ 16 := by omega
      have w1 : IntKind.i64.wrap ((x.toNat : Int) + 1) = (x.toNat : Int) + 1 := by rw [IntWalk.i64_left]; unfold wrap64; omega
      have w2 : IntKind.i64.wrap ((y.toNat : Int) + 1) = (y.toNat : Int) + 1 := by rw [IntWalk.i64_left]; unfold wrap64; omega
      have m1 : ¬ 9223372036854775807 < A.size + 1 := by omega
      have m2 : ¬ 9223372036854775807 < A.size + 1 + 1 := by omega
      clear hA hA' c1 s1 hx hy
      go_wp2_with fail
      go_quiet (fail)
      go_wp2
      go_roundw
      case rel => exact ⟨t + 1, by omega, by go_num, by rw [show b.toNat / 16 = x.toNat by omega, show b.toNat % 16 = y.toNat by omega, d1, d2, C1.out, HA1.out], below_drewN HBR.out _⟩
      case measure => simp [intOf]; omega
    · obtain rfl : t = S.size := by omega
      obtain ⟨A, hA⟩ : ∃ A, hexT S S.size = A := ⟨_, rfl⟩
      rw [hA]
      go_wp2
      go_ret
      exact ⟨by rw [hA]; rfl, HBR.out⟩
/-- the text of pairs of digits, as far as a pair -/
theorem pair_byte (a b x y : UInt8) (ha : valC a = some x) (hb : valC b = some y) : two a b = some (x <<< 4 ||| y) ∧ IntKind.u8.wrap (16 * (x.toNat : Int) + (y.toNat : Int)) = ((x <<< 4 ||| y).toNat : Int) ∧ x.toNat < 16 ∧ y.toNat < 16 := by
  have hx := (val_hex a x ha).2
  have hy := (val_hex b y hb).2
  have hx' : x.toNat < 16 := UInt8.lt_iff_toNat_lt.1 hx
  have hy' : y.toNat < 16 := UInt8.lt_iff_toNat_lt.1 hy
  refine ⟨by unfold two; rw [ha, hb], ?_, hx', hy'⟩
  have key : ∀ m n : Fin 16, (((UInt8.ofNat m.1) <<< 4 ||| (UInt8.ofNat n.1)).toNat : Int) = 16 * ((UInt8.ofNat m.1).toNat : Int) + ((UInt8.ofNat n.1).toNat : Int) := by decide +kernel
  have k := key ⟨x.toNat, hx'⟩ ⟨y.toNat, hy'⟩
  simp only [UInt8.ofNat_toNat] at k
  rw [← k]
  exact wrap8 _
/-- the text of some bytes -/
def txt (o : List UInt8) : ByteArray := ⟨o.toArray⟩
theorem txt_size (o : List UInt8) : (txt o).size = o.length := by show o.toArray.size = _; simp
theorem txt_snoc (o : List UInt8) (z : UInt8) : txt o ++ ⟨#[z]⟩ = txt (o ++ [z]) := by
  apply ByteArray.ext
  apply Array.toList_inj.1
  rw [ByteArray.data_append, Array.toList_append]
  rfl
theorem odd_none {l : List UInt8} {t : Nat} (h : l.length = 2 * t + 1) : unL l = none := by
  cases hm : unL l with
  | none => rfl
  | some m => have := un_len hm; omega
end Go.Proofs.YthojdcmkajmdjaaDoor
