/- A sign's bytes, put together one by one and written anew, are the text's own just where the text's decoder finds a sign. Conditions: none; nothing of the program is run here. The reference's signs, their bytes, and whether a number is one, are told. Conditions: those of each rule. The reference's sign at a place of a text, and how many bytes it has, are told by the bytes that stand there. Conditions: the place lies in the text; the text is not too long. -/
import Derived.Test.YtepelpmkmhhokaaGreatDoorRux
import Derived.Test.YtepelpmkmhhokaaGreatDoorRows
import Derived.Test.YtepelpmkmhhokaaGreatDoorChecked
import Derived.WalkKit
import Derived.WalkLawsBesides
import Derived.WalkSpells
import Derived.Outline
import Derived.OwnWalk
import Derived.IntWalk
import Derived.Laws.Rows
import Derived.Deep.MidRow
import Derived.Lib.Hide
import Derived.Deep.AppendLies
import Derived.Deep.QuietTactic
import Derived.BigQuiet
import Derived.Deep.RegionWith
import Derived.Deep.DeepCutAuto
import Derived.Deep.RegionHeld3
set_option maxRecDepth 100000
namespace Go.Proofs.YtepelpmkmhhokaaGreatDoor
open Pl
namespace On
/-- how many bytes the first one asks for -/
def kN (b : Nat) : Nat := if 240 ≤ b then 4 else if 224 ≤ b then 3 else if 192 ≤ b then 2 else 1
def lowN (b : Nat) : Nat := if 240 ≤ b then b - 240 else if 224 ≤ b then b - 224 else if 192 ≤ b then b - 192 else b
/-- the number that so many bytes make -/
def nvN (b0 b1 b2 b3 : Nat) : Nat → Nat
  | 2 => 64 * lowN b0 + b1 % 64
  | 3 => 64 * (64 * lowN b0 + b1 % 64) + b2 % 64
  | 4 => 64 * (64 * (64 * lowN b0 + b1 % 64) + b2 % 64) + b3 % 64
  | _ => lowN b0
/-- a sign's bytes -/
def encN (n : Nat) : List Nat :=
  if n < 128 then [n] else if n < 2048 then [192 + n / 64, 128 + n % 64]
  else if n < 65536 then [224 + n / 4096, 128 + n / 64 % 64, 128 + n % 64]
  else [240 + n / 262144, 128 + n / 4096 % 64, 128 + n / 64 % 64, 128 + n % 64]
def signN (n : Nat) : Prop := n ≤ 1114111 ∧ (n < 55296 ∨ 57343 < n)
instance (n : Nat) : Decidable (signN n) := by unfold signN; infer_instance
def takeN (b0 b1 b2 b3 k : Nat) : List Nat := [b0, b1, b2, b3].take k
def isOne (n b0 b1 b2 b3 : Nat) : Prop := kN b0 ≤ n ∧ signN (nvN b0 b1 b2 b3 (kN b0)) ∧ encN (nvN b0 b1 b2 b3 (kN b0)) = takeN b0 b1 b2 b3 (kN b0)
instance (n b0 b1 b2 b3 : Nat) : Decidable (isOne n b0 b1 b2 b3) := by unfold isOne; infer_instance
theorem enc1 (n b0 : Nat) : encN n = [b0] ↔ n < 128 ∧ n = b0 := by
  unfold encN
  repeat' split
  all_goals simp
  all_goals omega
theorem enc2 (n b0 b1 : Nat) : encN n = [b0, b1] ↔ 128 ≤ n ∧ n < 2048 ∧ 192 + n / 64 = b0 ∧ 128 + n % 64 = b1 := by
  unfold encN
  repeat' split
  all_goals simp
  all_goals omega
theorem enc3 (n b0 b1 b2 : Nat) : encN n = [b0, b1, b2] ↔ 2048 ≤ n ∧ n < 65536 ∧ 224 + n / 4096 = b0 ∧ 128 + n / 64 % 64 = b1 ∧ 128 + n % 64 = b2 := by
  unfold encN
  repeat' split
  all_goals simp
  all_goals omega
theorem enc4 (n b0 b1 b2 b3 : Nat) : encN n = [b0, b1, b2, b3] ↔ 65536 ≤ n ∧ 240 + n / 262144 = b0 ∧ 128 + n / 4096 % 64 = b1 ∧ 128 + n / 64 % 64 = b2 ∧ 128 + n % 64 = b3 := by
  unfold encN
  repeat' split
  all_goals simp
  all_goals omega
set_option maxRecDepth 100000 in
set_option maxHeartbeats 2000000 in
theorem one_dec (n b0 b1 b2 b3 : Nat) (hn : 1 ≤ n) (h0 : b0 < 256) (h1 : b1 < 256) (h2 : b2 < 256) (h3 : b3 < 256) :
    (isOne n b0 b1 b2 b3 → Go.Lib.decodeN n b0 b1 b2 b3 = (nvN b0 b1 b2 b3 (kN b0), kN b0) ∧ (1 < kN b0 ∨ nvN b0 b1 b2 b3 (kN b0) < 128)) ∧
    (¬ isOne n b0 b1 b2 b3 → Go.Lib.decodeN n b0 b1 b2 b3 = (65533, 1)) := by
  rcases Nat.lt_or_ge b0 192 with c | c
  · have e1 : kN b0 = 1 := by unfold kN; rw [if_neg (by omega), if_neg (by omega), if_neg (by omega)]
    have e2 : lowN b0 = b0 := by unfold lowN; rw [if_neg (by omega), if_neg (by omega), if_neg (by omega)]
    unfold isOne signN
    rw [e1]
    simp only [nvN, takeN, List.take_succ_cons, List.take_zero, e2, enc1, and_true]
    unfold Go.Lib.decodeN
    constructor
    · intro h
      rw [if_pos (by omega)]
      refine ⟨rfl, ?_⟩
      simp
      omega
    · intro h
      rw [if_neg (by omega), if_neg (by omega), if_neg (by omega), if_neg (by omega)]
  · rcases Nat.lt_or_ge b0 224 with c2 | c2
    · have e1 : kN b0 = 2 := by unfold kN; rw [if_neg (by omega), if_neg (by omega), if_pos (by omega)]
      have e2 : lowN b0 = b0 - 192 := by unfold lowN; rw [if_neg (by omega), if_neg (by omega), if_pos (by omega)]
      unfold isOne signN
      rw [e1]
      simp only [nvN, takeN, List.take_succ_cons, List.take_zero, e2, enc2]
      unfold Go.Lib.decodeN
      rw [if_neg (by omega)]
      constructor
      · intro h
        rw [if_pos (by omega), if_pos (by omega)]
        exact ⟨by congr 1; omega, .inl (by omega)⟩
      · intro h
        by_cases q : b0 / 32 = 6 ∧ (1 < n ∧ b1 / 64 = 2)
        · rw [if_pos q, if_neg (by omega)]
        · rw [if_neg q, if_neg (by omega), if_neg (by omega)]
    · rcases Nat.lt_or_ge b0 240 with c3 | c3
      · have e1 : kN b0 = 3 := by unfold kN; rw [if_neg (by omega), if_pos (by omega)]
        have e2 : lowN b0 = b0 - 224 := by unfold lowN; rw [if_neg (by omega), if_pos (by omega)]
        unfold isOne signN
        rw [e1]
        simp only [nvN, takeN, List.take_succ_cons, List.take_zero, e2, enc3]
        unfold Go.Lib.decodeN
        rw [if_neg (by omega), if_neg (by omega)]
        have em : b0 % 16 * 4096 + b1 % 64 * 64 + b2 % 64 = 64 * (64 * (b0 - 224) + b1 % 64) + b2 % 64 := by omega
        rw [em]
        constructor
        · intro h
          rw [if_pos (by omega), if_pos (by omega)]
          exact ⟨rfl, .inl (by omega)⟩
        · intro h
          by_cases q : b0 / 16 = 14 ∧ (1 < n ∧ b1 / 64 = 2) ∧ (2 < n ∧ b2 / 64 = 2)
          · rw [if_pos q, if_neg (by omega)]
          · rw [if_neg q, if_neg (by omega)]
      · have e1 : kN b0 = 4 := by unfold kN; rw [if_pos (by omega)]
        have e2 : lowN b0 = b0 - 240 := by unfold lowN; rw [if_pos (by omega)]
        unfold isOne signN
        rw [e1]
        simp only [nvN, takeN, List.take_succ_cons, List.take_zero, e2, enc4]
        unfold Go.Lib.decodeN
        rw [if_neg (by omega), if_neg (by omega), if_neg (by omega)]
        constructor
        · intro h
          have em : b0 % 8 * 262144 + b1 % 64 * 4096 + b2 % 64 * 64 + b3 % 64 = 64 * (64 * (64 * (b0 - 240) + b1 % 64) + b2 % 64) + b3 % 64 := by omega
          rw [em, if_pos (by omega), if_pos (by omega)]
          exact ⟨rfl, .inl (by omega)⟩
        · intro h
          by_cases q : b0 / 8 = 30 ∧ (1 < n ∧ b1 / 64 = 2) ∧ (2 < n ∧ b2 / 64 = 2) ∧ (3 < n ∧ b3 / 64 = 2)
          · have em : b0 % 8 * 262144 + b1 % 64 * 4096 + b2 % 64 * 64 + b3 % 64 = 64 * (64 * (64 * (b0 - 240) + b1 % 64) + b2 % 64) + b3 % 64 := by omega
            rw [em, if_pos q, if_neg (by omega)]
          · rw [if_neg q]
/-- a text's byte, or nought -/
def byN (l : List UInt8) (j : Nat) : Nat := (l.getD j 0).toNat
theorem byN_lt (l : List UInt8) (j : Nat) : byN l j < 256 := UInt8.toNat_lt _
/-- does a text begin with a sign -/
def oneP (l : List UInt8) : Prop := isOne l.length (byN l 0) (byN l 1) (byN l 2) (byN l 3)
instance (l : List UInt8) : Decidable (oneP l) := by unfold oneP; infer_instance
/-- the number that the first bytes make -/
def numN (l : List UInt8) (j : Nat) : Nat := nvN (byN l 0) (byN l 1) (byN l 2) (byN l 3) j
/-- the sign ahead, and how many bytes it has -/
def oneR (l : List UInt8) : Nat × Nat := if oneP l then (numN l (kN (byN l 0)), kN (byN l 0)) else (0, 0)
theorem one_yes (l : List UInt8) (hne : l ≠ []) (h : oneP l) : Go.Lib.decodeL l = (numN l (kN (byN l 0)), kN (byN l 0)) ∧ ¬ ((Go.Lib.decodeL l).1 = 65533 ∧ (Go.Lib.decodeL l).2 = 1) := by
  have hl : 0 < l.length := List.length_pos_iff.2 hne
  obtain ⟨e, hk⟩ := (one_dec l.length (byN l 0) (byN l 1) (byN l 2) (byN l 3) hl (byN_lt _ _) (byN_lt _ _) (byN_lt _ _) (byN_lt _ _)).1 h
  have e' : Go.Lib.decodeL l = (numN l (kN (byN l 0)), kN (byN l 0)) := by rw [Go.Lib.decodeL_N]; exact e
  refine ⟨e', fun h => ?_⟩
  rw [e'] at h
  obtain ⟨h1, h2⟩ := h
  simp only at h1 h2
  unfold numN at h1
  omega
theorem one_no (l : List UInt8) (hne : l ≠ []) (h : ¬ oneP l) : (Go.Lib.decodeL l).1 = 65533 ∧ (Go.Lib.decodeL l).2 = 1 := by
  have hl : 0 < l.length := List.length_pos_iff.2 hne
  have e := (one_dec l.length (byN l 0) (byN l 1) (byN l 2) (byN l 3) hl (byN_lt _ _) (byN_lt _ _) (byN_lt _ _) (byN_lt _ _)).2 h
  rw [Go.Lib.decodeL_N]
  unfold byN at e
  rw [e]
  exact ⟨rfl, rfl⟩
/-- a right text begins with a sign, and what stands behind it is right -/
theorem valid_one (l : List UInt8) (hne : l ≠ []) : Go.Lib.validD l = if oneP l then Go.Lib.validD (l.drop (kN (byN l 0))) else false := by
  rw [Go.Lib.validD_step l hne]
  by_cases h : oneP l
  · obtain ⟨e, hn⟩ := one_yes l hne h
    rw [if_neg hn, if_pos h, e]
  · rw [if_pos (one_no l hne h), if_neg h]
theorem runes_one (l : List UInt8) (hne : l ≠ []) (h : oneP l) : runesOf l = (numN l (kN (byN l 0)) : Int) :: runesOf (l.drop (kN (byN l 0))) := by
  rw [runesOf_step l hne, (one_yes l hne h).1]
theorem kN_pos (b : Nat) : 1 ≤ kN b ∧ kN b ≤ 4 := by
  unfold kN
  repeat' split
  all_goals omega
theorem lowN_le (b : Nat) (h : b < 256) : lowN b < 192 := by
  unfold lowN
  repeat' split
  all_goals omega
theorem numN_lt (l : List UInt8) (j : Nat) : numN l j < 67108864 := by
  have h := lowN_le _ (byN_lt l 0)
  unfold numN nvN
  split <;> omega
theorem numN_succ (l : List UInt8) (j : Nat) (h1 : 1 ≤ j) (h2 : j < 4) : numN l (j + 1) = 64 * numN l j + byN l j % 64 := by
  unfold numN
  obtain rfl | rfl | rfl : j = 1 ∨ j = 2 ∨ j = 3 := by omega
  all_goals rfl
theorem numN_one (l : List UInt8) : numN l 1 = lowN (byN l 0) := rfl
/-- the first bytes, as texts are compared -/
theorem take_bytes (l : List UInt8) (k : Nat) (h1 : 1 ≤ k) (h4 : k ≤ 4) (hk : k ≤ l.length) : (l.take k).map UInt8.toNat = takeN (byN l 0) (byN l 1) (byN l 2) (byN l 3) k := by
  obtain rfl | rfl | rfl | rfl : k = 1 ∨ k = 2 ∨ k = 3 ∨ k = 4 := by omega
  all_goals
    match l, hk with
    | [a], hk => first | rfl | (simp at hk)
    | [a, b], hk => first | rfl | (simp at hk)
    | [a, b, c], hk => first | rfl | (simp at hk)
    | a :: b :: c :: d :: t, hk => rfl
end On
end Go.Proofs.YtepelpmkmhhokaaGreatDoor

set_option maxRecDepth 100000
namespace Go.Proofs.YtepelpmkmhhokaaGreatDoor
open Go.RowKit
open Pl On
theorem ret_b {x y : Bool} (h : x = y) : Ending.returned (.bool x) = Ending.returned (.bool y) := by rw [h]
set_option maxRecDepth 100000 in
theorem Sign_any (n : Nat) (w : World) : Calls Tryz.prog 130 #[.int .i64 (n : Int)] w fun e w' => e = .returned (.bool (decide (signN n))) ∧ w = w' := by
  go_enter Tryz.func130, Tryz.ntmps130
  go_wp2
  all_goals
    go_ret
    refine ⟨ret_b ?_, rfl⟩
    rw [Bool.eq_iff_iff]
    rw [decide_eq_true_iff]
    unfold signN
    simp only [Bool.or_eq_true, decide_eq_true_eq, true_iff, false_iff, Bool.false_eq_true]
    omega
theorem cvB (l : List UInt8) (w : World) (g n : Nat) (hn : l.length = n) (h : w.heap[g]? = some (.cells (l.map fun b => Value.int .u8 (b.toNat : Int)).toArray 5 (0, 0))) : (convert 183 9 (.slice (some ⟨g, 0, none⟩) n n)).run Tryz.prog w = .ok (.string ⟨l.toArray⟩) w := by
  have hc := run_convert_bytes_back w 183 9 5 ⟨g, 0, none⟩ n l Tryz.underlying183 Tryz.underlying5 Tryz.underlying9 (fun j hj => by
    rw [Addr.add_mid, cell_of_row w g _ _ _ _ h, Nat.zero_add]
    simp [hj])
  rw [hn] at hc
  exact hc
/-- a sign's bytes -/
def encB (n : Nat) : List UInt8 := (encN n).map UInt8.ofNat
theorem ofn (m : Nat) (h : m < 256) : ((UInt8.ofNat m).toNat : Int) = (m : Int) := by
  have : (UInt8.ofNat m).toNat = m := by simp; omega
  rw [this]
theorem cv_enc (n : Nat) (w : World) (k : Nat) (vs : Array Value) (hl : (encN n).length = k) (hb : ∀ m ∈ encN n, m < 256) (hv : vs.toList = (encN n).map fun (m : Nat) => Value.int .u8 (m : Int)) :
    (convert 183 9 (.slice (some ⟨w.heap.size, 0, none⟩) k k)).run Tryz.prog (w.alloc (.cells vs 5)) = .ok (.string ⟨(encB n).toArray⟩) (w.alloc (.cells vs 5)) := by
  refine cvB (encB n) _ _ k (by unfold encB; rw [List.length_map, hl]) ?_
  rw [heap_alloc_new]
  congr 2
  rw [← Array.toList_inj, hv]
  unfold encB
  simp only [List.map_map]
  apply List.map_congr_left
  intro m hm
  exact congrArg (Value.int .u8) (ofn m (hb m hm)).symm
set_option maxRecDepth 100000 in
set_option maxHeartbeats 1000000 in
theorem Bytes_any (n : Nat) (hn : n ≤ 1114111) (w : World) :
    Calls Tryz.prog 131 #[.int .i64 (n : Int)] w fun e w' => e = .returned (.string ⟨(encB n).toArray⟩) ∧ Below w.heap.size w w' := by
  by_cases h1 : n < 128
  · have i1 : (n : Int) < 128 := by omega
    have e : encN n = [n] := by unfold encN; rw [if_pos h1]
    have hcv := cv_enc n w 1 #[.int .u8 (n : Int)] (by rw [e]; rfl) (by rw [e]; simp; omega) (by rw [e]; rfl)
    obtain ⟨B, hB⟩ : ∃ B, (⟨(encB n).toArray⟩ : ByteArray) = B := ⟨_, rfl⟩
    rw [hB] at hcv ⊢
    clear e hB
    go_enter Tryz.func131, Tryz.ntmps131
    go_wp2
    go_ret
    exact ⟨rfl, (Below.refl _ _).alloc (Nat.le_refl _) _⟩
  · have i1 : ¬ (n : Int) < 128 := by omega
    by_cases h2 : n < 2048
    · have i2 : (n : Int) < 2048 := by omega
      have e : encN n = [192 + n / 64, 128 + n % 64] := by unfold encN; rw [if_neg h1, if_pos h2]
      have hcv := cv_enc n w 2 #[.int .u8 (192 + (n : Int) / 64), .int .u8 (128 + (n : Int) % 64)] (by rw [e]; rfl) (by rw [e]; simp; omega) (by rw [e]; simp)
      obtain ⟨B, hB⟩ : ∃ B, (⟨(encB n).toArray⟩ : ByteArray) = B := ⟨_, rfl⟩
      rw [hB] at hcv ⊢
      clear e hB
      go_enter Tryz.func131, Tryz.ntmps131
      go_wp2
      go_ret
      exact ⟨rfl, (Below.refl _ _).alloc (Nat.le_refl _) _⟩
    · have i2 : ¬ (n : Int) < 2048 := by omega
      by_cases h3 : n < 65536
      · have i3 : (n : Int) < 65536 := by omega
        have e : encN n = [224 + n / 4096, 128 + n / 64 % 64, 128 + n % 64] := by unfold encN; rw [if_neg h1, if_neg h2, if_pos h3]
        have hcv := cv_enc n w 3 #[.int .u8 (224 + (n : Int) / 4096), .int .u8 (128 + (n : Int) / 64 % 64), .int .u8 (128 + (n : Int) % 64)] (by rw [e]; rfl) (by rw [e]; simp; omega) (by rw [e]; simp)
        obtain ⟨B, hB⟩ : ∃ B, (⟨(encB n).toArray⟩ : ByteArray) = B := ⟨_, rfl⟩
        rw [hB] at hcv ⊢
        clear e hB
        go_enter Tryz.func131, Tryz.ntmps131
        go_wp2
        go_ret
        exact ⟨rfl, (Below.refl _ _).alloc (Nat.le_refl _) _⟩
      · have i3 : ¬ (n : Int) < 65536 := by omega
        have e : encN n = [240 + n / 262144, 128 + n / 4096 % 64, 128 + n / 64 % 64, 128 + n % 64] := by unfold encN; rw [if_neg h1, if_neg h2, if_neg h3]
        have hcv := cv_enc n w 4 #[.int .u8 (240 + (n : Int) / 262144), .int .u8 (128 + (n : Int) / 4096 % 64), .int .u8 (128 + (n : Int) / 64 % 64), .int .u8 (128 + (n : Int) % 64)] (by rw [e]; rfl) (by rw [e]; simp; omega) (by rw [e]; simp)
        obtain ⟨B, hB⟩ : ∃ B, (⟨(encB n).toArray⟩ : ByteArray) = B := ⟨_, rfl⟩
        rw [hB] at hcv ⊢
        clear e hB
        go_enter Tryz.func131, Tryz.ntmps131
        go_wp2
        go_ret
        exact ⟨rfl, (Below.refl _ _).alloc (Nat.le_refl _) _⟩
end Go.Proofs.YtepelpmkmhhokaaGreatDoor

set_option maxRecDepth 100000
namespace Go.Proofs.YtepelpmkmhhokaaGreatDoor
open Go.RowKit
open Pl On
theorem hid_drew {B : Nat} {a b : World} (h : Hid (Below B a b)) : Hid (Below B a b.drew) := Lib.hid h.out.drew
theorem len_list (s : ByteArray) : s.data.toList.length = s.size := by rw [Array.length_toList]; rfl
theorem byN_at (s : ByteArray) (a j : Nat) (h : a + j < s.size) : byN (s.data.toList.drop a) j = (s[a + j]'h).toNat := by
  unfold byN
  rw [List.getD_eq_getElem?_getD, List.getElem?_drop, List.getElem?_eq_getElem (by rw [len_list]; exact h)]
  rfl
theorem len_drop (s : ByteArray) (a : Nat) : (s.data.toList.drop a).length = s.size - a := by rw [List.length_drop, len_list]
theorem ext_take (s : ByteArray) (a k : Nat) : (s.extract a (a + k)).data.toList = (s.data.toList.drop a).take k := by
  rw [ByteArray.data_extract, Array.toList_extract, List.extract_eq_take_drop]
  congr 1
  omega
theorem enc_take (s : ByteArray) (a k n : Nat) (h1 : 1 ≤ k) (h4 : k ≤ 4) (hk : a + k ≤ s.size) (hb : ∀ m ∈ encN n, m < 256) :
    ((encB n) = (s.extract a (a + k)).data.toList) ↔ encN n = takeN (byN (s.data.toList.drop a) 0) (byN (s.data.toList.drop a) 1) (byN (s.data.toList.drop a) 2) (byN (s.data.toList.drop a) 3) k := by
  rw [ext_take, ← take_bytes _ k h1 h4 (by rw [len_drop]; omega)]
  have e : (encB n).map UInt8.toNat = encN n := by
    unfold encB
    rw [List.map_map]
    conv => rhs; rw [← List.map_id (encN n)]
    apply List.map_congr_left
    intro m hm
    have := hb m hm
    simp
    omega
  constructor
  · intro h
    rw [← e, h]
  · intro h
    rw [← e] at h
    exact List.map_inj_right (fun x y h => UInt8.toNat_inj.1 h) |>.1 h
theorem enc_lt (n : Nat) (h : n ≤ 1114111) : ∀ m ∈ encN n, m < 256 := by
  intro m hm
  unfold encN at hm
  repeat' split at hm
  all_goals
    simp at hm
    omega
set_option maxRecDepth 100000 in
set_option maxHeartbeats 2000000 in
theorem One_c4 (s : ByteArray) (hs : s.size ≤ 1099511627776) (a : Nat) (h : a < s.size) (b : UInt8) (hb : s[a] = b) (c1 : 240 ≤ b.toNat) (w : World) :
    Calls Tryz.prog 107 #[.string s, .int .i64 (a : Int)] w fun e w' => e = .returned (.tuple #[.int .i64 ((oneR (s.data.toList.drop a)).1 : Int), .int .i64 ((oneR (s.data.toList.drop a)).2 : Int)]) ∧ Below w.heap.size w w' := by
  obtain ⟨l, hl⟩ : ∃ l, s.data.toList.drop a = l := ⟨_, rfl⟩
  have hlen := len_drop s a
  have hby := fun j h => byN_at s a j h
  have het := fun n h => enc_take s a 4 n (by decide) (by decide) h
  rw [hl] at hlen hby het ⊢
  have hb0 : byN l 0 = b.toNat := by have e := hby 0 h; rw [← hb]; exact e
  have hk : kN (byN l 0) = 4 := by rw [hb0]; unfold kN; rw [if_pos (by omega)]
  have hn1 : numN l 1 = b.toNat - 240 := by rw [numN_one, hb0]; unfold lowN; rw [if_pos (by omega)]
  have hone : oneP l ↔ 4 ≤ s.size - a ∧ signN (numN l 4) ∧ encN (numN l 4) = takeN (byN l 0) (byN l 1) (byN l 2) (byN l 3) 4 := by
    unfold oneP isOne
    rw [hk, hlen]
    rfl
  have hR : oneR l = if oneP l then (numN l 4, 4) else (0, 0) := by unfold oneR; rw [hk]
  have hsz : (a : Int) < (s.size : Int) := by omega
  have HW0 : Hid (Below w.heap.size w w) := Lib.hid (Below.refl _ _)
  have hbl := b.toNat_lt
  have i1 : (240 : Int) ≤ (b.toNat : Int) := by omega
  by_cases hk2 : 4 ≤ s.size - a
  · have hN2 : ∀ j, numN l j < 67108864 := numN_lt l
    have hS : ∀ j, 1 ≤ j → j < 4 → numN l (j + 1) = 64 * numN l j + byN l j % 64 := fun j h1 h2 => numN_succ l j h1 (by omega)
    have kk : ¬ ((s.size : Int) - (a : Int) < 4) := by omega
    have ak : (a : Int) + 4 ≤ (s.size : Int) := by omega
    have ak2 : IntKind.i64.wrap ((a : Int) + 4) = (a : Int) + 4 := by rw [IntWalk.i64_left]; unfold wrap64; omega
    have ak3 : ((a : Int) + 4).toNat = a + 4 := by omega
    have ak4 : (a : Int) ≤ (a : Int) + 4 := by omega
    have HBY := Lib.hid hby
    have HN2 := Lib.hid hN2
    have HS := Lib.hid hS
    have HL := Lib.hid hl
    have HN1 := Lib.hid hn1
    have HB := Lib.hid hb
    have hf := hN2 4
    by_cases hs1 : signN (numN l 4)
    · have hle : numN l 4 ≤ 1114111 := hs1.1
      have he := het (numN l 4) (by omega) (enc_lt _ hle)
      have hS1 := fun w => Sign_any (numN l 4) w
      rw [decide_eq_true hs1] at hS1
      have hB1 : ∀ W, Hid (Below w.heap.size w W) → Calls Tryz.prog 131 #[.int .i64 (numN l 4 : Int)] W fun e W' => e = .returned (.string ⟨(encB (numN l 4)).toArray⟩) ∧ Hid (Below w.heap.size w W') :=
        fun W h => (Bytes_any (numN l 4) hle W).mono fun e W' ⟨h1, h2⟩ => ⟨h1, Lib.hid (h.out.trans (h2.mono h.out.size))⟩
      by_cases hs2 : encN (numN l 4) = takeN (byN l 0) (byN l 1) (byN l 2) (byN l 3) 4
      · have hO : oneR l = (numN l 4, 4) := by rw [hR, if_pos (hone.2 ⟨hk2, hs1, hs2⟩)]
        have q := he.2 hs2
        have q1 : ((⟨(encB (numN l 4)).toArray⟩ : ByteArray).toList == (s.extract a (a + 4)).toList) = true := by rw [ByteArray.toList_eq, ByteArray.toList_eq, ← q]; simp
        have q2 : ((⟨(encB (numN l 4)).toArray⟩ : ByteArray).toList != (s.extract a (a + 4)).toList) = false := by unfold bne; rw [q1]; rfl
        obtain ⟨X, hX⟩ : ∃ X, (⟨(encB (numN l 4)).toArray⟩ : ByteArray) = X := ⟨_, rfl⟩
        rw [hX] at hB1 q1 q2
        rw [hO]
        have HS1 := Lib.hid hS1
        have HB1 := Lib.hid hB1
        clear hby hN2 hS hl hn1 he hS1 hB1 hs2 hO q hX hR hone hk hb0 het hs1 hle
        go_enter Tryz.func107, Tryz.ntmps107
        go_upto_region 15 with (fail)
        go_loop [6, 8] (fun n i => ∃ j : Nat, 1 ≤ j ∧ j ≤ 4 ∧ i = .int .i64 j ∧ n = .int .i64 (numN l j : Int)) (fun _ i => 4 - (intOf i).toNat)
        case atStart => exact ⟨1, by omega, by omega, rfl, congrArg (Value.int .i64) (by rw [HN1.out]; try omega)⟩
        case round =>
          obtain ⟨j, hj1, hj2, rfl, rfl⟩ := hrel
          by_cases hlt : j < 4
          · have x1 := HN2.out j
            have p0 : (j : Int) < 4 := by omega
            have p1 : a + j < s.size := by omega
            have p2 : (a : Int) + (j : Int) < (s.size : Int) := by omega
            have p3 : ((a : Int) + (j : Int)).toNat = a + j := by omega
            have p4 : (0 : Int) ≤ (a : Int) + (j : Int) := by omega
            have x2 := HS.out j hj1 hlt
            rw [HBY.out j p1] at x2
            have hbj := (s[a + j]'p1).toNat_lt
            have hbj2 : (0 : Int) ≤ ((s[a + j]'p1).toNat : Int) := by omega
            have X2 := Lib.hid x2
            clear x2
            go_wp2
            go_round
            case rel => exact ⟨j + 1, by omega, by omega, by go_num, congrArg (Value.int .i64) (by rw [X2.out]; omega)⟩
            case measure => simp [intOf]; omega
          · obtain rfl : j = 4 := by omega
            go_wp2_with fail
            go_region_held3 (fun _ => True) (trivial) (first | ((with_reducible refine (HS1.out _).mono ?_); rintro e wq ⟨rfl, rfl⟩) | ((with_reducible refine (HB1.out _ (by first | assumption | exact hid_drew (by assumption))).mono ?_); rintro e wq ⟨rfl, hbq⟩))
            all_goals
              go_wp2
              go_ret2
              exact ⟨rfl, by first | exact (hbq : Hid _).out | exact (hid_drew hbq).out | exact Below.refl _ _ | exact (Below.refl _ _).drew | exact ⟨rfl, rfl, rfl, Nat.le_refl _, fun _ _ => rfl⟩⟩
      · have hO : oneR l = (0, 0) := by rw [hR, if_neg (fun h => hs2 (hone.1 h).2.2)]
        have q : ¬ encB (numN l 4) = (s.extract a (a + 4)).data.toList := fun h => hs2 (he.1 h)
        have q1 : ((⟨(encB (numN l 4)).toArray⟩ : ByteArray).toList == (s.extract a (a + 4)).toList) = false := by rw [ByteArray.toList_eq, ByteArray.toList_eq]; simpa using q
        have q2 : ((⟨(encB (numN l 4)).toArray⟩ : ByteArray).toList != (s.extract a (a + 4)).toList) = true := by unfold bne; rw [q1]; rfl
        obtain ⟨X, hX⟩ : ∃ X, (⟨(encB (numN l 4)).toArray⟩ : ByteArray) = X := ⟨_, rfl⟩
        rw [hX] at hB1 q1 q2
        rw [hO]
        have HS1 := Lib.hid hS1
        have HB1 := Lib.hid hB1
        clear hby hN2 hS hl hn1 he hS1 hB1 hs2 hO q hX hR hone hk hb0 het hs1 hle
        go_enter Tryz.func107, Tryz.ntmps107
        go_upto_region 15 with (fail)
        go_loop [6, 8] (fun n i => ∃ j : Nat, 1 ≤ j ∧ j ≤ 4 ∧ i = .int .i64 j ∧ n = .int .i64 (numN l j : Int)) (fun _ i => 4 - (intOf i).toNat)
        case atStart => exact ⟨1, by omega, by omega, rfl, congrArg (Value.int .i64) (by rw [HN1.out]; try omega)⟩
        case round =>
          obtain ⟨j, hj1, hj2, rfl, rfl⟩ := hrel
          by_cases hlt : j < 4
          · have x1 := HN2.out j
            have p0 : (j : Int) < 4 := by omega
            have p1 : a + j < s.size := by omega
            have p2 : (a : Int) + (j : Int) < (s.size : Int) := by omega
            have p3 : ((a : Int) + (j : Int)).toNat = a + j := by omega
            have p4 : (0 : Int) ≤ (a : Int) + (j : Int) := by omega
            have x2 := HS.out j hj1 hlt
            rw [HBY.out j p1] at x2
            have hbj := (s[a + j]'p1).toNat_lt
            have hbj2 : (0 : Int) ≤ ((s[a + j]'p1).toNat : Int) := by omega
            have X2 := Lib.hid x2
            clear x2
            go_wp2
            go_round
            case rel => exact ⟨j + 1, by omega, by omega, by go_num, congrArg (Value.int .i64) (by rw [X2.out]; omega)⟩
            case measure => simp [intOf]; omega
          · obtain rfl : j = 4 := by omega
            go_wp2_with fail
            go_region_held3 (fun _ => True) (trivial) (first | ((with_reducible refine (HS1.out _).mono ?_); rintro e wq ⟨rfl, rfl⟩) | ((with_reducible refine (HB1.out _ (by first | assumption | exact hid_drew (by assumption))).mono ?_); rintro e wq ⟨rfl, hbq⟩))
            all_goals
              go_wp2
              go_ret2
              exact ⟨rfl, by first | exact (hbq : Hid _).out | exact (hid_drew hbq).out | exact Below.refl _ _ | exact (Below.refl _ _).drew | exact ⟨rfl, rfl, rfl, Nat.le_refl _, fun _ _ => rfl⟩⟩
    · have hO : oneR l = (0, 0) := by rw [hR, if_neg (fun h => hs1 (hone.1 h).2.1)]
      have hS1 := fun w => Sign_any (numN l 4) w
      rw [decide_eq_false hs1] at hS1
      rw [hO]
      have HS1 := Lib.hid hS1
      clear hby hN2 hS hl hn1 hS1 hO hR hone hk hb0 het hs1
      go_enter Tryz.func107, Tryz.ntmps107
      go_upto_region 15 with (fail)
      go_loop [6, 8] (fun n i => ∃ j : Nat, 1 ≤ j ∧ j ≤ 4 ∧ i = .int .i64 j ∧ n = .int .i64 (numN l j : Int)) (fun _ i => 4 - (intOf i).toNat)
      case atStart => exact ⟨1, by omega, by omega, rfl, congrArg (Value.int .i64) (by rw [HN1.out]; try omega)⟩
      case round =>
        obtain ⟨j, hj1, hj2, rfl, rfl⟩ := hrel
        by_cases hlt : j < 4
        · have x1 := HN2.out j
          have p0 : (j : Int) < 4 := by omega
          have p1 : a + j < s.size := by omega
          have p2 : (a : Int) + (j : Int) < (s.size : Int) := by omega
          have p3 : ((a : Int) + (j : Int)).toNat = a + j := by omega
          have p4 : (0 : Int) ≤ (a : Int) + (j : Int) := by omega
          have x2 := HS.out j hj1 hlt
          rw [HBY.out j p1] at x2
          have hbj := (s[a + j]'p1).toNat_lt
          have hbj2 : (0 : Int) ≤ ((s[a + j]'p1).toNat : Int) := by omega
          have X2 := Lib.hid x2
          clear x2
          go_wp2
          go_round
          case rel => exact ⟨j + 1, by omega, by omega, by go_num, congrArg (Value.int .i64) (by rw [X2.out]; omega)⟩
          case measure => simp [intOf]; omega
        · obtain rfl : j = 4 := by omega
          go_wp2_with fail
          go_quiet ((go_at_call 130; exact Calls.quiet_of_same ((HS1.out _).mono fun _ _ ⟨he, hw⟩ => ⟨he, hw.symm⟩)))
          all_goals
            go_wp2
            go_ret2
            exact ⟨rfl, by first | exact (hbq : Hid _).out | exact (hid_drew hbq).out | exact Below.refl _ _ | exact (Below.refl _ _).drew | exact ⟨rfl, rfl, rfl, Nat.le_refl _, fun _ _ => rfl⟩⟩
  · have hO : oneR l = (0, 0) := by rw [hR, if_neg (fun h => hk2 (hone.1 h).1)]
    have kk : (s.size : Int) - (a : Int) < 4 := by omega
    rw [hO]
    clear hby hl hn1 hO hR hone hk hb0 het
    go_enter Tryz.func107, Tryz.ntmps107
    go_wp2
    go_ret2
    exact ⟨rfl, Below.refl _ _⟩
set_option maxRecDepth 100000 in
set_option maxHeartbeats 2000000 in
theorem One_c3 (s : ByteArray) (hs : s.size ≤ 1099511627776) (a : Nat) (h : a < s.size) (b : UInt8) (hb : s[a] = b) (c1 : 224 ≤ b.toNat) (c2 : b.toNat < 240) (w : World) :
    Calls Tryz.prog 107 #[.string s, .int .i64 (a : Int)] w fun e w' => e = .returned (.tuple #[.int .i64 ((oneR (s.data.toList.drop a)).1 : Int), .int .i64 ((oneR (s.data.toList.drop a)).2 : Int)]) ∧ Below w.heap.size w w' := by
  obtain ⟨l, hl⟩ : ∃ l, s.data.toList.drop a = l := ⟨_, rfl⟩
  have hlen := len_drop s a
  have hby := fun j h => byN_at s a j h
  have het := fun n h => enc_take s a 3 n (by decide) (by decide) h
  rw [hl] at hlen hby het ⊢
  have hb0 : byN l 0 = b.toNat := by have e := hby 0 h; rw [← hb]; exact e
  have hk : kN (byN l 0) = 3 := by rw [hb0]; unfold kN; rw [if_neg (by omega), if_pos (by omega)]
  have hn1 : numN l 1 = b.toNat - 224 := by rw [numN_one, hb0]; unfold lowN; rw [if_neg (by omega), if_pos (by omega)]
  have hone : oneP l ↔ 3 ≤ s.size - a ∧ signN (numN l 3) ∧ encN (numN l 3) = takeN (byN l 0) (byN l 1) (byN l 2) (byN l 3) 3 := by
    unfold oneP isOne
    rw [hk, hlen]
    rfl
  have hR : oneR l = if oneP l then (numN l 3, 3) else (0, 0) := by unfold oneR; rw [hk]
  have hsz : (a : Int) < (s.size : Int) := by omega
  have HW0 : Hid (Below w.heap.size w w) := Lib.hid (Below.refl _ _)
  have hbl := b.toNat_lt
  have i1 : (224 : Int) ≤ (b.toNat : Int) := by omega
  have j240 : ¬ (240 : Int) ≤ (b.toNat : Int) := by omega
  by_cases hk2 : 3 ≤ s.size - a
  · have hN2 : ∀ j, numN l j < 67108864 := numN_lt l
    have hS : ∀ j, 1 ≤ j → j < 3 → numN l (j + 1) = 64 * numN l j + byN l j % 64 := fun j h1 h2 => numN_succ l j h1 (by omega)
    have kk : ¬ ((s.size : Int) - (a : Int) < 3) := by omega
    have ak : (a : Int) + 3 ≤ (s.size : Int) := by omega
    have ak2 : IntKind.i64.wrap ((a : Int) + 3) = (a : Int) + 3 := by rw [IntWalk.i64_left]; unfold wrap64; omega
    have ak3 : ((a : Int) + 3).toNat = a + 3 := by omega
    have ak4 : (a : Int) ≤ (a : Int) + 3 := by omega
    have HBY := Lib.hid hby
    have HN2 := Lib.hid hN2
    have HS := Lib.hid hS
    have HL := Lib.hid hl
    have HN1 := Lib.hid hn1
    have HB := Lib.hid hb
    have hf := hN2 3
    by_cases hs1 : signN (numN l 3)
    · have hle : numN l 3 ≤ 1114111 := hs1.1
      have he := het (numN l 3) (by omega) (enc_lt _ hle)
      have hS1 := fun w => Sign_any (numN l 3) w
      rw [decide_eq_true hs1] at hS1
      have hB1 : ∀ W, Hid (Below w.heap.size w W) → Calls Tryz.prog 131 #[.int .i64 (numN l 3 : Int)] W fun e W' => e = .returned (.string ⟨(encB (numN l 3)).toArray⟩) ∧ Hid (Below w.heap.size w W') :=
        fun W h => (Bytes_any (numN l 3) hle W).mono fun e W' ⟨h1, h2⟩ => ⟨h1, Lib.hid (h.out.trans (h2.mono h.out.size))⟩
      by_cases hs2 : encN (numN l 3) = takeN (byN l 0) (byN l 1) (byN l 2) (byN l 3) 3
      · have hO : oneR l = (numN l 3, 3) := by rw [hR, if_pos (hone.2 ⟨hk2, hs1, hs2⟩)]
        have q := he.2 hs2
        have q1 : ((⟨(encB (numN l 3)).toArray⟩ : ByteArray).toList == (s.extract a (a + 3)).toList) = true := by rw [ByteArray.toList_eq, ByteArray.toList_eq, ← q]; simp
        have q2 : ((⟨(encB (numN l 3)).toArray⟩ : ByteArray).toList != (s.extract a (a + 3)).toList) = false := by unfold bne; rw [q1]; rfl
        obtain ⟨X, hX⟩ : ∃ X, (⟨(encB (numN l 3)).toArray⟩ : ByteArray) = X := ⟨_, rfl⟩
        rw [hX] at hB1 q1 q2
        rw [hO]
        have HS1 := Lib.hid hS1
        have HB1 := Lib.hid hB1
        clear hby hN2 hS hl hn1 he hS1 hB1 hs2 hO q hX hR hone hk hb0 het hs1 hle
        go_enter Tryz.func107, Tryz.ntmps107
        go_upto_region 15 with (fail)
        go_loop [6, 8] (fun n i => ∃ j : Nat, 1 ≤ j ∧ j ≤ 3 ∧ i = .int .i64 j ∧ n = .int .i64 (numN l j : Int)) (fun _ i => 3 - (intOf i).toNat)
        case atStart => exact ⟨1, by omega, by omega, rfl, congrArg (Value.int .i64) (by rw [HN1.out]; try omega)⟩
        case round =>
          obtain ⟨j, hj1, hj2, rfl, rfl⟩ := hrel
          by_cases hlt : j < 3
          · have x1 := HN2.out j
            have p0 : (j : Int) < 3 := by omega
            have p1 : a + j < s.size := by omega
            have p2 : (a : Int) + (j : Int) < (s.size : Int) := by omega
            have p3 : ((a : Int) + (j : Int)).toNat = a + j := by omega
            have p4 : (0 : Int) ≤ (a : Int) + (j : Int) := by omega
            have x2 := HS.out j hj1 hlt
            rw [HBY.out j p1] at x2
            have hbj := (s[a + j]'p1).toNat_lt
            have hbj2 : (0 : Int) ≤ ((s[a + j]'p1).toNat : Int) := by omega
            have X2 := Lib.hid x2
            clear x2
            go_wp2
            go_round
            case rel => exact ⟨j + 1, by omega, by omega, by go_num, congrArg (Value.int .i64) (by rw [X2.out]; omega)⟩
            case measure => simp [intOf]; omega
          · obtain rfl : j = 3 := by omega
            go_wp2_with fail
            go_region_held3 (fun _ => True) (trivial) (first | ((with_reducible refine (HS1.out _).mono ?_); rintro e wq ⟨rfl, rfl⟩) | ((with_reducible refine (HB1.out _ (by first | assumption | exact hid_drew (by assumption))).mono ?_); rintro e wq ⟨rfl, hbq⟩))
            all_goals
              go_wp2
              go_ret2
              exact ⟨rfl, by first | exact (hbq : Hid _).out | exact (hid_drew hbq).out | exact Below.refl _ _ | exact (Below.refl _ _).drew | exact ⟨rfl, rfl, rfl, Nat.le_refl _, fun _ _ => rfl⟩⟩
      · have hO : oneR l = (0, 0) := by rw [hR, if_neg (fun h => hs2 (hone.1 h).2.2)]
        have q : ¬ encB (numN l 3) = (s.extract a (a + 3)).data.toList := fun h => hs2 (he.1 h)
        have q1 : ((⟨(encB (numN l 3)).toArray⟩ : ByteArray).toList == (s.extract a (a + 3)).toList) = false := by rw [ByteArray.toList_eq, ByteArray.toList_eq]; simpa using q
        have q2 : ((⟨(encB (numN l 3)).toArray⟩ : ByteArray).toList != (s.extract a (a + 3)).toList) = true := by unfold bne; rw [q1]; rfl
        obtain ⟨X, hX⟩ : ∃ X, (⟨(encB (numN l 3)).toArray⟩ : ByteArray) = X := ⟨_, rfl⟩
        rw [hX] at hB1 q1 q2
        rw [hO]
        have HS1 := Lib.hid hS1
        have HB1 := Lib.hid hB1
        clear hby hN2 hS hl hn1 he hS1 hB1 hs2 hO q hX hR hone hk hb0 het hs1 hle
        go_enter Tryz.func107, Tryz.ntmps107
        go_upto_region 15 with (fail)
        go_loop [6, 8] (fun n i => ∃ j : Nat, 1 ≤ j ∧ j ≤ 3 ∧ i = .int .i64 j ∧ n = .int .i64 (numN l j : Int)) (fun _ i => 3 - (intOf i).toNat)
        case atStart => exact ⟨1, by omega, by omega, rfl, congrArg (Value.int .i64) (by rw [HN1.out]; try omega)⟩
        case round =>
          obtain ⟨j, hj1, hj2, rfl, rfl⟩ := hrel
          by_cases hlt : j < 3
          · have x1 := HN2.out j
            have p0 : (j : Int) < 3 := by omega
            have p1 : a + j < s.size := by omega
            have p2 : (a : Int) + (j : Int) < (s.size : Int) := by omega
            have p3 : ((a : Int) + (j : Int)).toNat = a + j := by omega
            have p4 : (0 : Int) ≤ (a : Int) + (j : Int) := by omega
            have x2 := HS.out j hj1 hlt
            rw [HBY.out j p1] at x2
            have hbj := (s[a + j]'p1).toNat_lt
            have hbj2 : (0 : Int) ≤ ((s[a + j]'p1).toNat : Int) := by omega
            have X2 := Lib.hid x2
            clear x2
            go_wp2
            go_round
            case rel => exact ⟨j + 1, by omega, by omega, by go_num, congrArg (Value.int .i64) (by rw [X2.out]; omega)⟩
            case measure => simp [intOf]; omega
          · obtain rfl : j = 3 := by omega
            go_wp2_with fail
            go_region_held3 (fun _ => True) (trivial) (first | ((with_reducible refine (HS1.out _).mono ?_); rintro e wq ⟨rfl, rfl⟩) | ((with_reducible refine (HB1.out _ (by first | assumption | exact hid_drew (by assumption))).mono ?_); rintro e wq ⟨rfl, hbq⟩))
            all_goals
              go_wp2
              go_ret2
              exact ⟨rfl, by first | exact (hbq : Hid _).out | exact (hid_drew hbq).out | exact Below.refl _ _ | exact (Below.refl _ _).drew | exact ⟨rfl, rfl, rfl, Nat.le_refl _, fun _ _ => rfl⟩⟩
    · have hO : oneR l = (0, 0) := by rw [hR, if_neg (fun h => hs1 (hone.1 h).2.1)]
      have hS1 := fun w => Sign_any (numN l 3) w
      rw [decide_eq_false hs1] at hS1
      rw [hO]
      have HS1 := Lib.hid hS1
      clear hby hN2 hS hl hn1 hS1 hO hR hone hk hb0 het hs1
      go_enter Tryz.func107, Tryz.ntmps107
      go_upto_region 15 with (fail)
      go_loop [6, 8] (fun n i => ∃ j : Nat, 1 ≤ j ∧ j ≤ 3 ∧ i = .int .i64 j ∧ n = .int .i64 (numN l j : Int)) (fun _ i => 3 - (intOf i).toNat)
      case atStart => exact ⟨1, by omega, by omega, rfl, congrArg (Value.int .i64) (by rw [HN1.out]; try omega)⟩
      case round =>
        obtain ⟨j, hj1, hj2, rfl, rfl⟩ := hrel
        by_cases hlt : j < 3
        · have x1 := HN2.out j
          have p0 : (j : Int) < 3 := by omega
          have p1 : a + j < s.size := by omega
          have p2 : (a : Int) + (j : Int) < (s.size : Int) := by omega
          have p3 : ((a : Int) + (j : Int)).toNat = a + j := by omega
          have p4 : (0 : Int) ≤ (a : Int) + (j : Int) := by omega
          have x2 := HS.out j hj1 hlt
          rw [HBY.out j p1] at x2
          have hbj := (s[a + j]'p1).toNat_lt
          have hbj2 : (0 : Int) ≤ ((s[a + j]'p1).toNat : Int) := by omega
          have X2 := Lib.hid x2
          clear x2
          go_wp2
          go_round
          case rel => exact ⟨j + 1, by omega, by omega, by go_num, congrArg (Value.int .i64) (by rw [X2.out]; omega)⟩
          case measure => simp [intOf]; omega
        · obtain rfl : j = 3 := by omega
          go_wp2_with fail
          go_quiet ((go_at_call 130; exact Calls.quiet_of_same ((HS1.out _).mono fun _ _ ⟨he, hw⟩ => ⟨he, hw.symm⟩)))
          all_goals
            go_wp2
            go_ret2
            exact ⟨rfl, by first | exact (hbq : Hid _).out | exact (hid_drew hbq).out | exact Below.refl _ _ | exact (Below.refl _ _).drew | exact ⟨rfl, rfl, rfl, Nat.le_refl _, fun _ _ => rfl⟩⟩
  · have hO : oneR l = (0, 0) := by rw [hR, if_neg (fun h => hk2 (hone.1 h).1)]
    have kk : (s.size : Int) - (a : Int) < 3 := by omega
    rw [hO]
    clear hby hl hn1 hO hR hone hk hb0 het
    go_enter Tryz.func107, Tryz.ntmps107
    go_wp2
    go_ret2
    exact ⟨rfl, Below.refl _ _⟩
set_option maxRecDepth 100000 in
set_option maxHeartbeats 2000000 in
theorem One_c2 (s : ByteArray) (hs : s.size ≤ 1099511627776) (a : Nat) (h : a < s.size) (b : UInt8) (hb : s[a] = b) (c1 : 192 ≤ b.toNat) (c2 : b.toNat < 224) (w : World) :
    Calls Tryz.prog 107 #[.string s, .int .i64 (a : Int)] w fun e w' => e = .returned (.tuple #[.int .i64 ((oneR (s.data.toList.drop a)).1 : Int), .int .i64 ((oneR (s.data.toList.drop a)).2 : Int)]) ∧ Below w.heap.size w w' := by
  obtain ⟨l, hl⟩ : ∃ l, s.data.toList.drop a = l := ⟨_, rfl⟩
  have hlen := len_drop s a
  have hby := fun j h => byN_at s a j h
  have het := fun n h => enc_take s a 2 n (by decide) (by decide) h
  rw [hl] at hlen hby het ⊢
  have hb0 : byN l 0 = b.toNat := by have e := hby 0 h; rw [← hb]; exact e
  have hk : kN (byN l 0) = 2 := by rw [hb0]; unfold kN; rw [if_neg (by omega), if_neg (by omega), if_pos (by omega)]
  have hn1 : numN l 1 = b.toNat - 192 := by rw [numN_one, hb0]; unfold lowN; rw [if_neg (by omega), if_neg (by omega), if_pos (by omega)]
  have hone : oneP l ↔ 2 ≤ s.size - a ∧ signN (numN l 2) ∧ encN (numN l 2) = takeN (byN l 0) (byN l 1) (byN l 2) (byN l 3) 2 := by
    unfold oneP isOne
    rw [hk, hlen]
    rfl
  have hR : oneR l = if oneP l then (numN l 2, 2) else (0, 0) := by unfold oneR; rw [hk]
  have hsz : (a : Int) < (s.size : Int) := by omega
  have HW0 : Hid (Below w.heap.size w w) := Lib.hid (Below.refl _ _)
  have hbl := b.toNat_lt
  have i1 : (192 : Int) ≤ (b.toNat : Int) := by omega
  have j240 : ¬ (240 : Int) ≤ (b.toNat : Int) := by omega
  have j224 : ¬ (224 : Int) ≤ (b.toNat : Int) := by omega
  by_cases hk2 : 2 ≤ s.size - a
  · have hN2 : ∀ j, numN l j < 67108864 := numN_lt l
    have hS : ∀ j, 1 ≤ j → j < 2 → numN l (j + 1) = 64 * numN l j + byN l j % 64 := fun j h1 h2 => numN_succ l j h1 (by omega)
    have kk : ¬ ((s.size : Int) - (a : Int) < 2) := by omega
    have ak : (a : Int) + 2 ≤ (s.size : Int) := by omega
    have ak2 : IntKind.i64.wrap ((a : Int) + 2) = (a : Int) + 2 := by rw [IntWalk.i64_left]; unfold wrap64; omega
    have ak3 : ((a : Int) + 2).toNat = a + 2 := by omega
    have ak4 : (a : Int) ≤ (a : Int) + 2 := by omega
    have HBY := Lib.hid hby
    have HN2 := Lib.hid hN2
    have HS := Lib.hid hS
    have HL := Lib.hid hl
    have HN1 := Lib.hid hn1
    have HB := Lib.hid hb
    have hf := hN2 2
    by_cases hs1 : signN (numN l 2)
    · have hle : numN l 2 ≤ 1114111 := hs1.1
      have he := het (numN l 2) (by omega) (enc_lt _ hle)
      have hS1 := fun w => Sign_any (numN l 2) w
      rw [decide_eq_true hs1] at hS1
      have hB1 : ∀ W, Hid (Below w.heap.size w W) → Calls Tryz.prog 131 #[.int .i64 (numN l 2 : Int)] W fun e W' => e = .returned (.string ⟨(encB (numN l 2)).toArray⟩) ∧ Hid (Below w.heap.size w W') :=
        fun W h => (Bytes_any (numN l 2) hle W).mono fun e W' ⟨h1, h2⟩ => ⟨h1, Lib.hid (h.out.trans (h2.mono h.out.size))⟩
      by_cases hs2 : encN (numN l 2) = takeN (byN l 0) (byN l 1) (byN l 2) (byN l 3) 2
      · have hO : oneR l = (numN l 2, 2) := by rw [hR, if_pos (hone.2 ⟨hk2, hs1, hs2⟩)]
        have q := he.2 hs2
        have q1 : ((⟨(encB (numN l 2)).toArray⟩ : ByteArray).toList == (s.extract a (a + 2)).toList) = true := by rw [ByteArray.toList_eq, ByteArray.toList_eq, ← q]; simp
        have q2 : ((⟨(encB (numN l 2)).toArray⟩ : ByteArray).toList != (s.extract a (a + 2)).toList) = false := by unfold bne; rw [q1]; rfl
        obtain ⟨X, hX⟩ : ∃ X, (⟨(encB (numN l 2)).toArray⟩ : ByteArray) = X := ⟨_, rfl⟩
        rw [hX] at hB1 q1 q2
        rw [hO]
        have HS1 := Lib.hid hS1
        have HB1 := Lib.hid hB1
        clear hby hN2 hS hl hn1 he hS1 hB1 hs2 hO q hX hR hone hk hb0 het hs1 hle
        go_enter Tryz.func107, Tryz.ntmps107
        go_upto_region 15 with (fail)
        go_loop [6, 8] (fun n i => ∃ j : Nat, 1 ≤ j ∧ j ≤ 2 ∧ i = .int .i64 j ∧ n = .int .i64 (numN l j : Int)) (fun _ i => 2 - (intOf i).toNat)
        case atStart => exact ⟨1, by omega, by omega, rfl, congrArg (Value.int .i64) (by rw [HN1.out]; try omega)⟩
        case round =>
          obtain ⟨j, hj1, hj2, rfl, rfl⟩ := hrel
          by_cases hlt : j < 2
          · have x1 := HN2.out j
            have p0 : (j : Int) < 2 := by omega
            have p1 : a + j < s.size := by omega
            have p2 : (a : Int) + (j : Int) < (s.size : Int) := by omega
            have p3 : ((a : Int) + (j : Int)).toNat = a + j := by omega
            have p4 : (0 : Int) ≤ (a : Int) + (j : Int) := by omega
            have x2 := HS.out j hj1 hlt
            rw [HBY.out j p1] at x2
            have hbj := (s[a + j]'p1).toNat_lt
            have hbj2 : (0 : Int) ≤ ((s[a + j]'p1).toNat : Int) := by omega
            have X2 := Lib.hid x2
            clear x2
            go_wp2
            go_round
            case rel => exact ⟨j + 1, by omega, by omega, by go_num, congrArg (Value.int .i64) (by rw [X2.out]; omega)⟩
            case measure => simp [intOf]; omega
          · obtain rfl : j = 2 := by omega
            go_wp2_with fail
            go_region_held3 (fun _ => True) (trivial) (first | ((with_reducible refine (HS1.out _).mono ?_); rintro e wq ⟨rfl, rfl⟩) | ((with_reducible refine (HB1.out _ (by first | assumption | exact hid_drew (by assumption))).mono ?_); rintro e wq ⟨rfl, hbq⟩))
            all_goals
              go_wp2
              go_ret2
              exact ⟨rfl, by first | exact (hbq : Hid _).out | exact (hid_drew hbq).out | exact Below.refl _ _ | exact (Below.refl _ _).drew | exact ⟨rfl, rfl, rfl, Nat.le_refl _, fun _ _ => rfl⟩⟩
      · have hO : oneR l = (0, 0) := by rw [hR, if_neg (fun h => hs2 (hone.1 h).2.2)]
        have q : ¬ encB (numN l 2) = (s.extract a (a + 2)).data.toList := fun h => hs2 (he.1 h)
        have q1 : ((⟨(encB (numN l 2)).toArray⟩ : ByteArray).toList == (s.extract a (a + 2)).toList) = false := by rw [ByteArray.toList_eq, ByteArray.toList_eq]; simpa using q
        have q2 : ((⟨(encB (numN l 2)).toArray⟩ : ByteArray).toList != (s.extract a (a + 2)).toList) = true := by unfold bne; rw [q1]; rfl
        obtain ⟨X, hX⟩ : ∃ X, (⟨(encB (numN l 2)).toArray⟩ : ByteArray) = X := ⟨_, rfl⟩
        rw [hX] at hB1 q1 q2
        rw [hO]
        have HS1 := Lib.hid hS1
        have HB1 := Lib.hid hB1
        clear hby hN2 hS hl hn1 he hS1 hB1 hs2 hO q hX hR hone hk hb0 het hs1 hle
        go_enter Tryz.func107, Tryz.ntmps107
        go_upto_region 15 with (fail)
        go_loop [6, 8] (fun n i => ∃ j : Nat, 1 ≤ j ∧ j ≤ 2 ∧ i = .int .i64 j ∧ n = .int .i64 (numN l j : Int)) (fun _ i => 2 - (intOf i).toNat)
        case atStart => exact ⟨1, by omega, by omega, rfl, congrArg (Value.int .i64) (by rw [HN1.out]; try omega)⟩
        case round =>
          obtain ⟨j, hj1, hj2, rfl, rfl⟩ := hrel
          by_cases hlt : j < 2
          · have x1 := HN2.out j
            have p0 : (j : Int) < 2 := by omega
            have p1 : a + j < s.size := by omega
            have p2 : (a : Int) + (j : Int) < (s.size : Int) := by omega
            have p3 : ((a : Int) + (j : Int)).toNat = a + j := by omega
            have p4 : (0 : Int) ≤ (a : Int) + (j : Int) := by omega
            have x2 := HS.out j hj1 hlt
            rw [HBY.out j p1] at x2
            have hbj := (s[a + j]'p1).toNat_lt
            have hbj2 : (0 : Int) ≤ ((s[a + j]'p1).toNat : Int) := by omega
            have X2 := Lib.hid x2
            clear x2
            go_wp2
            go_round
            case rel => exact ⟨j + 1, by omega, by omega, by go_num, congrArg (Value.int .i64) (by rw [X2.out]; omega)⟩
            case measure => simp [intOf]; omega
          · obtain rfl : j = 2 := by omega
            go_wp2_with fail
            go_region_held3 (fun _ => True) (trivial) (first | ((with_reducible refine (HS1.out _).mono ?_); rintro e wq ⟨rfl, rfl⟩) | ((with_reducible refine (HB1.out _ (by first | assumption | exact hid_drew (by assumption))).mono ?_); rintro e wq ⟨rfl, hbq⟩))
            all_goals
              go_wp2
              go_ret2
              exact ⟨rfl, by first | exact (hbq : Hid _).out | exact (hid_drew hbq).out | exact Below.refl _ _ | exact (Below.refl _ _).drew | exact ⟨rfl, rfl, rfl, Nat.le_refl _, fun _ _ => rfl⟩⟩
    · have hO : oneR l = (0, 0) := by rw [hR, if_neg (fun h => hs1 (hone.1 h).2.1)]
      have hS1 := fun w => Sign_any (numN l 2) w
      rw [decide_eq_false hs1] at hS1
      rw [hO]
      have HS1 := Lib.hid hS1
      clear hby hN2 hS hl hn1 hS1 hO hR hone hk hb0 het hs1
      go_enter Tryz.func107, Tryz.ntmps107
      go_upto_region 15 with (fail)
      go_loop [6, 8] (fun n i => ∃ j : Nat, 1 ≤ j ∧ j ≤ 2 ∧ i = .int .i64 j ∧ n = .int .i64 (numN l j : Int)) (fun _ i => 2 - (intOf i).toNat)
      case atStart => exact ⟨1, by omega, by omega, rfl, congrArg (Value.int .i64) (by rw [HN1.out]; try omega)⟩
      case round =>
        obtain ⟨j, hj1, hj2, rfl, rfl⟩ := hrel
        by_cases hlt : j < 2
        · have x1 := HN2.out j
          have p0 : (j : Int) < 2 := by omega
          have p1 : a + j < s.size := by omega
          have p2 : (a : Int) + (j : Int) < (s.size : Int) := by omega
          have p3 : ((a : Int) + (j : Int)).toNat = a + j := by omega
          have p4 : (0 : Int) ≤ (a : Int) + (j : Int) := by omega
          have x2 := HS.out j hj1 hlt
          rw [HBY.out j p1] at x2
          have hbj := (s[a + j]'p1).toNat_lt
          have hbj2 : (0 : Int) ≤ ((s[a + j]'p1).toNat : Int) := by omega
          have X2 := Lib.hid x2
          clear x2
          go_wp2
          go_round
          case rel => exact ⟨j + 1, by omega, by omega, by go_num, congrArg (Value.int .i64) (by rw [X2.out]; omega)⟩
          case measure => simp [intOf]; omega
        · obtain rfl : j = 2 := by omega
          go_wp2_with fail
          go_quiet ((go_at_call 130; exact Calls.quiet_of_same ((HS1.out _).mono fun _ _ ⟨he, hw⟩ => ⟨he, hw.symm⟩)))
          all_goals
            go_wp2
            go_ret2
            exact ⟨rfl, by first | exact (hbq : Hid _).out | exact (hid_drew hbq).out | exact Below.refl _ _ | exact (Below.refl _ _).drew | exact ⟨rfl, rfl, rfl, Nat.le_refl _, fun _ _ => rfl⟩⟩
  · have hO : oneR l = (0, 0) := by rw [hR, if_neg (fun h => hk2 (hone.1 h).1)]
    have kk : (s.size : Int) - (a : Int) < 2 := by omega
    rw [hO]
    clear hby hl hn1 hO hR hone hk hb0 het
    go_enter Tryz.func107, Tryz.ntmps107
    go_wp2
    go_ret2
    exact ⟨rfl, Below.refl _ _⟩
set_option maxRecDepth 100000 in
set_option maxHeartbeats 2000000 in
theorem One_c1 (s : ByteArray) (hs : s.size ≤ 1099511627776) (a : Nat) (h : a < s.size) (b : UInt8) (hb : s[a] = b) (c2 : b.toNat < 192) (w : World) :
    Calls Tryz.prog 107 #[.string s, .int .i64 (a : Int)] w fun e w' => e = .returned (.tuple #[.int .i64 ((oneR (s.data.toList.drop a)).1 : Int), .int .i64 ((oneR (s.data.toList.drop a)).2 : Int)]) ∧ Below w.heap.size w w' := by
  obtain ⟨l, hl⟩ : ∃ l, s.data.toList.drop a = l := ⟨_, rfl⟩
  have hlen := len_drop s a
  have hby := fun j h => byN_at s a j h
  have het := fun n h => enc_take s a 1 n (by decide) (by decide) h
  rw [hl] at hlen hby het ⊢
  have hb0 : byN l 0 = b.toNat := by have e := hby 0 h; rw [← hb]; exact e
  have hk : kN (byN l 0) = 1 := by rw [hb0]; unfold kN; rw [if_neg (by omega), if_neg (by omega), if_neg (by omega)]
  have hn1 : numN l 1 = b.toNat := by rw [numN_one, hb0]; unfold lowN; rw [if_neg (by omega), if_neg (by omega), if_neg (by omega)]
  have hone : oneP l ↔ 1 ≤ s.size - a ∧ signN (numN l 1) ∧ encN (numN l 1) = takeN (byN l 0) (byN l 1) (byN l 2) (byN l 3) 1 := by
    unfold oneP isOne
    rw [hk, hlen]
    rfl
  have hR : oneR l = if oneP l then (numN l 1, 1) else (0, 0) := by unfold oneR; rw [hk]
  have hsz : (a : Int) < (s.size : Int) := by omega
  have HW0 : Hid (Below w.heap.size w w) := Lib.hid (Below.refl _ _)
  have hbl := b.toNat_lt
  have j240 : ¬ (240 : Int) ≤ (b.toNat : Int) := by omega
  have j224 : ¬ (224 : Int) ≤ (b.toNat : Int) := by omega
  have j192 : ¬ (192 : Int) ≤ (b.toNat : Int) := by omega
  by_cases hk2 : 1 ≤ s.size - a
  · have hN2 : ∀ j, numN l j < 67108864 := numN_lt l
    have hS : ∀ j, 1 ≤ j → j < 1 → numN l (j + 1) = 64 * numN l j + byN l j % 64 := fun j h1 h2 => numN_succ l j h1 (by omega)
    have kk : ¬ ((s.size : Int) - (a : Int) < 1) := by omega
    have ak : (a : Int) + 1 ≤ (s.size : Int) := by omega
    have ak2 : IntKind.i64.wrap ((a : Int) + 1) = (a : Int) + 1 := by rw [IntWalk.i64_left]; unfold wrap64; omega
    have ak3 : ((a : Int) + 1).toNat = a + 1 := by omega
    have ak4 : (a : Int) ≤ (a : Int) + 1 := by omega
    have HBY := Lib.hid hby
    have HN2 := Lib.hid hN2
    have HS := Lib.hid hS
    have HL := Lib.hid hl
    have HN1 := Lib.hid hn1
    have HB := Lib.hid hb
    have hf := hN2 1
    by_cases hs1 : signN (numN l 1)
    · have hle : numN l 1 ≤ 1114111 := hs1.1
      have he := het (numN l 1) (by omega) (enc_lt _ hle)
      have hS1 := fun w => Sign_any (numN l 1) w
      rw [decide_eq_true hs1] at hS1
      have hB1 : ∀ W, Hid (Below w.heap.size w W) → Calls Tryz.prog 131 #[.int .i64 (numN l 1 : Int)] W fun e W' => e = .returned (.string ⟨(encB (numN l 1)).toArray⟩) ∧ Hid (Below w.heap.size w W') :=
        fun W h => (Bytes_any (numN l 1) hle W).mono fun e W' ⟨h1, h2⟩ => ⟨h1, Lib.hid (h.out.trans (h2.mono h.out.size))⟩
      by_cases hs2 : encN (numN l 1) = takeN (byN l 0) (byN l 1) (byN l 2) (byN l 3) 1
      · have hO : oneR l = (numN l 1, 1) := by rw [hR, if_pos (hone.2 ⟨hk2, hs1, hs2⟩)]
        have q := he.2 hs2
        have q1 : ((⟨(encB (numN l 1)).toArray⟩ : ByteArray).toList == (s.extract a (a + 1)).toList) = true := by rw [ByteArray.toList_eq, ByteArray.toList_eq, ← q]; simp
        have q2 : ((⟨(encB (numN l 1)).toArray⟩ : ByteArray).toList != (s.extract a (a + 1)).toList) = false := by unfold bne; rw [q1]; rfl
        obtain ⟨X, hX⟩ : ∃ X, (⟨(encB (numN l 1)).toArray⟩ : ByteArray) = X := ⟨_, rfl⟩
        rw [hX] at hB1 q1 q2
        rw [hO]
        have HS1 := Lib.hid hS1
        have HB1 := Lib.hid hB1
        clear hby hN2 hS hl hn1 he hS1 hB1 hs2 hO q hX hR hone hk hb0 het hs1 hle
        go_enter Tryz.func107, Tryz.ntmps107
        go_upto_region 15 with (fail)
        go_loop [6, 8] (fun n i => ∃ j : Nat, 1 ≤ j ∧ j ≤ 1 ∧ i = .int .i64 j ∧ n = .int .i64 (numN l j : Int)) (fun _ i => 1 - (intOf i).toNat)
        case atStart => exact ⟨1, by omega, by omega, rfl, congrArg (Value.int .i64) (by rw [HN1.out]; try omega)⟩
        case round =>
          obtain ⟨j, hj1, hj2, rfl, rfl⟩ := hrel
          obtain rfl : j = 1 := by omega
          go_wp2_with fail
          go_region_held3 (fun _ => True) (trivial) (first | ((with_reducible refine (HS1.out _).mono ?_); rintro e wq ⟨rfl, rfl⟩) | ((with_reducible refine (HB1.out _ (by first | assumption | exact hid_drew (by assumption))).mono ?_); rintro e wq ⟨rfl, hbq⟩))
          all_goals
            go_wp2
            go_ret2
            exact ⟨rfl, by first | exact (hbq : Hid _).out | exact (hid_drew hbq).out | exact Below.refl _ _ | exact (Below.refl _ _).drew | exact ⟨rfl, rfl, rfl, Nat.le_refl _, fun _ _ => rfl⟩⟩
      · have hO : oneR l = (0, 0) := by rw [hR, if_neg (fun h => hs2 (hone.1 h).2.2)]
        have q : ¬ encB (numN l 1) = (s.extract a (a + 1)).data.toList := fun h => hs2 (he.1 h)
        have q1 : ((⟨(encB (numN l 1)).toArray⟩ : ByteArray).toList == (s.extract a (a + 1)).toList) = false := by rw [ByteArray.toList_eq, ByteArray.toList_eq]; simpa using q
        have q2 : ((⟨(encB (numN l 1)).toArray⟩ : ByteArray).toList != (s.extract a (a + 1)).toList) = true := by unfold bne; rw [q1]; rfl
        obtain ⟨X, hX⟩ : ∃ X, (⟨(encB (numN l 1)).toArray⟩ : ByteArray) = X := ⟨_, rfl⟩
        rw [hX] at hB1 q1 q2
        rw [hO]
        have HS1 := Lib.hid hS1
        have HB1 := Lib.hid hB1
        clear hby hN2 hS hl hn1 he hS1 hB1 hs2 hO q hX hR hone hk hb0 het hs1 hle
        go_enter Tryz.func107, Tryz.ntmps107
        go_upto_region 15 with (fail)
        go_loop [6, 8] (fun n i => ∃ j : Nat, 1 ≤ j ∧ j ≤ 1 ∧ i = .int .i64 j ∧ n = .int .i64 (numN l j : Int)) (fun _ i => 1 - (intOf i).toNat)
        case atStart => exact ⟨1, by omega, by omega, rfl, congrArg (Value.int .i64) (by rw [HN1.out]; try omega)⟩
        case round =>
          obtain ⟨j, hj1, hj2, rfl, rfl⟩ := hrel
          obtain rfl : j = 1 := by omega
          go_wp2_with fail
          go_region_held3 (fun _ => True) (trivial) (first | ((with_reducible refine (HS1.out _).mono ?_); rintro e wq ⟨rfl, rfl⟩) | ((with_reducible refine (HB1.out _ (by first | assumption | exact hid_drew (by assumption))).mono ?_); rintro e wq ⟨rfl, hbq⟩))
          all_goals
            go_wp2
            go_ret2
            exact ⟨rfl, by first | exact (hbq : Hid _).out | exact (hid_drew hbq).out | exact Below.refl _ _ | exact (Below.refl _ _).drew | exact ⟨rfl, rfl, rfl, Nat.le_refl _, fun _ _ => rfl⟩⟩
    · have hO : oneR l = (0, 0) := by rw [hR, if_neg (fun h => hs1 (hone.1 h).2.1)]
      have hS1 := fun w => Sign_any (numN l 1) w
      rw [decide_eq_false hs1] at hS1
      rw [hO]
      have HS1 := Lib.hid hS1
      clear hby hN2 hS hl hn1 hS1 hO hR hone hk hb0 het hs1
      go_enter Tryz.func107, Tryz.ntmps107
      go_upto_region 15 with (fail)
      go_loop [6, 8] (fun n i => ∃ j : Nat, 1 ≤ j ∧ j ≤ 1 ∧ i = .int .i64 j ∧ n = .int .i64 (numN l j : Int)) (fun _ i => 1 - (intOf i).toNat)
      case atStart => exact ⟨1, by omega, by omega, rfl, congrArg (Value.int .i64) (by rw [HN1.out]; try omega)⟩
      case round =>
        obtain ⟨j, hj1, hj2, rfl, rfl⟩ := hrel
        obtain rfl : j = 1 := by omega
        go_wp2_with fail
        go_quiet ((go_at_call 130; exact Calls.quiet_of_same ((HS1.out _).mono fun _ _ ⟨he, hw⟩ => ⟨he, hw.symm⟩)))
        all_goals
          go_wp2
          go_ret2
          exact ⟨rfl, by first | exact (hbq : Hid _).out | exact (hid_drew hbq).out | exact Below.refl _ _ | exact (Below.refl _ _).drew | exact ⟨rfl, rfl, rfl, Nat.le_refl _, fun _ _ => rfl⟩⟩
  · have hO : oneR l = (0, 0) := by rw [hR, if_neg (fun h => hk2 (hone.1 h).1)]
    have kk : (s.size : Int) - (a : Int) < 1 := by omega
    rw [hO]
    clear hby hl hn1 hO hR hone hk hb0 het
    go_enter Tryz.func107, Tryz.ntmps107
    go_wp2
    go_ret2
    exact ⟨rfl, Below.refl _ _⟩
theorem One_any (s : ByteArray) (hs : s.size ≤ 1099511627776) (a : Nat) (h : a < s.size) (w : World) :
    Calls Tryz.prog 107 #[.string s, .int .i64 (a : Int)] w fun e w' => e = .returned (.tuple #[.int .i64 ((oneR (s.data.toList.drop a)).1 : Int), .int .i64 ((oneR (s.data.toList.drop a)).2 : Int)]) ∧ Below w.heap.size w w' := by
  rcases Nat.lt_or_ge s[a].toNat 192 with c | c
  · exact One_c1 s hs a h _ rfl c w
  · rcases Nat.lt_or_ge s[a].toNat 224 with c2 | c2
    · exact One_c2 s hs a h _ rfl c c2 w
    · rcases Nat.lt_or_ge s[a].toNat 240 with c3 | c3
      · exact One_c3 s hs a h _ rfl c2 c3 w
      · exact One_c4 s hs a h _ rfl c3 w
end Go.Proofs.YtepelpmkmhhokaaGreatDoor
