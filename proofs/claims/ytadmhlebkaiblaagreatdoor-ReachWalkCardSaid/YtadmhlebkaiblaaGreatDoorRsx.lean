/- A sign's bytes, put together one by one and written anew, are the text's own just where the text's decoder finds a sign. Conditions: none; nothing of the program is run here. The reference's signs, their bytes, and whether a number is one, are told. Conditions: those of each rule. -/
import Derived.Test.YtadmhlebkaiblaaGreatDoorRul
import Derived.Test.YtadmhlebkaiblaaGreatDoorRows
import Derived.Test.YtadmhlebkaiblaaGreatDoorChecked
import Derived.WalkKit
import Derived.WalkLawsBesides
import Derived.WalkSpells
import Derived.Outline
import Derived.OwnWalk
import Derived.IntWalk
import Derived.Laws.Rows
import Derived.Deep.MidRow
import Derived.Lib.Hide
import Derived.Deep.AppendLies
import Derived.Deep.QuietTactic
import Derived.BigQuiet
import Derived.Deep.RegionWith
import Derived.Deep.DeepCutAuto
set_option maxRecDepth 100000
namespace Go.Proofs.YtadmhlebkaiblaaGreatDoor
open Pl
namespace On
/-- how many bytes the first one asks for -/
def kN (b : Nat) : Nat := if 240 ≤ b then 4 else if 224 ≤ b then 3 else if 192 ≤ b then 2 else 1
def lowN (b : Nat) : Nat := if 240 ≤ b then b - 240 else if 224 ≤ b then b - 224 else if 192 ≤ b then b - 192 else b
/-- the number that so many bytes make -/
def nvN (b0 b1 b2 b3 : Nat) : Nat → Nat
  | 2 => 64 * lowN b0 + b1 % 64
  | 3 => 64 * (64 * lowN b0 + b1 % 64) + b2 % 64
  | 4 => 64 * (64 * (64 * lowN b0 + b1 % 64) + b2 % 64) + b3 % 64
  | _ => lowN b0
/-- a sign's bytes -/
def encN (n : Nat) : List Nat :=
  if n < 128 then [n] else if n < 2048 then [192 + n / 64, 128 + n % 64]
  else if n < 65536 then [224 + n / 4096, 128 + n / 64 % 64, 128 + n % 64]
  else [240 + n / 262144, 128 + n / 4096 % 64, 128 + n / 64 % 64, 128 + n % 64]
def signN (n : Nat) : Prop := n ≤ 1114111 ∧ (n < 55296 ∨ 57343 < n)
instance (n : Nat) : Decidable (signN n) := by unfold signN; infer_instance
def takeN (b0 b1 b2 b3 k : Nat) : List Nat := [b0, b1, b2, b3].take k
def isOne (n b0 b1 b2 b3 : Nat) : Prop := kN b0 ≤ n ∧ signN (nvN b0 b1 b2 b3 (kN b0)) ∧ encN (nvN b0 b1 b2 b3 (kN b0)) = takeN b0 b1 b2 b3 (kN b0)
instance (n b0 b1 b2 b3 : Nat) : Decidable (isOne n b0 b1 b2 b3) := by unfold isOne; infer_instance
theorem enc1 (n b0 : Nat) : encN n = [b0] ↔ n < 128 ∧ n = b0 := by
  unfold encN
  repeat' split
  all_goals simp
  all_goals omega
theorem enc2 (n b0 b1 : Nat) : encN n = [b0, b1] ↔ 128 ≤ n ∧ n < 2048 ∧ 192 + n / 64 = b0 ∧ 128 + n % 64 = b1 := by
  unfold encN
  repeat' split
  all_goals simp
  all_goals omega
theorem enc3 (n b0 b1 b2 : Nat) : encN n = [b0, b1, b2] ↔ 2048 ≤ n ∧ n < 65536 ∧ 224 + n / 4096 = b0 ∧ 128 + n / 64 % 64 = b1 ∧ 128 + n % 64 = b2 := by
  unfold encN
  repeat' split
  all_goals simp
  all_goals omega
theorem enc4 (n b0 b1 b2 b3 : Nat) : encN n = [b0, b1, b2, b3] ↔ 65536 ≤ n ∧ 240 + n / 262144 = b0 ∧ 128 + n / 4096 % 64 = b1 ∧ 128 + n / 64 % 64 = b2 ∧ 128 + n % 64 = b3 := by
  unfold encN
  repeat' split
  all_goals simp
  all_goals omega
set_option maxRecDepth 100000 in
set_option maxHeartbeats 2000000 in
theorem one_dec (n b0 b1 b2 b3 : Nat) (hn : 1 ≤ n) (h0 : b0 < 256) (h1 : b1 < 256) (h2 : b2 < 256) (h3 : b3 < 256) :
    (isOne n b0 b1 b2 b3 → Go.Lib.decodeN n b0 b1 b2 b3 = (nvN b0 b1 b2 b3 (kN b0), kN b0) ∧ (1 < kN b0 ∨ nvN b0 b1 b2 b3 (kN b0) < 128)) ∧
    (¬ isOne n b0 b1 b2 b3 → Go.Lib.decodeN n b0 b1 b2 b3 = (65533, 1)) := by
  rcases Nat.lt_or_ge b0 192 with c | c
  · have e1 : kN b0 = 1 := by unfold kN; rw [if_neg (by omega), if_neg (by omega), if_neg (by omega)]
    have e2 : lowN b0 = b0 := by unfold lowN; rw [if_neg (by omega), if_neg (by omega), if_neg (by omega)]
    unfold isOne signN
    rw [e1]
    simp only [nvN, takeN, List.take_succ_cons, List.take_zero, e2, enc1, and_true]
    unfold Go.Lib.decodeN
    constructor
    · intro h
      rw [if_pos (by omega)]
      refine ⟨rfl, ?_⟩
      simp
      omega
    · intro h
      rw [if_neg (by omega), if_neg (by omega), if_neg (by omega), if_neg (by omega)]
  · rcases Nat.lt_or_ge b0 224 with c2 | c2
    · have e1 : kN b0 = 2 := by unfold kN; rw [if_neg (by omega), if_neg (by omega), if_pos (by omega)]
      have e2 : lowN b0 = b0 - 192 := by unfold lowN; rw [if_neg (by omega), if_neg (by omega), if_pos (by omega)]
      unfold isOne signN
      rw [e1]
      simp only [nvN, takeN, List.take_succ_cons, List.take_zero, e2, enc2]
      unfold Go.Lib.decodeN
      rw [if_neg (by omega)]
      constructor
      · intro h
        rw [if_pos (by omega), if_pos (by omega)]
        exact ⟨by congr 1; omega, .inl (by omega)⟩
      · intro h
        by_cases q : b0 / 32 = 6 ∧ (1 < n ∧ b1 / 64 = 2)
        · rw [if_pos q, if_neg (by omega)]
        · rw [if_neg q, if_neg (by omega), if_neg (by omega)]
    · rcases Nat.lt_or_ge b0 240 with c3 | c3
      · have e1 : kN b0 = 3 := by unfold kN; rw [if_neg (by omega), if_pos (by omega)]
        have e2 : lowN b0 = b0 - 224 := by unfold lowN; rw [if_neg (by omega), if_pos (by omega)]
        unfold isOne signN
        rw [e1]
        simp only [nvN, takeN, List.take_succ_cons, List.take_zero, e2, enc3]
        unfold Go.Lib.decodeN
        rw [if_neg (by omega), if_neg (by omega)]
        have em : b0 % 16 * 4096 + b1 % 64 * 64 + b2 % 64 = 64 * (64 * (b0 - 224) + b1 % 64) + b2 % 64 := by omega
        rw [em]
        constructor
        · intro h
          rw [if_pos (by omega), if_pos (by omega)]
          exact ⟨rfl, .inl (by omega)⟩
        · intro h
          by_cases q : b0 / 16 = 14 ∧ (1 < n ∧ b1 / 64 = 2) ∧ (2 < n ∧ b2 / 64 = 2)
          · rw [if_pos q, if_neg (by omega)]
          · rw [if_neg q, if_neg (by omega)]
      · have e1 : kN b0 = 4 := by unfold kN; rw [if_pos (by omega)]
        have e2 : lowN b0 = b0 - 240 := by unfold lowN; rw [if_pos (by omega)]
        unfold isOne signN
        rw [e1]
        simp only [nvN, takeN, List.take_succ_cons, List.take_zero, e2, enc4]
        unfold Go.Lib.decodeN
        rw [if_neg (by omega), if_neg (by omega), if_neg (by omega)]
        constructor
        · intro h
          have em : b0 % 8 * 262144 + b1 % 64 * 4096 + b2 % 64 * 64 + b3 % 64 = 64 * (64 * (64 * (b0 - 240) + b1 % 64) + b2 % 64) + b3 % 64 := by omega
          rw [em, if_pos (by omega), if_pos (by omega)]
          exact ⟨rfl, .inl (by omega)⟩
        · intro h
          by_cases q : b0 / 8 = 30 ∧ (1 < n ∧ b1 / 64 = 2) ∧ (2 < n ∧ b2 / 64 = 2) ∧ (3 < n ∧ b3 / 64 = 2)
          · have em : b0 % 8 * 262144 + b1 % 64 * 4096 + b2 % 64 * 64 + b3 % 64 = 64 * (64 * (64 * (b0 - 240) + b1 % 64) + b2 % 64) + b3 % 64 := by omega
            rw [em, if_pos q, if_neg (by omega)]
          · rw [if_neg q]
/-- a text's byte, or nought -/
def byN (l : List UInt8) (j : Nat) : Nat := (l.getD j 0).toNat
theorem byN_lt (l : List UInt8) (j : Nat) : byN l j < 256 := UInt8.toNat_lt _
/-- does a text begin with a sign -/
def oneP (l : List UInt8) : Prop := isOne l.length (byN l 0) (byN l 1) (byN l 2) (byN l 3)
instance (l : List UInt8) : Decidable (oneP l) := by unfold oneP; infer_instance
/-- the number that the first bytes make -/
def numN (l : List UInt8) (j : Nat) : Nat := nvN (byN l 0) (byN l 1) (byN l 2) (byN l 3) j
/-- the sign ahead, and how many bytes it has -/
def oneR (l : List UInt8) : Nat × Nat := if oneP l then (numN l (kN (byN l 0)), kN (byN l 0)) else (0, 0)
theorem one_yes (l : List UInt8) (hne : l ≠ []) (h : oneP l) : Go.Lib.decodeL l = (numN l (kN (byN l 0)), kN (byN l 0)) ∧ ¬ ((Go.Lib.decodeL l).1 = 65533 ∧ (Go.Lib.decodeL l).2 = 1) := by
  have hl : 0 < l.length := List.length_pos_iff.2 hne
  obtain ⟨e, hk⟩ := (one_dec l.length (byN l 0) (byN l 1) (byN l 2) (byN l 3) hl (byN_lt _ _) (byN_lt _ _) (byN_lt _ _) (byN_lt _ _)).1 h
  have e' : Go.Lib.decodeL l = (numN l (kN (byN l 0)), kN (byN l 0)) := by rw [Go.Lib.decodeL_N]; exact e
  refine ⟨e', fun h => ?_⟩
  rw [e'] at h
  obtain ⟨h1, h2⟩ := h
  simp only at h1 h2
  unfold numN at h1
  omega
theorem one_no (l : List UInt8) (hne : l ≠ []) (h : ¬ oneP l) : (Go.Lib.decodeL l).1 = 65533 ∧ (Go.Lib.decodeL l).2 = 1 := by
  have hl : 0 < l.length := List.length_pos_iff.2 hne
  have e := (one_dec l.length (byN l 0) (byN l 1) (byN l 2) (byN l 3) hl (byN_lt _ _) (byN_lt _ _) (byN_lt _ _) (byN_lt _ _)).2 h
  rw [Go.Lib.decodeL_N]
  unfold byN at e
  rw [e]
  exact ⟨rfl, rfl⟩
/-- a right text begins with a sign, and what stands behind it is right -/
theorem valid_one (l : List UInt8) (hne : l ≠ []) : Go.Lib.validD l = if oneP l then Go.Lib.validD (l.drop (kN (byN l 0))) else false := by
  rw [Go.Lib.validD_step l hne]
  by_cases h : oneP l
  · obtain ⟨e, hn⟩ := one_yes l hne h
    rw [if_neg hn, if_pos h, e]
  · rw [if_pos (one_no l hne h), if_neg h]
theorem runes_one (l : List UInt8) (hne : l ≠ []) (h : oneP l) : runesOf l = (numN l (kN (byN l 0)) : Int) :: runesOf (l.drop (kN (byN l 0))) := by
  rw [runesOf_step l hne, (one_yes l hne h).1]
theorem kN_pos (b : Nat) : 1 ≤ kN b ∧ kN b ≤ 4 := by
  unfold kN
  repeat' split
  all_goals omega
theorem lowN_le (b : Nat) (h : b < 256) : lowN b < 192 := by
  unfold lowN
  repeat' split
  all_goals omega
theorem numN_lt (l : List UInt8) (j : Nat) : numN l j < 67108864 := by
  have h := lowN_le _ (byN_lt l 0)
  unfold numN nvN
  split <;> omega
theorem numN_succ (l : List UInt8) (j : Nat) (h1 : 1 ≤ j) (h2 : j < 4) : numN l (j + 1) = 64 * numN l j + byN l j % 64 := by
  unfold numN
  obtain rfl | rfl | rfl : j = 1 ∨ j = 2 ∨ j = 3 := by omega
  all_goals rfl
theorem numN_one (l : List UInt8) : numN l 1 = lowN (byN l 0) := rfl
/-- the first bytes, as texts are compared -/
theorem take_bytes (l : List UInt8) (k : Nat) (h1 : 1 ≤ k) (h4 : k ≤ 4) (hk : k ≤ l.length) : (l.take k).map UInt8.toNat = takeN (byN l 0) (byN l 1) (byN l 2) (byN l 3) k := by
  obtain rfl | rfl | rfl | rfl : k = 1 ∨ k = 2 ∨ k = 3 ∨ k = 4 := by omega
  all_goals
    match l, hk with
    | [a], hk => first | rfl | (simp at hk)
    | [a, b], hk => first | rfl | (simp at hk)
    | [a, b, c], hk => first | rfl | (simp at hk)
    | a :: b :: c :: d :: t, hk => rfl
end On
end Go.Proofs.YtadmhlebkaiblaaGreatDoor

set_option maxRecDepth 100000
namespace Go.Proofs.YtadmhlebkaiblaaGreatDoor
open Go.RowKit
open Pl On
theorem ret_b {x y : Bool} (h : x = y) : Ending.returned (.bool x) = Ending.returned (.bool y) := by rw [h]
set_option maxRecDepth 100000 in
theorem Sign_any (n : Nat) (w : World) : Calls Tryz.prog 138 #[.int .i64 (n : Int)] w fun e w' => e = .returned (.bool (decide (signN n))) ∧ w = w' := by
  go_enter Tryz.func138, Tryz.ntmps138
  go_wp2
  all_goals
    go_ret
    refine ⟨ret_b ?_, rfl⟩
    rw [Bool.eq_iff_iff]
    rw [decide_eq_true_iff]
    unfold signN
    simp only [Bool.or_eq_true, decide_eq_true_eq, true_iff, false_iff, Bool.false_eq_true]
    omega
theorem cvB (l : List UInt8) (w : World) (g n : Nat) (hn : l.length = n) (h : w.heap[g]? = some (.cells (l.map fun b => Value.int .u8 (b.toNat : Int)).toArray 5 (0, 0))) : (convert 154 9 (.slice (some ⟨g, 0, none⟩) n n)).run Tryz.prog w = .ok (.string ⟨l.toArray⟩) w := by
  have hc := run_convert_bytes_back w 154 9 5 ⟨g, 0, none⟩ n l Tryz.underlying154 Tryz.underlying5 Tryz.underlying9 (fun j hj => by
    rw [Addr.add_mid, cell_of_row w g _ _ _ _ h, Nat.zero_add]
    simp [hj])
  rw [hn] at hc
  exact hc
/-- a sign's bytes -/
def encB (n : Nat) : List UInt8 := (encN n).map UInt8.ofNat
theorem ofn (m : Nat) (h : m < 256) : ((UInt8.ofNat m).toNat : Int) = (m : Int) := by
  have : (UInt8.ofNat m).toNat = m := by simp; omega
  rw [this]
theorem cv_enc (n : Nat) (w : World) (k : Nat) (vs : Array Value) (hl : (encN n).length = k) (hb : ∀ m ∈ encN n, m < 256) (hv : vs.toList = (encN n).map fun (m : Nat) => Value.int .u8 (m : Int)) :
    (convert 154 9 (.slice (some ⟨w.heap.size, 0, none⟩) k k)).run Tryz.prog (w.alloc (.cells vs 5)) = .ok (.string ⟨(encB n).toArray⟩) (w.alloc (.cells vs 5)) := by
  refine cvB (encB n) _ _ k (by unfold encB; rw [List.length_map, hl]) ?_
  rw [heap_alloc_new]
  congr 2
  rw [← Array.toList_inj, hv]
  unfold encB
  simp only [List.map_map]
  apply List.map_congr_left
  intro m hm
  exact congrArg (Value.int .u8) (ofn m (hb m hm)).symm
set_option maxRecDepth 100000 in
set_option maxHeartbeats 1000000 in
theorem Bytes_any (n : Nat) (hn : n ≤ 1114111) (w : World) :
    Calls Tryz.prog 139 #[.int .i64 (n : Int)] w fun e w' => e = .returned (.string ⟨(encB n).toArray⟩) ∧ Below w.heap.size w w' := by
  by_cases h1 : n < 128
  · have i1 : (n : Int) < 128 := by omega
    have e : encN n = [n] := by unfold encN; rw [if_pos h1]
    have hcv := cv_enc n w 1 #[.int .u8 (n : Int)] (by rw [e]; rfl) (by rw [e]; simp; omega) (by rw [e]; rfl)
    obtain ⟨B, hB⟩ : ∃ B, (⟨(encB n).toArray⟩ : ByteArray) = B := ⟨_, rfl⟩
    rw [hB] at hcv ⊢
    clear e hB
    go_enter Tryz.func139, Tryz.ntmps139
    go_wp2
    go_ret
    exact ⟨rfl, (Below.refl _ _).alloc (Nat.le_refl _) _⟩
  · have i1 : ¬ (n : Int) < 128 := by omega
    by_cases h2 : n < 2048
    · have i2 : (n : Int) < 2048 := by omega
      have e : encN n = [192 + n / 64, 128 + n % 64] := by unfold encN; rw [if_neg h1, if_pos h2]
      have hcv := cv_enc n w 2 #[.int .u8 (192 + (n : Int) / 64), .int .u8 (128 + (n : Int) % 64)] (by rw [e]; rfl) (by rw [e]; simp; omega) (by rw [e]; simp)
      obtain ⟨B, hB⟩ : ∃ B, (⟨(encB n).toArray⟩ : ByteArray) = B := ⟨_, rfl⟩
      rw [hB] at hcv ⊢
      clear e hB
      go_enter Tryz.func139, Tryz.ntmps139
      go_wp2
      go_ret
      exact ⟨rfl, (Below.refl _ _).alloc (Nat.le_refl _) _⟩
    · have i2 : ¬ (n : Int) < 2048 := by omega
      by_cases h3 : n < 65536
      · have i3 : (n : Int) < 65536 := by omega
        have e : encN n = [224 + n / 4096, 128 + n / 64 % 64, 128 + n % 64] := by unfold encN; rw [if_neg h1, if_neg h2, if_pos h3]
        have hcv := cv_enc n w 3 #[.int .u8 (224 + (n : Int) / 4096), .int .u8 (128 + (n : Int) / 64 % 64), .int .u8 (128 + (n : Int) % 64)] (by rw [e]; rfl) (by rw [e]; simp; omega) (by rw [e]; simp)
        obtain ⟨B, hB⟩ : ∃ B, (⟨(encB n).toArray⟩ : ByteArray) = B := ⟨_, rfl⟩
        rw [hB] at hcv ⊢
        clear e hB
        go_enter Tryz.func139, Tryz.ntmps139
        go_wp2
        go_ret
        exact ⟨rfl, (Below.refl _ _).alloc (Nat.le_refl _) _⟩
      · have i3 : ¬ (n : Int) < 65536 := by omega
        have e : encN n = [240 + n / 262144, 128 + n / 4096 % 64, 128 + n / 64 % 64, 128 + n % 64] := by unfold encN; rw [if_neg h1, if_neg h2, if_neg h3]
        have hcv := cv_enc n w 4 #[.int .u8 (240 + (n : Int) / 262144), .int .u8 (128 + (n : Int) / 4096 % 64), .int .u8 (128 + (n : Int) / 64 % 64), .int .u8 (128 + (n : Int) % 64)] (by rw [e]; rfl) (by rw [e]; simp; omega) (by rw [e]; simp)
        obtain ⟨B, hB⟩ : ∃ B, (⟨(encB n).toArray⟩ : ByteArray) = B := ⟨_, rfl⟩
        rw [hB] at hcv ⊢
        clear e hB
        go_enter Tryz.func139, Tryz.ntmps139
        go_wp2
        go_ret
        exact ⟨rfl, (Below.refl _ _).alloc (Nat.le_refl _) _⟩
end Go.Proofs.YtadmhlebkaiblaaGreatDoor
