/- The small functions of the package tag: what a rune says as a digit, a text's byte, the iterators that are made. Conditions: none. The package's iterators yield a text's bytes, its pairs, two texts' bytes side by side, in their order, and come to an end. Conditions: the boxes stay as they are. -/
import Derived.Test.YthojdcmkajmdjaaDoorRows
import Derived.Test.YthojdcmkajmdjaaDoorHt
import Derived.Test.YthojdcmkajmdjaaDoorIter
import Derived.RangeFuncNested
import Derived.RangeFuncBound
import Derived.RangeFuncCalls
import Derived.RangeFuncLeaves
import Derived.OwnWalkIn
import Derived.TacticsInMore
import Derived.LoopNIn
import Derived.LoopIn
import Derived.ControlIn
import Derived.WalkKit
import Derived.WalkLawsBesides
import Derived.WalkSpells
import Derived.Outline
import Derived.Lib.Hide
import Derived.Laws.IdiomStrings
import Derived.Shelf.Abstract
import Derived.Shelf.RegionOpen
import Derived.Deep.DeepCutAuto
namespace Go.Proofs.YthojdcmkajmdjaaDoor
open Go.RowKit
open Hx Seqs
/-- what a rune says as a digit -/
def valR (r : Nat) : Option UInt8 := if r < 256 then valC (UInt8.ofNat r) else none
theorem valR_some (r : Nat) (x : UInt8) (h : valR r = some x) : (48 ≤ r ∧ r ≤ 57 ∧ x.toNat = r - 48) ∨ (97 ≤ r ∧ r ≤ 102 ∧ x.toNat = r - 87) := by
  unfold valR at h
  split at h
  · rename_i hr
    have key : ∀ n : Fin 256, (match valC (UInt8.ofNat n.1) with | some x => decide ((48 ≤ n.1 ∧ n.1 ≤ 57 ∧ x.toNat = n.1 - 48) ∨ (97 ≤ n.1 ∧ n.1 ≤ 102 ∧ x.toNat = n.1 - 87)) | none => true) = true := by decide +kernel
    have k := key ⟨r, hr⟩
    rw [h] at k
    simpa using k
  · cases h
theorem valR_none (r : Nat) (h : valR r = none) : ¬ (48 ≤ r ∧ r ≤ 57) ∧ ¬ (97 ≤ r ∧ r ≤ 102) := by
  unfold valR at h
  split at h
  · rename_i hr
    have key : ∀ n : Fin 256, (match valC (UInt8.ofNat n.1) with | some _ => true | none => decide (¬ (48 ≤ n.1 ∧ n.1 ≤ 57) ∧ ¬ (97 ≤ n.1 ∧ n.1 ≤ 102))) = true := by decide +kernel
    have k := key ⟨r, hr⟩
    rw [h] at k
    simp at k
    omega
  · omega
theorem value_some (r : Nat) (x : UInt8) (h : valR r = some x) (w : World) :
    Calls Tryd.prog 26 #[.int .i32 (r : Int)] w fun e w' => e = .returned (.tuple #[.int .u8 (x.toNat : Int), .bool true]) ∧ w' = w := by
  rcases valR_some r x h with ⟨h1, h2, h3⟩ | ⟨h1, h2, h3⟩
  · have e : (x.toNat : Int) = (r : Int) - 48 := by omega
    rw [e]
    clear h h3 e
    go_enter Tryd.func26, Tryd.ntmps26
    go_wp2
    go_ret2
    exact ⟨rfl, rfl⟩
  · have e : (x.toNat : Int) = (r : Int) - 87 := by omega
    rw [e]
    clear h h3 e
    go_enter Tryd.func26, Tryd.ntmps26
    go_wp2
    go_ret2
    exact ⟨by rw [show (r : Int) - 97 + 10 = (r : Int) - 87 by omega]; rfl, rfl⟩
theorem value_none (r : Nat) (hr : r ≤ 2147483647) (h : valR r = none) (w : World) :
    Calls Tryd.prog 26 #[.int .i32 (r : Int)] w fun e w' => e = .returned (.tuple #[.int .u8 0, .bool false]) ∧ w' = w := by
  obtain ⟨h1, h2⟩ := valR_none r h
  clear h
  go_enter Tryd.func26, Tryd.ntmps26
  go_wp2
  all_goals first
    | (exfalso; omega)
    | (go_ret2; exact ⟨rfl, rfl⟩)
theorem byteAt_any (s : ByteArray) (i : Nat) (_hi : i < 2 ^ 40) (w : World) :
    Calls Tryd.prog 43 #[.string s, .int .i64 (i : Int)] w fun e w' => e = .returned (.int .u8 ((bt s i).toNat : Int)) ∧ w' = w := by
  by_cases h : i < s.size
  · go_enter Tryd.func43, Tryd.ntmps43
    go_wp2
    go_ret
    refine ⟨?_, rfl⟩
    rw [bt_in s i h]
    rfl
  · go_enter Tryd.func43, Tryd.ntmps43
    go_wp2
    go_ret
    refine ⟨?_, rfl⟩
    rw [bt_out s i h]
    rfl
theorem bytesOf_any (s : ByteArray) (w : World) :
    Calls Tryd.prog 28 #[.string s] w fun e w' => e = .returned (.func (.func 41) #[] #[.pointer (some ⟨w.heap.size, 0, none⟩)]) ∧ w' = w.alloc (.cells #[.string s] 9) := by
  go_enter Tryd.func28, Tryd.ntmps28
  go_wp2
  go_ret
  exact ⟨rfl, rfl⟩
theorem pairs_any (s : ByteArray) (w : World) :
    Calls Tryd.prog 25 #[.string s] w fun e w' => e = .returned (.func (.func 40) #[] #[.pointer (some ⟨w.heap.size, 0, none⟩)]) ∧ w' = w.alloc (.cells #[.string s] 9) := by
  go_enter Tryd.func25, Tryd.ntmps25
  go_wp2
  go_ret
  exact ⟨rfl, rfl⟩
theorem beside_any (s t : ByteArray) (w : World) :
    Calls Tryd.prog 29 #[.string s, .string t] w fun e w' => e = .returned (.func (.func 42) #[] #[.pointer (some ⟨w.heap.size, 0, none⟩), .pointer (some ⟨w.heap.size + 1, 0, none⟩)]) ∧ w' = (w.alloc (.cells #[.string s] 9)).alloc (.cells #[.string t] 9) := by
  go_enter Tryd.func29, Tryd.ntmps29
  go_wp2
  go_ret
  exact ⟨rfl, rfl⟩
end Go.Proofs.YthojdcmkajmdjaaDoor

namespace Go.Proofs.YthojdcmkajmdjaaDoor
open Go.RowKit
open Hx Seqs
set_option maxRecDepth 100000 in
set_option maxHeartbeats 2000000 in
theorem bytes_in (n : Nat) (s : ByteArray) (hs : s.size ≤ 1099511627776) (l Bs : Nat) (J : Nat → World → Prop) (Jx : World → Prop) (W : World)
    (hS : ∀ t A, J t A → A.cell? ⟨Bs, 0, none⟩ = some (.string s))
    (hY : ∀ t A, t < s.size → J t A → YieldAt Fence.wide (n - 1) Tryd.prog l #[.int .u8 ((bt s t).toNat : Int)] A fun e B =>
      (e = .returned (.bool true) ∧ J (t + 1) B ∧ ∀ b, (none : Option Nat) = some b → B.heap[b]? = A.heap[b]?) ∨ (e = .returned (.bool false) ∧ Jx B))
    (h0 : J 0 W) :
    CallsIn Fence.wide n Tryd.prog 41 #[.func (.yield l) #[] #[], .pointer (some ⟨Bs, 0, none⟩)] W fun e W' => (∃ v, e = .returned v) ∧ (J s.size W' ∨ Jx W') := by
  have HS := Lib.hid hS
  have HY := Lib.hid hY
  have H0 := Lib.hid h0
  have hc0 := hS 0 W h0
  clear hS hY h0
  refine callsIn_of_wp Tryd.func41 rfl trivial ?_ rfl
  simp only [Tryd.ntmps41, List.size_toArray, List.length_cons, List.length_nil, Nat.reduceAdd, Nat.reduceSub, Array.replicate_succ, Array.replicate_zero, List.push_toArray, List.append_toArray, List.nil_append, List.cons_append]
  gi_wp2
  gi_loopw [6] (fun i wr => ∃ t : Nat, t ≤ s.size ∧ i = .int .i64 t ∧ J t wr) (fun i _ => s.size - (intOf i).toNat)
  case atStart => exact ⟨0, by omega, rfl, H0.out⟩
  case round =>
    obtain ⟨t, ht, rfl, hj⟩ := hrel
    have hc := HS.out t wr hj
    clear hc0
    by_cases hlt : t < s.size
    · obtain ⟨fn, tmps, assign, body, hy, hR⟩ := HY.out t wr hlt hj
      have e := bt_in s t hlt
      rw [e] at hy
      have HR := Lib.hid hR
      have HJW := Lib.hid hj
      clear hj hR e
      gi_wp2
      refine ⟨fun h => absurd h (by decide), ?_⟩
      refine HR.out.mono ?_
      rintro e W3 (⟨rfl, hJ3, _⟩ | ⟨rfl, hJx3⟩)
      · have HJ3 := Lib.hid hJ3
        clear hJ3 hy
        gi_wp2
        go_roundw
        case rel => exact ⟨t + 1, by omega, by go_num, HJ3.out⟩
        case measure => simp [intOf]; omega
      · have HJx3 := Lib.hid hJx3
        clear hJx3 hy
        gi_wp2
        refine bodyPost_ret (results_none rfl _ _ _) rfl ?_
        exact ⟨⟨_, rfl⟩, .inr HJx3.out⟩
    · have htN : t = s.size := by omega
      have HJW := Lib.hid hj
      have HT := Lib.hid htN
      clear hj htN
      gi_wp2
      go_end0
      exact ⟨⟨_, rfl⟩, .inl (by rw [← HT.out]; exact HJW.out)⟩
theorem bytes_run (n : Nat) (s : ByteArray) (hs : s.size ≤ 1099511627776) (Bs : Nat) :
    SeqRun Fence.wide n Tryd.prog 41 #[.pointer (some ⟨Bs, 0, none⟩)] (fun t => #[.int .u8 ((bt s t).toNat : Int)]) s.size none (.deferred none) (fun A => A.cell? ⟨Bs, 0, none⟩ = some (.string s)) :=
  fun l J Jx W _ hS hY _ h0 => bytes_in n s hs l Bs J Jx W hS hY h0
/-- the pair of round t, and what is behind it -/
def pr (s : ByteArray) (t : Nat) : ByteArray := s.extract (2 * t) (2 * t + 2)
def rest (s : ByteArray) (t : Nat) : ByteArray := s.extract (2 * t) s.size
theorem rest_size (s : ByteArray) (t : Nat) : (rest s t).size = s.size - 2 * t := by simp [rest, ByteArray.size_extract]
theorem rest_pr (s : ByteArray) (t : Nat) (h : 2 * t + 2 ≤ s.size) : (rest s t).extract 0 2 = pr s t := by
  unfold rest pr
  rw [ByteArray.extract_extract]
  congr 1
  omega
theorem rest_succ (s : ByteArray) (t : Nat) (h : 2 * t + 2 ≤ s.size) : (rest s t).extract 2 (s.size - 2 * t) = rest s (t + 1) := by
  unfold rest
  rw [ByteArray.extract_extract]
  congr 1
  omega
set_option maxRecDepth 100000 in
set_option maxHeartbeats 2000000 in
theorem pairs_in (n : Nat) (s : ByteArray) (hs : s.size ≤ 1099511627776) (l Bx : Nat) (J : Nat → World → Prop) (Jx : World → Prop) (W : World)
    (hJ : ∀ t A B, J t A → A.grownBy B (some Bx) → J t B)
    (hY : ∀ t A, t < s.size / 2 → J t A → YieldAt Fence.wide (n - 1) Tryd.prog l #[.string (pr s t)] A fun e B =>
      (e = .returned (.bool true) ∧ J (t + 1) B ∧ ∀ b, (some Bx : Option Nat) = some b → B.heap[b]? = A.heap[b]?) ∨ (e = .returned (.bool false) ∧ Jx B))
    (hb : W.heap[Bx]? = some (.cells #[.string (rest s 0)] 9 (0, 0))) (h0 : J 0 W) :
    CallsIn Fence.wide n Tryd.prog 40 #[.func (.yield l) #[] #[], .pointer (some ⟨Bx, 0, none⟩)] W fun e W' => (∃ v, e = .returned v) ∧ (J (s.size / 2) W' ∨ Jx W') := by
  have HJ := Lib.hid hJ
  have HY := Lib.hid hY
  have H0 := Lib.hid h0
  have HB := Lib.hid hb
  clear hJ hY h0 hb
  refine callsIn_of_wp Tryd.func40 rfl trivial ?_ rfl
  simp only [Tryd.ntmps40, List.size_toArray, List.length_cons, List.length_nil, Nat.reduceAdd, Nat.reduceSub, Array.replicate_succ, Array.replicate_zero, List.push_toArray, List.append_toArray, List.nil_append, List.cons_append]
  gi_wp2
  gi_loopw [] (fun wr => ∃ t : Nat, t ≤ s.size / 2 ∧ J t wr ∧ wr.heap[Bx]? = some (.cells #[.string (rest s t)] 9 (0, 0))) (fun wr => match wr.cell? ⟨Bx, 0, none⟩ with | some (.string r) => r.size | _ => 0)
  case atStart => exact ⟨0, by omega, H0.out, HB.out⟩
  case round =>
    obtain ⟨t, ht, hj, hb⟩ := hrel
    have hcb : wr.cell? ⟨Bx, 0, none⟩ = some (.string (rest s t)) := cell_of_row wr Bx 0 _ _ _ hb
    have hrs := rest_size s t
    have hp1 := rest_pr s t
    have hp2 := rest_succ s t
    obtain ⟨R, hR⟩ : ∃ R, rest s t = R := ⟨_, rfl⟩
    rw [hR] at hcb hrs hb hp1 hp2
    by_cases hlt : t < s.size / 2
    · have g1 : (2 : Int) ≤ (R.size : Int) := by omega
      have hP := hp1 (by omega)
      have hP2 := hp2 (by omega)
      rw [← hrs] at hP2
      obtain ⟨fn, tmps, assign, body, hy, hRd⟩ := HY.out t wr hlt hj
      have HR := Lib.hid hRd
      have HJW := Lib.hid hj
      have HBW := Lib.hid hb
      have HRS := Lib.hid hrs
      have HP := Lib.hid hP
      have HP2 := Lib.hid hP2
      have HRR := Lib.hid hR
      rw [← hP] at hy
      clear hj hRd hb hp1 hp2 hrs hP hP2 hR
      gi_wp2
      refine ⟨fun h => absurd h (by decide), ?_⟩
      refine HR.out.mono ?_
      rintro e W3 (⟨rfl, hJ3, hk3⟩ | ⟨rfl, hJx3⟩)
      · have HJ3 := Lib.hid hJ3
        have hb3 := (hk3 Bx rfl).trans HBW.out
        have hc3 : W3.cell? ⟨Bx, 0, none⟩ = some (.string R) := cell_of_row W3 Bx 0 _ _ _ hb3
        have hf3 := frozen_of_row W3 Bx 0 _ _ hb3
        have HB3 := Lib.hid hb3
        clear hJ3 hk3 hb3 hy
        gi_wp2
        rw [HP2.out]
        have e := heap_setCell_same W3 Bx 0 _ _ (.string (rest s (t + 1))) HB3.out
        refine ⟨⟨t + 1, by omega, HJ.out (t + 1) W3 _ HJ3.out (gB_setCell (gB_refl W3 Bx) 0 _), e⟩, ?_⟩
        rw [cell_of_row _ Bx 0 _ _ _ e, hcb]
        have h2 := HRS.out
        have h3 := rest_size s (t + 1)
        show (rest s (t + 1)).size < R.size
        omega
      · have HJx3 := Lib.hid hJx3
        clear hJx3 hy
        gi_wp2
        refine bodyPost_ret (results_none rfl _ _ _) rfl ?_
        exact ⟨⟨_, rfl⟩, .inr HJx3.out⟩
    · have htN : t = s.size / 2 := by omega
      have g1 : ¬ (2 : Int) ≤ (R.size : Int) := by omega
      have HJW := Lib.hid hj
      have HT := Lib.hid htN
      clear hj htN hb hp1 hp2 hrs hR
      gi_wp2
      go_end0
      exact ⟨⟨_, rfl⟩, .inl (by rw [← HT.out]; exact HJW.out)⟩
theorem pairs_run (n : Nat) (s : ByteArray) (hs : s.size ≤ 1099511627776) (Bx : Nat) :
    SeqRun Fence.wide n Tryd.prog 40 #[.pointer (some ⟨Bx, 0, none⟩)] (fun t => #[.string (pr s t)]) (s.size / 2) (some Bx) (.cells #[.string (rest s 0)] 9 (0, 0)) (fun _ => True) :=
  fun l J Jx W hJ _ hY hb h0 => pairs_in n s hs l Bx J Jx W hJ hY (hb Bx rfl) h0
set_option maxRecDepth 100000 in
set_option maxHeartbeats 4000000 in
theorem beside_in (n : Nat) (s t : ByteArray) (hs : s.size ≤ 1000000) (ht : t.size ≤ 1000000) (l Bs Bt : Nat) (J : Nat → World → Prop) (Jx : World → Prop) (W : World)
    (hJ : ∀ k A B, J k A → A.grownBy B none → J k B)
    (hS : ∀ k A, J k A → A.cell? ⟨Bs, 0, none⟩ = some (.string s) ∧ A.cell? ⟨Bt, 0, none⟩ = some (.string t))
    (hY : ∀ k A, k < max s.size t.size → J k A → YieldAt Fence.wide (n - 1) Tryd.prog l #[.int .u8 ((bt s k).toNat : Int), .int .u8 ((bt t k).toNat : Int)] A fun e B =>
      (e = .returned (.bool true) ∧ J (k + 1) B ∧ ∀ b, (none : Option Nat) = some b → B.heap[b]? = A.heap[b]?) ∨ (e = .returned (.bool false) ∧ Jx B))
    (h0 : J 0 W) :
    CallsIn Fence.wide n Tryd.prog 42 #[.func (.yield l) #[] #[], .pointer (some ⟨Bs, 0, none⟩), .pointer (some ⟨Bt, 0, none⟩)] W fun e W' => (∃ v, e = .returned v) ∧ (J (max s.size t.size) W' ∨ Jx W') := by
  have HJ := Lib.hid hJ
  have HS := Lib.hid hS
  have HY := Lib.hid hY
  have H0 := Lib.hid h0
  obtain ⟨hc0, hd0⟩ := hS 0 W h0
  have hms : max s.size t.size ≤ 1000000 := by omega
  obtain ⟨M, hM⟩ : ∃ M, max s.size t.size = M := ⟨_, rfl⟩
  have hMi : max (s.size : Int) (t.size : Int) = (M : Int) := by omega
  rw [hM] at HY hms
  clear hS hY h0 hJ
  refine callsIn_of_wp Tryd.func42 rfl trivial ?_ rfl
  simp only [Tryd.ntmps42, List.size_toArray, List.length_cons, List.length_nil, Nat.reduceAdd, Nat.reduceSub, Array.replicate_succ, Array.replicate_zero, List.push_toArray, List.append_toArray, List.nil_append, List.cons_append]
  rw [hM]
  clear hM
  by_cases hst : s.size < t.size
  all_goals
    have hsti : if s.size < t.size then (s.size : Int) < (t.size : Int) ∧ t.size = M else ¬ (s.size : Int) < (t.size : Int) ∧ s.size = M := by
      split <;> omega
    first
      | rw [if_pos hst] at hsti
      | rw [if_neg hst] at hsti
    obtain ⟨hsti, hsm⟩ := hsti
    have HSM := Lib.hid hsm
    clear hsm hMi hst
    gi_wp2
    rw [HSM.out]
    clear HSM hsti hc0 hd0
    gi_loopw [10] (fun i wr => ∃ k : Nat, k ≤ M ∧ i = .int .i64 k ∧ J k wr) (fun i _ => M - (intOf i).toNat)
    case atStart => exact ⟨0, by omega, rfl, H0.out⟩
    case round =>
      obtain ⟨k, hk, rfl, hj⟩ := hrel
      obtain ⟨hc, hd⟩ := HS.out k wr hj
      by_cases hlt : k < M
      · have hlti : (k : Int) < (M : Int) := by omega
        have HJW := Lib.hid hj
        clear hj
        have hYk := HY.out k wr.drew hlt (HJ.out k wr _ HJW.out ⟨rfl, rfl, rfl, Nat.le_refl _, fun _ _ _ => rfl⟩)
        obtain ⟨fn, tmps, assign, body, hy, hR⟩ := hYk
        have HR := Lib.hid hR
        clear hR
        gi_wp2
        gi_region_with (first
          | (refine ⟨trivial, fun h => absurd h (by decide), ?_⟩; refine (callsIn_wide.2 (byteAt_any _ _ (by omega) _)).mono ?_; rintro e w' ⟨rfl, rfl⟩)
          | (refine ⟨fun h => absurd h (by decide), ?_⟩; refine HR.out.mono ?_; intro e W3 h3; obtain ⟨bb, rfl, h3'⟩ : ∃ bb : Bool, e = .returned (.bool bb) ∧ ((bb = true ∧ J (k + 1) W3) ∨ (bb = false ∧ Jx W3)) := (by rcases h3 with ⟨h, h', _⟩ | ⟨h, h'⟩ <;> exact ⟨_, h, by simp [h']⟩); have HH3 := Lib.hid h3'; clear h3 h3'))
        all_goals
          cases bb
          · have hx : Jx W3 := by
              rcases HH3.out with ⟨h, _⟩ | ⟨_, hx⟩
              · cases h
              · exact hx
            have HX := Lib.hid hx
            clear hx HH3
            gi_wp2
            refine bodyPost_ret (results_none rfl _ _ _) rfl ?_
            exact ⟨⟨_, rfl⟩, .inr HX.out⟩
          · have hx : J (k + 1) W3 := by
              rcases HH3.out with ⟨_, hx⟩ | ⟨h, _⟩
              · exact hx
              · cases h
            have HX := Lib.hid hx
            clear hx HH3
            gi_wp2
            go_roundw
            case rel => exact ⟨k + 1, by omega, by go_num, HX.out⟩
            case measure => simp [intOf]; omega
      · have htN : k = M := by omega
        have HJW := Lib.hid hj
        have HT := Lib.hid htN
        clear hj htN
        gi_wp2
        go_end0
        exact ⟨⟨_, rfl⟩, .inl (by rw [← HT.out]; exact HJW.out)⟩
theorem beside_run (n : Nat) (s t : ByteArray) (hs : s.size ≤ 1000000) (ht : t.size ≤ 1000000) (Bs Bt : Nat) :
    SeqRun Fence.wide n Tryd.prog 42 #[.pointer (some ⟨Bs, 0, none⟩), .pointer (some ⟨Bt, 0, none⟩)] (fun k => #[.int .u8 ((bt s k).toNat : Int), .int .u8 ((bt t k).toNat : Int)]) (max s.size t.size) none (.deferred none) (fun A => A.cell? ⟨Bs, 0, none⟩ = some (.string s) ∧ A.cell? ⟨Bt, 0, none⟩ = some (.string t)) :=
  fun l J Jx W hJ hS hY _ h0 => beside_in n s t hs ht l Bs Bt J Jx W hJ hS hY h0
end Go.Proofs.YthojdcmkajmdjaaDoor
