/- What the shelf's ParseUint at base 16 asks of a digit. Conditions: none. -/
import Derived.Test.YtkliecngkcjieaaGreatDoorSgs
import Derived.Test.YtkliecngkcjieaaGreatDoorQuo
import Derived.Lib.ConvBytes
import Derived.Lib.AtoiErrMem
import Derived.Laws.BitsAllLaws
set_option maxRecDepth 100000
namespace Go.Proofs.YtkliecngkcjieaaGreatDoor
open Go.RowKit Go.Shelf
open Quo
theorem lower_any (b : Nat) (hb : b < 256) (w : World) : Calls Tryz.prog 160 #[.int .u8 b] w fun e w' => e = .returned (.int .u8 ((b ||| 32 : Nat) : Int)) ∧ w' = w := by
  have h := u8_or_nat b 32 hb (by decide)
  have h' : bits .or .u8 (b : Int) 32 = ((b ||| 32 : Nat) : Int) := h
  clear h
  go_enter Tryz.func160, Tryz.ntmps160
  go_wp2_with fail
  go_ret
  exact ⟨rfl, rfl⟩
theorem dig_all : ∀ n : Nat, n < 256 → ((48 ≤ n ∧ n ≤ 57 → dig (UInt8.ofNat n) = n - 48) ∧ (¬ (48 ≤ n ∧ n ≤ 57) → (97 ≤ n ||| 32 ∧ n ||| 32 ≤ 102 → dig (UInt8.ofNat n) = (n ||| 32) - 87) ∧ (¬ (97 ≤ n ||| 32 ∧ n ||| 32 ≤ 102) → dig (UInt8.ofNat n) = 16)) ∧ n ||| 32 < 256) := by
  decide +kernel
/-- a digit's place: what ParseUint's ways ask -/
inductive Dg (n D : Nat) : Prop
  | num (h1 : 48 ≤ n) (h2 : n ≤ 57) (h3 : D = n - 48)
  | let_ (h1 : ¬ (48 ≤ n ∧ n ≤ 57)) (h2 : 97 ≤ n ||| 32) (h3 : n ||| 32 ≤ 102) (h4 : D = (n ||| 32) - 87)
  | far (h1 : ¬ (48 ≤ n ∧ n ≤ 57)) (h2 : 102 < n ||| 32) (h3 : n ||| 32 ≤ 122) (h4 : D = 16)
  | none_ (h1 : ¬ (48 ≤ n ∧ n ≤ 57)) (h2 : ¬ (97 ≤ n ||| 32 ∧ n ||| 32 ≤ 122)) (h4 : D = 16)
theorem dg_of (b : UInt8) : Dg b.toNat (dig b) := by
  obtain ⟨h1, h2, h3⟩ := dig_all b.toNat b.toNat_lt
  rw [UInt8.ofNat_toNat] at h1 h2
  by_cases ha : 48 ≤ b.toNat ∧ b.toNat ≤ 57
  · exact .num ha.1 ha.2 (h1 ha)
  · obtain ⟨h4, h5⟩ := h2 ha
    by_cases hb : 97 ≤ b.toNat ||| 32 ∧ b.toNat ||| 32 ≤ 102
    · exact .let_ ha hb.1 hb.2 (h4 hb)
    · by_cases hc : 97 ≤ b.toNat ||| 32 ∧ b.toNat ||| 32 ≤ 122
      · exact .far ha (by omega) hc.2 (h5 hb)
      · exact .none_ ha hc (h5 hb)
theorem numD_snoc (l : List UInt8) (b : UInt8) : numD (l ++ [b]) = match numD l with | none => none | some n => if dig b < 16 then some (16 * n + dig b) else none := by
  unfold numD
  rw [List.foldl_append]
  rfl
theorem fold_none (l : List UInt8) : l.foldl (fun o b => match o with | none => none | some n => if dig b < 16 then some (16 * n + dig b) else none) (none : Option Nat) = none := by
  induction l with
  | nil => rfl
  | cons _ _ ih => exact ih
theorem numD_none (l m : List UInt8) (h : numD l = none) : numD (l ++ m) = none := by
  unfold numD at h ⊢
  rw [List.foldl_append, h]
  exact fold_none m
theorem or_big : ∀ n : Nat, n < 256 → (97 ≤ n ||| 32 → 58 ≤ n) ∧ (n < 48 → n ||| 32 < 97) := by decide +kernel
theorem bytesW_below (w : World) (s : ByteArray) : Below w.heap.size w (Lib.bytesWorld w 5 s) := Go.Lib.bytesWorld_below w 5 s
/-- what internal/strconv.ParseUint answers -/
def puR (o : Option Nat) (e : Ending) : Prop := match o with
  | some n => e = .returned (.tuple #[.int .u64 n, .nilIface])
  | none => e = .returned (.tuple #[.int .u64 0, .iface 177 (.int .i64 2)])
theorem puR_none {o : Option Nat} {e : Ending} (h : o = none) (he : e = .returned (.tuple #[.int .u64 0, .iface 177 (.int .i64 2)])) : puR o e := by rw [h]; exact he
theorem puR_some {o : Option Nat} {e : Ending} {n : Nat} (h : o = some n) (he : e = .returned (.tuple #[.int .u64 n, .nilIface])) : puR o e := by rw [h]; exact he
set_option maxHeartbeats 8000000 in
theorem pu16 (s : ByteArray) (h0 : 0 < s.size) (hs : s.size ≤ 4) (w : World) :
    Calls Tryz.prog 156 #[.string s, .int .i64 16, .int .i64 32] w fun e w' => puR (numD s.data.toList) e ∧ Below w.heap.size w w' := by
  have hsz : s.data.toList.length = s.size := by rw [Array.length_toList]; rfl
  have hne : s.toList.isEmpty = false := by
    rw [ByteArray.toList_eq]
    cases hl : s.data.toList with
    | nil => rw [hl] at hsz; simp at hsz; omega
    | cons => rfl
  have hcv := Lib.run_convert_string_bytes (P := Tryz.prog) w 9 92 5 s Tryz.underlying9 Tryz.underlying92 Tryz.underlying5
  have hcell := Lib.bytesWorld_cell w 5 s
  have hbl := bytesW_below w s
  obtain ⟨W, hW⟩ : ∃ W, Lib.bytesWorld w 5 s = W := ⟨_, rfl⟩
  obtain ⟨cp, hcp⟩ : ∃ c, grownCap w s.size 0 5 = c := ⟨_, rfl⟩
  rw [hW, hcp] at hcv
  rw [hW] at hcell hbl
  obtain ⟨L, hL⟩ : ∃ L, s.data.toList = L := ⟨_, rfl⟩
  rw [hL] at hsz hcell ⊢
  obtain ⟨n, hn⟩ : ∃ n, s.size = n := ⟨_, rfl⟩
  rw [hn] at hsz hcell hcv h0 hs
  have HC := Lib.hid hcell
  have HB := Lib.hid hbl
  have HZ := Lib.hid hsz
  clear hcell hbl hW hcp hL hn hsz
  go_enter Tryz.func156, Tryz.ntmps156
  go_wp2_with fail
  have hlt0 : w.heap.size < W.heap.size := block_lt_of_cell (HC.out 0 h0)
  generalize hcut : (1152921504606846976 : Int) = cut
  have HCUT := Lib.hid hcut
  clear hcut
  go_loopw [12, 13, 101] (fun u v i wr => ∃ k N : Nat, k ≤ n ∧ u = .bool false ∧ i = .int .i64 k ∧ v = .int .u64 N ∧ numD (L.take k) = some N ∧ N < 16 ^ k ∧ Below W.heap.size W wr) (fun _ _ i _ => n - (intOf i).toNat)
  case atStart => exact ⟨0, 0, by omega, rfl, rfl, rfl, by simp [numD], by decide, Below.refl _ _⟩
  case round =>
    obtain ⟨k, N, hk, rfl, rfl, rfl, hnum, hN, hb⟩ := hrel
    have HBW := Lib.hid hb
    have HNU := Lib.hid hnum
    clear hb hnum
    by_cases hlt : k < n
    · have i1 : (k : Int) < (n : Int) := by omega
      have x0 := (HBW.out.cell (p := ⟨w.heap.size, k, none⟩) hlt0).trans (HC.out k hlt)
      have htk : L.take (k + 1) = L.take k ++ [L.getD k 0] := by
        rw [List.take_add_one, List.getD_eq_getElem?_getD, List.getElem?_eq_getElem (by rw [HZ.out]; exact hlt)]
        rfl
      obtain ⟨b, hb⟩ : ∃ b, L.getD k 0 = b := ⟨_, rfl⟩
      rw [hb] at x0 htk
      have hns := numD_snoc (L.take k) b
      rw [HNU.out] at hns
      simp only at hns
      have hdg := dg_of b
      have hlo := fun w => lower_any b.toNat b.toNat_lt w
      obtain ⟨D, hD⟩ : ∃ D, dig b = D := ⟨_, rfl⟩
      rw [hD] at hns hdg
      have hbl := b.toNat_lt
      obtain ⟨B, hB⟩ : ∃ B, b.toNat = B := ⟨_, rfl⟩
      rw [hB] at x0 hdg hlo hbl
      have hp : 16 ^ k ≤ 4096 := by
        have : 16 ^ k ≤ 16 ^ 3 := Nat.pow_le_pow_right (by decide) (by omega)
        simpa using this
      have hN2 : N < 4096 := Nat.lt_of_lt_of_le hN hp
      have HTK := Lib.hid htk
      have HNS := Lib.hid hns
      have HLO := Lib.hid hlo
      have HPN := Lib.hid hN
      clear htk hns hlo hD hB hb hN
      have c1 : ¬ cut ≤ (N : Int) := by have := HCUT.out; omega
      have hu : (B : Int) = 95 ∨ ¬ (B : Int) = 95 := by omega
      cases hdg with
      | num h1 h2 h3 =>
        subst h3
        have e1 : (48 : Int) ≤ (B : Int) := by omega
        have e2 : (B : Int) ≤ 57 := by omega
        clear hu
        go_wp2_with fail
        refine ⟨⟨k + 1, 16 * N + (B - 48), by omega, rfl, by go_num, by congr 1; omega, ?_, ?_, HBW.out⟩, by simp [intOf]; omega⟩
        · rw [HTK.out, HNS.out, if_pos (by omega)]
        · have h := HPN.out
          rw [Nat.pow_succ]
          omega
      | let_ h1 h2 h3 h4 =>
        have hb58 := (or_big B hbl).1
        obtain ⟨q, hq⟩ : ∃ q, B ||| 32 = q := ⟨_, rfl⟩
        have hu' : ¬ (B : Int) = 95 := fun h => by
          have h5 : B = 95 := by omega
          rw [h5] at hq h2 h3
          have : (95 ||| 32 : Nat) = 127 := by decide
          omega
        rw [hq] at h2 h3 h4 hb58 HLO
        clear hq hu
        have s1 : (48 : Int) ≤ (B : Int) := by have := hb58 (by omega); omega
        have s2 : ¬ (B : Int) ≤ 57 := by have := hb58 (by omega); omega
        obtain ⟨r, rfl⟩ : ∃ r : Nat, q = r + 97 := ⟨q - 97, by omega⟩
        have hlo : ∀ w, Calls Tryz.prog 160 #[.int .u8 B] w fun e w' => e = .returned (.int .u8 ((r : Int) + 97)) ∧ w' = w := fun w => (HLO.out w).mono fun _ _ hh => ⟨hh.1, hh.2⟩
        have HLP := Lib.hid hlo
        clear HLO hlo
        have e1 : (97 : Int) ≤ (r : Int) + 97 := by omega
        have e2 : (r : Int) + 97 ≤ 122 := by omega
        have w1 : IntKind.u8.wrap ((r : Int) + 97 - 97) = (r : Int) := by simp [IntKind.wrap, IntKind.bits, IntKind.signed]; omega
        have w2 : IntKind.u8.wrap ((r : Int) + 10) = (r : Int) + 10 := by simp [IntKind.wrap, IntKind.bits, IntKind.signed]; omega
        have hDr : (r : Int) + 10 = (D : Int) := by omega
        have hD15 : D < 16 := by omega
        clear h1 h2 h3 h4 hb58 hp
        go_wp2_with fail
        refine (HLP.out _).mono ?_
        rintro e wq ⟨rfl, rfl⟩
        go_wp2_with fail
        refine (HLP.out _).mono ?_
        rintro e wq ⟨rfl, rfl⟩
        go_wp2_with fail
        refine (HLP.out _).mono ?_
        rintro e wq ⟨rfl, rfl⟩
        go_upto_region 46 with (fail)
        try rw [hDr]
        have e3 : ¬ (16 : Int) ≤ (D : Int) := by omega
        obtain ⟨q, hq⟩ : ∃ q : Int, (r : Int) + 97 = q := ⟨_, rfl⟩
        try rw [hq]
        clear hq hDr w1 w2 e1 e2 s1 s2
        go_wp2_with fail
        refine ⟨⟨k + 1, 16 * N + D, by omega, rfl, by go_num, by congr 1; omega, ?_, ?_, HBW.out⟩, by simp [intOf]; omega⟩
        · rw [HTK.out, HNS.out, if_pos hD15]
        · have h := HPN.out
          rw [Nat.pow_succ]
          omega
      | far h1 h2 h3 h4 =>
        clear c1
        have hb58 := (or_big B hbl).1
        obtain ⟨q, hq⟩ : ∃ q, B ||| 32 = q := ⟨_, rfl⟩
        have hu' : ¬ (B : Int) = 95 := fun h => by
          have h5 : B = 95 := by omega
          rw [h5] at hq h2 h3
          have : (95 ||| 32 : Nat) = 127 := by decide
          omega
        rw [hq] at h2 h3  hb58 HLO
        clear hq hu
        have s1 : (48 : Int) ≤ (B : Int) := by have := hb58 (by omega); omega
        have s2 : ¬ (B : Int) ≤ 57 := by have := hb58 (by omega); omega
        obtain ⟨r, rfl⟩ : ∃ r : Nat, q = r + 97 := ⟨q - 97, by omega⟩
        have hlo : ∀ w, Calls Tryz.prog 160 #[.int .u8 B] w fun e w' => e = .returned (.int .u8 ((r : Int) + 97)) ∧ w' = w := fun w => (HLO.out w).mono fun _ _ hh => ⟨hh.1, hh.2⟩
        have HLP := Lib.hid hlo
        clear HLO hlo
        have e1 : (97 : Int) ≤ (r : Int) + 97 := by omega
        have e2 : (r : Int) + 97 ≤ 122 := by omega
        have w1 : IntKind.u8.wrap ((r : Int) + 97 - 97) = (r : Int) := by simp [IntKind.wrap, IntKind.bits, IntKind.signed]; omega
        have w2 : IntKind.u8.wrap ((r : Int) + 10) = (r : Int) + 10 := by simp [IntKind.wrap, IntKind.bits, IntKind.signed]; omega
        obtain ⟨M, hM⟩ : ∃ M : Int, (r : Int) + 10 = M := ⟨_, rfl⟩
        have e3 : (16 : Int) ≤ M := by omega
        clear h1 h2 h3 hb58 hp
        go_wp2_with fail
        refine (HLP.out _).mono ?_
        rintro e wq ⟨rfl, rfl⟩
        go_wp2_with fail
        refine (HLP.out _).mono ?_
        rintro e wq ⟨rfl, rfl⟩
        go_wp2_with fail
        refine (HLP.out _).mono ?_
        rintro e wq ⟨rfl, rfl⟩
        go_upto_region 46 with (fail)
        try rw [hM]
        obtain ⟨q, hq⟩ : ∃ q : Int, (r : Int) + 97 = q := ⟨_, rfl⟩
        try rw [hq]
        clear hq hM w1 w2 e1 e2 s1 s2
        go_wp2_with fail
        have hnone : numD L = none := by
          have h := numD_none (L.take (k + 1)) (L.drop (k + 1)) (by rw [HTK.out, HNS.out, if_neg (by omega)])
          rwa [List.take_append_drop] at h
        go_ret2
        exact ⟨puR_none hnone rfl, HB.out.trans (HBW.out.mono HB.out.size)⟩
      | none_ h1 h2 h4 =>
        clear c1
        obtain ⟨hb58, hb48⟩ := or_big B hbl
        rcases hu with hu | hu
        · have h5 : B = 95 := by omega
          subst h5
          have hlo : ∀ w, Calls Tryz.prog 160 #[.int .u8 95] w fun e w' => e = .returned (.int .u8 127) ∧ w' = w := fun w => (HLO.out w).mono fun _ _ hh => ⟨hh.1, hh.2⟩
          have HLP := Lib.hid hlo
          clear HLO hlo hb58 hb48 h1 h2 hp hbl
          go_wp2_with fail
          refine (HLP.out _).mono ?_
          rintro e wq ⟨rfl, rfl⟩
          go_wp2_with fail
          refine (HLP.out _).mono ?_
          rintro e wq ⟨rfl, rfl⟩
          go_wp2_with fail
          have hnone : numD L = none := by
            have h := numD_none (L.take (k + 1)) (L.drop (k + 1)) (by rw [HTK.out, HNS.out, if_neg (by omega)])
            rwa [List.take_append_drop] at h
          go_ret2
          exact ⟨puR_none hnone rfl, HB.out.trans (HBW.out.mono HB.out.size)⟩
        · obtain ⟨q, hq⟩ : ∃ q, B ||| 32 = q := ⟨_, rfl⟩
          rw [hq] at h2 hb58 hb48 HLO
          clear hq
          have hside : (¬ (48 : Int) ≤ (B : Int) ∧ ¬ (97 : Int) ≤ (q : Int)) ∨ ((48 : Int) ≤ (B : Int) ∧ ¬ (B : Int) ≤ 57 ∧ ¬ (97 : Int) ≤ (q : Int)) ∨ ((48 : Int) ≤ (B : Int) ∧ ¬ (B : Int) ≤ 57 ∧ (97 : Int) ≤ (q : Int) ∧ ¬ (q : Int) ≤ 122) := by omega
          clear h1 h2 hb58 hb48 hp
          rcases hside with ⟨s1, s2⟩ | ⟨s1, s2, s3⟩ | ⟨s1, s2, s3, s4⟩
          · go_wp2_with fail
            refine (HLO.out _).mono ?_
            rintro e wq ⟨rfl, rfl⟩
            go_wp2_with fail
            have hnone : numD L = none := by
              have h := numD_none (L.take (k + 1)) (L.drop (k + 1)) (by rw [HTK.out, HNS.out, if_neg (by omega)])
              rwa [List.take_append_drop] at h
            go_ret2
            exact ⟨puR_none hnone rfl, HB.out.trans (HBW.out.mono HB.out.size)⟩
          · go_wp2_with fail
            refine (HLO.out _).mono ?_
            rintro e wq ⟨rfl, rfl⟩
            go_wp2_with fail
            have hnone : numD L = none := by
              have h := numD_none (L.take (k + 1)) (L.drop (k + 1)) (by rw [HTK.out, HNS.out, if_neg (by omega)])
              rwa [List.take_append_drop] at h
            go_ret2
            exact ⟨puR_none hnone rfl, HB.out.trans (HBW.out.mono HB.out.size)⟩
          · go_wp2_with fail
            refine (HLO.out _).mono ?_
            rintro e wq ⟨rfl, rfl⟩
            go_wp2_with fail
            refine (HLO.out _).mono ?_
            rintro e wq ⟨rfl, rfl⟩
            go_wp2_with fail
            have hnone : numD L = none := by
              have h := numD_none (L.take (k + 1)) (L.drop (k + 1)) (by rw [HTK.out, HNS.out, if_neg (by omega)])
              rwa [List.take_append_drop] at h
            go_ret2
            exact ⟨puR_none hnone rfl, HB.out.trans (HBW.out.mono HB.out.size)⟩
    · have i1 : ¬ (k : Int) < (n : Int) := by omega
      have hfull : L.take k = L := List.take_of_length_le (by rw [HZ.out]; omega)
      rw [hfull] at HNU
      have hH := HNU.out
      clear HNU hfull
      go_wp2_with fail
      go_ret2
      first | exact ⟨puR_some rfl rfl, HB.out.trans (HBW.out.mono HB.out.size)⟩ | exact ⟨puR_some hH rfl, HB.out.trans (HBW.out.mono HB.out.size)⟩
end Go.Proofs.YtkliecngkcjieaaGreatDoor
