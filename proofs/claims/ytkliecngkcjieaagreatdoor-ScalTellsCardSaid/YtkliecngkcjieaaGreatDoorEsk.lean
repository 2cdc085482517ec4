/- What is met behind a backslash, and at any sign of a quoted text, is told as the document tells it. Conditions: the library's tables lie as they are laid; the map of letters lies; the text is right, and not too long. What is met at a backslash, and at any sign of a text in double quotes, is told as the document tells it. Conditions: the library's tables lie as they are laid; the map of letters lies; the text is right, and not too long. What is met at any sign of a text in double quotes is told as the document tells it; the looker is laid. Conditions: the library's tables lie as they are laid; the map of letters lies; the text is right, and not too long. -/
import Derived.Test.YtkliecngkcjieaaGreatDoorOiz
import Derived.Test.YtkliecngkcjieaaGreatDoorPu16
import Derived.Test.YtkliecngkcjieaaGreatDoorMta
set_option maxRecDepth 100000
namespace Go.Proofs.YtkliecngkcjieaaGreatDoor
open Go.RowKit Go.Shelf
open Pl Quo
theorem numD_lt : ∀ (l : List UInt8) (n : Nat), numD l = some n → n < 16 ^ l.length := by
  intro l
  induction hl : l.length generalizing l with
  | zero =>
    intro n h
    obtain rfl : l = [] := List.eq_nil_of_length_eq_zero hl
    unfold numD at h
    cases h
    decide
  | succ k ih =>
    intro n h
    have hne : l ≠ [] := by intro e; subst e; cases hl
    rw [← List.dropLast_concat_getLast hne, numD_snoc] at h
    cases hd : numD l.dropLast with
    | none => rw [hd] at h; cases h
    | some m =>
      rw [hd] at h
      simp only at h
      split at h
      · cases h
        have := ih l.dropLast (by rw [List.length_dropLast]; omega) m hd
        rw [Nat.pow_succ]
        omega
      · cases h
/-- what strconv.ParseUint answers -/
def puP (o : Option Nat) (e : Ending) : Prop := match o with
  | some n => e = .returned (.tuple #[.int .u64 n, .nilIface])
  | none => ∃ t p, e = .returned (.tuple #[.int .u64 0, .iface t p])
theorem puP_none {e : Ending} (t : TypeId) (p : Value) (h : e = .returned (.tuple #[.int .u64 0, .iface t p])) : puP none e := ⟨t, p, h⟩
theorem puP_some {e : Ending} {n : Nat} (h : e = .returned (.tuple #[.int .u64 n, .nilIface])) : puP (some n) e := h
set_option maxHeartbeats 2000000 in
theorem pu_any (s : ByteArray) (h0 : 0 < s.size) (hs : s.size ≤ 4) (w : World) (E : Env w) :
    Calls Tryz.prog 145 #[.string s, .int .i64 16, .int .i64 32] w fun e w' => puP (numD s.data.toList) e ∧ Below w.heap.size w w' := by
  have hp := pu16 s h0 hs w
  have ht : ∀ w, Env w → ∃ ev, Calls Tryz.prog 140 #[.string ⟨#[80, 97, 114, 115, 101, 85, 105, 110, 116]⟩, .string s, .int .i64 16, .int .i64 32, .iface 177 (.int .i64 2)] w fun e w' => ∃ N, e = .returned (.iface 180 (.pointer (some ⟨N, 0, none⟩))) ∧ w.heap.size ≤ N ∧ w'.heap[N]? = some (.cells #[.string ⟨#[80, 97, 114, 115, 101, 85, 105, 110, 116]⟩, .string s, ev] 188 (0, 0)) ∧ Below w.heap.size w w' := fun w E => by
    obtain ⟨tp, p, hvar⟩ := E.syn
    exact ⟨.iface tp p, Any.strconv_toError_syntax { Tryz.laysC172 with } ⟨#[80, 97, 114, 115, 101, 85, 105, 110, 116]⟩ s 16 32 (.iface tp p) w (by omega) (by have h0 := World.var?_cell Tryz.laysC172.m15 hvar 0; simpa using h0) (Or.inr ⟨tp, p, rfl⟩)⟩
  unfold puR at hp
  cases hn : numD s.data.toList with
  | some n =>
    rw [hn] at hp
    have HP := Lib.hid hp
    clear hp ht hn E
    go_enter Tryz.func145, Tryz.ntmps145
    go_wp2_with fail
    refine HP.out.mono ?_
    rintro e w1 ⟨rfl, hb1⟩
    have HB := Lib.hid hb1
    clear hb1
    go_wp2_with fail
    go_ret2
    exact ⟨puP_some rfl, HB.out⟩
  | none =>
    rw [hn] at hp
    have HP := Lib.hid hp
    have HT := Lib.hid ht
    have HE := Lib.hid E
    clear hp ht hn E
    go_enter Tryz.func145, Tryz.ntmps145
    go_wp2_with fail
    refine HP.out.mono ?_
    rintro e w1 ⟨rfl, hb1⟩
    have HB := Lib.hid hb1
    obtain ⟨ev, hT⟩ := HT.out w1 (HE.out.below hb1)
    have HT1 := Lib.hid hT
    clear hb1 hT
    go_wp2_with fail
    refine HT1.out.mono ?_
    rintro e w2 ⟨N, rfl, _, _, hb2⟩
    have HB2 := Lib.hid (HB.out.trans (hb2.mono HB.out.size))
    clear hb2
    go_wp2_with fail
    go_ret2
    exact ⟨puP_none 180 (.pointer (some ⟨N, 0, none⟩)) rfl, HB2.out⟩
theorem valid_ok (n : Nat) : Go.Lib.validRune (n : Int) = okSign n := by
  unfold Go.Lib.validRune okSign
  apply decide_eq_decide.2
  omega
set_option maxHeartbeats 2000000 in
/-- A SIGN TOLD BY ITS DIGITS -/
theorem numbered_any (s : ByteArray) (h2 : 2 ≤ s.size) (hs : s.size ≤ 1000000) (k : Nat) (hk : k = 2 ∨ k = 4) (w : World) (E : Env w) :
    Calls Tryz.prog 135 #[.string s, .int .i64 k] w fun e w' => e = .returned (numM k (s.data.toList.drop 2)).val ∧ Below w.heap.size w w' := by
  have hlen : (s.data.toList.drop 2).length = s.size - 2 := by rw [List.length_drop, Array.length_toList]; rfl
  unfold numM
  rw [hlen]
  have k0 : (k : Int) = 2 ∨ (k : Int) = 4 := by omega
  have kb1 : (0 : Int) ≤ (k : Int) := by omega
  have kb2 : (k : Int) ≤ 4 := by omega
  by_cases hlt : s.size - 2 < k
  · rw [if_pos hlt]
    have i1 : (s.size : Int) < 2 + (k : Int) := by omega
    clear E hlen k0
    go_enter Tryz.func135, Tryz.ntmps135
    go_wp2_with fail
    go_ret
    exact ⟨rfl, Below.refl _ _⟩
  · rw [if_neg hlt]
    have i1 : ¬ (s.size : Int) < 2 + (k : Int) := by omega
    have i2 : (2 : Int) + (k : Int) ≤ (s.size : Int) := by omega
    have i3 : (2 : Int) ≤ 2 + (k : Int) := by omega
    have hx : (s.extract 2 (2 + k)).data.toList = (s.data.toList.drop 2).take k := by
      rw [ByteArray.data_extract, Array.toList_extract, List.extract_eq_take_drop]
      congr 1
      omega
    have hxs : (s.extract 2 (2 + k)).size = k := by simp; omega
    have hp := fun w E => pu_any (s.extract 2 (2 + k)) (by omega) (by omega) w E
    rw [hx] at hp
    have hnl := numD_lt ((s.data.toList.drop 2).take k)
    have htl : ((s.data.toList.drop 2).take k).length = k := by rw [List.length_take]; omega
    rw [htl] at hnl
    obtain ⟨X, hX⟩ : ∃ X, numD ((s.data.toList.drop 2).take k) = X := ⟨_, rfl⟩
    rw [hX] at hp hnl ⊢
    have HE := Lib.hid E
    clear hx hxs hX htl hlen E hlt
    cases X with
    | none =>
      have HP := Lib.hid hp
      clear hp hnl
      go_enter Tryz.func135, Tryz.ntmps135
      go_wp2_with fail
      refine (HP.out _ HE.out).mono ?_
      rintro e w1 ⟨⟨t, p, rfl⟩, hb1⟩
      have HB := Lib.hid hb1
      clear hb1
      go_wp2_with fail
      go_ret
      exact ⟨rfl, HB.out⟩
    | some n =>
      dsimp only
      have hn : n < 65536 := by
        have h1 := hnl n rfl
        have h2 : 16 ^ k ≤ 65536 := by
          rcases hk with rfl | rfl <;> decide
        omega
      have hvr := fun w => Tryz.utf8_ValidRune (n : Int) w
      rw [valid_ok] at hvr
      have hn1 : (n : Int) < 65536 := by omega
      have hw : IntKind.i32.wrap (n : Int) = (n : Int) := by simp [IntKind.wrap, IntKind.bits, IntKind.signed]; omega
      have ew : (2 : Int) + (k : Int) = ((k + 2 : Nat) : Int) := by omega
      have HP := Lib.hid hp
      clear hp hnl hn hn1
      cases hok : okSign n with
      | true =>
        rw [hok] at hvr
        have HV := Lib.hid hvr
        have EW := Lib.hid ew
        clear hvr hok ew
        simp only [if_true]
        go_enter Tryz.func135, Tryz.ntmps135
        go_wp2_with fail
        refine (HP.out _ HE.out).mono ?_
        rintro e w1 ⟨rfl, hb1⟩
        have HB := Lib.hid hb1
        clear hb1
        go_wp2_with fail
        refine (HV.out _).mono ?_
        rintro e w2 ⟨rfl, rfl⟩
        go_wp2_with fail
        go_ret
        rw [EW.out]
        exact ⟨rfl, HB.out⟩
      | false =>
        rw [hok] at hvr
        have HV := Lib.hid hvr
        clear hvr hok ew
        simp only [Bool.false_eq_true, if_false]
        go_enter Tryz.func135, Tryz.ntmps135
        go_wp2_with fail
        refine (HP.out _ HE.out).mono ?_
        rintro e w1 ⟨rfl, hb1⟩
        have HB := Lib.hid hb1
        clear hb1
        go_wp2_with fail
        refine (HV.out _).mono ?_
        rintro e w2 ⟨rfl, rfl⟩
        go_wp2_with fail
        go_ret
        exact ⟨rfl, HB.out⟩
end Go.Proofs.YtkliecngkcjieaaGreatDoor

set_option maxRecDepth 100000
namespace Go.Proofs.YtkliecngkcjieaaGreatDoor
open Go.RowKit Go.Shelf
open Pl Quo
/-- the sign with which a text begins, or the one that stands for none -/
def Hd (t : List UInt8) (R : Int) : Prop := (t = [] ∧ R = 65533) ∨ ∃ (c : UInt8) (u : List UInt8), t = c :: u ∧ ((c.toNat < 128 ∧ R = c.toNat) ∨ (128 ≤ c.toNat ∧ 128 ≤ R))
theorem esc_split (t : List UInt8) (R : Int) (h : Hd t R) :
    (∃ v, lookI R signsP = some (.int .i32 v) ∧ escM t = .sgn v 2) ∨
    (lookI R signsP = none ∧ standsL [34, 92, 47] t = true ∧ escM t = .sgn R 2) ∨
    (lookI R signsP = none ∧ standsL [34, 92, 47] t = false ∧ R = 120 ∧ ∃ u, t = 120 :: u ∧ escM t = numM 2 u) ∨
    (lookI R signsP = none ∧ standsL [34, 92, 47] t = false ∧ R = 117 ∧ ∃ u, t = 117 :: u ∧ escM t = numM 4 u) ∨
    (lookI R signsP = none ∧ standsL [34, 92, 47] t = false ∧ ¬ R = 120 ∧ ¬ R = 117 ∧ escM t = .fault 41) := by
  rcases h with ⟨rfl, rfl⟩ | ⟨c, u, rfl, h⟩
  · exact .inr (.inr (.inr (.inr ⟨rfl, rfl, by decide, by decide, rfl⟩)))
  · rcases h with ⟨hc, rfl⟩ | ⟨hc, hR⟩
    · by_cases h1 : c = 110
      · subst h1; exact .inl ⟨10, rfl, rfl⟩
      by_cases h2 : c = 116
      · subst h2; exact .inl ⟨9, rfl, rfl⟩
      by_cases h3 : c = 114
      · subst h3; exact .inl ⟨13, rfl, rfl⟩
      by_cases h4 : c = 48
      · subst h4; exact .inl ⟨0, rfl, rfl⟩
      right
      have en : ∀ n : UInt8, c ≠ n → ¬ (c.toNat : Int) = (n.toNat : Int) := fun n hn he => hn (UInt8.toNat_inj.1 (by omega))
      have hl : lookI (c.toNat : Int) signsP = none := by
        have e1 : ¬ (c.toNat : Int) = 110 := en 110 h1
        have e2 : ¬ (c.toNat : Int) = 116 := en 116 h2
        have e3 : ¬ (c.toNat : Int) = 114 := en 114 h3
        have e4 : ¬ (c.toNat : Int) = 48 := en 48 h4
        simp only [lookI, signsP]
        rw [if_neg e1, if_neg e2, if_neg e3, if_neg e4]
      have hst : standsL [34, 92, 47] (c :: u) = has [34, 92, 47] (c.toNat : Int) := rfl
      simp only [escM]
      rw [if_neg h1, if_neg h2, if_neg h3, if_neg h4, hst]
      by_cases h5 : c = 34 ∨ c = 92 ∨ c = 47
      · rw [if_pos h5]
        refine .inl ⟨hl, ?_, rfl⟩
        rcases h5 with rfl | rfl | rfl <;> decide
      rw [if_neg h5]
      have h51 : ¬ (c.toNat : Int) = 34 := en 34 (fun h => h5 (.inl h))
      have h52 : ¬ (c.toNat : Int) = 92 := en 92 (fun h => h5 (.inr (.inl h)))
      have h53 : ¬ (c.toNat : Int) = 47 := en 47 (fun h => h5 (.inr (.inr h)))
      have hn : has [34, 92, 47] (c.toNat : Int) = false := has_no (by
        simp only [List.mem_cons, List.not_mem_nil, or_false]
        rintro (h | h | h)
        · exact h51 h
        · exact h52 h
        · exact h53 h)
      right
      by_cases h6 : c = 120
      · rw [if_pos h6]; subst h6; exact .inl ⟨hl, hn, rfl, u, rfl, rfl⟩
      rw [if_neg h6]
      right
      by_cases h7 : c = 117
      · rw [if_pos h7]; subst h7; exact .inl ⟨hl, hn, rfl, u, rfl, rfl⟩
      rw [if_neg h7]
      exact .inr ⟨hl, hn, en 120 h6, en 117 h7, rfl⟩
    · have en : ∀ n : UInt8, n.toNat < 128 → c ≠ n := fun n hn he => by subst he; omega
      have eR : ∀ n : Int, n < 128 → ¬ R = n := fun n hn => by omega
      refine .inr (.inr (.inr (.inr ⟨?_, ?_, eR 120 (by omega), eR 117 (by omega), ?_⟩)))
      · simp only [lookI, signsP]
        rw [if_neg (eR 110 (by omega)), if_neg (eR 116 (by omega)), if_neg (eR 114 (by omega)), if_neg (eR 48 (by omega))]
      · exact has_not_high (by decide) (by omega)
      · simp only [escM]
        rw [if_neg (en 110 (by decide)), if_neg (en 116 (by decide)), if_neg (en 114 (by decide)), if_neg (en 48 (by decide)), if_neg (show ¬ (c = 34 ∨ c = 92 ∨ c = 47) from fun h => h.elim (en 34 (by decide)) (fun h => h.elim (en 92 (by decide)) (en 47 (by decide)))), if_neg (en 120 (by decide)), if_neg (en 117 (by decide))]
set_option maxHeartbeats 4000000 in
theorem escaped_any (s : ByteArray) (t : List UInt8) (hst : s.data.toList = 92 :: t) (hs : s.size ≤ 1000000) (b : Nat) (w : World) (hb : w.heap[b]? = some (.map (entI signsP 0).toArray 4)) (E : Env w) :
    Calls Tryz.prog 113 #[.string s, .map (some b)] w fun e w' => e = .returned (escM t).val ∧ Below w.heap.size w w' := by
  have hsz : s.size = t.length + 1 := by
    have : s.data.toList.length = s.size := by rw [Array.length_toList]; rfl
    rw [hst, List.length_cons] at this
    omega
  have h1 : (1 : Int) ≤ (s.size : Int) := by omega
  have hxl : (s.extract 1 s.size).data.toList = t := by rw [Go.Lib.ext_list, hst]; rfl
  have hD := Tryz.utf8_DecodeRuneInString (s.extract 1 s.size) w E.tabs
  have hdg : ∃ (R K : Nat), Go.Lib.decodeGo (s.extract 1 s.size) = (R, K) ∧ Hd t R := by
    have hes : (s.extract 1 s.size).size = t.length := by simp; omega
    by_cases h0 : (s.extract 1 s.size).size = 0
    · have e : Go.Lib.decodeGo (s.extract 1 s.size) = (65533, 0) := by unfold Go.Lib.decodeGo; rw [if_pos h0]
      exact ⟨65533, 0, e, .inl ⟨List.eq_nil_of_length_eq_zero (by omega), rfl⟩⟩
    · have e : Go.Lib.decodeGo (s.extract 1 s.size) = Utf8.decode (s.extract 1 s.size) 0 := by unfold Go.Lib.decodeGo; rw [if_neg h0]
      obtain ⟨c, u, hcu, hd⟩ := decode_head (s.extract 1 s.size) (by omega)
      rw [hxl] at hcu
      revert e hd
      generalize Utf8.decode (s.extract 1 s.size) 0 = D
      intro e hd
      obtain ⟨R, K⟩ := D
      refine ⟨R, K, e, .inr ⟨c, u, hcu, ?_⟩⟩
      rcases hd with ⟨h1, h2⟩ | ⟨h1, h2⟩
      · cases h2; exact .inl ⟨h1, rfl⟩
      · exact .inr ⟨h1, by simp only at h2; omega⟩
  obtain ⟨R, K, hR, hHd⟩ := hdg
  rw [hR] at hD
  have hlk := fun w hb => look_signs w b (R : Int) hb
  have hcase := esc_split t (R : Int) hHd
  have hstands : ∀ w, Env w → Calls Tryz.prog 71 #[.string s, .int .i64 1, .slice (some ⟨w.heap.size, 0, none⟩) 3 3] (w.alloc (.cells #[.int .i32 34, .int .i32 92, .int .i32 47] 21)) fun e w' => e = .returned (.bool (standsL [34, 92, 47] t)) ∧ Below w.heap.size w w' := fun w E => by
    have h := stands_any s (by omega) 1 (by omega) w.heap.size [34, 92, 47] 3 (by decide) (by decide) (w.alloc (.cells #[.int .i32 34, .int .i32 92, .int .i32 47] 21)) (E.below ((Below.refl _ w).alloc (Nat.le_refl _) _)) (row32_new [34, 92, 47])
    rw [hst] at h
    refine h.mono ?_
    rintro e w' ⟨he, hb⟩
    exact ⟨he, ((Below.refl _ w).alloc (Nat.le_refl _) _).trans (hb.mono (by rw [World.size_alloc]; omega))⟩
  have hnum : ∀ k, k = 2 ∨ k = 4 → t ≠ [] → ∀ w, Env w → Calls Tryz.prog 135 #[.string s, .int .i64 (k : Nat)] w fun e w' => e = .returned (numM k (s.data.toList.drop 2)).val ∧ Below w.heap.size w w' := fun k hk hne w E => numbered_any s (by
    have := List.length_pos_iff.2 hne
    omega) hs k hk w E
  rw [hst] at hnum
  have HNUM := Lib.hid hnum
  clear hnum
  have HST := Lib.hid hstands
  have HD := Lib.hid hD
  have HE := Lib.hid E
  have HB := Lib.hid hb
  clear hstands hD hHd hR hxl hst E hb hsz
  rcases hcase with ⟨v, hv, hm⟩ | ⟨hv, hs2, hm⟩ | ⟨hv, hs2, hr, u, hu, hm⟩ | ⟨hv, hs2, hr, u, hu, hm⟩ | ⟨hv, hs2, hr1, hr2, hm⟩
  · rw [hm]
    rw [hv] at hlk
    simp only [Option.getD_some, Option.isSome_some] at hlk
    clear hm hv
    go_enter Tryz.func113, Tryz.ntmps113
    go_wp2_with fail
    refine HD.out.mono ?_
    rintro e w1 ⟨rfl, hb1⟩
    have hl1 := hlk w1 ((hb1.block b (Array.getElem?_eq_some_iff.1 HB.out).1).trans HB.out)
    have HB1 := Lib.hid hb1
    clear hb1 hlk
    go_wp2_with fail
    go_ret
    exact ⟨rfl, HB1.out⟩
  · rw [hm]
    clear hm
    rw [hv] at hlk
    simp only [Option.getD_none, Option.isSome_none] at hlk
    rw [hs2] at HST
    clear hv hs2
    go_enter Tryz.func113, Tryz.ntmps113
    go_wp2_with fail
    refine HD.out.mono ?_
    rintro e w1 ⟨rfl, hb1⟩
    have hl1 := hlk w1 ((hb1.block b (Array.getElem?_eq_some_iff.1 HB.out).1).trans HB.out)
    have HB1 := Lib.hid hb1
    have HE1 := Lib.hid (HE.out.below hb1)
    clear hb1 hlk
    go_wp2_with fail
    refine (HST.out _ HE1.out).mono ?_
    rintro e w2 ⟨rfl, hb2⟩
    have HB2 := Lib.hid (HB1.out.trans (hb2.mono HB1.out.size))
    have HE2 := Lib.hid (HE1.out.below hb2)
    clear hb2 hl1
    go_wp2_with fail
    go_ret
    exact ⟨rfl, HB2.out⟩
  · subst hu
    have hn := HNUM.out 2 (by decide) (by simp)
    simp only [List.drop_succ_cons, List.drop_zero] at hn
    rw [hm]
    rw [hr] at hlk HD hv
    have HN := Lib.hid hn
    clear hn HNUM hr hm
    rw [hv] at hlk
    simp only [Option.getD_none, Option.isSome_none] at hlk
    rw [hs2] at HST
    clear hv hs2
    go_enter Tryz.func113, Tryz.ntmps113
    go_wp2_with fail
    refine HD.out.mono ?_
    rintro e w1 ⟨rfl, hb1⟩
    have hl1 := hlk w1 ((hb1.block b (Array.getElem?_eq_some_iff.1 HB.out).1).trans HB.out)
    have HB1 := Lib.hid hb1
    have HE1 := Lib.hid (HE.out.below hb1)
    clear hb1 hlk
    go_wp2_with fail
    refine (HST.out _ HE1.out).mono ?_
    rintro e w2 ⟨rfl, hb2⟩
    have HB2 := Lib.hid (HB1.out.trans (hb2.mono HB1.out.size))
    have HE2 := Lib.hid (HE1.out.below hb2)
    clear hb2 hl1
    go_wp2_with fail
    refine (HN.out _ HE2.out).mono ?_
    rintro e w3 ⟨rfl, hb3⟩
    have HB3 := Lib.hid (HB2.out.trans (hb3.mono HB2.out.size))
    clear hb3
    go_wp2_with fail
    go_ret
    exact ⟨rfl, HB3.out⟩
  · subst hu
    have hn := HNUM.out 4 (by decide) (by simp)
    simp only [List.drop_succ_cons, List.drop_zero] at hn
    rw [hm]
    rw [hr] at hlk HD hv
    have HN := Lib.hid hn
    clear hn HNUM hr hm
    rw [hv] at hlk
    simp only [Option.getD_none, Option.isSome_none] at hlk
    rw [hs2] at HST
    clear hv hs2
    go_enter Tryz.func113, Tryz.ntmps113
    go_wp2_with fail
    refine HD.out.mono ?_
    rintro e w1 ⟨rfl, hb1⟩
    have hl1 := hlk w1 ((hb1.block b (Array.getElem?_eq_some_iff.1 HB.out).1).trans HB.out)
    have HB1 := Lib.hid hb1
    have HE1 := Lib.hid (HE.out.below hb1)
    clear hb1 hlk
    go_wp2_with fail
    refine (HST.out _ HE1.out).mono ?_
    rintro e w2 ⟨rfl, hb2⟩
    have HB2 := Lib.hid (HB1.out.trans (hb2.mono HB1.out.size))
    have HE2 := Lib.hid (HE1.out.below hb2)
    clear hb2 hl1
    go_wp2_with fail
    refine (HN.out _ HE2.out).mono ?_
    rintro e w3 ⟨rfl, hb3⟩
    have HB3 := Lib.hid (HB2.out.trans (hb3.mono HB2.out.size))
    clear hb3
    go_wp2_with fail
    go_ret
    exact ⟨rfl, HB3.out⟩
  · rw [hm]
    clear hm
    rw [hv] at hlk
    simp only [Option.getD_none, Option.isSome_none] at hlk
    rw [hs2] at HST
    clear hv hs2
    go_enter Tryz.func113, Tryz.ntmps113
    go_wp2_with fail
    refine HD.out.mono ?_
    rintro e w1 ⟨rfl, hb1⟩
    have hl1 := hlk w1 ((hb1.block b (Array.getElem?_eq_some_iff.1 HB.out).1).trans HB.out)
    have HB1 := Lib.hid hb1
    have HE1 := Lib.hid (HE.out.below hb1)
    clear hb1 hlk
    go_wp2_with fail
    refine (HST.out _ HE1.out).mono ?_
    rintro e w2 ⟨rfl, hb2⟩
    have HB2 := Lib.hid (HB1.out.trans (hb2.mono HB1.out.size))
    have HE2 := Lib.hid (HE1.out.below hb2)
    clear hb2 hl1
    go_wp2_with fail
    go_ret
    exact ⟨rfl, HB2.out⟩
end Go.Proofs.YtkliecngkcjieaaGreatDoor

set_option maxRecDepth 100000
namespace Go.Proofs.YtkliecngkcjieaaGreatDoor
open Go.RowKit Go.Shelf
open Pl Quo
theorem itself_val (r : Nat) (hs : 0 ≤ Go.Lib.runeLen (r : Int)) : itself (r : Int) = (itsM (r : Int)).val := by
  unfold itself itsM
  by_cases h : 32 ≤ (r : Int) ∧ (r : Int) ≠ 127
  · rw [if_pos h, if_pos h]
    unfold Quo.Met.val sgnV
    simp only
    rw [Int.toNat_of_nonneg hs]
  · rw [if_neg h, if_neg h]; rfl
set_option maxHeartbeats 4000000 in
theorem look_any (s : ByteArray) (hs : s.size ≤ 1000000) (hne : s.data.toList ≠ []) (hv : Go.Lib.validD s.data.toList = true) (Bm M : Nat) (w : World) (hb : w.heap[Bm]? = some (.cells #[.map (some M)] 143 (0, 0))) (hM : w.heap[M]? = some (.map (entI signsP 0).toArray 4)) (E : Env w) :
    Calls Tryz.prog 112 #[.string s, .int .i32 ((Go.Lib.decodeL s.data.toList).1 : Int), .pointer (some ⟨Bm, 0, none⟩)] w fun e w' => e = .returned (lookM s.data.toList).val ∧ Below w.heap.size w w' := by
  have hlow := decode_low s.data.toList hne hv
  have hit := itself_val (Go.Lib.decodeL s.data.toList).1 (by rw [runeLen_ok _ (valid_head _ hne hv).1]; omega)
  have hesc := fun t h => escaped_any s t h hs M w hM E
  have hc := cell_of_row _ Bm 0 _ _ _ hb
  unfold lookM
  obtain ⟨R, hR⟩ : ∃ R, (Go.Lib.decodeL s.data.toList).1 = R := ⟨_, rfl⟩
  rw [hR] at hlow hit ⊢
  by_cases h34 : R = 34
  · rw [if_pos h34]
    subst h34
    clear hlow hit hesc hR E hM hb
    go_enter Tryz.func112, Tryz.ntmps112
    go_wp2_with fail
    go_ret
    exact ⟨rfl, Below.refl _ _⟩
  rw [if_neg h34]
  have i1 : ¬ (R : Int) = 34 := by omega
  have i1' : ((R : Int) == 34) = false := by simp [i1]
  by_cases h92 : R = 92
  · rw [if_pos h92]
    obtain ⟨b, t, hbt, hbn⟩ := hlow 92 (by omega) h92
    obtain rfl : b = 92 := UInt8.toNat_inj.1 hbn
    have HC := Lib.hid (hesc t hbt)
    rw [hbt]
    simp only [List.drop_succ_cons, List.drop_zero]
    subst h92
    clear hlow hit hesc hR E hM hb hbt hbn h34 i1
    go_enter Tryz.func112, Tryz.ntmps112
    go_wp2_with fail
    refine HC.out.mono ?_
    rintro e w1 ⟨rfl, hb1⟩
    have HB := Lib.hid hb1
    clear hb1
    go_wp2_with fail
    go_ret
    exact ⟨rfl, HB.out⟩
  · rw [if_neg h92, ← hit]
    have i2 : ¬ (R : Int) = 92 := by omega
    have i2' : ((R : Int) == 92) = false := by simp [i2]
    have HC := Lib.hid (fun w => asItIs_any (R : Int) w)
    clear hlow hit hesc hR E hM hb h34 h92
    go_enter Tryz.func112, Tryz.ntmps112
    go_wp2_with fail
    refine (HC.out _).mono ?_
    rintro e w1 ⟨rfl, hb1⟩
    have HB := Lib.hid hb1
    clear hb1
    go_wp2_with fail
    go_ret
    exact ⟨rfl, HB.out⟩
theorem lookBy_any (w : World) : Calls Tryz.prog 74 #[] w fun e w' => e = .returned (lookV (w.heap.size + 1)) ∧ w' = (w.alloc (.map (entI signsP 0).toArray 4)).alloc (.cells #[.map (some w.heap.size)] 143) := by
  unfold lookV
  go_enter Tryz.func74, Tryz.ntmps74
  go_wp2_with (go_at_call 111; refine (letS_any _).mono ?_; rintro e w' ⟨rfl, rfl⟩)
  go_ret
  exact ⟨rfl, rfl⟩
end Go.Proofs.YtkliecngkcjieaaGreatDoor
