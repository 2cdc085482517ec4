/- A number's digits tell it; with a nought ahead, a plus, or a point behind, they tell none. Conditions: none; nothing of the program is run here. -/
import Derived.Test.YtkliecngkcjieaaGreatDoorRed
import Derived.Test.YtkliecngkcjieaaGreatDoorBlk
import Derived.Lib.AtoiTie
set_option maxRecDepth 100000
namespace Go.Proofs.YtkliecngkcjieaaGreatDoor
open Go.Lib
open Pl
/-! digits -/
def isDig (b : UInt8) : Prop := 48 ≤ b.toNat ∧ b.toNat ≤ 57
theorem dig_of (u : Nat) (h : u < 10) : (UInt8.ofNat (48 + u)).toNat = 48 + u := by simp; omega
theorem decDigits_big {u : Nat} (h : ¬ u < 10) : decDigits u = decDigits (u / 10) ++ [UInt8.ofNat (48 + u % 10)] := by rw [decDigits, dif_neg h]
theorem decDigits_dig : ∀ (n u : Nat), u ≤ n → ∀ b ∈ decDigits u, isDig b
  | n, u, hn, b, hb => by
    by_cases h : u < 10
    · rw [decDigits_one h, List.mem_singleton] at hb
      subst hb
      unfold isDig
      rw [dig_of u h]
      omega
    · rw [decDigits_big h, List.mem_append, List.mem_singleton] at hb
      rcases hb with hb | rfl
      · cases n with
        | zero => omega
        | succ n => exact decDigits_dig n (u / 10) (by omega) b hb
      · unfold isDig
        rw [dig_of _ (by omega)]
        omega
theorem decDigits_ne (u : Nat) : decDigits u ≠ [] := by
  intro h
  have := congrArg List.length h
  rw [decDigits_length, List.length_nil] at this
  have := nDigits_pos u
  omega
theorem decDigits_head : ∀ (n u : Nat), u ≤ n → ∀ t, decDigits u = 48 :: t → t = []
  | n, u, hn, t, h => by
    by_cases h10 : u < 10
    · rw [decDigits_one h10] at h
      injection h with _ ht
      exact ht.symm
    · rw [decDigits_big h10] at h
      cases n with
      | zero => omega
      | succ n =>
        cases hd : decDigits (u / 10) with
        | nil => exact absurd hd (decDigits_ne _)
        | cons b r =>
          rw [hd, List.cons_append] at h
          injection h with hb ht
          subst hb
          have hr := decDigits_head n (u / 10) (by omega) r hd
          subst hr
          exfalso
          by_cases h1 : u / 10 < 10
          · rw [decDigits_one h1] at hd
            injection hd with hd _
            have := congrArg UInt8.toNat hd
            rw [dig_of _ h1] at this
            simp at this
            omega
          · have := congrArg List.length hd
            rw [decDigits_big h1, List.length_append, decDigits_length] at this
            have := nDigits_pos (u / 10 / 10)
            simp at *
            omega
theorem decFrom_snoc : ∀ (l : List UInt8) (acc m : Nat) (b : UInt8) (d : Nat), decFrom acc l = some m → digitVal b = some d → decFrom acc (l ++ [b]) = some (m * 10 + d)
  | [], acc, m, b, d, h, hd => by
    simp only [decFrom, Option.some.injEq] at h
    subst h
    simp [decFrom, hd]
  | a :: t, acc, m, b, d, h, hd => by
    simp only [decFrom, List.cons_append] at h ⊢
    cases ha : digitVal a with
    | none => rw [ha] at h; cases h
    | some e => rw [ha] at h; exact decFrom_snoc t _ m b d h hd
theorem digitVal_of (u : Nat) (h : u < 10) : digitVal (UInt8.ofNat (48 + u)) = some u := by
  unfold digitVal
  rw [dig_of u h, if_pos (by omega)]
  congr 1
  omega
theorem decFrom_digits : ∀ (n u : Nat), u ≤ n → decFrom 0 (decDigits u) = some u
  | n, u, hn => by
    by_cases h10 : u < 10
    · rw [decDigits_one h10]
      show (match digitVal (UInt8.ofNat (48 + u)) with | some d => decFrom (0 * 10 + d) [] | none => none) = some u
      rw [digitVal_of u h10]
      simp [decFrom]
    · cases n with
      | zero => omega
      | succ n =>
        rw [decDigits_big h10, decFrom_snoc _ 0 _ _ _ (decFrom_digits n (u / 10) (by omega)) (digitVal_of _ (by omega))]
        congr 1
        omega
theorem decNat_digits (u : Nat) : decNat (decDigits u) = some u := by
  unfold decNat
  rw [if_neg (by simpa using decDigits_ne u)]
  exact decFrom_digits u u (Nat.le_refl _)
theorem head_dig (u : Nat) : ∃ b t, decDigits u = b :: t ∧ isDig b := by
  cases h : decDigits u with
  | nil => exact absurd h (decDigits_ne u)
  | cons b t => exact ⟨b, t, rfl, decDigits_dig u u (Nat.le_refl _) b (by rw [h]; simp)⟩
theorem dig_ne {b : UInt8} (h : isDig b) (c : UInt8) (hc : c.toNat < 48 ∨ 57 < c.toNat) : b ≠ c := by
  rintro rfl
  unfold isDig at h
  omega
theorem atoi_itoa (n : Int) : atoi (itoa n) = some n := by
  unfold itoa
  by_cases h : n < 0
  · rw [if_pos h]
    simp only [atoi, beq_self_eq_true, if_true, decNat_digits, Option.map_some, Option.some.injEq]
    omega
  · rw [if_neg h]
    obtain ⟨b, t, e, hb⟩ := head_dig n.toNat
    have h1 : (b == 45) = false := by simpa using dig_ne hb 45 (by decide)
    have h2 : (b == 43) = false := by simpa using dig_ne hb 43 (by decide)
    have h3 := decNat_digits n.toNat
    rw [e] at h3 ⊢
    simp only [atoi, h1, h2, h3, Bool.false_eq_true, if_false, Option.map_some, Option.some.injEq]
    omega
theorem nDigits_17 (u : Nat) (h : u ≤ 99999999999999999) : nDigits u ≤ 17 := by
  rcases Nat.lt_or_ge 17 (nDigits u) with h17 | h17
  · exfalso
    have key : ∀ (k u : Nat), k + 1 ≤ nDigits u → 10 ^ k ≤ u ∨ k = 0 := by
      intro k
      induction k with
      | zero => intro u _; exact .inr rfl
      | succ k ih =>
        intro u hu
        left
        by_cases h10 : u < 10
        · rw [nDigits_small h10] at hu; omega
        · rw [nDigits_big h10] at hu
          rcases ih (u / 10) (by omega) with h | rfl
          · rw [Nat.pow_succ]; omega
          · simp; omega
    rcases key 17 u h17 with h1 | h1
    · have e : (10 : Nat) ^ 17 = 100000000000000000 := by decide
      omega
    · cases h1
  · exact h17
theorem itoa_len (n : Int) (h : -99999999999999999 ≤ n) (h2 : n ≤ 99999999999999999) : (itoa n).length ≤ 18 := by
  unfold itoa
  split
  · rw [List.length_cons, decDigits_length]
    have := nDigits_17 n.natAbs (by omega)
    omega
  · rw [decDigits_length]
    have := nDigits_17 n.toNat (by omega)
    omega
theorem atoiAll_itoa (n : Int) (h : -99999999999999999 ≤ n) (h2 : n ≤ 99999999999999999) : atoiAll (itoa n) = .ok n := by
  rw [atoiAll_short _ (itoa_len n h h2), atoi_itoa]
  rfl
theorem numB_itoa (n : Int) (h : -99999999999999999 ≤ n) (h2 : n ≤ 99999999999999999) : numB (itoa n) = if -999999999999999 ≤ n ∧ n ≤ 999999999999999 then some n else none := by
  unfold numB
  rw [atoiAll_itoa n h h2]
  simp only [if_true]
theorem itoa_mem (v : Int) (b : UInt8) (h : b ∈ itoa v) : b = 45 ∨ isDig b := by
  unfold itoa at h
  split at h
  · rcases List.mem_cons.1 h with rfl | h
    · exact .inl rfl
    · exact .inr (decDigits_dig _ _ (Nat.le_refl _) b h)
  · exact .inr (decDigits_dig _ _ (Nat.le_refl _) b h)
theorem numB_itoa_of {l : List UInt8} {v : Int} (h : numB l = some v) : itoa v = l := by
  unfold numB at h
  split at h
  · split at h
    · rename_i v' _ he
      split at h
      · cases h; exact he
      · cases h
    · cases h
  · cases h
theorem numB_mem {l : List UInt8} (b : UInt8) (hb : b ∈ l) (h1 : b ≠ 45) (h2 : ¬ isDig b) : numB l = none := by
  cases h : numB l with
  | none => rfl
  | some v =>
    have e := numB_itoa_of h
    rw [← e] at hb
    rcases itoa_mem v b hb with h | h
    · exact absurd h h1
    · exact absurd h h2
theorem numB_nought (s : List UInt8) (hs : s = [] ∨ s = [45]) (u : Nat) : numB (s ++ 48 :: decDigits u) = none := by
  cases h : numB (s ++ 48 :: decDigits u) with
  | none => rfl
  | some v =>
    exfalso
    have e := numB_itoa_of h
    unfold itoa at e
    rcases hs with rfl | rfl
    · rw [List.nil_append] at e
      split at e
      · injection e with e _; cases e
      · exact absurd (decDigits_head _ _ (Nat.le_refl _) _ e) (decDigits_ne u)
    · rw [List.singleton_append] at e
      split at e
      · injection e with _ e
        exact absurd (decDigits_head _ _ (Nat.le_refl _) _ e) (decDigits_ne u)
      · obtain ⟨b, t, e2, hb⟩ := head_dig v.toNat
        rw [e2] at e
        injection e with e _
        exact dig_ne hb 45 (by decide) e
/-! texts that look like numbers -/
theorem ascii_runes : ∀ (l : List UInt8), (∀ b ∈ l, b.toNat < 128) → runesOf l = bytesOf l ∧ validD l = true
  | [], _ => ⟨rfl, rfl⟩
  | b :: t, h => by
    obtain ⟨h1, h2⟩ := ascii_runes t (fun c hc => h c (List.mem_cons_of_mem _ hc))
    have hb := h b (by simp)
    exact ⟨by rw [runesOf_cons b t hb, h1]; rfl, by rw [validD_cons b t hb]; exact h2⟩
/-- a byte of a number that is no sign ahead -/
def isN (b : UInt8) : Prop := isDig b ∨ b = 43 ∨ b = 46
theorem isN_nat {b : UInt8} (h : isN b) : (48 ≤ b.toNat ∧ b.toNat ≤ 57) ∨ b.toNat = 43 ∨ b.toNat = 46 := by
  rcases h with h | rfl | rfl
  · exact .inl h
  · exact .inr (.inl rfl)
  · exact .inr (.inr rfl)
theorem has_false {l : List Int} {x : Int} (h : ∀ y ∈ l, y ≠ x) : has l x = false := decide_eq_false fun hm => h x hm rfl
theorem ok_num (a b : Int) (s : UInt8) (hs : isN s) : okB false a (s.toNat : Int) b = true := by
  have h := isN_nat hs
  have h0 : rPlain a (s.toNat : Int) b = true := by unfold rPlain; exact decide_eq_true (by omega)
  have h1 : rMark a (s.toNat : Int) b = true := by
    unfold rMark
    rw [if_neg (by simp; omega), if_neg (by simp; omega), if_neg (by simp; omega), if_neg (by simp; omega)]
  have h2 : has heads (s.toNat : Int) = false := has_false (by simp [heads]; omega)
  have h3 : has [32] (s.toNat : Int) = false := has_false (by simp; omega)
  unfold okB rulesOf
  rw [if_neg (by decide)]
  simp only [allF, rules4, List.all_cons, List.all_nil, Bool.and_true, h0, h1, rFirst, rLast, h2, h3, Bool.true_and]
  repeat' split
  all_goals rfl
theorem ok_minus (d : UInt8) (hd : isN d) : okB false (-1) 45 (d.toNat : Int) = true := by
  have h := isN_nat hd
  have h1 : rMark (-1) 45 (d.toNat : Int) = true := by
    unfold rMark markB
    simp
    omega
  have hb : ¬ (d.toNat : Int) = -1 := by omega
  unfold okB rulesOf
  rw [if_neg (by decide)]
  simp only [allF, rules4, List.all_cons, List.all_nil, Bool.and_true, h1, show rPlain (-1) 45 (d.toNat : Int) = true from rfl, show rFirst heads (-1) 45 (d.toNat : Int) = true from rfl, rLast, Bool.true_and]
  rw [if_pos hb]
theorem all_num : ∀ (l : List UInt8) (a : Int), (∀ b ∈ l, isN b) → allT (okB false) a (bytesOf l) = true
  | [], _, _ => rfl
  | b :: t, a, h => by
    show (okB false a (b.toNat : Int) _ && allT (okB false) (b.toNat : Int) (bytesOf t)) = true
    rw [ok_num a _ b (h b (by simp)), all_num t _ (fun c hc => h c (List.mem_cons_of_mem _ hc)), Bool.and_true]
theorem isN_ascii {b : UInt8} (h : isN b) : b.toNat < 128 := by have := isN_nat h; omega
theorem may_num (l : List UInt8) (hne : l ≠ []) (h : ∀ b ∈ l, isN b) : mayR false l = true := by
  rw [mayR_bytes, if_neg hne, if_pos (ascii_runes l fun b hb => isN_ascii (h b hb)).2]
  exact all_num l _ h
theorem may_minus (d : UInt8) (t : List UInt8) (h : ∀ b ∈ d :: t, isN b) : mayR false (45 :: d :: t) = true := by
  rw [mayR_bytes, if_neg (by simp), if_pos (by rw [validD_cons _ _ (by decide)]; exact (ascii_runes _ fun b hb => isN_ascii (h b hb)).2)]
  show (okB false (-1) 45 (d.toNat : Int) && allT (okB false) 45 (bytesOf (d :: t))) = true
  rw [ok_minus d (h d (by simp)), all_num _ _ h, Bool.and_true]
theorem digB_of {b : UInt8} (h : isDig b) : digB (b.toNat : Int) = true := by
  unfold isDig at h
  exact decide_eq_true (by omega)
theorem looks_rest (b : UInt8) (h : isN b) (a c : Int) (ha : a ≠ -1) : allF rulesN a (b.toNat : Int) c = true := by
  unfold allF rulesN
  simp only [List.all_cons, List.all_nil, Bool.and_true, rDigit, rDigitOr]
  rw [if_pos ha, Bool.true_and]
  rcases h with h | rfl | rfl
  · rw [if_pos (digB_of h)]
  · rfl
  · rfl
theorem looks_tail : ∀ (l : List UInt8) (a : Int), a ≠ -1 → (∀ b ∈ l, isN b) → allT (allF rulesN) a (bytesOf l) = true
  | [], _, _, _ => rfl
  | b :: t, a, ha, h => by
    show (allF rulesN a (b.toNat : Int) _ && allT (allF rulesN) (b.toNat : Int) (bytesOf t)) = true
    rw [looks_rest b (h b (by simp)) a _ ha, looks_tail t _ (by omega) (fun c hc => h c (List.mem_cons_of_mem _ hc)), Bool.and_true]
theorem looks_body (d : UInt8) (t : List UInt8) (hd : isDig d) (h : ∀ b ∈ t, isN b) : allT (allF rulesN) (-1) (runesOf (d :: t)) = true := by
  have hall : ∀ b ∈ d :: t, isN b := fun b hb => by
    rcases List.mem_cons.1 hb with rfl | hb
    · exact .inl hd
    · exact h b hb
  rw [(ascii_runes _ fun b hb => isN_ascii (hall b hb)).1]
  show (allF rulesN (-1) (d.toNat : Int) _ && allT (allF rulesN) (d.toNat : Int) (bytesOf t)) = true
  rw [looks_tail t _ (by omega) h, Bool.and_true]
  unfold allF rulesN
  simp only [List.all_cons, List.all_nil, Bool.and_true, rDigit, rDigitOr, digB_of hd]
  rfl
theorem drop_dig (l : List Int) (d : UInt8) (t : List UInt8) (hd : isDig d) (hl : ∀ y ∈ l, y < 48) : dropIf l (d :: t) = d :: t := by
  unfold isDig at hd
  rw [dropIf_cons, has_false fun y hy => by have := hl y hy; omega, if_neg (by decide)]
theorem looks_dig (d : UInt8) (t : List UInt8) (hd : isDig d) (h : ∀ b ∈ t, isN b) : looksR (d :: t) = true := by
  unfold looksR behindS
  rw [drop_dig [43, 45] d t hd (by decide), drop_dig [46] d t hd (by decide), if_neg (by simp)]
  exact looks_body d t hd h
theorem looks_sign (c d : UInt8) (t : List UInt8) (hc : c = 43 ∨ c = 45) (hd : isDig d) (h : ∀ b ∈ t, isN b) : looksR (c :: d :: t) = true := by
  have e : behindS (c :: d :: t) = d :: t := by
    have h1 : has [43, 45] (c.toNat : Int) = true := by rcases hc with rfl | rfl <;> rfl
    unfold behindS
    rw [dropIf_cons, if_pos h1, drop_dig [46] d t hd (by decide)]
  unfold looksR
  rw [e, if_neg (by simp)]
  exact looks_body d t hd h
theorem lookW_dig (d : UInt8) (t : List UInt8) (hd : isDig d) : lookW (d :: t) wordsW = none := by
  have h := fun c hc => dig_ne hd c hc
  have h1 := h 110 (by decide)
  have h2 := h 126 (by decide)
  have h3 := h 116 (by decide)
  have h4 := h 102 (by decide)
  have h5 := h 46 (by decide)
  have h6 := h 43 (by decide)
  have h7 := h 45 (by decide)
  simp [lookW, wordsW, h1, h2, h3, h4, h5, h6, h7]
theorem lookW_sign (c d : UInt8) (t : List UInt8) (hc : c = 43 ∨ c = 45) (hd : isDig d) : lookW (c :: d :: t) wordsW = none := by
  have h5 := dig_ne hd 46 (by decide)
  rcases hc with rfl | rfl <;> simp [lookW, wordsW, h5]
theorem valOf_num {l : List UInt8} (h1 : lookW l wordsW = none) (h2 : looksR l = true) : valOf l = match numB l with | some n => .int n | none => .none := by
  unfold valOf
  rw [h1]
  simp only [h2, if_true]
  cases numB l <;> rfl
/-- what a text is resolved to that looks like a number -/
theorem res_num (P : ByteArray) {l : List UInt8} (hP : P.data.toList = l) (hm : mayR false l = true) (h1 : lookW l wordsW = none) (h2 : looksR l = true) :
    resolveR P = match numB l with | some n => ⟨2, n, ⟨#[]⟩, 0⟩ | none => ⟨0, 0, ⟨#[]⟩, 50⟩ := by
  unfold resolveR
  rw [hP, if_neg (fun h => by have := h.2; rw [hm] at this; cases this), valOf_num h1 h2]
  cases numB l <;> rfl
theorem digits_N (u : Nat) : ∀ b ∈ decDigits u, isN b := fun b hb => .inl (decDigits_dig u u (Nat.le_refl _) b hb)
/-- digits, or what begins with one -/
theorem res_plain (P : ByteArray) (u : Nat) (r : List UInt8) (hr : ∀ b ∈ r, isN b) (hP : P.data.toList = decDigits u ++ r) :
    resolveR P = match numB (decDigits u ++ r) with | some n => ⟨2, n, ⟨#[]⟩, 0⟩ | none => ⟨0, 0, ⟨#[]⟩, 50⟩ := by
  obtain ⟨b, t, e, hb⟩ := head_dig u
  have hall : ∀ c ∈ decDigits u ++ r, isN c := fun c hc => by
    rcases List.mem_append.1 hc with h | h
    · exact digits_N u c h
    · exact hr c h
  have hl : decDigits u ++ r = b :: (t ++ r) := by rw [e]; rfl
  have ht : ∀ c ∈ t ++ r, isN c := fun c hc => hall c (by rw [hl]; exact List.mem_cons_of_mem _ hc)
  refine res_num P hP (may_num _ (by rw [hl]; simp) hall) ?_ ?_
  · rw [hl]; exact lookW_dig b _ hb
  · rw [hl]; exact looks_dig b _ hb ht
/-- a minus ahead of it -/
theorem res_minus (P : ByteArray) (u : Nat) (r : List UInt8) (hr : ∀ b ∈ r, isN b) (hP : P.data.toList = 45 :: (decDigits u ++ r)) :
    resolveR P = match numB (45 :: (decDigits u ++ r)) with | some n => ⟨2, n, ⟨#[]⟩, 0⟩ | none => ⟨0, 0, ⟨#[]⟩, 50⟩ := by
  obtain ⟨b, t, e, hb⟩ := head_dig u
  have hall : ∀ c ∈ decDigits u ++ r, isN c := fun c hc => by
    rcases List.mem_append.1 hc with h | h
    · exact digits_N u c h
    · exact hr c h
  have hl : decDigits u ++ r = b :: (t ++ r) := by rw [e]; rfl
  have ht : ∀ c ∈ t ++ r, isN c := fun c hc => hall c (by rw [hl]; exact List.mem_cons_of_mem _ hc)
  refine res_num P hP ?_ ?_ ?_
  · rw [hl]; exact may_minus b _ (by rw [← hl]; exact hall)
  · rw [hl]; exact lookW_sign 45 b _ (.inr rfl) hb
  · rw [hl]; exact looks_sign 45 b _ (.inr rfl) hb ht
/-- a plus ahead of it -/
theorem res_plus (P : ByteArray) (u : Nat) (hP : P.data.toList = 43 :: decDigits u) : resolveR P = ⟨0, 0, ⟨#[]⟩, 50⟩ := by
  obtain ⟨b, t, e, hb⟩ := head_dig u
  have h1 : mayR false (43 :: decDigits u) = true := may_num _ (by simp) (fun c hc => by
    rcases List.mem_cons.1 hc with rfl | h
    · exact .inr (.inl rfl)
    · exact digits_N u c h)
  have ht : ∀ c ∈ t, isN c := fun c hc => digits_N u c (by rw [e]; exact List.mem_cons_of_mem _ hc)
  rw [res_num P hP h1 (by rw [e]; exact lookW_sign 43 b _ (.inl rfl) hb) (by rw [e]; exact looks_sign 43 b _ (.inl rfl) hb ht)]
  rw [numB_mem 43 (by simp) (by decide) (by unfold isDig; decide)]
theorem ends_N : ∀ b ∈ ([46, 48] : List UInt8), isN b := by
  intro b hb
  simp only [List.mem_cons, List.not_mem_nil, or_false] at hb
  rcases hb with rfl | rfl
  · exact .inr (.inr rfl)
  · exact .inl (by unfold isDig; decide)
/-- with a point behind it -/
theorem res_point (P : ByteArray) (u : Nat) (hP : P.data.toList = decDigits u ++ [46, 48]) : resolveR P = ⟨0, 0, ⟨#[]⟩, 50⟩ := by
  rw [res_plain P u [46, 48] ends_N hP, numB_mem 46 (by simp) (by decide) (by unfold isDig; decide)]
theorem res_mpoint (P : ByteArray) (u : Nat) (hP : P.data.toList = 45 :: (decDigits u ++ [46, 48])) : resolveR P = ⟨0, 0, ⟨#[]⟩, 50⟩ := by
  rw [res_minus P u [46, 48] ends_N hP, numB_mem 46 (by simp) (by decide) (by unfold isDig; decide)]
/-- with a nought ahead -/
theorem res_nought (P : ByteArray) (u : Nat) (hP : P.data.toList = 48 :: decDigits u) : resolveR P = ⟨0, 0, ⟨#[]⟩, 50⟩ := by
  have e : decDigits 0 = [48] := Go.Lib.decDigits_one (by decide)
  have hP' : P.data.toList = decDigits 0 ++ decDigits u := by rw [e]; exact hP
  rw [res_plain P 0 (decDigits u) (digits_N u) hP', e]
  rw [show numB ([48] ++ decDigits u) = none from numB_nought [] (.inl rfl) u]
theorem res_mnought (P : ByteArray) (u : Nat) (hP : P.data.toList = 45 :: 48 :: decDigits u) : resolveR P = ⟨0, 0, ⟨#[]⟩, 50⟩ := by
  have e : decDigits 0 = [48] := Go.Lib.decDigits_one (by decide)
  have hP' : P.data.toList = 45 :: (decDigits 0 ++ decDigits u) := by rw [e]; exact hP
  rw [res_minus P 0 (decDigits u) (digits_N u) hP', e]
  rw [show numB (45 :: ([48] ++ decDigits u)) = none from numB_nought [45] (.inr rfl) u]
/-- the number itself -/
theorem res_own (P : ByteArray) (u : Nat) (hu : u ≤ 99999999999999999) (hP : P.data.toList = decDigits u) :
    resolveR P = if u ≤ 999999999999999 then ⟨2, u, ⟨#[]⟩, 0⟩ else ⟨0, 0, ⟨#[]⟩, 50⟩ := by
  have e : Go.Lib.itoa (u : Int) = decDigits u := by unfold Go.Lib.itoa; rw [if_neg (by omega)]; simp
  rw [res_plain P u [] (fun _ h => by cases h) (by rw [List.append_nil]; exact hP), List.append_nil, ← e, numB_itoa u (by omega) (by omega)]
  by_cases h : u ≤ 999999999999999
  · rw [if_pos h, if_pos (by omega)]
  · rw [if_neg h, if_neg (by omega)]
theorem res_mown (P : ByteArray) (u : Nat) (h1 : 1 ≤ u) (hu : u ≤ 99999999999999999) (hP : P.data.toList = 45 :: decDigits u) :
    resolveR P = if u ≤ 999999999999999 then ⟨2, -(u : Int), ⟨#[]⟩, 0⟩ else ⟨0, 0, ⟨#[]⟩, 50⟩ := by
  have e : Go.Lib.itoa (-(u : Int)) = 45 :: decDigits u := by
    unfold Go.Lib.itoa
    rw [if_pos (by omega)]
    congr 2
    omega
  rw [res_minus P u [] (fun _ h => by cases h) (by rw [List.append_nil]; exact hP), List.append_nil, ← e, numB_itoa _ (by omega) (by omega)]
  by_cases h : u ≤ 999999999999999
  · rw [if_pos h, if_pos (by omega)]
  · rw [if_neg h, if_neg (by omega)]
end Go.Proofs.YtkliecngkcjieaaGreatDoor
