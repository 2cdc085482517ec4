/- What a reader of quoted texts meets, sign by sign, and what is read so, byte by byte. Conditions: none; nothing of the program is run here. What is met, as a value: how many bytes stand for it; the reader's iterator and its looker are laid. Conditions: none. What holds of a turn of the reader's iterator. Conditions: none. -/
import Derived.Test.YtkliecngkcjieaaGreatDoorQuo
import Derived.Test.YtkliecngkcjieaaGreatDoorSgs
import Derived.Lib.ValidAsc
import Derived.Test.YtkliecngkcjieaaGreatDoorOwx
import Derived.Sort.CutIn
set_option maxRecDepth 100000
namespace Go.Proofs.YtkliecngkcjieaaGreatDoor
open Go.Lib
namespace Quo
open Pl
theorem runeLen_ok (l : List UInt8) (hv : ¬ ((decodeL l).1 = 65533 ∧ (decodeL l).2 = 1)) : runeLen ((decodeL l).1 : Int) = ((decodeL l).2 : Int) := by
  rw [decodeL_N] at hv ⊢
  have k0 := (l.getD 0 0).toNat_lt
  have k1 := (l.getD 1 0).toNat_lt
  have k2 := (l.getD 2 0).toNat_lt
  have k3 := (l.getD 3 0).toNat_lt
  unfold runeLen
  rcases decodeN_shape l.length (l.getD 0 0).toNat (l.getD 1 0).toNat (l.getD 2 0).toNat (l.getD 3 0).toNat with ⟨c, e⟩ | ⟨c1, c2, c3, cv, e⟩ | ⟨c1, c2, c3, c4, cv, cs, e⟩ | ⟨c1, c2, c3, c4, c5, cv, cw, e⟩ | e
  all_goals (rw [e] at hv ⊢; dsimp only at hv ⊢)
  all_goals (try (exact absurd ⟨rfl, rfl⟩ hv))
  all_goals (repeat' split)
  all_goals omega
/-- what is met -/
inductive Met where
  | sgn (r : Int) (k : Nat)
  | last
  | fault (e : Int)
def Met.size : Met → Nat
  | .sgn _ k => k
  | .last => 1
  | .fault _ => 0
/-- a sign told by its digits -/
def numM (k : Nat) (t : List UInt8) : Met :=
  if t.length < k then .fault 41 else match numD (t.take k) with
  | none => .fault 41
  | some n => if okSign n = true then .sgn n (k + 2) else .fault 41
/-- what is met at a backslash, behind which t stands -/
def escM : List UInt8 → Met
  | [] => .fault 41
  | c :: t =>
    if c = 110 then .sgn 10 2 else if c = 116 then .sgn 9 2 else if c = 114 then .sgn 13 2 else if c = 48 then .sgn 0 2
    else if c = 34 ∨ c = 92 ∨ c = 47 then .sgn c.toNat 2 else if c = 120 then numM 2 t else if c = 117 then numM 4 t else .fault 41
def itsM (r : Int) : Met := if 32 ≤ r ∧ r ≠ 127 then .sgn r (runeLen r).toNat else .fault 42
/-- what is met where L begins -/
def lookM (L : List UInt8) : Met :=
  if (decodeL L).1 = 34 then .last else if (decodeL L).1 = 92 then escM (L.drop 1) else itsM (decodeL L).1
/-- all that is met from a place on, each with the place behind it -/
def metsF : Nat → List UInt8 → Nat → List (Nat × Met)
  | 0, _, _ => []
  | f + 1, L, b => if L.length ≤ b then [(L.length, .fault 42)] else match lookM (L.drop b) with
    | .sgn r k => (b + k, .sgn r k) :: metsF f L (b + k)
    | .last => [(b + 1, .last)]
    | .fault e => [(b, .fault e)]
def mets (L : List UInt8) : List (Nat × Met) := metsF (L.length + 1) L 0
/-- what is read of all that is met -/
def foldM : List (Nat × Met) → Rd
  | [] => .err 42
  | (_, .sgn r _) :: ms => (foldM ms).put (encodeRune r) 0
  | (b, .last) :: _ => .ok [] b
  | (_, .fault e) :: _ => .err e
theorem enc_low (n : Nat) (h : n < 128) : encodeRune (n : Int) = [n.toUInt8] := by
  unfold encodeRune
  rw [encodeRuneZ_one (by omega) (by omega)]
  simp
/-- what stands for a sign that is quoted: bytes below 128 -/
theorem numD_digs : ∀ (l : List UInt8) (n : Nat), numD l = some n → ∀ x ∈ l, x.toNat < 128 := by
  intro l
  have key : ∀ (l : List UInt8) (o : Option Nat) (n : Nat), l.foldl (fun o b => match o with | none => none | some n => if dig b < 16 then some (16 * n + dig b) else none) o = some n → ∀ x ∈ l, x.toNat < 128 := by
    intro l
    induction l with
    | nil => intro _ _ _ x hx; cases hx
    | cons b t ih =>
      intro o n h x hx
      rw [List.foldl_cons] at h
      rcases List.mem_cons.1 hx with rfl | hx
      · by_cases hd : dig x < 16
        · unfold dig at hd
          repeat' split at hd
          all_goals omega
        · exfalso
          have hn : ∀ (l : List UInt8), l.foldl (fun o b => match o with | none => none | some n => if dig b < 16 then some (16 * n + dig b) else none) (none : Option Nat) = none := by
            intro l; induction l with
            | nil => rfl
            | cons _ _ ih => exact ih
          cases o with
          | none => rw [hn] at h; cases h
          | some m => simp only [if_neg hd] at h; rw [hn] at h; cases h
      · exact ih _ n h x hx
  exact fun n h => key l (some 0) n h
theorem numM_cases (k : Nat) (t : List UInt8) : numM k t = .fault 41 ∧ digitsB k t = none ∨ ∃ n : Nat, numM k t = .sgn n (k + 2) ∧ digitsB k t = some (encodeRune n, k + 1) ∧ k ≤ t.length ∧ ∀ x ∈ t.take k, x.toNat < 128 := by
  unfold numM digitsB
  by_cases h : t.length < k
  · rw [if_pos h, if_pos h]; exact .inl ⟨rfl, rfl⟩
  · rw [if_neg h, if_neg h]
    cases hn : numD (t.take k) with
    | none => exact .inl ⟨rfl, rfl⟩
    | some n =>
      simp only
      by_cases ho : okSign n = true
      · rw [if_pos ho, if_pos ho]; exact .inr ⟨n, rfl, rfl, by omega, numD_digs _ n hn⟩
      · rw [if_neg ho, if_neg ho]; exact .inl ⟨rfl, rfl⟩
theorem escM_cases (t : List UInt8) : escM t = .fault 41 ∧ escB t = none ∨ ∃ (r : Int) (k : Nat), escM t = .sgn r (k + 1) ∧ escB t = some (encodeRune r, k) ∧ 1 ≤ k ∧ k ≤ t.length ∧ ∀ x ∈ t.take k, x.toNat < 128 := by
  cases t with
  | nil => exact .inl ⟨rfl, rfl⟩
  | cons c t =>
    simp only [escM, escB]
    have two : ∀ (r : Int) (p : List UInt8), c.toNat < 128 → encodeRune r = p → (Met.sgn r 2 = .fault 41 ∧ some (p, 1) = none ∨ ∃ (r' : Int) (k : Nat), Met.sgn r 2 = .sgn r' (k + 1) ∧ some (p, 1) = some (encodeRune r', k) ∧ 1 ≤ k ∧ k ≤ (c :: t).length ∧ ∀ x ∈ (c :: t).take k, x.toNat < 128) := by
      intro r p hc he
      refine .inr ⟨r, 1, rfl, by rw [he], by omega, by simp, ?_⟩
      intro x hx
      simp at hx; subst hx; exact hc
    have num : ∀ k : Nat, 1 ≤ k → c.toNat < 128 → (numM k t = .fault 41 ∧ digitsB k t = none ∨ ∃ (r' : Int) (k' : Nat), numM k t = .sgn r' (k' + 1) ∧ digitsB k t = some (encodeRune r', k') ∧ 1 ≤ k' ∧ k' ≤ (c :: t).length ∧ ∀ x ∈ (c :: t).take k', x.toNat < 128) := by
      intro k hk hc
      rcases numM_cases k t with h | ⟨n, h1, h2, h3, h4⟩
      · exact .inl h
      · refine .inr ⟨n, k + 1, h1, h2, by omega, by simp; omega, ?_⟩
        intro x hx
        rw [List.take_succ_cons] at hx
        rcases List.mem_cons.1 hx with rfl | hx
        · exact hc
        · exact h4 x hx
    by_cases h1 : c = 110
    · rw [if_pos h1, if_pos h1]; subst h1; exact two _ _ (by decide) (by decide +kernel)
    rw [if_neg h1, if_neg h1]
    by_cases h2 : c = 116
    · rw [if_pos h2, if_pos h2]; subst h2; exact two _ _ (by decide) (by decide +kernel)
    rw [if_neg h2, if_neg h2]
    by_cases h3 : c = 114
    · rw [if_pos h3, if_pos h3]; subst h3; exact two _ _ (by decide) (by decide +kernel)
    rw [if_neg h3, if_neg h3]
    by_cases h4 : c = 48
    · rw [if_pos h4, if_pos h4]; subst h4; exact two _ _ (by decide) (by decide +kernel)
    rw [if_neg h4, if_neg h4]
    by_cases h5 : c = 34 ∨ c = 92 ∨ c = 47
    · rw [if_pos h5, if_pos h5]
      have hc : c.toNat < 128 := by rcases h5 with rfl | rfl | rfl <;> decide
      refine two _ _ hc ?_
      rw [enc_low _ hc]; simp
    rw [if_neg h5, if_neg h5]
    by_cases h6 : c = 120
    · rw [if_pos h6, if_pos h6]; exact num 2 (by decide) (by subst h6; decide)
    rw [if_neg h6, if_neg h6]
    by_cases h7 : c = 117
    · rw [if_pos h7, if_pos h7]; exact num 4 (by decide) (by subst h7; decide)
    rw [if_neg h7, if_neg h7]
    exact .inl ⟨rfl, rfl⟩
theorem decode_low (L : List UInt8) (hne : L ≠ []) (hv : validD L = true) (n : Nat) (hn : n < 128) (h : (decodeL L).1 = n) : ∃ b t, L = b :: t ∧ b.toNat = n := by
  cases L with
  | nil => exact absurd rfl hne
  | cons b t =>
    refine ⟨b, t, rfl, ?_⟩
    by_cases hb : b.toNat < 128
    · rw [decodeL_ascii b t hb] at h; exact h
    · obtain ⟨h1, _⟩ := high_bytes (b :: t) (by simp) (by show 128 ≤ b.toNat; omega) (valid_head _ (by simp) hv).1
      omega
/-- WHAT IS MET, AND WHAT IS READ -/
theorem look_cases (L : List UInt8) (hne : L ≠ []) (hv : validD L = true) :
    (lookM L = .last ∧ ∃ t, L = 34 :: t) ∨
    (∃ t, L = 92 :: t ∧ lookM L = .fault 41 ∧ escB t = none) ∨
    (∃ (t : List UInt8) (r : Int) (k : Nat), L = 92 :: t ∧ lookM L = .sgn r (k + 1) ∧ escB t = some (encodeRune r, k) ∧ 1 ≤ k ∧ k ≤ t.length ∧ ∀ x ∈ t.take k, x.toNat < 128) ∨
    (lookM L = .fault 42 ∧ ∃ (b : UInt8) (t : List UInt8), L = b :: t ∧ b ≠ 34 ∧ b ≠ 92 ∧ plainB b = false) ∨
    (lookM L = .sgn (decodeL L).1 (decodeL L).2 ∧ encodeRune (decodeL L).1 = L.take (decodeL L).2 ∧ 1 ≤ (decodeL L).2 ∧ (decodeL L).2 ≤ L.length ∧ ∀ b ∈ L.take (decodeL L).2, b ≠ 34 ∧ b ≠ 92 ∧ plainB b = true) := by
  obtain ⟨hv1, _⟩ := valid_head L hne hv
  unfold lookM
  by_cases h1 : (decodeL L).1 = 34
  · rw [if_pos h1]
    obtain ⟨b, t, rfl, hb⟩ := decode_low L hne hv 34 (by omega) h1
    obtain rfl : b = 34 := UInt8.toNat_inj.1 hb
    exact .inl ⟨rfl, t, rfl⟩
  rw [if_neg h1]
  by_cases h2 : (decodeL L).1 = 92
  · rw [if_pos h2]
    obtain ⟨b, t, rfl, hb⟩ := decode_low L hne hv 92 (by omega) h2
    obtain rfl : b = 92 := UInt8.toNat_inj.1 hb
    rcases escM_cases t with ⟨e1, e2⟩ | ⟨r, k, e1, e2, e3, e4, e5⟩
    · exact .inr (.inl ⟨t, rfl, e1, e2⟩)
    · exact .inr (.inr (.inl ⟨t, r, k, rfl, e1, e2, e3, e4, e5⟩))
  rw [if_neg h2]
  unfold itsM
  have hle := decodeL_le L hne
  by_cases h3 : 32 ≤ ((decodeL L).1 : Int) ∧ ((decodeL L).1 : Int) ≠ 127
  · rw [if_pos h3, runeLen_ok L hv1]
    refine .inr (.inr (.inr (.inr ⟨by simp, encode_decode L hne hv1, ?_, hle, ?_⟩)))
    · by_cases h0 : (L.getD 0 0).toNat < 128
      · cases L with
        | nil => exact absurd rfl hne
        | cons b t => rw [decodeL_ascii b t h0]; exact Nat.le_refl _
      · have := (high_bytes L hne (by omega) hv1).2.1; omega
    · intro x hx
      by_cases h0 : (L.getD 0 0).toNat < 128
      · cases L with
        | nil => exact absurd rfl hne
        | cons b t =>
          have hb : b.toNat < 128 := h0
          rw [decodeL_ascii b t hb] at h1 h2 h3 hx
          simp at hx
          subst hx
          refine ⟨fun e => h1 (by rw [e]; rfl), fun e => h2 (by rw [e]; rfl), ?_⟩
          unfold plainB
          rw [decide_eq_true_iff]
          simp only at h3
          omega
      · have := (high_bytes L hne (by omega) hv1).2.2.2 x hx
        refine ⟨fun e => by subst e; revert this; decide, fun e => by subst e; revert this; decide, ?_⟩
        unfold plainB
        rw [decide_eq_true_iff]
        omega
  · rw [if_neg h3]
    refine .inr (.inr (.inr (.inl ⟨rfl, ?_⟩)))
    by_cases h0 : (L.getD 0 0).toNat < 128
    · cases L with
      | nil => exact absurd rfl hne
      | cons b t =>
        have hb : b.toNat < 128 := h0
        rw [decodeL_ascii b t hb] at h1 h2 h3
        refine ⟨b, t, rfl, fun e => h1 (by rw [e]; rfl), fun e => h2 (by rw [e]; rfl), ?_⟩
        unfold plainB
        rw [decide_eq_false_iff_not]
        simp only at h3
        omega
    · have := (high_bytes L hne (by omega) hv1).1
      omega
theorem put_zero (R : Rd) : R.put [] 0 = R := by cases R <;> rfl
theorem put_put (R : Rd) (p q : List UInt8) (a b : Nat) : (R.put q b).put p a = R.put (p ++ q) (b + a) := by cases R <;> simp [Rd.put, Nat.add_assoc]
theorem readL_plain : ∀ (p q : List UInt8), (∀ b ∈ p, b ≠ 34 ∧ b ≠ 92 ∧ plainB b = true) → readL (p ++ q) = (readL q).put p p.length
  | [], q, _ => by rw [List.nil_append, List.length_nil, put_zero]
  | b :: p, q, h => by
    obtain ⟨h1, h2, h3⟩ := h b (by simp)
    rw [List.cons_append, readL_cons, if_neg h1, if_neg h2, if_pos h3, readL_plain p q (fun x hx => h x (List.mem_cons_of_mem _ hx)), put_put]
    simp
theorem valid_drop_low : ∀ (k : Nat) (L : List UInt8), validD L = true → (∀ x ∈ L.take k, x.toNat < 128) → validD (L.drop k) = true
  | 0, L, h, _ => h
  | k + 1, [], h, _ => by rw [List.drop_nil]; exact h
  | k + 1, b :: t, h, hl => by
    rw [List.drop_succ_cons]
    refine valid_drop_low k t ?_ (fun x hx => hl x (by rw [List.take_succ_cons]; exact List.mem_cons_of_mem _ hx))
    rw [← h, validD_cons b t (hl b (by simp))]
/-- ████ WHAT IS MET TELLS WHAT IS READ. -/
theorem fold_mets : ∀ (f : Nat) (L : List UInt8) (b : Nat), L.length < f + b → b ≤ L.length → validD (L.drop b) = true → foldM (metsF f L b) = (readL (L.drop b)).put [] b
  | 0, L, b, hf, hb, _ => absurd hf (by omega)
  | f + 1, L, b, hf, hb, hv => by
    unfold metsF
    by_cases hlt : L.length ≤ b
    · rw [if_pos hlt, List.drop_of_length_le hlt]
      rfl
    · rw [if_neg hlt]
      have hne : L.drop b ≠ [] := by
        intro h
        have := congrArg List.length h
        rw [List.length_drop, List.length_nil] at this
        omega
      have ih : ∀ k, 1 ≤ k → b + k ≤ L.length → validD (L.drop (b + k)) = true → foldM (metsF f L (b + k)) = (readL (L.drop (b + k))).put [] (b + k) := fun k h1 h2 h3 => fold_mets f L (b + k) (by omega) h2 h3
      have hdl := List.length_drop (i := b) (l := L)
      have hdd : ∀ k, (L.drop b).drop k = L.drop (b + k) := fun k => List.drop_drop
      have hv2 : ∀ k, validD ((L.drop b).drop k) = true → validD (L.drop (b + k)) = true := fun k h => by rw [← hdd k]; exact h
      rcases look_cases (L.drop b) hne hv with ⟨e, t, ht⟩ | ⟨t, ht, e, e2⟩ | ⟨t, r, k, ht, e, e2, k1, k2, k3⟩ | ⟨e, c, t, ht, c1, c2, c3⟩ | ⟨e, e2, k1, k2, k3⟩
      · rw [e, ht, readL_cons, if_pos rfl]
        simp only [foldM, Rd.put, List.nil_append]
        rw [Nat.add_comm]
      · rw [e, ht, readL_cons, if_neg (by decide), if_pos rfl, e2]
        rfl
      · rw [ht, List.length_cons] at hdl
        have hd2 : L.drop (b + (k + 1)) = t.drop k := by rw [← hdd (k + 1), ht, List.drop_succ_cons]
        have hvv : validD (L.drop (b + (k + 1))) = true := by
          refine hv2 _ (valid_drop_low _ _ hv (fun x hx => ?_))
          rw [ht, List.take_succ_cons] at hx
          rcases List.mem_cons.1 hx with rfl | hx
          · decide
          · exact k3 x hx
        rw [e]
        simp only [foldM]
        rw [ih (k + 1) (by omega) (by omega) hvv, hd2, ht, readL_cons, if_neg (by decide), if_pos rfl, e2]
        simp only
        rw [put_put, put_put]
        simp [Nat.add_comm, Nat.add_left_comm]
      · rw [e, ht, readL_cons, if_neg c1, if_neg c2, if_neg (by simp [c3])]
        rfl
      · obtain ⟨w, hw⟩ : ∃ w, (decodeL (L.drop b)).2 = w := ⟨_, rfl⟩
        rw [hw] at e e2 k1 k2 k3
        have hvv : validD (L.drop (b + w)) = true := hv2 _ (by rw [← hw]; exact (valid_head _ hne hv).2)
        rw [e]
        simp only [foldM]
        rw [ih w k1 (by omega) hvv, e2, put_put]
        have hsp : L.drop b = (L.drop b).take w ++ L.drop (b + w) := by
          rw [← hdd w, List.take_append_drop]
        have hlen : ((L.drop b).take w).length = w := by rw [List.length_take]; omega
        conv => rhs; rw [hsp, readL_plain _ _ k3, put_put, hlen]
        simp [Nat.add_comm]
/-- how one sign follows another: the iterator's places and the reader's -/
theorem pos_low : ∀ (k : Nat) (L : List UInt8) (t b : Nat), posAt L t = b → b + k ≤ L.length → (∀ x ∈ (L.drop b).take k, x.toNat < 128) → posAt L (t + k) = b + k
  | 0, L, t, b, h, _, _ => h
  | k + 1, L, t, b, h, hl, hx => by
    have hne : L.drop b ≠ [] := by
      intro h
      have := congrArg List.length h
      rw [List.length_drop, List.length_nil] at this
      omega
    have hs := posAt_succ t L (by rw [h]; exact hne)
    rw [h] at hs
    obtain ⟨c, u, hcu⟩ : ∃ c u, L.drop b = c :: u := by
      cases hd : L.drop b with
      | nil => exact absurd hd hne
      | cons c u => exact ⟨c, u, rfl⟩
    have hc : c.toNat < 128 := hx c (by rw [hcu]; simp)
    rw [hcu, decodeL_ascii c u hc] at hs
    have hu : L.drop (b + 1) = u := by rw [← List.drop_drop, hcu]; rfl
    have := pos_low k L (t + 1) (b + 1) hs (by omega) (fun x hxx => hx x (by
      rw [hu] at hxx
      rw [hcu, List.take_succ_cons]
      exact List.mem_cons_of_mem _ hxx))
    rw [show t + (k + 1) = t + 1 + k by omega, this]
    omega
theorem posAt_le : ∀ (t : Nat) (L : List UInt8), posAt L t ≤ L.length
  | 0, _ => Nat.zero_le _
  | t + 1, L => by
    by_cases hne : L = []
    · subst hne; simp [posAt_nil]
    · have e : posAt L (t + 1) = (decodeL L).2 + posAt (L.drop (decodeL L).2) t := by simp [posAt, hne]
      have h1 := decodeL_le L hne
      have h2 := posAt_le t (L.drop (decodeL L).2)
      rw [List.length_drop] at h2
      omega
theorem posAt_mono (L : List UInt8) (t d : Nat) : posAt L t ≤ posAt L (t + d) := by
  induction d with
  | zero => exact Nat.le_refl _
  | succ d ih =>
    by_cases hne : L.drop (posAt L (t + d)) = []
    · have h1 : L.length ≤ posAt L (t + d) := by
        have := congrArg List.length hne
        rw [List.length_drop, List.length_nil] at this
        omega
      have h2 : posAt L (t + (d + 1)) = L.length ∨ posAt L (t + (d + 1)) < L.length := by have := posAt_le (t + (d + 1)) L; omega
      rcases h2 with h2 | h2
      · have := posAt_le t L; omega
      · exfalso
        have h3 := posAt_drop (t + d) L
        have h4 := posAt_drop (t + (d + 1)) L
        rw [hne, runesOf_nil] at h3
        have h5 : (runesOf L).drop (t + (d + 1)) = [] := by
          rw [show t + (d + 1) = (t + d) + 1 by omega, ← List.drop_drop, ← h3]; rfl
        rw [h5] at h4
        have hne2 : L.drop (posAt L (t + (d + 1))) ≠ [] := by
          intro h
          have := congrArg List.length h
          rw [List.length_drop, List.length_nil] at this
          omega
        rw [runesOf_step _ hne2] at h4
        cases h4
    · have := posAt_succ (t + d) L hne
      rw [show t + (d + 1) = t + d + 1 by omega, this]
      omega
/-- WHERE THE READER STANDS, at a turn of the iterator's -/
def Bd (L : List UInt8) (t b : Nat) : Prop := ∃ d, posAt L (t + d) = b
theorem Bd.skip {L : List UInt8} {t b : Nat} (h : Bd L t b) (hlt : posAt L t < b) : Bd L (t + 1) b := by
  obtain ⟨d, hd⟩ := h
  cases d with
  | zero => exact absurd hd (by simp; omega)
  | succ d => exact ⟨d, by rw [← hd]; congr 1; omega⟩
theorem Bd.here {L : List UInt8} {t b : Nat} (h : Bd L t b) (hlt : ¬ posAt L t < b) : posAt L t = b := by
  obtain ⟨d, hd⟩ := h
  have := posAt_mono L t d
  omega
theorem Bd.next {L : List UInt8} {t b : Nat} {r : Int} {k : Nat} (h : posAt L t = b) (hb : b < L.length) (hv : validD (L.drop b) = true) (hk : lookM (L.drop b) = .sgn r k) : Bd L (t + 1) (b + k) ∧ b + k ≤ L.length ∧ 1 ≤ k ∧ validD (L.drop (b + k)) = true := by
  have hne : L.drop b ≠ [] := by
    intro h
    have := congrArg List.length h
    rw [List.length_drop, List.length_nil] at this
    omega
  have hdl := List.length_drop (i := b) (l := L)
  have hdd : ∀ k, (L.drop b).drop k = L.drop (b + k) := fun k => List.drop_drop
  rcases look_cases (L.drop b) hne hv with ⟨e, _⟩ | ⟨t, ht, e, e2⟩ | ⟨u, r', k', ht, e, e2, k1, k2, k3⟩ | ⟨e, _⟩ | ⟨e, e2, k1, k2, k3⟩
  · rw [e] at hk; cases hk
  · rw [e] at hk; cases hk
  · rw [e] at hk
    cases hk
    rw [ht, List.length_cons] at hdl
    have hlow : ∀ x ∈ (L.drop b).take (k' + 1), x.toNat < 128 := by
      intro x hx
      rw [ht, List.take_succ_cons] at hx
      rcases List.mem_cons.1 hx with rfl | hx
      · decide
      · exact k3 x hx
    have := pos_low (k' + 1) L t b h (by omega) hlow
    refine ⟨⟨k', by rw [← this]; congr 1; omega⟩, by omega, by omega, ?_⟩
    rw [← hdd]
    exact valid_drop_low _ _ hv hlow
  · rw [e] at hk; cases hk
  · rw [e] at hk
    cases hk
    have hs := posAt_succ t L (by rw [h]; exact hne)
    rw [h] at hs
    exact ⟨⟨0, hs⟩, by omega, k1, by rw [← hdd]; exact (valid_head _ hne hv).2⟩
theorem Bd.done {L : List UInt8} {b : Nat} (h : Bd L (runesOf L).length b) (hb : b ≤ L.length) : b = L.length := by
  obtain ⟨d, hd⟩ := h
  by_cases hlt : b < L.length
  · exfalso
    have h4 := posAt_drop ((runesOf L).length + d) L
    have h5 : (runesOf L).drop ((runesOf L).length + d) = [] := List.drop_eq_nil_of_le (by omega)
    rw [hd, h5] at h4
    have hne2 : L.drop b ≠ [] := by
      intro h
      have := congrArg List.length h
      rw [List.length_drop, List.length_nil] at this
      omega
    rw [runesOf_step _ hne2] at h4
    cases h4
  · omega
end Quo
end Go.Proofs.YtkliecngkcjieaaGreatDoor

set_option maxRecDepth 100000
namespace Go.Proofs.YtkliecngkcjieaaGreatDoor
open Go.RowKit Go.Shelf
open Pl Quo
def Quo.Met.val : Met → Value
  | .sgn r k => .iface 139 (.agg #[.int .i32 r, .int .i64 k])
  | .last => .iface 140 (.agg #[])
  | .fault e => .iface 141 (.int .i64 e)
theorem size_sgn (r n : Int) (w : World) : Calls Tryz.prog 177 #[.agg #[.int .i32 r, .int .i64 n]] w fun e w' => e = .returned (.int .i64 n) ∧ Below w.heap.size w w' := by
  go_enter Tryz.func177, Tryz.ntmps177
  go_wp2_with fail
  go_ret
  exact ⟨rfl, (Below.refl _ w).alloc (Nat.le_refl _) _⟩
theorem size_last (w : World) : Calls Tryz.prog 178 #[.agg #[]] w fun e w' => e = .returned (.int .i64 1) ∧ Below w.heap.size w w' := by
  go_enter Tryz.func178, Tryz.ntmps178
  go_wp2_with fail
  go_ret
  exact ⟨rfl, (Below.refl _ w).alloc (Nat.le_refl _) _⟩
theorem size_fault (n : Int) (w : World) : Calls Tryz.prog 179 #[.int .i64 n] w fun e w' => e = .returned (.int .i64 0) ∧ Below w.heap.size w w' := by
  go_enter Tryz.func179, Tryz.ntmps179
  go_wp2_with fail
  go_ret
  exact ⟨rfl, Below.refl _ _⟩
def lookV (Bm : Nat) : Value := .func (.func 112) #[] #[.pointer (some ⟨Bm, 0, none⟩)]
theorem meetings_any (s : ByteArray) (n : Int) (Bm : Nat) (w : World) : Calls Tryz.prog 109 #[.string s, .int .i64 n, lookV Bm] w fun e w' =>
    e = .returned (.func (.func 133) #[] #[.pointer (some ⟨w.heap.size + 1, 0, none⟩), .pointer (some ⟨w.heap.size, 0, none⟩), .pointer (some ⟨w.heap.size + 1 + 1, 0, none⟩)]) ∧
      w' = ((w.alloc (.cells #[.string s] 9)).alloc (.cells #[.int .i64 n] 3)).alloc (.cells #[lookV Bm] 87) := by
  unfold lookV
  go_enter Tryz.func109, Tryz.ntmps109
  go_wp2_with fail
  go_ret
  exact ⟨rfl, rfl⟩
end Go.Proofs.YtkliecngkcjieaaGreatDoor

set_option maxRecDepth 100000
namespace Go.Proofs.YtkliecngkcjieaaGreatDoor
open Go.RowKit Go.Shelf
open Pl Quo Seqx
open Seqo (turn)
attribute [local go_sem] Oper.semAt_some
def metV (a : Nat) (ms : List (Nat × Quo.Met)) (j : Nat) : Array Value := match ms[j]? with
  | some (b, m) => #[.int .i64 ((a + b : Nat) : Int), m.val]
  | none => #[.int .i64 0, .nilIface]
theorem drop_cons {α : Type} {ms : List α} {j : Nat} {x : α} {r : List α} (h : ms.drop j = x :: r) : ms[j]? = some x ∧ j < ms.length ∧ ms.drop (j + 1) = r := by
  have hlt : j < ms.length := by
    have := congrArg List.length h
    rw [List.length_drop, List.length_cons] at this
    omega
  rw [List.drop_eq_getElem_cons hlt] at h
  injection h with h1 h2
  exact ⟨by rw [List.getElem?_eq_getElem hlt, h1], hlt, h2⟩
theorem metV_at {a : Nat} {ms : List (Nat × Quo.Met)} {j b : Nat} {m : Quo.Met} {r : List (Nat × Quo.Met)} (h : ms.drop j = (b, m) :: r) : metV a ms j = #[.int .i64 ((a + b : Nat) : Int), m.val] := by
  unfold metV
  rw [(drop_cons h).1]
theorem metV_size (a : Nat) (ms : List (Nat × Quo.Met)) (j : Nat) : (metV a ms j).size = 2 := by
  unfold metV
  cases ms[j]? with
  | none => rfl
  | some x => rfl
/-- what holds of a turn of the signs -/
def MI (J : Nat → List Nat → World → Prop) (L : List UInt8) (a l Y : Nat) (sub : ByteArray) (t : Nat) (O : List Nat) (W : World) : Prop :=
  ∃ j b f, L.length < f + b ∧ b ≤ L.length ∧ Bd L t b ∧ Go.Lib.validD (L.drop b) = true ∧ (mets L).drop j = metsF f L b ∧ J j (O ++ [Y + 2, Y + 1, Y]) W ∧
   W.heap[Y]? = some (.cells #[.func (.yield l) #[] #[]] 162 (0, 0)) ∧ W.heap[Y + 1]? = some (.cells #[.int .i64 ((a + b : Nat) : Int)] 3 (0, 0)) ∧ W.heap[Y + 2]? = some (.cells #[.string sub] 9 (0, 0)) ∧ Y + 3 ≤ W.heap.size ∧ ∀ k ∈ O, Y + 2 < k ∧ k < W.heap.size
theorem MI_stab {J : Nat → List Nat → World → Prop} (hJ : Stab J) (L : List UInt8) (a l Y : Nat) (sub : ByteArray) : Stab (MI J L a l Y sub) := by
  refine ⟨?_, ?_⟩
  · rintro t O A B r ⟨j, b, f, h1, h2, h3, h4, h5, h6, h7, h8, h9, h10, h11⟩ hg hr hnb
    have hr2 := (h11 r hr).1
    have keep : ∀ k, k < A.heap.size → k ≠ r → B.heap[k]? = A.heap[k]? := fun k hk hne => hg.block k hk (by simpa using hne)
    exact ⟨j, b, f, h1, h2, h3, h4, h5, hJ.own _ _ _ _ _ h6 hg (List.mem_append_left _ hr) hnb, (keep _ (by omega) (by omega)).trans h7, (keep _ (by omega) (by omega)).trans h8, (keep _ (by omega) (by omega)).trans h9, Nat.le_trans h10 hg.size, fun k hk => ⟨(h11 k hk).1, Nat.lt_of_lt_of_le (h11 k hk).2 hg.size⟩⟩
  · rintro t O A B r ⟨j, b, f, h1, h2, h3, h4, h5, h6, h7, h8, h9, h10, h11⟩ hg hr hlt hnb
    have keep : ∀ k, k < A.heap.size → B.heap[k]? = A.heap[k]? := fun k hk => hg.block k hk (by simp; omega)
    refine ⟨j, b, f, h1, h2, h3, h4, h5, hJ.new _ _ _ _ _ h6 hg hr hlt hnb, (keep _ (by omega)).trans h7, (keep _ (by omega)).trans h8, (keep _ (by omega)).trans h9, Nat.le_trans h10 hg.size, fun k hk => ?_⟩
    rcases List.mem_cons.1 hk with rfl | hk
    · exact ⟨by omega, hlt⟩
    · exact ⟨(h11 k hk).1, Nat.lt_of_lt_of_le (h11 k hk).2 hg.size⟩
theorem nb_cells {W : World} {k T : Nat} {cs : Array Value} {fr : Nat × Nat} (h : W.heap[k]? = some (.cells cs T fr)) (hT : T ≠ 5) : NB W k := by
  intro cs' fr' h'
  rw [h] at h'
  injection h' with h'
  injection h' with _ h' _
  exact hT h'
theorem to_w5 {W' wc w2 : World} {Y T : Nat} {v : Value} (hbw : Below W'.drew.heap.size W'.drew wc) (hbw2 : Below wc.heap.size wc w2) (k2 : w2.heap[Y + 1]? = some (.cells #[v] T (0, 0))) (x : Value) (o : Obj) :
    W'.grownBy ((w2.setCell ⟨Y + 1, 0, none⟩ x).alloc o) (some (Y + 1)) ∧ ((w2.setCell ⟨Y + 1, 0, none⟩ x).alloc o).heap[Y + 1]? = some (.cells #[x] T (0, 0)) := by
  have b2 : Below W'.heap.size W' w2 := ((Below.refl _ W').drew).trans (hbw.trans (hbw2.mono hbw.size))
  have g : w2.grownBy ((w2.setCell ⟨Y + 1, 0, none⟩ x).alloc o) (some (Y + 1)) := gB_alloc (gB_setCell (gB_refl _ _) _ _) _
  have hlt := (Array.getElem?_eq_some_iff.1 k2).1
  refine ⟨⟨g.os.trans b2.os, g.tape.trans b2.tape, g.output.trans b2.output, Nat.le_trans b2.size g.size, fun k hk hne => (g.block k (Nat.lt_of_lt_of_le hk b2.size) hne).trans (b2.block k hk)⟩, ?_⟩
  rw [Below.heap_alloc _ _ _ (by have := (gB_setCell (gB_refl w2 (Y + 1)) 0 x).size; omega)]
  exact heap_setCell_same w2 (Y + 1) 0 _ _ _ k2
end Go.Proofs.YtkliecngkcjieaaGreatDoor
