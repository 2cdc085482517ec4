/- Quoted texts, told byte by byte; what is read of them; a text is read from what it is quoted as. Conditions: none. -/
import Derived.Test.YtkliecngkcjieaaGreatDoorRul
import Derived.Lib.MapLaws
set_option maxRecDepth 100000
namespace Go.Proofs.YtkliecngkcjieaaGreatDoor
open Go.Lib
namespace Quo
open Pl
def hexd (n : Nat) : UInt8 := if n < 10 then (48 + n).toUInt8 else (87 + n).toUInt8
/-- a byte, quoted -/
def qb (b : UInt8) : List UInt8 :=
  if b = 34 then [92, 34] else if b = 92 then [92, 92] else if b = 10 then [92, 110] else if b = 9 then [92, 116] else if b = 13 then [92, 114]
  else if b.toNat < 32 ∨ b.toNat = 127 then [92, 120, hexd (b.toNat / 16), hexd (b.toNat % 16)] else [b]
def quoteL (l : List UInt8) : List UInt8 := 34 :: (l.flatMap qb ++ [34])
/-- a sign, quoted -/
def qr (r : Int) : List UInt8 := if r < 128 then qb r.toNat.toUInt8 else encodeRune r
theorem qb_high (b : UInt8) (h : 128 ≤ b.toNat) : qb b = [b] := by
  unfold qb
  have e : ∀ n : UInt8, n.toNat < 128 → ¬ b = n := fun n hn e => by subst e; omega
  rw [if_neg (e 34 (by decide)), if_neg (e 92 (by decide)), if_neg (e 10 (by decide)), if_neg (e 9 (by decide)), if_neg (e 13 (by decide)), if_neg (by omega)]
theorem qb_all_high : ∀ l : List UInt8, (∀ b ∈ l, 128 ≤ b.toNat) → l.flatMap qb = l
  | [], _ => rfl
  | b :: t, h => by rw [List.flatMap_cons, qb_high b (h b (by simp)), qb_all_high t (fun x hx => h x (List.mem_cons_of_mem _ hx))]; rfl
/-- SIGNS AND BYTES ARE QUOTED ALIKE. -/
theorem quote_runes : ∀ (n : Nat) (l : List UInt8), l.length ≤ n → validD l = true → (runesOf l).flatMap qr = l.flatMap qb := by
  intro n
  induction n with
  | zero =>
    intro l hn _
    have : l = [] := List.eq_nil_of_length_eq_zero (by omega)
    subst this; rfl
  | succ n ih =>
    intro l hn hv
    by_cases hne : l = []
    · subst hne; rfl
    · obtain ⟨hv1, hv2⟩ := valid_head l hne hv
      have hl : 0 < l.length := List.length_pos_iff.2 hne
      have hw := decodeL_width l
      rw [runesOf_step l hne, List.flatMap_cons, ih _ (by rw [List.length_drop]; omega) hv2]
      by_cases h0 : (l.getD 0 0).toNat < 128
      · cases l with
        | nil => exact absurd rfl hne
        | cons b t =>
          have h0' : b.toNat < 128 := h0
          rw [decodeL_ascii b t h0', List.flatMap_cons]
          unfold qr
          rw [if_pos (by simp; omega)]
          simp
      · obtain ⟨h1, _, h3, h4⟩ := high_bytes l hne (by omega) hv1
        have e : l.flatMap qb = (l.take (decodeL l).2).flatMap qb ++ (l.drop (decodeL l).2).flatMap qb := by
          rw [← List.flatMap_append, List.take_append_drop]
        rw [e, qb_all_high _ h4]
        unfold qr
        rw [if_neg (by omega), encode_decode l hne hv1]
theorem quote_runes' (l : List UInt8) (h : validD l = true) : (runesOf l).flatMap qr = l.flatMap qb := quote_runes _ l (Nat.le_refl _) h
/-- what is decoded hangs on the sign's own bytes -/
theorem decode_take (l X : List UInt8) (hne : l ≠ []) (hv : ¬ ((decodeL l).1 = 65533 ∧ (decodeL l).2 = 1)) : decodeL (l.take (decodeL l).2 ++ X) = decodeL l := by
  have hl : 0 < l.length := List.length_pos_iff.2 hne
  rw [decodeL_N (l.take _ ++ X)]
  rw [decodeL_N l] at hv ⊢
  rcases decodeN_shape l.length (l.getD 0 0).toNat (l.getD 1 0).toNat (l.getD 2 0).toNat (l.getD 3 0).toNat with ⟨c, e⟩ | ⟨c1, c2, c3, cv, e⟩ | ⟨c1, c2, c3, c4, cv, cs, e⟩ | ⟨c1, c2, c3, c4, c5, cv, cw, e⟩ | e
  · rw [e]
    dsimp only
    rw [takeA l hl]
    unfold decodeN
    simp only [List.cons_append, List.nil_append, List.getD_cons_zero]
    rw [if_pos c]
  · rw [e]
    dsimp only
    rw [takeB l c2]
    unfold decodeN
    simp only [List.cons_append, List.nil_append, List.getD_cons_zero, List.getD_cons_succ, List.length_cons]
    rw [if_neg (by omega), if_pos ⟨c1, by omega, c3⟩, if_pos cv]
  · rw [e]
    dsimp only
    rw [takeC l c2]
    unfold decodeN
    simp only [List.cons_append, List.nil_append, List.getD_cons_zero, List.getD_cons_succ, List.length_cons]
    rw [if_neg (by omega), if_neg (by omega), if_pos ⟨c1, ⟨by omega, c3⟩, by omega, c4⟩, if_pos (by omega)]
  · rw [e]
    dsimp only
    rw [takeD l c2]
    unfold decodeN
    simp only [List.cons_append, List.nil_append, List.getD_cons_zero, List.getD_cons_succ, List.length_cons]
    rw [if_neg (by omega), if_neg (by omega), if_neg (by omega), if_pos ⟨c1, ⟨by omega, c3⟩, ⟨by omega, c4⟩, by omega, c5⟩, if_pos (by omega)]
  · rw [e] at hv
    exact absurd ⟨rfl, rfl⟩ hv
theorem qb_low (b : UInt8) (h : b.toNat < 128) : ∀ x ∈ qb b, x.toNat < 128 := by
  have key : ∀ n, n < 128 → ∀ x ∈ qb n.toUInt8, x.toNat < 128 := by decide +kernel
  have := key b.toNat h
  simpa using this
theorem valid_low : ∀ (p X : List UInt8), (∀ x ∈ p, x.toNat < 128) → validD (p ++ X) = validD X
  | [], _, _ => rfl
  | b :: t, X, h => by
    rw [List.cons_append, validD_cons b _ (h b (by simp)), valid_low t X (fun x hx => h x (List.mem_cons_of_mem _ hx))]
theorem valid_quoted : ∀ (n : Nat) (l X : List UInt8), l.length ≤ n → validD l = true → validD (l.flatMap qb ++ X) = validD X := by
  intro n
  induction n with
  | zero =>
    intro l X hn _
    have : l = [] := List.eq_nil_of_length_eq_zero (by omega)
    subst this; rfl
  | succ n ih =>
    intro l X hn hv
    by_cases hne : l = []
    · subst hne; rfl
    · obtain ⟨hv1, hv2⟩ := valid_head l hne hv
      have hl : 0 < l.length := List.length_pos_iff.2 hne
      have hw := decodeL_width l
      by_cases h0 : (l.getD 0 0).toNat < 128
      · cases l with
        | nil => exact absurd rfl hne
        | cons b t =>
          have h0' : b.toNat < 128 := h0
          rw [List.flatMap_cons, List.append_assoc, valid_low _ _ (qb_low b h0'), ih t X (by simp at hn; omega) (by rw [← hv, validD_cons b t h0'])]
      · obtain ⟨h1, h2, h3, h4⟩ := high_bytes l hne (by omega) hv1
        have e : l.flatMap qb = l.take (decodeL l).2 ++ (l.drop (decodeL l).2).flatMap qb := by
          conv => lhs; rw [← List.take_append_drop (decodeL l).2 l]
          rw [List.flatMap_append, qb_all_high _ h4]
        have ed := decode_take l ((l.drop (decodeL l).2).flatMap qb ++ X) hne hv1
        have hlen : (l.take (decodeL l).2).length = (decodeL l).2 := by rw [List.length_take]; omega
        have hne2 : l.take (decodeL l).2 ++ ((l.drop (decodeL l).2).flatMap qb ++ X) ≠ [] := by
          intro h
          have := congrArg List.length h
          rw [List.length_append, hlen, List.length_nil] at this
          omega
        rw [e, List.append_assoc, validD_step _ hne2, ed, if_neg hv1]
        have : (l.take (decodeL l).2 ++ ((l.drop (decodeL l).2).flatMap qb ++ X)).drop (decodeL l).2 = (l.drop (decodeL l).2).flatMap qb ++ X := by
          conv => lhs; arg 1; rw [← hlen]
          rw [List.drop_left]
        rw [this]
        exact ih _ X (by rw [List.length_drop]; omega) hv2
theorem valid_quote (l : List UInt8) (h : validD l = true) : validD (quoteL l) = true := by
  unfold quoteL
  rw [validD_cons _ _ (by decide), valid_quoted _ l _ (Nat.le_refl _) h]
  rfl
/-! ### what is read -/
inductive Rd where
  | ok (t : List UInt8) (n : Nat)
  | err (e : Int)
def Rd.put (p : List UInt8) (k : Nat) : Rd → Rd
  | .ok t n => .ok (p ++ t) (n + k)
  | .err e => .err e
/-- a digit's number, or 16 -/
def dig (b : UInt8) : Nat := if 48 ≤ b.toNat ∧ b.toNat ≤ 57 then b.toNat - 48 else if 97 ≤ b.toNat ∧ b.toNat ≤ 102 then b.toNat - 87 else if 65 ≤ b.toNat ∧ b.toNat ≤ 70 then b.toNat - 55 else 16
/-- the number of some digits -/
def numD : List UInt8 → Option Nat
  | l => l.foldl (fun o b => match o with | none => none | some n => if dig b < 16 then some (16 * n + dig b) else none) (some 0)
def okSign (n : Nat) : Bool := decide (n < 55296 ∨ (57344 ≤ n ∧ n ≤ 1114111))
def digitsB (k : Nat) (t : List UInt8) : Option (List UInt8 × Nat) :=
  if t.length < k then none else match numD (t.take k) with
  | none => none
  | some n => if okSign n = true then some (encodeRune n, k + 1) else none
/-- what stands behind a backslash: what it is read as, and how many bytes stand for it -/
def escB : List UInt8 → Option (List UInt8 × Nat)
  | [] => none
  | c :: t =>
    if c = 110 then some ([10], 1) else if c = 116 then some ([9], 1) else if c = 114 then some ([13], 1) else if c = 48 then some ([0], 1)
    else if c = 34 ∨ c = 92 ∨ c = 47 then some ([c], 1) else if c = 120 then digitsB 2 t else if c = 117 then digitsB 4 t else none
def plainB (b : UInt8) : Bool := decide (32 ≤ b.toNat ∧ b.toNat ≠ 127)
def readG : Nat → List UInt8 → Rd
  | 0, _ => .err 42
  | _ + 1, [] => .err 42
  | f + 1, b :: t =>
    if b = 34 then .ok [] 1
    else if b = 92 then match escB t with
      | none => .err 41
      | some (p, k) => (readG f (t.drop k)).put p (k + 1)
    else if plainB b = true then (readG f t).put [b] 1 else .err 42
def readL (l : List UInt8) : Rd := readG l.length l
theorem readG_nil : ∀ n, readG n [] = .err 42
  | 0 => rfl
  | _ + 1 => rfl
theorem readG_fuel : ∀ (n m : Nat) (l : List UInt8), l.length ≤ n → l.length ≤ m → readG n l = readG m l
  | n, m, [], _, _ => by rw [readG_nil, readG_nil]
  | 0, _, _ :: _, h, _ => by simp at h
  | _, 0, _ :: _, _, h => by simp at h
  | n + 1, m + 1, b :: t, hn, hm => by
    simp only [List.length_cons] at hn hm
    unfold readG
    by_cases h1 : b = 34
    · rw [if_pos h1, if_pos h1]
    · rw [if_neg h1, if_neg h1]
      by_cases h2 : b = 92
      · rw [if_pos h2, if_pos h2]
        cases escB t with
        | none => rfl
        | some pk =>
          obtain ⟨p, k⟩ := pk
          show (readG n (t.drop k)).put _ _ = (readG m (t.drop k)).put _ _
          rw [readG_fuel n m (t.drop k) (by rw [List.length_drop]; omega) (by rw [List.length_drop]; omega)]
      · rw [if_neg h2, if_neg h2, readG_fuel n m t (by omega) (by omega)]
theorem readL_cons (b : UInt8) (t : List UInt8) : readL (b :: t) =
    if b = 34 then .ok [] 1
    else if b = 92 then match escB t with
      | none => .err 41
      | some (p, k) => (readL (t.drop k)).put p (k + 1)
    else if plainB b = true then (readL t).put [b] 1 else .err 42 := by
  unfold readL
  rw [List.length_cons]
  conv => lhs; unfold readG
  by_cases h1 : b = 34
  · rw [if_pos h1, if_pos h1]
  · rw [if_neg h1, if_neg h1]
    by_cases h2 : b = 92
    · rw [if_pos h2, if_pos h2]
      cases escB t with
      | none => rfl
      | some pk =>
        obtain ⟨p, k⟩ := pk
        show (readG _ (t.drop k)).put _ _ = (readG _ (t.drop k)).put _ _
        rw [readG_fuel t.length (t.drop k).length (t.drop k) (by rw [List.length_drop]; omega) (Nat.le_refl _)]
    · rw [if_neg h2, if_neg h2]
theorem escB_qb0 : ∀ n, n < 128 → decide (digitsB 2 [hexd (n / 16), hexd (n % 16)] = some ([n.toUInt8], 3)) = true := by decide +kernel
theorem escB_qb (n : Nat) (h : n < 128) : digitsB 2 [hexd (n / 16), hexd (n % 16)] = some ([n.toUInt8], 3) := of_decide_eq_true (escB_qb0 n h)
theorem digitsB_app (a b : UInt8) (t : List UInt8) : digitsB 2 (a :: b :: t) = digitsB 2 [a, b] := by
  unfold digitsB
  rw [if_neg (by simp), if_neg (by simp)]
  rfl
/-- ████ A TEXT IS READ FROM WHAT IT IS QUOTED AS, whatever stands behind. -/
theorem read_quoted : ∀ (l X : List UInt8), readL (l.flatMap qb ++ 34 :: X) = .ok l ((l.flatMap qb).length + 1)
  | [], X => by
    show readL (34 :: X) = _
    rw [readL_cons, if_pos rfl]; rfl
  | b :: t, X => by
    rw [List.flatMap_cons, List.append_assoc]
    have ih := read_quoted t X
    obtain ⟨R, hR⟩ : ∃ R, t.flatMap qb ++ 34 :: X = R := ⟨_, rfl⟩
    rw [hR] at ih ⊢
    have esc : ∀ (c : UInt8), escB (c :: R) = some ([b], 1) → qb b = [92, c] → readL (qb b ++ R) = .ok (b :: t) ((qb b ++ t.flatMap qb).length + 1) := by
      intro c hc hq
      rw [hq]
      show readL (92 :: c :: R) = _
      rw [readL_cons, if_neg (by decide), if_pos rfl, hc]
      show (readL R).put [b] 2 = _
      rw [ih]
      simp [Rd.put]
    by_cases h1 : b = 34
    · subst h1; exact esc 34 rfl rfl
    by_cases h2 : b = 92
    · subst h2; exact esc 92 rfl rfl
    by_cases h3 : b = 10
    · subst h3; exact esc 110 rfl rfl
    by_cases h4 : b = 9
    · subst h4; exact esc 116 rfl rfl
    by_cases h5 : b = 13
    · subst h5; exact esc 114 rfl rfl
    by_cases h6 : b.toNat < 32 ∨ b.toNat = 127
    · have hq : qb b = [92, 120, hexd (b.toNat / 16), hexd (b.toNat % 16)] := by
        unfold qb
        rw [if_neg h1, if_neg h2, if_neg h3, if_neg h4, if_neg h5, if_pos h6]
      have hd := escB_qb b.toNat (by omega)
      rw [hq]
      show readL (92 :: 120 :: hexd (b.toNat / 16) :: hexd (b.toNat % 16) :: R) = _
      rw [readL_cons, if_neg (by decide), if_pos rfl]
      have : escB (120 :: hexd (b.toNat / 16) :: hexd (b.toNat % 16) :: R) = some ([b], 3) := by
        show digitsB 2 (hexd (b.toNat / 16) :: hexd (b.toNat % 16) :: R) = _
        rw [digitsB_app, hd]
        simp
      rw [this]
      show (readL R).put [b] 4 = _
      rw [ih]
      simp [Rd.put]
    · have hq : qb b = [b] := by
        unfold qb
        rw [if_neg h1, if_neg h2, if_neg h3, if_neg h4, if_neg h5, if_neg h6]
      rw [hq]
      show readL (b :: R) = _
      rw [readL_cons, if_neg h1, if_neg h2, if_pos (by unfold plainB; rw [decide_eq_true_iff]; omega), ih]
      simp [Rd.put]
theorem read_quote (l : List UInt8) : readL ((quoteL l).drop 1) = .ok l (l.flatMap qb ++ [34]).length := by
  show readL (l.flatMap qb ++ 34 :: []) = _
  rw [read_quoted]
  simp
theorem quoteL_inj {l m : List UInt8} (h : quoteL l = quoteL m) : l = m := by
  have h1 := read_quote l
  rw [h, read_quote m] at h1
  injection h1 with h2 _
  exact h2.symm
end Quo
end Go.Proofs.YtkliecngkcjieaaGreatDoor
