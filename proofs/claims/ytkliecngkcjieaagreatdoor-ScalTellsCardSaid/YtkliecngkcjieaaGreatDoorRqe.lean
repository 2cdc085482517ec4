/- What the reference tells of texts is what the program tells: whether they may stand plain, look like numbers, and which number. Conditions: none; nothing of the program is run here. Which texts look like numbers, and which numbers they are, the reference tells as the program does. Conditions: none; nothing of the program is run here. -/
import Derived.Test.YtkliecngkcjieaaGreatDoorRmy
import Derived.Test.YtkliecngkcjieaaGreatDoorRln
import Derived.Test.YtkliecngkcjieaaGreatDoorDgt
set_option maxRecDepth 100000
namespace Go.Proofs.YtkliecngkcjieaaGreatDoor
open Pl On
theorem all256 (p : UInt8 → Prop) [∀ x, Decidable (p x)] (h : ∀ n : Fin 256, p (UInt8.ofNat n.1)) (b : UInt8) : p b := by
  have e := h ⟨b.toNat, b.toNat_lt⟩
  simpa using e
/-! may a text stand plain -/
theorem allT_all (g : Int → Bool) (f : Trip) (h : ∀ a s b, f a s b = g s) : ∀ (l : List Int) (a : Int), allT f a l = l.all g
  | [], _ => rfl
  | s :: t, a => by
    show (f a s _ && allT f s t) = (g s && t.all g)
    rw [h, allT_all g f h t s]
theorem plainS_eq (l : List UInt8) : plainS l = if Go.Lib.validD l = true then (bytesOf l).all plainI else false := by
  unfold plainS
  by_cases hv : Go.Lib.validD l = true
  · rw [if_pos hv, if_pos hv, ← allT_all plainI rPlain (fun _ _ _ => rfl) (runesOf l) (-1), allT_same pl_plain l (-1) hv, allT_all plainI rPlain (fun _ _ _ => rfl)]
  · rw [if_neg hv, if_neg hv]
theorem allT_iff (f : Trip) : ∀ (l : List Int) (a : Int), allT f a l = true ↔ ∀ k, k < l.length → f (if k = 0 then a else l.getD (k - 1) 0) (l.getD k 0) (l.getD (k + 1) (-1)) = true
  | [], _ => ⟨fun _ k hk => absurd hk (Nat.not_lt_zero _), fun _ => rfl⟩
  | s :: t, a => by
    have ih := allT_iff f t s
    have e0 : t.headD (-1) = (s :: t).getD 1 (-1) := by cases t <;> rfl
    show (f a s (t.headD (-1)) && allT f s t) = true ↔ _
    rw [Bool.and_eq_true, ih, e0]
    constructor
    · rintro ⟨h0, h⟩ k hk
      cases k with
      | zero => exact h0
      | succ k =>
        have h' := h k (by simpa using hk)
        cases k with
        | zero => exact h'
        | succ j => exact h'
    · intro h
      refine ⟨h 0 (by simp), fun k hk => ?_⟩
      have h' := h (k + 1) (by simpa using hk)
      cases k with
      | zero => exact h'
      | succ j => exact h'
theorem has_iff (l : List Int) (x : Int) : has l x = true ↔ x ∈ l := by unfold has; exact decide_eq_true_iff
theorem has_not (l : List Int) (x : Int) : (!has l x) = true ↔ x ∉ l := by unfold has; simp
theorem mark_iff (a s b : Int) : rMark a s b = true ↔ ((s = 45 ∨ s = 63) → a = -1 → (b ≠ -1 ∧ b ≠ 32)) ∧ (s = 58 → b ≠ -1 ∧ b ≠ 32) ∧ (s = 35 → a ≠ 32) := by
  have hm : markB b = true ↔ (b ≠ -1 ∧ b ≠ 32) := by unfold markB; simp
  have ha : (a != -1) = true ↔ a ≠ -1 := by simp
  unfold rMark
  by_cases h1 : s = 45
  · subst h1
    simp only [beq_self_eq_true, if_true]
    by_cases h : a = -1
    · rw [if_neg (by simp [h]), hm]; simp [h]
    · rw [if_pos (ha.2 h)]; simp [h]
  · rw [if_neg (by simpa using h1)]
    by_cases h2 : s = 63
    · subst h2
      simp only [beq_self_eq_true, if_true]
      by_cases h : a = -1
      · rw [if_neg (by simp [h]), hm]; simp [h]
      · rw [if_pos (ha.2 h)]; simp [h]
    · rw [if_neg (by simpa using h2)]
      by_cases h3 : s = 58
      · subst h3
        simp only [beq_self_eq_true, if_true]
        rw [hm]; simp
      · rw [if_neg (by simpa using h3)]
        by_cases h4 : s = 35
        · subst h4
          simp
        · rw [if_neg (by simpa using h4)]
          simp [h1, h2, h3, h4]
theorem ok_iff (flow : Bool) (a s b : Int) : okB flow a s b = true ↔
    (32 ≤ s ∧ s ≠ 127) ∧ (((s = 45 ∨ s = 63) → a = -1 → (b ≠ -1 ∧ b ≠ 32)) ∧ (s = 58 → b ≠ -1 ∧ b ≠ 32) ∧ (s = 35 → a ≠ 32)) ∧ (a = -1 → s ∉ heads) ∧ (b = -1 → s ≠ 32) ∧ (flow = true → s ∉ flows) := by
  have hf : rFirst heads a s b = true ↔ (a = -1 → s ∉ heads) := by
    unfold rFirst
    by_cases h : a = -1
    · rw [if_neg (by simpa using h), has_not]; simp [h]
    · rw [if_pos h]; simp [h]
  have hl : rLast [32] a s b = true ↔ (b = -1 → s ≠ 32) := by
    unfold rLast
    by_cases h : b = -1
    · rw [if_neg (by simpa using h), has_not]; simp [h]
    · rw [if_pos h]; simp [h]
  have hp : rPlain a s b = true ↔ (32 ≤ s ∧ s ≠ 127) := by unfold rPlain; exact decide_eq_true_iff
  unfold okB rulesOf
  cases flow
  · rw [if_neg (by decide)]
    simp only [allF, rules4, List.all_cons, List.all_nil, Bool.and_true, Bool.and_eq_true, hf, hl, hp, mark_iff]
    simp
  · rw [if_pos rfl]
    have hn : rNo flows a s b = true ↔ s ∉ flows := by unfold rNo; exact has_not _ _
    simp only [allF, rules5, List.all_cons, List.all_nil, Bool.and_true, Bool.and_eq_true, hf, hl, hp, hn, mark_iff]
    simp
theorem heads_iff (c : UInt8) : ((c.toNat : Int) ∈ heads) ↔ (c = 32 ∨ c ∈ headsU) := all256 (fun c => ((c.toNat : Int) ∈ heads) ↔ (c = 32 ∨ c ∈ headsU)) (by decide +kernel) c
theorem flows_iff (c : UInt8) : ((c.toNat : Int) ∈ flows) ↔ c ∈ flowsU := all256 (fun c => ((c.toNat : Int) ∈ flows) ↔ c ∈ flowsU) (by decide +kernel) c
theorem marks_iff (c : UInt8) : c ∈ marksU ↔ (c = 45 ∨ c = 63 ∨ c = 58) := all256 (fun c => c ∈ marksU ↔ (c = 45 ∨ c = 63 ∨ c = 58)) (by decide +kernel) c
theorem toI (c d : UInt8) : ((c.toNat : Int) = (d.toNat : Int)) ↔ c = d := ⟨fun h => UInt8.toNat_inj.1 (by omega), fun h => by rw [h]⟩
theorem bytes_len (l : List UInt8) : (bytesOf l).length = l.length := by unfold bytesOf; rw [List.length_map]
theorem bytes_get (l : List UInt8) (k : Nat) (h : k < l.length) (d : Int) : (bytesOf l).getD k d = ((l.getD k 0).toNat : Int) := by
  unfold bytesOf
  rw [List.getD_eq_getElem?_getD, List.getElem?_map, List.getElem?_eq_getElem h, List.getD_eq_getElem?_getD, List.getElem?_eq_getElem h]
  rfl
theorem bytes_out (l : List UInt8) (k : Nat) (h : ¬ k < l.length) (d : Int) : (bytesOf l).getD k d = d := by
  rw [List.getD_eq_getElem?_getD, List.getElem?_eq_none (by rw [bytes_len]; omega)]
  rfl
theorem bad_iff (flow : Bool) (l : List UInt8) (k : Nat) : badAt flow l k = false ↔ (l.getD k 0 = 58 → ¬ (k + 1 = l.length ∨ l.getD (k + 1) 0 = 32)) ∧ (l.getD k 0 = 35 → 0 < k → l.getD (k - 1) 0 ≠ 32) ∧ (flow = true → l.getD k 0 ∉ flowsU) := by
  unfold badAt amU
  rw [Bool.or_eq_false_iff, Bool.or_eq_false_iff, Bool.and_eq_false_iff, Bool.and_eq_false_iff, Bool.and_eq_false_iff, Bool.or_eq_false_iff, Bool.and_eq_false_iff]
  simp only [beq_eq_false_iff_ne, decide_eq_false_iff_not]
  constructor
  · rintro ⟨⟨h1, h2⟩, h3⟩
    refine ⟨fun e => ?_, fun e hk => ?_, fun e => ?_⟩
    · rcases h1 with h | ⟨h, h'⟩
      · exact absurd e h
      · exact fun hh => hh.elim h h'
    · rcases h2 with h | h | h
      · exact absurd e h
      · exact absurd hk h
      · exact h
    · rcases h3 with h | h
      · rw [e] at h; cases h
      · exact h
  · rintro ⟨h1, h2, h3⟩
    refine ⟨⟨?_, ?_⟩, ?_⟩
    · by_cases e : l.getD k 0 = 58
      · exact .inr ⟨fun h => h1 e (.inl h), fun h => h1 e (.inr h)⟩
      · exact .inl e
    · by_cases e : l.getD k 0 = 35
      · by_cases hk : 0 < k
        · exact .inr (.inr (h2 e hk))
        · exact .inr (.inl hk)
      · exact .inl e
    · cases flow
      · exact .inl rfl
      · exact .inr (h3 rfl)
theorem hb_iff (l : List UInt8) : headBad l = false ↔ l.getD 0 0 ≠ 32 ∧ l.getD (l.length - 1) 0 ≠ 32 ∧ l.getD 0 0 ∉ headsU ∧ (l.getD 0 0 ∈ marksU → ¬ (l.length = 1 ∨ l.getD 1 0 = 32)) := by
  unfold headBad amU
  rw [Bool.or_eq_false_iff, Bool.or_eq_false_iff, Bool.or_eq_false_iff, Bool.and_eq_false_iff, Bool.or_eq_false_iff]
  simp only [beq_eq_false_iff_ne, decide_eq_false_iff_not]
  constructor
  · rintro ⟨h1, h2, h3, h4⟩
    refine ⟨h1, h2, h3, fun e => ?_⟩
    rcases h4 with h | ⟨h, h'⟩
    · exact absurd e h
    · exact fun hh => hh.elim h h'
  · rintro ⟨h1, h2, h3, h4⟩
    refine ⟨h1, h2, h3, ?_⟩
    by_cases e : l.getD 0 0 ∈ marksU
    · exact .inr ⟨fun h => h4 e (.inl h), fun h => h4 e (.inr h)⟩
    · exact .inl e
theorem mayS_eq (flow : Bool) (l : List UInt8) : mayS flow l = mayR flow l := by
  rw [mayR_bytes]
  unfold mayS
  by_cases h0 : l = []
  · rw [if_pos h0, if_pos h0]
  rw [if_neg h0, if_neg h0, plainS_eq]
  by_cases hv : Go.Lib.validD l = true
  · rw [if_pos hv, if_pos hv]
    have hl : 0 < l.length := List.length_pos_iff.2 h0
    rw [Bool.eq_iff_iff, Bool.and_eq_true, Bool.and_eq_true, allT_iff, bytes_len, List.all_eq_true, List.all_eq_true, Bool.not_eq_true', hb_iff]
    constructor
    · rintro ⟨⟨hp, h1, h2, h3, h4⟩, hb⟩ k hk
      have hb' := (bad_iff flow l k).1 (by have := hb k (List.mem_range.2 hk); simpa using this)
      have hpk : plainI ((bytesOf l).getD k 0) = true := hp _ (by
        rw [List.getD_eq_getElem?_getD, List.getElem?_eq_getElem (by rw [bytes_len]; exact hk)]
        exact List.getElem_mem _)
      rw [ok_iff]
      rw [bytes_get l k hk] at hpk ⊢
      refine ⟨of_decide_eq_true hpk, ⟨?_, ?_, ?_⟩, ?_, ?_, ?_⟩
      · intro hs ha
        have hk0 : k = 0 := by
          by_cases hk0 : k = 0
          · exact hk0
          · rw [if_neg hk0, bytes_get l (k - 1) (by omega)] at ha; omega
        subst hk0
        have hm : l.getD 0 0 ∈ marksU := (marks_iff _).2 (by
          rcases hs with hs | hs
          · exact .inl ((toI _ 45).1 hs)
          · exact .inr (.inl ((toI _ 63).1 hs)))
        have hn := h4 hm
        have h11 : 0 + 1 < l.length := by
          rcases Nat.lt_or_ge 1 l.length with h | h
          · omega
          · exact absurd (.inl (by omega)) hn
        rw [bytes_get l (0 + 1) h11]
        exact ⟨by omega, fun h => hn (.inr ((toI _ 32).1 h))⟩
      · intro hs
        have hn := hb'.1 ((toI _ 58).1 hs)
        have h11 : k + 1 < l.length := by
          rcases Nat.lt_or_ge (k + 1) l.length with h | h
          · omega
          · exact absurd (.inl (by omega)) hn
        rw [bytes_get l (k + 1) h11]
        exact ⟨by omega, fun h => hn (.inr ((toI _ 32).1 h))⟩
      · intro hs
        by_cases hk0 : k = 0
        · rw [if_pos hk0]; decide
        · rw [if_neg hk0, bytes_get l (k - 1) (by omega)]
          exact fun h => hb'.2.1 ((toI _ 35).1 hs) (by omega) ((toI _ 32).1 h)
      · intro ha hm
        have hk0 : k = 0 := by
          by_cases hk0 : k = 0
          · exact hk0
          · rw [if_neg hk0, bytes_get l (k - 1) (by omega)] at ha; omega
        subst hk0
        rcases (heads_iff _).1 hm with h | h
        · exact h1 h
        · exact h3 h
      · intro hbk hs
        have hlast : k = l.length - 1 := by
          rcases Nat.lt_or_ge (k + 1) l.length with h | h
          · rw [bytes_get l (k + 1) h] at hbk; omega
          · omega
        rw [hlast] at hs
        exact h2 ((toI _ 32).1 hs)
      · intro hf hm
        exact hb'.2.2 hf ((flows_iff _).1 hm)
    · intro h
      have hk := fun k (hk : k < l.length) => (ok_iff _ _ _ _).1 (h k hk)
      have z := hk 0 hl
      rw [if_pos rfl, bytes_get l 0 hl] at z
      have lz := hk (l.length - 1) (by omega)
      rw [bytes_get l (l.length - 1) (by omega), bytes_out l (l.length - 1 + 1) (by omega)] at lz
      refine ⟨⟨fun x hx => ?_, fun h => z.2.2.1 rfl ((heads_iff _).2 (.inl h)), fun h => lz.2.2.2.1 rfl ((toI _ 32).2 h), fun h => z.2.2.1 rfl ((heads_iff _).2 (.inr h)), fun hm => ?_⟩, fun k hkm => ?_⟩
      · obtain ⟨j, hj, e⟩ := List.getElem_of_mem hx
        rw [bytes_len] at hj
        have := (hk j hj).1
        rw [List.getD_eq_getElem?_getD, List.getElem?_eq_getElem (by rw [bytes_len]; exact hj)] at this
        simp only [Option.getD_some] at this
        rw [e] at this
        exact decide_eq_true this
      · have key : ((bytesOf l).getD (0 + 1) (-1) ≠ -1 ∧ (bytesOf l).getD (0 + 1) (-1) ≠ 32) := by
          rcases (marks_iff _).1 hm with h | h | h
          · exact z.2.1.1 (.inl ((toI _ 45).2 h)) rfl
          · exact z.2.1.1 (.inr ((toI _ 63).2 h)) rfl
          · exact z.2.1.2.1 ((toI _ 58).2 h)
        rintro (h1 | h1)
        · exact key.1 (bytes_out l (0 + 1) (by omega) _)
        · rcases Nat.lt_or_ge 1 l.length with h | h
          · rw [bytes_get l (0 + 1) h] at key
            exact key.2 ((toI _ 32).2 h1)
          · exact key.1 (bytes_out l (0 + 1) (by omega) _)
      · have hkl := List.mem_range.1 hkm
        have q := hk k hkl
        rw [bytes_get l k hkl] at q
        rw [(bad_iff flow l k).2 ⟨fun h58 hh => ?_, fun h35 hk0 h32 => ?_, fun hf hm => q.2.2.2.2 hf ((flows_iff _).2 hm)⟩]
        · rfl
        · have key := q.2.1.2.1 ((toI _ 58).2 h58)
          rcases hh with hh | hh
          · exact key.1 (bytes_out l (k + 1) (by omega) _)
          · rcases Nat.lt_or_ge (k + 1) l.length with h | h
            · rw [bytes_get l (k + 1) h] at key
              exact key.2 ((toI _ 32).2 hh)
            · exact key.1 (bytes_out l (k + 1) (by omega) _)
        · have key := q.2.1.2.2 ((toI _ 35).2 h35)
          rw [if_neg (by omega), bytes_get l (k - 1) (by omega)] at key
          exact key ((toI _ 32).2 h32)
  · rw [if_neg hv, if_neg hv]
    rfl
end Go.Proofs.YtkliecngkcjieaaGreatDoor

set_option maxRecDepth 100000
namespace Go.Proofs.YtkliecngkcjieaaGreatDoor
open Pl On
open Go.Lib (decDigits itoa)
/-! texts that look like numbers -/
theorem has_sign (c : UInt8) : has [43, 45] (c.toNat : Int) = amU c [43, 45] := all256 (fun c => has [43, 45] (c.toNat : Int) = amU c [43, 45]) (by decide +kernel) c
theorem has_point (c : UInt8) : has [46] (c.toNat : Int) = amU c [46] := all256 (fun c => has [46] (c.toNat : Int) = amU c [46]) (by decide +kernel) c
theorem has_num (c : UInt8) : has numSigns (c.toNat : Int) = amU c numU := all256 (fun c => has numSigns (c.toNat : Int) = amU c numU) (by decide +kernel) c
theorem dig_same (c : UInt8) : digB (c.toNat : Int) = digU c := by
  unfold digB digU
  rw [decide_eq_decide]
  omega
theorem drop_same (m : List Int) (m' : List UInt8) (h : ∀ c : UInt8, has m (c.toNat : Int) = amU c m') (l : List UInt8) : dropIf m l = dropU m' l := by
  cases l with
  | nil => rfl
  | cons b t =>
    rw [dropIf_cons, h]
    rfl
theorem behind_same (l : List UInt8) : behindS l = behindU l := by
  unfold behindS behindU
  rw [drop_same [46] [46] has_point, drop_same [43, 45] [43, 45] has_sign]
theorem high_head (b : UInt8) (t : List UInt8) (h : 128 ≤ b.toNat) : 128 ≤ (Go.Lib.decodeL (b :: t)).1 := by
  rw [Go.Lib.decodeL_N]
  have e : ((b :: t).getD 0 0).toNat = b.toNat := rfl
  rcases Go.Lib.decodeN_shape (b :: t).length ((b :: t).getD 0 0).toNat ((b :: t).getD 1 0).toNat ((b :: t).getD 2 0).toNat ((b :: t).getD 3 0).toNat with ⟨c, e⟩ | ⟨c1, c2, c3, cv, e⟩ | ⟨c1, c2, c3, c4, cv, cs, e⟩ | ⟨c1, c2, c3, c4, c5, cv, cw, e⟩ | e
  all_goals rw [e]
  all_goals (dsimp only; omega)
theorem high_rune : ∀ (n : Nat) (l : List UInt8), l.length ≤ n → (∃ b ∈ l, 128 ≤ b.toNat) → ∃ r ∈ runesOf l, 128 ≤ r
  | 0, l, hn, h => by
    obtain ⟨b, hb, _⟩ := h
    have : l = [] := List.eq_nil_of_length_eq_zero (by omega)
    subst this
    cases hb
  | n + 1, l, hn, h => by
    cases l with
    | nil => obtain ⟨b, hb, _⟩ := h; cases hb
    | cons b t =>
      by_cases hb : b.toNat < 128
      · rw [runesOf_cons b t hb]
        obtain ⟨c, hc, hc2⟩ := h
        have hct : c ∈ t := by
          rcases List.mem_cons.1 hc with rfl | h
          · omega
          · exact h
        obtain ⟨r, hr, hr2⟩ := high_rune n t (by simpa using hn) ⟨c, hct, hc2⟩
        exact ⟨r, List.mem_cons_of_mem _ hr, hr2⟩
      · rw [runesOf_step _ (by simp)]
        exact ⟨_, List.mem_cons_self, by have := high_head b t (by omega); omega⟩
theorem lookU_low (c : UInt8) : lookU c = true → c.toNat < 128 := all256 (fun c => lookU c = true → c.toNat < 128) (by decide +kernel) c
theorem rulesN_iff (a s b : Int) : allF rulesN a s b = true ↔ (a = -1 → digB s = true) ∧ (digB s = true ∨ has numSigns s = true) := by
  have h1 : rDigit a s b = true ↔ (a = -1 → digB s = true) := by
    unfold rDigit
    by_cases h : a = -1
    · rw [if_neg (by simpa using h)]; simp [h]
    · rw [if_pos h]; simp [h]
  have h2 : rDigitOr numSigns a s b = true ↔ (digB s = true ∨ has numSigns s = true) := by
    unfold rDigitOr
    by_cases h : digB s = true
    · rw [if_pos h]; simp [h]
    · rw [if_neg h]; simp [h]
  simp only [allF, rulesN, List.all_cons, List.all_nil, Bool.and_true, Bool.and_eq_true, h1, h2]
theorem num_high (r : Int) (h : 128 ≤ r) : ¬ (digB r = true ∨ has numSigns r = true) := by
  rintro (h1 | h1)
  · unfold digB at h1
    have := of_decide_eq_true h1
    omega
  · unfold has at h1
    have := of_decide_eq_true h1
    simp only [numSigns, List.mem_cons, List.not_mem_nil, or_false] at this
    omega
theorem looks_body_eq (t : List UInt8) (hne : t ≠ []) : allT (allF rulesN) (-1) (runesOf t) = (digU (t.getD 0 0) && t.all lookU) := by
  have hl : 0 < t.length := List.length_pos_iff.2 hne
  by_cases hh : ∃ b ∈ t, 128 ≤ b.toNat
  · have h1 : t.all lookU = false := by
      obtain ⟨b, hb, hb2⟩ := hh
      rw [List.all_eq_false]
      exact ⟨b, hb, fun h => by have := lookU_low b h; omega⟩
    rw [h1, Bool.and_false, ← Bool.not_eq_true, allT_iff]
    intro h
    obtain ⟨r, hr, hr2⟩ := high_rune _ t (Nat.le_refl _) hh
    obtain ⟨j, hj, e⟩ := List.getElem_of_mem hr
    have := ((rulesN_iff _ _ _).1 (h j hj)).2
    rw [List.getD_eq_getElem?_getD, List.getElem?_eq_getElem hj] at this
    simp only [Option.getD_some] at this
    rw [e] at this
    exact num_high r hr2 this
  · have hlow : ∀ b ∈ t, b.toNat < 128 := fun b hb => by
      rcases Nat.lt_or_ge b.toNat 128 with h | h
      · exact h
      · exact absurd ⟨b, hb, h⟩ hh
    rw [(ascii_runes t hlow).1, Bool.eq_iff_iff, Bool.and_eq_true, allT_iff, bytes_len, List.all_eq_true]
    constructor
    · intro h
      have hk := fun k (hk : k < t.length) => (rulesN_iff _ _ _).1 (h k hk)
      refine ⟨?_, fun x hx => ?_⟩
      · have := (hk 0 hl).1 rfl
        rw [bytes_get t 0 hl, dig_same] at this
        exact this
      · obtain ⟨j, hj, e⟩ := List.getElem_of_mem hx
        have := (hk j hj).2
        rw [bytes_get t j hj, dig_same, has_num, List.getD_eq_getElem?_getD, List.getElem?_eq_getElem hj] at this
        simp only [Option.getD_some] at this
        rw [e] at this
        unfold lookU
        rw [Bool.or_eq_true]
        exact this
    · rintro ⟨h0, h⟩ k hk
      rw [rulesN_iff, bytes_get t k hk, dig_same, has_num]
      refine ⟨fun ha => ?_, ?_⟩
      · have hk0 : k = 0 := by
          by_cases hk0 : k = 0
          · exact hk0
          · rw [if_neg hk0, bytes_get t (k - 1) (by omega)] at ha; omega
        subst hk0
        exact h0
      · have := h t[k] (List.getElem_mem _)
        unfold lookU at this
        rw [Bool.or_eq_true] at this
        rw [List.getD_eq_getElem?_getD, List.getElem?_eq_getElem hk]
        exact this
theorem looksS_eq (l : List UInt8) : looksS l = looksR l := by
  unfold looksS looksR
  rw [behind_same]
  by_cases h : behindU l = []
  · rw [if_pos h, if_pos h]
  · rw [if_neg h, if_neg h, looks_body_eq _ h]
/-! numbers -/
theorem digU_iff (b : UInt8) : digU b = true ↔ isDig b := by unfold digU isDig; exact decide_eq_true_iff
theorem dec_fold : ∀ (l : List UInt8) (u : Nat), 1 ≤ u → (∀ b ∈ l, digU b = true) → decDigits (l.foldl stepD u) = decDigits u ++ l
  | [], u, _, _ => by simp
  | b :: t, u, hu, h => by
    have hb := (digU_iff b).1 (h b (by simp))
    unfold isDig at hb
    have hs : 1 ≤ stepD u b := by unfold stepD; omega
    rw [List.foldl_cons, dec_fold t (stepD u b) hs (fun c hc => h c (List.mem_cons_of_mem _ hc))]
    have h10 : ¬ stepD u b < 10 := by unfold stepD; omega
    have e1 : stepD u b / 10 = u := by unfold stepD; omega
    have e2 : 48 + stepD u b % 10 = b.toNat := by unfold stepD; omega
    rw [decDigits_big h10, e1, e2]
    simp
theorem dec_val (l : List UInt8) (hne : l ≠ []) (h : ∀ b ∈ l, digU b = true) (h48 : l.getD 0 0 = 48 → l = [48]) : decDigits (valD l) = l := by
  cases l with
  | nil => exact absurd rfl hne
  | cons b t =>
    have hb := (digU_iff b).1 (h b (by simp))
    unfold isDig at hb
    by_cases hb48 : b = 48
    · have := h48 hb48
      rw [this]
      show decDigits 0 = _
      exact Go.Lib.decDigits_one (by decide)
    · have hgt : 49 ≤ b.toNat := by
        have : b.toNat ≠ 48 := fun e => hb48 (UInt8.toNat_inj.1 (by rw [e]; rfl))
        omega
      have hs : stepD 0 b = b.toNat - 48 := by unfold stepD; omega
      show decDigits (t.foldl stepD (stepD 0 b)) = _
      rw [hs, dec_fold t _ (by omega) (fun c hc => h c (List.mem_cons_of_mem _ hc)), Go.Lib.decDigits_one (by omega), show 48 + (b.toNat - 48) = b.toNat by omega]
      simp
theorem okD_iff (l d : List UInt8) : okD l d = true ↔ d ≠ [] ∧ d.length ≤ 15 ∧ (d.getD 0 0 = 48 → l = [48]) ∧ ∀ b ∈ d, digU b = true := by
  unfold okD
  rw [Bool.and_eq_true, Bool.and_eq_true, Bool.and_eq_true, List.all_eq_true, decide_eq_true_iff]
  have e1 : ((!d.isEmpty) = true) ↔ d ≠ [] := by cases d <;> simp
  have e2 : ((!(d.getD 0 0 == 48 && !(l == [48]))) = true) ↔ (d.getD 0 0 = 48 → l = [48]) := by
    by_cases h1 : d.getD 0 0 = 48
    · by_cases h2 : l = [48] <;> simp [h2]
    · rw [show (d.getD 0 0 == 48) = false from beq_eq_false_iff_ne.2 h1]
      simp only [Bool.false_and, Bool.not_false, true_iff]
      exact fun h => absurd h h1
  rw [e1, e2]
  constructor
  · rintro ⟨⟨a, b⟩, c, d⟩; exact ⟨a, b, c, d⟩
  · rintro ⟨a, b, c, d⟩; exact ⟨⟨a, b⟩, c, d⟩
theorem nDigits_15 (u : Nat) (h : u ≤ 999999999999999) : Go.Lib.nDigits u ≤ 15 := by
  rcases Nat.lt_or_ge 15 (Go.Lib.nDigits u) with h17 | h17
  · exfalso
    have key : ∀ (k u : Nat), k + 1 ≤ Go.Lib.nDigits u → 10 ^ k ≤ u ∨ k = 0 := by
      intro k
      induction k with
      | zero => intro u _; exact .inr rfl
      | succ k ih =>
        intro u hu
        left
        by_cases h10 : u < 10
        · rw [Go.Lib.nDigits_small h10] at hu; omega
        · rw [Go.Lib.nDigits_big h10] at hu
          rcases ih (u / 10) (by omega) with h | rfl
          · rw [Nat.pow_succ]; omega
          · simp; omega
    rcases key 15 u h17 with h1 | h1
    · have e : (10 : Nat) ^ 15 = 1000000000000000 := by decide
      omega
    · cases h1
  · exact h17
theorem numB_bd {l : List UInt8} {v : Int} (h : numB l = some v) : itoa v = l ∧ -999999999999999 ≤ v ∧ v ≤ 999999999999999 := by
  refine ⟨numB_itoa_of h, ?_⟩
  unfold numB at h
  split at h
  · split at h
    · split at h
      · rename_i hb
        cases h; exact hb
      · cases h
    · cases h
  · cases h
theorem dec_nought (u : Nat) (h : decDigits u = [48]) : u = 0 := by
  have := decNat_digits u
  rw [h] at this
  have e : Go.Lib.decNat [48] = some 0 := by decide
  rw [e] at this
  exact (Option.some.inj this).symm
theorem numS_eq (l : List UInt8) : numS l = numB l := by
  unfold numS
  by_cases hb : l.getD 0 0 = 45 ∧ l ≠ []
  · rw [if_pos hb]
    obtain ⟨h45, hne⟩ := hb
    cases l with
    | nil => exact absurd rfl hne
    | cons b d =>
      have h45' : b = 45 := h45
      subst h45'
      rw [List.drop_succ_cons, List.drop_zero]
      by_cases ho : okD (45 :: d) d = true
      · rw [if_pos ho]
        obtain ⟨h1, h2, h3, h4⟩ := (okD_iff _ _).1 ho
        have hn48 : d.getD 0 0 ≠ 48 := fun h => by have := h3 h; injection this with h _; cases h
        have hd := dec_val d h1 h4 (fun h => absurd h hn48)
        have hv := valD_lt d h4 h2
        have hpos : 1 ≤ valD d := by
          rcases Nat.eq_zero_or_pos (valD d) with h | h
          · rw [h] at hd
            have e0 : decDigits 0 = [48] := Go.Lib.decDigits_one (by decide)
            rw [e0] at hd
            rw [← hd] at hn48
            exact absurd rfl hn48
          · exact h
        have hi : itoa (-(valD d : Int)) = 45 :: d := by
          unfold itoa
          rw [if_pos (by omega), show (-(valD d : Int)).natAbs = valD d by omega, hd]
        have := numB_itoa (-(valD d : Int)) (by omega) (by omega)
        rw [hi, if_pos (by omega)] at this
        exact this.symm
      · rw [if_neg ho]
        cases hn : numB (45 :: d) with
        | none => rfl
        | some v =>
          exfalso
          obtain ⟨hi, b1, b2⟩ := numB_bd hn
          unfold itoa at hi
          split at hi
          · rename_i hneg
            injection hi with _ hd
            refine ho ((okD_iff _ _).2 ⟨by rw [← hd]; exact decDigits_ne _, by rw [← hd, Go.Lib.decDigits_length]; exact nDigits_15 _ (by omega), fun h => ?_, fun b hb => (digU_iff b).2 (decDigits_dig _ _ (Nat.le_refl _) b (by rw [hd]; exact hb))⟩)
            exfalso
            cases d with
            | nil => cases h
            | cons c t =>
              have hc : c = 48 := h
              subst hc
              have ht := decDigits_head _ _ (Nat.le_refl _) t hd
              subst ht
              have := dec_nought _ hd
              omega
          · obtain ⟨c, t, e2, hb⟩ := head_dig v.toNat
            rw [e2] at hi
            injection hi with e _
            exact dig_ne hb 45 (by decide) e
  · rw [if_neg hb]
    by_cases ho : okD l l = true
    · rw [if_pos ho]
      obtain ⟨h1, h2, h3, h4⟩ := (okD_iff _ _).1 ho
      have hd := dec_val l h1 h4 h3
      have hv := valD_lt l h4 h2
      have hi : itoa (valD l : Int) = l := by
        unfold itoa
        rw [if_neg (by omega)]
        simpa using hd
      have := numB_itoa (valD l : Int) (by omega) (by omega)
      rw [hi, if_pos (by omega)] at this
      exact this.symm
    · rw [if_neg ho]
      cases hn : numB l with
      | none => rfl
      | some v =>
        exfalso
        obtain ⟨hi, b1, b2⟩ := numB_bd hn
        unfold itoa at hi
        split at hi
        · exact hb ⟨by rw [← hi]; rfl, by rw [← hi]; simp⟩
        · refine ho ((okD_iff _ _).2 ⟨by rw [← hi]; exact decDigits_ne _, by rw [← hi, Go.Lib.decDigits_length]; exact nDigits_15 _ (by omega), fun h => ?_, fun b hb => (digU_iff b).2 (decDigits_dig _ _ (Nat.le_refl _) b (by rw [hi]; exact hb))⟩)
          cases l with
          | nil => cases h
          | cons c t =>
            have hc : c = 48 := h
            subst hc
            rw [decDigits_head _ _ (Nat.le_refl _) t hi]
end Go.Proofs.YtkliecngkcjieaaGreatDoor
