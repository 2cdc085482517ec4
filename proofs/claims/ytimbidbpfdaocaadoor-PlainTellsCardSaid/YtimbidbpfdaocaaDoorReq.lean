/- What the reference tells of texts is what the program tells: whether they may stand plain, look like numbers, and which number. Conditions: none; nothing of the program is run here. -/
import Derived.Test.YtimbidbpfdaocaaDoorRmy
import Derived.Test.YtimbidbpfdaocaaDoorRnb
import Derived.Test.YtimbidbpfdaocaaDoorDgt
namespace Go.Proofs.YtimbidbpfdaocaaDoor
open Pl On
theorem all256 (p : UInt8 → Prop) [∀ x, Decidable (p x)] (h : ∀ n : Fin 256, p (UInt8.ofNat n.1)) (b : UInt8) : p b := by
  have e := h ⟨b.toNat, b.toNat_lt⟩
  simpa using e
/-! may a text stand plain -/
theorem allT_all (g : Int → Bool) (f : Trip) (h : ∀ a s b, f a s b = g s) : ∀ (l : List Int) (a : Int), allT f a l = l.all g
  | [], _ => rfl
  | s :: t, a => by
    show (f a s _ && allT f s t) = (g s && t.all g)
    rw [h, allT_all g f h t s]
theorem plainS_eq (l : List UInt8) : plainS l = if Go.Lib.validD l = true then (bytesOf l).all plainI else false := by
  unfold plainS
  by_cases hv : Go.Lib.validD l = true
  · rw [if_pos hv, if_pos hv, ← allT_all plainI rPlain (fun _ _ _ => rfl) (runesOf l) (-1), allT_same pl_plain l (-1) hv, allT_all plainI rPlain (fun _ _ _ => rfl)]
  · rw [if_neg hv, if_neg hv]
theorem allT_iff (f : Trip) : ∀ (l : List Int) (a : Int), allT f a l = true ↔ ∀ k, k < l.length → f (if k = 0 then a else l.getD (k - 1) 0) (l.getD k 0) (l.getD (k + 1) (-1)) = true
  | [], _ => ⟨fun _ k hk => absurd hk (Nat.not_lt_zero _), fun _ => rfl⟩
  | s :: t, a => by
    have ih := allT_iff f t s
    have e0 : t.headD (-1) = (s :: t).getD 1 (-1) := by cases t <;> rfl
    show (f a s (t.headD (-1)) && allT f s t) = true ↔ _
    rw [Bool.and_eq_true, ih, e0]
    constructor
    · rintro ⟨h0, h⟩ k hk
      cases k with
      | zero => exact h0
      | succ k =>
        have h' := h k (by simpa using hk)
        cases k with
        | zero => exact h'
        | succ j => exact h'
    · intro h
      refine ⟨h 0 (by simp), fun k hk => ?_⟩
      have h' := h (k + 1) (by simpa using hk)
      cases k with
      | zero => exact h'
      | succ j => exact h'
theorem has_iff (l : List Int) (x : Int) : has l x = true ↔ x ∈ l := by unfold has; exact decide_eq_true_iff
theorem has_not (l : List Int) (x : Int) : (!has l x) = true ↔ x ∉ l := by unfold has; simp
theorem mark_iff (a s b : Int) : rMark a s b = true ↔ ((s = 45 ∨ s = 63) → a = -1 → (b ≠ -1 ∧ b ≠ 32)) ∧ (s = 58 → b ≠ -1 ∧ b ≠ 32) ∧ (s = 35 → a ≠ 32) := by
  have hm : markB b = true ↔ (b ≠ -1 ∧ b ≠ 32) := by unfold markB; simp
  have ha : (a != -1) = true ↔ a ≠ -1 := by simp
  unfold rMark
  by_cases h1 : s = 45
  · subst h1
    simp only [beq_self_eq_true, if_true]
    by_cases h : a = -1
    · rw [if_neg (by simp [h]), hm]; simp [h]
    · rw [if_pos (ha.2 h)]; simp [h]
  · rw [if_neg (by simpa using h1)]
    by_cases h2 : s = 63
    · subst h2
      simp only [beq_self_eq_true, if_true]
      by_cases h : a = -1
      · rw [if_neg (by simp [h]), hm]; simp [h]
      · rw [if_pos (ha.2 h)]; simp [h]
    · rw [if_neg (by simpa using h2)]
      by_cases h3 : s = 58
      · subst h3
        simp only [beq_self_eq_true, if_true]
        rw [hm]; simp
      · rw [if_neg (by simpa using h3)]
        by_cases h4 : s = 35
        · subst h4
          simp
        · rw [if_neg (by simpa using h4)]
          simp [h1, h2, h3, h4]
theorem ok_iff (flow : Bool) (a s b : Int) : okB flow a s b = true ↔
    (32 ≤ s ∧ s ≠ 127) ∧ (((s = 45 ∨ s = 63) → a = -1 → (b ≠ -1 ∧ b ≠ 32)) ∧ (s = 58 → b ≠ -1 ∧ b ≠ 32) ∧ (s = 35 → a ≠ 32)) ∧ (a = -1 → s ∉ heads) ∧ (b = -1 → s ≠ 32) ∧ (flow = true → s ∉ flows) := by
  have hf : rFirst heads a s b = true ↔ (a = -1 → s ∉ heads) := by
    unfold rFirst
    by_cases h : a = -1
    · rw [if_neg (by simpa using h), has_not]; simp [h]
    · rw [if_pos h]; simp [h]
  have hl : rLast [32] a s b = true ↔ (b = -1 → s ≠ 32) := by
    unfold rLast
    by_cases h : b = -1
    · rw [if_neg (by simpa using h), has_not]; simp [h]
    · rw [if_pos h]; simp [h]
  have hp : rPlain a s b = true ↔ (32 ≤ s ∧ s ≠ 127) := by unfold rPlain; exact decide_eq_true_iff
  unfold okB rulesOf
  cases flow
  · rw [if_neg (by decide)]
    simp only [allF, rules4, List.all_cons, List.all_nil, Bool.and_true, Bool.and_eq_true, hf, hl, hp, mark_iff]
    simp
  · rw [if_pos rfl]
    have hn : rNo flows a s b = true ↔ s ∉ flows := by unfold rNo; exact has_not _ _
    simp only [allF, rules5, List.all_cons, List.all_nil, Bool.and_true, Bool.and_eq_true, hf, hl, hp, hn, mark_iff]
    simp
theorem heads_iff (c : UInt8) : ((c.toNat : Int) ∈ heads) ↔ (c = 32 ∨ c ∈ headsU) := all256 (fun c => ((c.toNat : Int) ∈ heads) ↔ (c = 32 ∨ c ∈ headsU)) (by decide +kernel) c
theorem flows_iff (c : UInt8) : ((c.toNat : Int) ∈ flows) ↔ c ∈ flowsU := all256 (fun c => ((c.toNat : Int) ∈ flows) ↔ c ∈ flowsU) (by decide +kernel) c
theorem marks_iff (c : UInt8) : c ∈ marksU ↔ (c = 45 ∨ c = 63 ∨ c = 58) := all256 (fun c => c ∈ marksU ↔ (c = 45 ∨ c = 63 ∨ c = 58)) (by decide +kernel) c
theorem toI (c d : UInt8) : ((c.toNat : Int) = (d.toNat : Int)) ↔ c = d := ⟨fun h => UInt8.toNat_inj.1 (by omega), fun h => by rw [h]⟩
theorem bytes_len (l : List UInt8) : (bytesOf l).length = l.length := by unfold bytesOf; rw [List.length_map]
theorem bytes_get (l : List UInt8) (k : Nat) (h : k < l.length) (d : Int) : (bytesOf l).getD k d = ((l.getD k 0).toNat : Int) := by
  unfold bytesOf
  rw [List.getD_eq_getElem?_getD, List.getElem?_map, List.getElem?_eq_getElem h, List.getD_eq_getElem?_getD, List.getElem?_eq_getElem h]
  rfl
theorem bytes_out (l : List UInt8) (k : Nat) (h : ¬ k < l.length) (d : Int) : (bytesOf l).getD k d = d := by
  rw [List.getD_eq_getElem?_getD, List.getElem?_eq_none (by rw [bytes_len]; omega)]
  rfl
theorem bad_iff (flow : Bool) (l : List UInt8) (k : Nat) : badAt flow l k = false ↔ (l.getD k 0 = 58 → ¬ (k + 1 = l.length ∨ l.getD (k + 1) 0 = 32)) ∧ (l.getD k 0 = 35 → 0 < k → l.getD (k - 1) 0 ≠ 32) ∧ (flow = true → l.getD k 0 ∉ flowsU) := by
  unfold badAt amU
  rw [Bool.or_eq_false_iff, Bool.or_eq_false_iff, Bool.and_eq_false_iff, Bool.and_eq_false_iff, Bool.and_eq_false_iff, Bool.or_eq_false_iff, Bool.and_eq_false_iff]
  simp only [beq_eq_false_iff_ne, decide_eq_false_iff_not]
  constructor
  · rintro ⟨⟨h1, h2⟩, h3⟩
    refine ⟨fun e => ?_, fun e hk => ?_, fun e => ?_⟩
    · rcases h1 with h | ⟨h, h'⟩
      · exact absurd e h
      · exact fun hh => hh.elim h h'
    · rcases h2 with h | h | h
      · exact absurd e h
      · exact absurd hk h
      · exact h
    · rcases h3 with h | h
      · rw [e] at h; cases h
      · exact h
  · rintro ⟨h1, h2, h3⟩
    refine ⟨⟨?_, ?_⟩, ?_⟩
    · by_cases e : l.getD k 0 = 58
      · exact .inr ⟨fun h => h1 e (.inl h), fun h => h1 e (.inr h)⟩
      · exact .inl e
    · by_cases e : l.getD k 0 = 35
      · by_cases hk : 0 < k
        · exact .inr (.inr (h2 e hk))
        · exact .inr (.inl hk)
      · exact .inl e
    · cases flow
      · exact .inl rfl
      · exact .inr (h3 rfl)
theorem hb_iff (l : List UInt8) : headBad l = false ↔ l.getD 0 0 ≠ 32 ∧ l.getD (l.length - 1) 0 ≠ 32 ∧ l.getD 0 0 ∉ headsU ∧ (l.getD 0 0 ∈ marksU → ¬ (l.length = 1 ∨ l.getD 1 0 = 32)) := by
  unfold headBad amU
  rw [Bool.or_eq_false_iff, Bool.or_eq_false_iff, Bool.or_eq_false_iff, Bool.and_eq_false_iff, Bool.or_eq_false_iff]
  simp only [beq_eq_false_iff_ne, decide_eq_false_iff_not]
  constructor
  · rintro ⟨h1, h2, h3, h4⟩
    refine ⟨h1, h2, h3, fun e => ?_⟩
    rcases h4 with h | ⟨h, h'⟩
    · exact absurd e h
    · exact fun hh => hh.elim h h'
  · rintro ⟨h1, h2, h3, h4⟩
    refine ⟨h1, h2, h3, ?_⟩
    by_cases e : l.getD 0 0 ∈ marksU
    · exact .inr ⟨fun h => h4 e (.inl h), fun h => h4 e (.inr h)⟩
    · exact .inl e
theorem mayS_eq (flow : Bool) (l : List UInt8) : mayS flow l = mayR flow l := by
  rw [mayR_bytes]
  unfold mayS
  by_cases h0 : l = []
  · rw [if_pos h0, if_pos h0]
  rw [if_neg h0, if_neg h0, plainS_eq]
  by_cases hv : Go.Lib.validD l = true
  · rw [if_pos hv, if_pos hv]
    have hl : 0 < l.length := List.length_pos_iff.2 h0
    rw [Bool.eq_iff_iff, Bool.and_eq_true, Bool.and_eq_true, allT_iff, bytes_len, List.all_eq_true, List.all_eq_true, Bool.not_eq_true', hb_iff]
    constructor
    · rintro ⟨⟨hp, h1, h2, h3, h4⟩, hb⟩ k hk
      have hb' := (bad_iff flow l k).1 (by have := hb k (List.mem_range.2 hk); simpa using this)
      have hpk : plainI ((bytesOf l).getD k 0) = true := hp _ (by
        rw [List.getD_eq_getElem?_getD, List.getElem?_eq_getElem (by rw [bytes_len]; exact hk)]
        exact List.getElem_mem _)
      rw [ok_iff]
      rw [bytes_get l k hk] at hpk ⊢
      refine ⟨of_decide_eq_true hpk, ⟨?_, ?_, ?_⟩, ?_, ?_, ?_⟩
      · intro hs ha
        have hk0 : k = 0 := by
          by_cases hk0 : k = 0
          · exact hk0
          · rw [if_neg hk0, bytes_get l (k - 1) (by omega)] at ha; omega
        subst hk0
        have hm : l.getD 0 0 ∈ marksU := (marks_iff _).2 (by
          rcases hs with hs | hs
          · exact .inl ((toI _ 45).1 hs)
          · exact .inr (.inl ((toI _ 63).1 hs)))
        have hn := h4 hm
        have h11 : 0 + 1 < l.length := by
          rcases Nat.lt_or_ge 1 l.length with h | h
          · omega
          · exact absurd (.inl (by omega)) hn
        rw [bytes_get l (0 + 1) h11]
        exact ⟨by omega, fun h => hn (.inr ((toI _ 32).1 h))⟩
      · intro hs
        have hn := hb'.1 ((toI _ 58).1 hs)
        have h11 : k + 1 < l.length := by
          rcases Nat.lt_or_ge (k + 1) l.length with h | h
          · omega
          · exact absurd (.inl (by omega)) hn
        rw [bytes_get l (k + 1) h11]
        exact ⟨by omega, fun h => hn (.inr ((toI _ 32).1 h))⟩
      · intro hs
        by_cases hk0 : k = 0
        · rw [if_pos hk0]; decide
        · rw [if_neg hk0, bytes_get l (k - 1) (by omega)]
          exact fun h => hb'.2.1 ((toI _ 35).1 hs) (by omega) ((toI _ 32).1 h)
      · intro ha hm
        have hk0 : k = 0 := by
          by_cases hk0 : k = 0
          · exact hk0
          · rw [if_neg hk0, bytes_get l (k - 1) (by omega)] at ha; omega
        subst hk0
        rcases (heads_iff _).1 hm with h | h
        · exact h1 h
        · exact h3 h
      · intro hbk hs
        have hlast : k = l.length - 1 := by
          rcases Nat.lt_or_ge (k + 1) l.length with h | h
          · rw [bytes_get l (k + 1) h] at hbk; omega
          · omega
        rw [hlast] at hs
        exact h2 ((toI _ 32).1 hs)
      · intro hf hm
        exact hb'.2.2 hf ((flows_iff _).1 hm)
    · intro h
      have hk := fun k (hk : k < l.length) => (ok_iff _ _ _ _).1 (h k hk)
      have z := hk 0 hl
      rw [if_pos rfl, bytes_get l 0 hl] at z
      have lz := hk (l.length - 1) (by omega)
      rw [bytes_get l (l.length - 1) (by omega), bytes_out l (l.length - 1 + 1) (by omega)] at lz
      refine ⟨⟨fun x hx => ?_, fun h => z.2.2.1 rfl ((heads_iff _).2 (.inl h)), fun h => lz.2.2.2.1 rfl ((toI _ 32).2 h), fun h => z.2.2.1 rfl ((heads_iff _).2 (.inr h)), fun hm => ?_⟩, fun k hkm => ?_⟩
      · obtain ⟨j, hj, e⟩ := List.getElem_of_mem hx
        rw [bytes_len] at hj
        have := (hk j hj).1
        rw [List.getD_eq_getElem?_getD, List.getElem?_eq_getElem (by rw [bytes_len]; exact hj)] at this
        simp only [Option.getD_some] at this
        rw [e] at this
        exact decide_eq_true this
      · have key : ((bytesOf l).getD (0 + 1) (-1) ≠ -1 ∧ (bytesOf l).getD (0 + 1) (-1) ≠ 32) := by
          rcases (marks_iff _).1 hm with h | h | h
          · exact z.2.1.1 (.inl ((toI _ 45).2 h)) rfl
          · exact z.2.1.1 (.inr ((toI _ 63).2 h)) rfl
          · exact z.2.1.2.1 ((toI _ 58).2 h)
        rintro (h1 | h1)
        · exact key.1 (bytes_out l (0 + 1) (by omega) _)
        · rcases Nat.lt_or_ge 1 l.length with h | h
          · rw [bytes_get l (0 + 1) h] at key
            exact key.2 ((toI _ 32).2 h1)
          · exact key.1 (bytes_out l (0 + 1) (by omega) _)
      · have hkl := List.mem_range.1 hkm
        have q := hk k hkl
        rw [bytes_get l k hkl] at q
        rw [(bad_iff flow l k).2 ⟨fun h58 hh => ?_, fun h35 hk0 h32 => ?_, fun hf hm => q.2.2.2.2 hf ((flows_iff _).2 hm)⟩]
        · rfl
        · have key := q.2.1.2.1 ((toI _ 58).2 h58)
          rcases hh with hh | hh
          · exact key.1 (bytes_out l (k + 1) (by omega) _)
          · rcases Nat.lt_or_ge (k + 1) l.length with h | h
            · rw [bytes_get l (k + 1) h] at key
              exact key.2 ((toI _ 32).2 hh)
            · exact key.1 (bytes_out l (k + 1) (by omega) _)
        · have key := q.2.1.2.2 ((toI _ 35).2 h35)
          rw [if_neg (by omega), bytes_get l (k - 1) (by omega)] at key
          exact key ((toI _ 32).2 h32)
  · rw [if_neg hv, if_neg hv]
    rfl
end Go.Proofs.YtimbidbpfdaocaaDoor
