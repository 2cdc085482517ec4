/- A scalar's text, and the scalar of a text: they tell each other. Conditions: none; nothing of the program is run here. -/
import Derived.Test.YtkliecngkcjieaaGreatDoorDgt
import Derived.Test.YtkliecngkcjieaaGreatDoorQuo
import Derived.Test.YtkliecngkcjieaaGreatDoorOrdx
set_option maxRecDepth 100000
namespace Go.Proofs.YtkliecngkcjieaaGreatDoor
open Go.Lib
open Pl Scs Quo
def textL (x : Sc) : List UInt8 :=
  if x.1 = 0 then [110, 117, 108, 108] else if x.1 = 1 then (if x.2.1 = 1 then [116, 114, 117, 101] else [102, 97, 108, 115, 101]) else if x.1 = 2 then itoa x.2.1
  else if validD x.2.2.data.toList = true then quoteL x.2.2.data.toList else []
def rightS (x : Sc) : Bool := rightR x.1 x.2.1 x.2.2.data.toList
def zeroS : Sc := (0, 0, ⟨#[]⟩)
def ofL (l : List UInt8) : ByteArray := ⟨l.toArray⟩
theorem ofL_list (l : List UInt8) : (ofL l).data.toList = l := rfl
/-- what scal.Text answers -/
def textT (x : Sc) : ByteArray := if rightS x = true then ofL (textL x) else ⟨#[]⟩
def textE (x : Sc) : Int := if rightS x = true then 0 else 60
/-- what a text says -/
def saidS (s : ByteArray) : Option Sc :=
  if s.data.toList.head? = some 34 then
    (if validD s.data.toList = true then (match readL (s.data.toList.drop 1) with | .ok T _ => some (3, 0, ofL T) | .err _ => none) else none)
  else if (resolveR s).e = 0 then some ((resolveR s).k, (resolveR s).n, (resolveR s).s) else none
def readS (s : ByteArray) : Sc × Int := match saidS s with
  | some x => if textL x = s.data.toList then (x, 0) else (zeroS, 60)
  | none => (zeroS, 60)
theorem ba_nil' (S : ByteArray) (h : S.data.toList = []) : S = ⟨#[]⟩ := ba_ext (by rw [h])
theorem right_cases {x : Sc} (h : rightS x = true) :
    x = (0, 0, ⟨#[]⟩) ∨ x = (1, 0, ⟨#[]⟩) ∨ x = (1, 1, ⟨#[]⟩) ∨ (∃ n : Int, -999999999999999 ≤ n ∧ n ≤ 999999999999999 ∧ x = (2, n, ⟨#[]⟩)) ∨ ∃ s : ByteArray, validD s.data.toList = true ∧ x = (3, 0, s) := by
  obtain ⟨k, n, s⟩ := x
  unfold rightS rightR at h
  simp only [beq_iff_eq] at h
  have nil : s.data.toList.isEmpty = true → s = ⟨#[]⟩ := fun e => ba_nil' s (List.isEmpty_iff.1 e)
  by_cases h0 : k = 0
  · rw [if_pos h0] at h
    by_cases h1 : n = 0
    · rw [if_pos h1] at h; left; rw [h0, h1, nil h]
    · rw [if_neg h1] at h; cases h
  · rw [if_neg h0] at h
    by_cases h1 : k = 1
    · rw [if_pos h1] at h
      by_cases h2 : n = 0
      · rw [if_pos h2] at h; right; left; rw [h1, h2, nil h]
      · rw [if_neg h2] at h
        by_cases h3 : n = 1
        · rw [if_pos h3] at h; right; right; left; rw [h1, h3, nil h]
        · rw [if_neg h3] at h; cases h
    · rw [if_neg h1] at h
      by_cases h2 : k = 2
      · rw [if_pos h2] at h
        by_cases h3 : -999999999999999 ≤ n
        · rw [if_pos h3] at h
          by_cases h4 : n ≤ 999999999999999
          · rw [if_pos h4] at h; right; right; right; left; exact ⟨n, h3, h4, by rw [h2, nil h]⟩
          · rw [if_neg h4] at h; cases h
        · rw [if_neg h3] at h; cases h
      · rw [if_neg h2] at h
        by_cases h3 : k = 3
        · rw [if_pos h3] at h
          by_cases h4 : n = 0
          · rw [if_pos h4] at h; right; right; right; right; exact ⟨s, h, by rw [h3, h4]⟩
          · rw [if_neg h4] at h; cases h
        · rw [if_neg h3] at h; cases h
theorem right_null : rightS (0, 0, ⟨#[]⟩) = true := by decide
theorem right_bool (b : Bool) : rightS (1, if b = true then 1 else 0, ⟨#[]⟩) = true := by cases b <;> decide
theorem right_int (n : Int) (h1 : -999999999999999 ≤ n) (h2 : n ≤ 999999999999999) : rightS (2, n, ⟨#[]⟩) = true := by
  unfold rightS rightR
  simp only [show ((2 : Int) == 0) = false from rfl, show ((2 : Int) == 1) = false from rfl, show ((2 : Int) == 2) = true from rfl, Bool.false_eq_true, if_false, if_true]
  rw [if_pos h1, if_pos h2]
  rfl
theorem right_str (s : ByteArray) (h : validD s.data.toList = true) : rightS (3, 0, s) = true := by
  unfold rightS rightR
  simp only [show ((3 : Int) == 0) = false from rfl, show ((3 : Int) == 1) = false from rfl, show ((3 : Int) == 2) = false from rfl, show ((3 : Int) == 3) = true from rfl, Bool.false_eq_true, if_false, if_true]
  exact h
theorem numB_in {l : List UInt8} {n : Int} (h : numB l = some n) : -999999999999999 ≤ n ∧ n ≤ 999999999999999 := by
  unfold numB at h
  split at h
  · split at h
    · split at h
      · rename_i hb; cases h; exact hb
      · cases h
    · cases h
  · cases h
theorem words_val (l : List UInt8) : ∀ v, lookW l wordsW = some v → (∀ n, v ≠ .int n) ∧ v ≠ .text := by
  intro v h
  simp only [wordsW, lookW] at h
  repeat' split at h
  all_goals first | (cases h; done) | (cases h; exact ⟨(fun _ h => by cases h), (fun h => by cases h)⟩)
theorem valOf_num_in {l : List UInt8} {n : Int} (h : valOf l = .int n) : numB l = some n := by
  unfold valOf at h
  split at h
  · rename_i v hv
    exact absurd h ((words_val l v hv).1 n)
  · split at h
    · split at h
      · rename_i m hm; cases h; exact hm
      · cases h
    · cases h
/-- what is said is a scalar of some kind; a text's, if that is right -/
theorem said_kind {s : ByteArray} {x : Sc} (h : saidS s = some x) : (∃ T, x = (3, 0, ofL T)) ∨ rightS x = true := by
  unfold saidS at h
  split at h
  · split at h
    · split at h
      · cases h; exact .inl ⟨_, rfl⟩
      · cases h
    · cases h
  · split at h
    · rename_i he
      cases h
      right
      revert he
      unfold resolveR
      split
      · intro he; exact absurd he (by decide)
      · rename_i hm
        intro he
        cases hv : valOf s.data.toList with
        | null => exact right_null
        | bool b => exact right_bool b
        | none => rw [hv] at he; simp [Val.res] at he
        | int n =>
          obtain ⟨b1, b2⟩ := numB_in (valOf_num_in hv)
          exact right_int n b1 b2
        | text =>
          by_cases hne : s.data.toList = []
          · rw [hne] at hv
            rw [show valOf [] = .null from rfl] at hv
            cases hv
          · cases hm2 : mayR false s.data.toList with
            | false => exact absurd ⟨hne, hm2⟩ hm
            | true => exact right_str s (may_valid hm2).1
    · cases h
theorem said_in {s : ByteArray} {x : Sc} (h : saidS s = some x) : x.1 = 0 ∨ x.1 = 1 ∨ x.1 = 2 ∨ (x.1 = 3 ∧ x.2.1 = 0) := by
  rcases said_kind h with ⟨T, rfl⟩ | h
  · exact .inr (.inr (.inr ⟨rfl, rfl⟩))
  · rcases right_cases h with rfl | rfl | rfl | ⟨n, _, _, rfl⟩ | ⟨s, _, rfl⟩ <;> simp
theorem read_ok {s : ByteArray} {x : Sc} (h : readS s = (x, 0)) : rightS x = true ∧ textL x = s.data.toList := by
  unfold readS at h
  cases hs : saidS s with
  | none => rw [hs] at h; simp at h
  | some y =>
    rw [hs] at h
    simp only at h
    split at h
    · rename_i ht
      cases h
      refine ⟨?_, ht⟩
      rcases said_kind hs with ⟨T, rfl⟩ | h
      · cases hv : validD T with
        | true => exact right_str _ hv
        | false =>
          exfalso
          have : textL (3, 0, ofL T) = [] := by
            unfold textL
            simp [ofL, hv]
          rw [this] at ht
          have h2 : saidS s = some (0, 0, ⟨#[]⟩) := by
            have hr : resolveR s = ⟨0, 0, ⟨#[]⟩, 0⟩ := by
              unfold resolveR
              rw [if_neg (fun h => h.1 ht.symm), ← ht]
              rfl
            unfold saidS
            rw [if_neg (by rw [← ht]; simp), hr]
            rfl
          rw [h2] at hs
          cases hs
      · exact h
    · cases h
theorem read_no {s : ByteArray} (h : (readS s).2 ≠ 0) : readS s = (zeroS, 60) := by
  unfold readS at h ⊢
  cases hs : saidS s with
  | none => rfl
  | some y =>
    rw [hs] at h
    simp only at h ⊢
    split
    · rename_i ht; rw [if_pos ht] at h; exact absurd rfl h
    · rfl
/-- ████ A SCALAR IS READ FROM ITS TEXT. -/
theorem res_itoa (n : Int) (h1 : -999999999999999 ≤ n) (h2 : n ≤ 999999999999999) : resolveR (ofL (itoa n)) = ⟨2, n, ⟨#[]⟩, 0⟩ := by
  by_cases h : n < 0
  · have e : itoa n = 45 :: decDigits n.natAbs := by unfold itoa; rw [if_pos h]
    rw [e, res_mown _ n.natAbs (by omega) (by omega) (ofL_list _), if_pos (by omega)]
    congr 1
    omega
  · have e : itoa n = decDigits n.toNat := by unfold itoa; rw [if_neg h]
    rw [e, res_own _ n.toNat (by omega) (ofL_list _), if_pos (by omega)]
    congr 1
    omega
theorem itoa_head (n : Int) : (itoa n).head? ≠ some 34 := by
  unfold itoa
  split
  · simp
  · obtain ⟨b, t, e, hb⟩ := head_dig n.toNat
    rw [e]
    intro h
    simp at h
    subst h
    unfold isDig at hb
    exact absurd hb (by decide)
theorem read_text {x : Sc} (h : rightS x = true) : readS (ofL (textL x)) = (x, 0) := by
  rcases right_cases h with rfl | rfl | rfl | ⟨n, h1, h2, rfl⟩ | ⟨s, hv, rfl⟩
  · have : saidS (ofL (textL (0, 0, ⟨#[]⟩))) = some (0, 0, ⟨#[]⟩) := by decide +kernel
    unfold readS; rw [this]; rfl
  · have : saidS (ofL (textL (1, 0, ⟨#[]⟩))) = some (1, 0, ⟨#[]⟩) := by decide +kernel
    unfold readS; rw [this]; rfl
  · have : saidS (ofL (textL (1, 1, ⟨#[]⟩))) = some (1, 1, ⟨#[]⟩) := by decide +kernel
    unfold readS; rw [this]; rfl
  · have e : textL (2, n, ⟨#[]⟩) = itoa n := by unfold textL; simp
    have : saidS (ofL (textL (2, n, ⟨#[]⟩))) = some (2, n, ⟨#[]⟩) := by
      unfold saidS
      rw [e, ofL_list, if_neg (itoa_head n), res_itoa n h1 h2]
      rfl
    unfold readS
    rw [this]
    simp only [ofL_list]
    rw [if_pos trivial]
  · have e : textL (3, 0, s) = quoteL s.data.toList := by unfold textL; simp [hv]
    have : saidS (ofL (textL (3, 0, s))) = some (3, 0, s) := by
      unfold saidS
      rw [e, ofL_list, if_pos (show (quoteL s.data.toList).head? = some 34 from rfl), if_pos (valid_quote _ hv), read_quote]
      simp only [ofL]
    unfold readS
    rw [this]
    simp only [ofL_list]
    rw [if_pos trivial]
theorem text_inj {x y : Sc} (hx : rightS x = true) (hy : rightS y = true) (h : textL x = textL y) : x = y := by
  have h1 := read_text hx
  rw [h, read_text hy] at h1
  cases h1
  rfl
theorem text_len {x : Sc} (h : rightS x = true) (hs : x.2.2.size ≤ 100) : (textL x).length ≤ 402 := by
  rcases right_cases h with rfl | rfl | rfl | ⟨n, h1, h2, rfl⟩ | ⟨s, hv, rfl⟩
  · decide
  · decide
  · decide
  · have e : textL (2, n, ⟨#[]⟩) = itoa n := by unfold textL; simp
    rw [e]
    have := itoa_len n (by omega) (by omega)
    omega
  · have e : textL (3, 0, s) = quoteL s.data.toList := by unfold textL; simp [hv]
    rw [e]
    have key : ∀ l : List UInt8, (l.flatMap qb).length ≤ 4 * l.length := by
      intro l
      induction l with
      | nil => simp
      | cons b t ih =>
        rw [List.flatMap_cons, List.length_append, List.length_cons]
        have h4 : (qb b).length ≤ 4 := by
          unfold qb
          repeat' split
          all_goals simp
        omega
    have h2 := key s.data.toList
    have hs' : s.size ≤ 100 := hs
    have h3 : s.data.toList.length = s.size := by rw [Array.length_toList]; rfl
    unfold quoteL
    rw [List.length_cons, List.length_append, List.length_singleton]
    omega
end Go.Proofs.YtkliecngkcjieaaGreatDoor
