/- Whether a text may stand plain is told alike by its signs and by its bytes; what a letter, a blank, a mark ahead or behind makes of it. Conditions: none; nothing of the program is run here. -/
import Derived.Test.YtkliecngkcjieaaGreatDoorMay
set_option maxRecDepth 100000
namespace Go.Proofs.YtkliecngkcjieaaGreatDoor
open Pl
theorem cls_is (x y : Int) (h : y < 128) : (cls x = y) ↔ (x = y) := by unfold cls; split <;> omega
theorem cls_beq (x y : Int) (h : y < 128) : (cls x == y) = (x == y) := by
  rw [Bool.eq_iff_iff, beq_iff_eq, beq_iff_eq]; exact cls_is x y h
theorem cls_bne (x y : Int) (h : y < 128) : (cls x != y) = (x != y) := by unfold bne; rw [cls_beq x y h]
theorem has_cls (l : List Int) (h : ∀ y ∈ l, y < 128) (x : Int) : has l (cls x) = has l x := by
  unfold has
  rw [decide_eq_decide]
  constructor
  · intro hm
    have := (cls_is x (cls x) (h _ hm)).1 rfl
    rw [this]; exact hm
  · intro hm
    have := (cls_is x x (h _ hm)).2 rfl
    rw [this]; exact hm
theorem has_high (l : List Int) (h : ∀ y ∈ l, y < 128) : has l 128 = false := by
  unfold has
  rw [decide_eq_false]
  intro hm
  have := h _ hm
  omega
theorem pl_plain : Plainly rPlain true := ⟨fun a s b => by unfold rPlain cls; rw [decide_eq_decide]; split <;> omega, fun _ _ => by unfold rPlain; decide⟩
theorem mark_cls (b : Int) : markB b = markB (cls b) := by unfold markB; rw [cls_bne b (-1) (by decide), cls_bne b 32 (by decide)]
theorem pl_mark : Plainly rMark true := by
  refine ⟨fun a s b => ?_, fun _ _ => rfl⟩
  unfold rMark
  rw [cls_beq s 45 (by decide), cls_beq s 63 (by decide), cls_beq s 58 (by decide), cls_beq s 35 (by decide), cls_bne a (-1) (by decide), cls_bne a 32 (by decide), ← mark_cls]
theorem pl_first (l : List Int) (h : ∀ y ∈ l, y < 128) : Plainly (rFirst l) true := by
  refine ⟨fun a s b => ?_, fun a b => ?_⟩
  · unfold rFirst
    simp only [ne_eq, cls_is a (-1) (by decide), has_cls l h s]
  · unfold rFirst; rw [has_high l h]; split <;> rfl
theorem pl_last (l : List Int) (h : ∀ y ∈ l, y < 128) : Plainly (rLast l) true := by
  refine ⟨fun a s b => ?_, fun a b => ?_⟩
  · unfold rLast
    simp only [ne_eq, cls_is b (-1) (by decide), has_cls l h s]
  · unfold rLast; rw [has_high l h]; split <;> rfl
theorem pl_no (l : List Int) (h : ∀ y ∈ l, y < 128) : Plainly (rNo l) true := by
  refine ⟨fun a s b => ?_, fun a b => ?_⟩
  · unfold rNo; rw [has_cls l h s]
  · unfold rNo; rw [has_high l h]; rfl
theorem pl_all (fs : List Trip) (h : ∀ f ∈ fs, Plainly f true) : Plainly (allF fs) true := by
  refine ⟨fun a s b => ?_, fun a b => ?_⟩
  · unfold allF
    rw [Bool.eq_iff_iff, List.all_eq_true, List.all_eq_true]
    exact ⟨fun k f hf => by rw [← (h f hf).cls]; exact k f hf, fun k f hf => by rw [(h f hf).cls]; exact k f hf⟩
  · unfold allF
    rw [List.all_eq_true]
    exact fun f hf => (h f hf).high a b
theorem heads_lt : ∀ y ∈ heads, y < 128 := by decide
theorem flows_lt : ∀ y ∈ flows, y < 128 := by decide
theorem pl_rules (flow : Bool) : Plainly (allF (rulesOf flow)) true := by
  apply pl_all
  intro f hf
  have h4 : ∀ f ∈ rules4, Plainly f true := by
    intro f hf
    simp only [rules4, List.mem_cons, List.not_mem_nil, or_false] at hf
    rcases hf with rfl | rfl | rfl | rfl
    · exact pl_plain
    · exact pl_mark
    · exact pl_first _ heads_lt
    · exact pl_last _ (by decide)
  cases flow
  · exact h4 f hf
  · have hf' : f ∈ rules5 := hf
    simp only [rules5, List.mem_cons, List.not_mem_nil, or_false] at hf'
    rcases hf' with rfl | rfl | rfl | rfl | rfl
    · exact pl_plain
    · exact pl_mark
    · exact pl_first _ heads_lt
    · exact pl_last _ (by decide)
    · exact pl_no _ flows_lt
/-- may a text stand plain: by its bytes -/
def okB (flow : Bool) : Trip := allF (rulesOf flow)
theorem mayR_bytes (flow : Bool) (l : List UInt8) : mayR flow l = if l = [] then false else if Go.Lib.validD l = true then allT (okB flow) (-1) (bytesOf l) else false := by
  unfold mayR okB
  by_cases hv : Go.Lib.validD l = true
  · rw [if_pos hv, if_pos hv, allT_same (pl_rules flow) l (-1) hv]
  · rw [if_neg hv, if_neg hv]
theorem allT_tail (f : Trip) (q : List Int) (h : ∀ a, allT f a q = false) : ∀ (p : List Int) (a : Int), allT f a (p ++ q) = false
  | [], a => h a
  | x :: p, a => by
    show (f a x _ && allT f x (p ++ q)) = false
    rw [allT_tail f q h p x, Bool.and_false]
theorem allF_false {fs : List Trip} {f : Trip} (hm : f ∈ fs) {a s b : Int} (h : f a s b = false) : allF fs a s b = false := by
  unfold allF
  rw [List.all_eq_false]
  exact ⟨f, hm, by rw [h]; decide⟩
theorem in_rules (flow : Bool) (f : Trip) (h : f ∈ rules4) : f ∈ rulesOf flow := by
  cases flow
  · exact h
  · simp only [rulesOf, rules5, rules4, List.mem_cons, List.not_mem_nil, or_false, if_true] at h ⊢
    rcases h with h | h | h | h
    · exact .inl h
    · exact .inr (.inl h)
    · exact .inr (.inr (.inl h))
    · exact .inr (.inr (.inr (.inl h)))
theorem mem_first : rFirst heads ∈ rules4 := by simp [rules4]
theorem mem_last : rLast [32] ∈ rules4 := by simp [rules4]
theorem mem_mark : rMark ∈ rules4 := by simp [rules4]
theorem mem_plain : rPlain ∈ rules4 := by simp [rules4]
theorem may_of_bytes (flow : Bool) (l : List UInt8) (h : allT (okB flow) (-1) (bytesOf l) = false) : mayR flow l = false := by
  rw [mayR_bytes]
  split
  · rfl
  · split
    · exact h
    · rfl
theorem bytesOf_append (p q : List UInt8) : bytesOf (p ++ q) = bytesOf p ++ bytesOf q := by unfold bytesOf; exact List.map_append
/-- a blank ahead -/
theorem may_blank (flow : Bool) (l : List UInt8) : mayR flow (32 :: l) = false := by
  apply may_of_bytes
  show (okB flow (-1) 32 ((bytesOf l).headD (-1)) && allT (okB flow) 32 (bytesOf l)) = false
  rw [show okB flow (-1) 32 ((bytesOf l).headD (-1)) = false from allF_false (in_rules flow _ mem_first) rfl, Bool.false_and]
/-- a blank behind -/
theorem may_blank2 (flow : Bool) (l : List UInt8) : mayR flow (l ++ [32]) = false := by
  apply may_of_bytes
  rw [bytesOf_append]
  refine allT_tail _ _ (fun a => ?_) _ _
  show (okB flow a 32 (-1) && true) = false
  rw [Bool.and_true]
  exact allF_false (in_rules flow _ mem_last) rfl
/-- a colon behind -/
theorem may_colon (flow : Bool) (l : List UInt8) : mayR flow (l ++ [58]) = false := by
  apply may_of_bytes
  rw [bytesOf_append]
  refine allT_tail _ _ (fun a => ?_) _ _
  show (okB flow a 58 (-1) && true) = false
  rw [Bool.and_true]
  exact allF_false (in_rules flow _ mem_mark) rfl
/-- a blank and a sharp behind -/
theorem may_note (flow : Bool) (l : List UInt8) : mayR flow (l ++ [32, 35]) = false := by
  apply may_of_bytes
  rw [bytesOf_append]
  refine allT_tail _ _ (fun a => ?_) _ _
  show (okB flow a 32 35 && (okB flow 32 35 (-1) && true)) = false
  rw [show okB flow 32 35 (-1) = false from allF_false (in_rules flow _ mem_mark) rfl, Bool.false_and, Bool.and_false]
theorem ok_flow (a s b : Int) : okB true a s b = (okB false a s b && !has flows s) := by
  unfold okB rulesOf
  rw [if_pos rfl, if_neg (by decide)]
  simp only [allF, rules5, rules4, List.all_cons, List.all_nil, Bool.and_true, rNo]
  simp only [Bool.and_assoc]
theorem allT_flow : ∀ (l : List Int) (a : Int), allT (okB true) a l = (allT (okB false) a l && l.all fun s => !has flows s)
  | [], _ => rfl
  | s :: t, a => by
    show (okB true a s _ && allT (okB true) s t) = ((okB false a s _ && allT (okB false) s t) && (!has flows s && t.all fun s => !has flows s))
    rw [ok_flow, allT_flow t s]
    cases okB false a s (t.headD (-1)) <;> cases has flows s <;> cases allT (okB false) s t <;> simp
/-- is one of the signs of flows in a text -/
def anyFlow (l : List UInt8) : Bool := (bytesOf l).any fun s => has flows s
theorem may_flow (l : List UInt8) : mayR true l = (mayR false l && !anyFlow l) := by
  rw [mayR_bytes, mayR_bytes]
  by_cases h0 : l = []
  · rw [if_pos h0, if_pos h0]; rfl
  · rw [if_neg h0, if_neg h0]
    by_cases hv : Go.Lib.validD l = true
    · rw [if_pos hv, if_pos hv, allT_flow]
      unfold anyFlow
      rw [List.not_any_eq_all_not]
    · rw [if_neg hv, if_neg hv]; rfl
theorem has_no {l : List Int} {x : Int} (h : x ∉ l) : has l x = false := decide_eq_false h
/-- a letter ahead -/
theorem ok_letter (s b : Int) (h : okB false (-1) s b = true) : okB false 81 s b = true := by
  unfold okB rulesOf at *
  rw [if_neg (by decide)] at *
  simp only [allF, rules4, List.all_cons, List.all_nil, Bool.and_true, Bool.and_eq_true] at *
  obtain ⟨h1, h2, h3, h4⟩ := h
  refine ⟨h1, ?_, rfl, h4⟩
  unfold rMark at *
  simp only [show ((-1 : Int) != -1) = false from rfl, show ((81 : Int) != -1) = true from rfl, show ((81 : Int) != 32) = true from rfl, show ((-1 : Int) != 32) = true from rfl, if_true, Bool.false_eq_true, if_false] at *
  repeat' split
  all_goals first | rfl | (split at h2 <;> simp_all)
theorem may_letter (l : List UInt8) (h : mayR false l = true) : mayR false (81 :: l) = true := by
  rw [mayR_bytes] at h ⊢
  rw [if_neg (by simp)]
  split at h
  · cases h
  · rename_i hne
    split at h
    · rename_i hv
      rw [if_pos (by rw [Go.Lib.validD_cons _ _ (by decide)]; exact hv)]
      cases l with
      | nil => exact absurd rfl hne
      | cons b t =>
        have h' : (okB false (-1) (b.toNat : Int) ((bytesOf t).headD (-1)) && allT (okB false) (b.toNat : Int) (bytesOf t)) = true := h
        rw [Bool.and_eq_true] at h'
        show (okB false (-1) 81 (b.toNat : Int) && (okB false 81 (b.toNat : Int) ((bytesOf t).headD (-1)) && allT (okB false) (b.toNat : Int) (bytesOf t))) = true
        rw [ok_letter _ _ h'.1, h'.2]
        have hb : (b.toNat : Int) ≠ -1 := by omega
        simp [okB, rulesOf, allF, rules4, rPlain, rMark, rFirst, rLast, hb, has, heads]
    · cases h
theorem may_valid {flow : Bool} {l : List UInt8} (h : mayR flow l = true) : Go.Lib.validD l = true ∧ l ≠ [] := by
  unfold mayR at h
  split at h
  · cases h
  · rename_i hne
    split at h
    · rename_i hv; exact ⟨hv, hne⟩
    · cases h
end Go.Proofs.YtkliecngkcjieaaGreatDoor
