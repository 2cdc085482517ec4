/- Whether a text may stand plain is told alike by its signs and by its bytes; what a letter, a blank, a mark ahead or behind makes of it. Conditions: none; nothing of the program is run here. Whether a text looks like a number is told by its bytes. Conditions: the library's tables of texts lie as they are laid; the text is not too long. -/
import Derived.Test.YtkliecngkcjieaaGreatDoorMay
set_option maxRecDepth 100000
namespace Go.Proofs.YtkliecngkcjieaaGreatDoor
open Pl
theorem cls_is (x y : Int) (h : y < 128) : (cls x = y) ↔ (x = y) := by unfold cls; split <;> omega
theorem cls_beq (x y : Int) (h : y < 128) : (cls x == y) = (x == y) := by
  rw [Bool.eq_iff_iff, beq_iff_eq, beq_iff_eq]; exact cls_is x y h
theorem cls_bne (x y : Int) (h : y < 128) : (cls x != y) = (x != y) := by unfold bne; rw [cls_beq x y h]
theorem has_cls (l : List Int) (h : ∀ y ∈ l, y < 128) (x : Int) : has l (cls x) = has l x := by
  unfold has
  rw [decide_eq_decide]
  constructor
  · intro hm
    have := (cls_is x (cls x) (h _ hm)).1 rfl
    rw [this]; exact hm
  · intro hm
    have := (cls_is x x (h _ hm)).2 rfl
    rw [this]; exact hm
theorem has_high (l : List Int) (h : ∀ y ∈ l, y < 128) : has l 128 = false := by
  unfold has
  rw [decide_eq_false]
  intro hm
  have := h _ hm
  omega
theorem pl_plain : Plainly rPlain true := ⟨fun a s b => by unfold rPlain cls; rw [decide_eq_decide]; split <;> omega, fun _ _ => by unfold rPlain; decide⟩
theorem mark_cls (b : Int) : markB b = markB (cls b) := by unfold markB; rw [cls_bne b (-1) (by decide), cls_bne b 32 (by decide)]
theorem pl_mark : Plainly rMark true := by
  refine ⟨fun a s b => ?_, fun _ _ => rfl⟩
  unfold rMark
  rw [cls_beq s 45 (by decide), cls_beq s 63 (by decide), cls_beq s 58 (by decide), cls_beq s 35 (by decide), cls_bne a (-1) (by decide), cls_bne a 32 (by decide), ← mark_cls]
theorem pl_first (l : List Int) (h : ∀ y ∈ l, y < 128) : Plainly (rFirst l) true := by
  refine ⟨fun a s b => ?_, fun a b => ?_⟩
  · unfold rFirst
    simp only [ne_eq, cls_is a (-1) (by decide), has_cls l h s]
  · unfold rFirst; rw [has_high l h]; split <;> rfl
theorem pl_last (l : List Int) (h : ∀ y ∈ l, y < 128) : Plainly (rLast l) true := by
  refine ⟨fun a s b => ?_, fun a b => ?_⟩
  · unfold rLast
    simp only [ne_eq, cls_is b (-1) (by decide), has_cls l h s]
  · unfold rLast; rw [has_high l h]; split <;> rfl
theorem pl_no (l : List Int) (h : ∀ y ∈ l, y < 128) : Plainly (rNo l) true := by
  refine ⟨fun a s b => ?_, fun a b => ?_⟩
  · unfold rNo; rw [has_cls l h s]
  · unfold rNo; rw [has_high l h]; rfl
theorem pl_all (fs : List Trip) (h : ∀ f ∈ fs, Plainly f true) : Plainly (allF fs) true := by
  refine ⟨fun a s b => ?_, fun a b => ?_⟩
  · unfold allF
    rw [Bool.eq_iff_iff, List.all_eq_true, List.all_eq_true]
    exact ⟨fun k f hf => by rw [← (h f hf).cls]; exact k f hf, fun k f hf => by rw [(h f hf).cls]; exact k f hf⟩
  · unfold allF
    rw [List.all_eq_true]
    exact fun f hf => (h f hf).high a b
theorem heads_lt : ∀ y ∈ heads, y < 128 := by decide
theorem flows_lt : ∀ y ∈ flows, y < 128 := by decide
theorem pl_rules (flow : Bool) : Plainly (allF (rulesOf flow)) true := by
  apply pl_all
  intro f hf
  have h4 : ∀ f ∈ rules4, Plainly f true := by
    intro f hf
    simp only [rules4, List.mem_cons, List.not_mem_nil, or_false] at hf
    rcases hf with rfl | rfl | rfl | rfl
    · exact pl_plain
    · exact pl_mark
    · exact pl_first _ heads_lt
    · exact pl_last _ (by decide)
  cases flow
  · exact h4 f hf
  · have hf' : f ∈ rules5 := hf
    simp only [rules5, List.mem_cons, List.not_mem_nil, or_false] at hf'
    rcases hf' with rfl | rfl | rfl | rfl | rfl
    · exact pl_plain
    · exact pl_mark
    · exact pl_first _ heads_lt
    · exact pl_last _ (by decide)
    · exact pl_no _ flows_lt
/-- may a text stand plain: by its bytes -/
def okB (flow : Bool) : Trip := allF (rulesOf flow)
theorem mayR_bytes (flow : Bool) (l : List UInt8) : mayR flow l = if l = [] then false else if Go.Lib.validD l = true then allT (okB flow) (-1) (bytesOf l) else false := by
  unfold mayR okB
  by_cases hv : Go.Lib.validD l = true
  · rw [if_pos hv, if_pos hv, allT_same (pl_rules flow) l (-1) hv]
  · rw [if_neg hv, if_neg hv]
theorem allT_tail (f : Trip) (q : List Int) (h : ∀ a, allT f a q = false) : ∀ (p : List Int) (a : Int), allT f a (p ++ q) = false
  | [], a => h a
  | x :: p, a => by
    show (f a x _ && allT f x (p ++ q)) = false
    rw [allT_tail f q h p x, Bool.and_false]
theorem allF_false {fs : List Trip} {f : Trip} (hm : f ∈ fs) {a s b : Int} (h : f a s b = false) : allF fs a s b = false := by
  unfold allF
  rw [List.all_eq_false]
  exact ⟨f, hm, by rw [h]; decide⟩
theorem in_rules (flow : Bool) (f : Trip) (h : f ∈ rules4) : f ∈ rulesOf flow := by
  cases flow
  · exact h
  · simp only [rulesOf, rules5, rules4, List.mem_cons, List.not_mem_nil, or_false, if_true] at h ⊢
    rcases h with h | h | h | h
    · exact .inl h
    · exact .inr (.inl h)
    · exact .inr (.inr (.inl h))
    · exact .inr (.inr (.inr (.inl h)))
theorem mem_first : rFirst heads ∈ rules4 := by simp [rules4]
theorem mem_last : rLast [32] ∈ rules4 := by simp [rules4]
theorem mem_mark : rMark ∈ rules4 := by simp [rules4]
theorem mem_plain : rPlain ∈ rules4 := by simp [rules4]
theorem may_of_bytes (flow : Bool) (l : List UInt8) (h : allT (okB flow) (-1) (bytesOf l) = false) : mayR flow l = false := by
  rw [mayR_bytes]
  split
  · rfl
  · split
    · exact h
    · rfl
theorem bytesOf_append (p q : List UInt8) : bytesOf (p ++ q) = bytesOf p ++ bytesOf q := by unfold bytesOf; exact List.map_append
/-- a blank ahead -/
theorem may_blank (flow : Bool) (l : List UInt8) : mayR flow (32 :: l) = false := by
  apply may_of_bytes
  show (okB flow (-1) 32 ((bytesOf l).headD (-1)) && allT (okB flow) 32 (bytesOf l)) = false
  rw [show okB flow (-1) 32 ((bytesOf l).headD (-1)) = false from allF_false (in_rules flow _ mem_first) rfl, Bool.false_and]
/-- a blank behind -/
theorem may_blank2 (flow : Bool) (l : List UInt8) : mayR flow (l ++ [32]) = false := by
  apply may_of_bytes
  rw [bytesOf_append]
  refine allT_tail _ _ (fun a => ?_) _ _
  show (okB flow a 32 (-1) && true) = false
  rw [Bool.and_true]
  exact allF_false (in_rules flow _ mem_last) rfl
/-- a colon behind -/
theorem may_colon (flow : Bool) (l : List UInt8) : mayR flow (l ++ [58]) = false := by
  apply may_of_bytes
  rw [bytesOf_append]
  refine allT_tail _ _ (fun a => ?_) _ _
  show (okB flow a 58 (-1) && true) = false
  rw [Bool.and_true]
  exact allF_false (in_rules flow _ mem_mark) rfl
/-- a blank and a sharp behind -/
theorem may_note (flow : Bool) (l : List UInt8) : mayR flow (l ++ [32, 35]) = false := by
  apply may_of_bytes
  rw [bytesOf_append]
  refine allT_tail _ _ (fun a => ?_) _ _
  show (okB flow a 32 35 && (okB flow 32 35 (-1) && true)) = false
  rw [show okB flow 32 35 (-1) = false from allF_false (in_rules flow _ mem_mark) rfl, Bool.false_and, Bool.and_false]
theorem ok_flow (a s b : Int) : okB true a s b = (okB false a s b && !has flows s) := by
  unfold okB rulesOf
  rw [if_pos rfl, if_neg (by decide)]
  simp only [allF, rules5, rules4, List.all_cons, List.all_nil, Bool.and_true, rNo]
  simp only [Bool.and_assoc]
theorem allT_flow : ∀ (l : List Int) (a : Int), allT (okB true) a l = (allT (okB false) a l && l.all fun s => !has flows s)
  | [], _ => rfl
  | s :: t, a => by
    show (okB true a s _ && allT (okB true) s t) = ((okB false a s _ && allT (okB false) s t) && (!has flows s && t.all fun s => !has flows s))
    rw [ok_flow, allT_flow t s]
    cases okB false a s (t.headD (-1)) <;> cases has flows s <;> cases allT (okB false) s t <;> simp
/-- is one of the signs of flows in a text -/
def anyFlow (l : List UInt8) : Bool := (bytesOf l).any fun s => has flows s
theorem may_flow (l : List UInt8) : mayR true l = (mayR false l && !anyFlow l) := by
  rw [mayR_bytes, mayR_bytes]
  by_cases h0 : l = []
  · rw [if_pos h0, if_pos h0]; rfl
  · rw [if_neg h0, if_neg h0]
    by_cases hv : Go.Lib.validD l = true
    · rw [if_pos hv, if_pos hv, allT_flow]
      unfold anyFlow
      rw [List.not_any_eq_all_not]
    · rw [if_neg hv, if_neg hv]; rfl
theorem has_no {l : List Int} {x : Int} (h : x ∉ l) : has l x = false := decide_eq_false h
/-- a letter ahead -/
theorem ok_letter (s b : Int) (h : okB false (-1) s b = true) : okB false 81 s b = true := by
  unfold okB rulesOf at *
  rw [if_neg (by decide)] at *
  simp only [allF, rules4, List.all_cons, List.all_nil, Bool.and_true, Bool.and_eq_true] at *
  obtain ⟨h1, h2, h3, h4⟩ := h
  refine ⟨h1, ?_, rfl, h4⟩
  unfold rMark at *
  simp only [show ((-1 : Int) != -1) = false from rfl, show ((81 : Int) != -1) = true from rfl, show ((81 : Int) != 32) = true from rfl, show ((-1 : Int) != 32) = true from rfl, if_true, Bool.false_eq_true, if_false] at *
  repeat' split
  all_goals first | rfl | (split at h2 <;> simp_all)
theorem may_letter (l : List UInt8) (h : mayR false l = true) : mayR false (81 :: l) = true := by
  rw [mayR_bytes] at h ⊢
  rw [if_neg (by simp)]
  split at h
  · cases h
  · rename_i hne
    split at h
    · rename_i hv
      rw [if_pos (by rw [Go.Lib.validD_cons _ _ (by decide)]; exact hv)]
      cases l with
      | nil => exact absurd rfl hne
      | cons b t =>
        have h' : (okB false (-1) (b.toNat : Int) ((bytesOf t).headD (-1)) && allT (okB false) (b.toNat : Int) (bytesOf t)) = true := h
        rw [Bool.and_eq_true] at h'
        show (okB false (-1) 81 (b.toNat : Int) && (okB false 81 (b.toNat : Int) ((bytesOf t).headD (-1)) && allT (okB false) (b.toNat : Int) (bytesOf t))) = true
        rw [ok_letter _ _ h'.1, h'.2]
        have hb : (b.toNat : Int) ≠ -1 := by omega
        simp [okB, rulesOf, allF, rules4, rPlain, rMark, rFirst, rLast, hb, has, heads]
    · cases h
theorem may_valid {flow : Bool} {l : List UInt8} (h : mayR flow l = true) : Go.Lib.validD l = true ∧ l ≠ [] := by
  unfold mayR at h
  split at h
  · cases h
  · rename_i hne
    split at h
    · rename_i hv; exact ⟨hv, hne⟩
    · cases h
end Go.Proofs.YtkliecngkcjieaaGreatDoor

set_option maxRecDepth 100000
namespace Go.Proofs.YtkliecngkcjieaaGreatDoor
open Go.RowKit Go.Shelf
open Pl Seqo
/-- what stands behind the first sign, if that is one of some -/
def dropIf (l : List Int) : List UInt8 → List UInt8
  | [] => []
  | b :: t => if has l (b.toNat : Int) = true then t else b :: t
theorem dropIf_cons (l : List Int) (b : UInt8) (t : List UInt8) : dropIf l (b :: t) = if has l (b.toNat : Int) = true then t else b :: t := rfl
theorem size_list (s : ByteArray) : s.data.toList.length = s.size := by rw [Array.length_toList]; rfl
theorem dropIf_le (l : List Int) (t : List UInt8) : (dropIf l t).length ≤ t.length := by
  cases t with
  | nil => exact Nat.le_refl _
  | cons b t => rw [dropIf_cons]; split <;> simp
theorem has_not_high {l : List Int} (hl : ∀ y ∈ l, y < 128) {x : Int} (hx : 128 ≤ x) : has l x = false := decide_eq_false fun h => by have := hl _ h; omega
theorem decode_head (s : ByteArray) (h : 0 < s.size) : ∃ b t, s.data.toList = b :: t ∧ ((b.toNat < 128 ∧ Utf8.decode s 0 = (b.toNat, 1)) ∨ (128 ≤ b.toNat ∧ 128 ≤ (Utf8.decode s 0).1)) := by
  cases hl : s.data.toList with
  | nil =>
    have := size_list s
    rw [hl, List.length_nil] at this
    omega
  | cons b t =>
    refine ⟨b, t, rfl, ?_⟩
    have hd := Go.Lib.decodeL_drop s 0
    rw [List.drop_zero, hl] at hd
    by_cases hb : b.toNat < 128
    · exact .inl ⟨hb, by rw [← hd]; exact Go.Lib.decodeL_ascii b t hb⟩
    · have e : s[0]'h = b := by
        have := size_list s
        have h2 : s.data.toList[0]'(by omega) = b := by simp [hl]
        rw [← h2]; rfl
      exact .inr ⟨by omega, (decode_high s 0 h (by rw [e]; omega)).1⟩
set_option maxHeartbeats 1000000 in
theorem behindOne_any (s : ByteArray) (hs : s.size ≤ 1099511627776) (b : Nat) (l : List Int) (c : Nat) (hl : ∀ y ∈ l, y < 128) (hm : l.length ≤ 1000) (w : World) (E : Env w) (hr : Row32 b l w) :
    Calls Tryz.prog 123 #[.string s, .slice (some ⟨b, 0, none⟩) l.length c] w fun e w' => (∃ T : ByteArray, e = .returned (.string T) ∧ T.data.toList = dropIf l s.data.toList) ∧ Below w.heap.size w w' := by
  have HE := Lib.hid E
  have HR := Lib.hid hr
  have hD := Tryz.utf8_DecodeRuneInString s w E.tabs
  unfold Go.Lib.decodeGo at hD
  clear E hr
  by_cases h0 : s.size = 0
  · rw [if_pos h0] at hD
    have hn := toList_nil s h0
    have hh : has l 65533 = false := has_not_high hl (by decide)
    have HD := Lib.hid hD
    clear hD
    go_enter Tryz.func123, Tryz.ntmps123
    go_wp2_with fail
    refine HD.out.mono ?_
    rintro e w1 ⟨rfl, hb1⟩
    have HB1 := Lib.hid hb1
    have HR1 := Lib.hid (HR.out.below hb1)
    clear hb1
    go_wp2_with fail
    refine (contains_any b l 65533 c _ hm HR1.out).mono ?_
    rintro e w' ⟨rfl, rfl⟩
    go_wp2_with fail
    go_ret
    exact ⟨⟨s, rfl, by rw [hn]; rfl⟩, HB1.out⟩
  · rw [if_neg h0] at hD
    obtain ⟨x, t, hx, hdec⟩ := decode_head s (by omega)
    rcases hdec with ⟨hb, he⟩ | ⟨hb, he⟩
    · rw [he] at hD
      have h1 : (1 : Int) ≤ (s.size : Int) := by omega
      cases hh : has l (x.toNat : Int)
      · have HD := Lib.hid hD
        have HX := Lib.hid hx
        have HH := Lib.hid hh
        clear hD hx he
        go_enter Tryz.func123, Tryz.ntmps123
        go_wp2_with fail
        refine HD.out.mono ?_
        rintro e w1 ⟨rfl, hb1⟩
        have HB1 := Lib.hid hb1
        have HR1 := Lib.hid (HR.out.below hb1)
        clear hb1
        go_wp2_with fail
        refine (contains_any b l x.toNat c _ hm HR1.out).mono ?_
        rintro e w' ⟨rfl, rfl⟩
        go_wp2_with fail
        go_ret
        exact ⟨⟨s, rfl, by rw [HX.out]; rw [dropIf_cons, HH.out, if_neg (by decide)]⟩, HB1.out⟩
      · have HD := Lib.hid hD
        have HX := Lib.hid hx
        have HH := Lib.hid hh
        clear hD hx he
        go_enter Tryz.func123, Tryz.ntmps123
        go_wp2_with fail
        refine HD.out.mono ?_
        rintro e w1 ⟨rfl, hb1⟩
        have HB1 := Lib.hid hb1
        have HR1 := Lib.hid (HR.out.below hb1)
        clear hb1
        go_wp2_with fail
        refine (contains_any b l x.toNat c _ hm HR1.out).mono ?_
        rintro e w' ⟨rfl, rfl⟩
        go_wp2_with fail
        go_ret
        refine ⟨⟨s.extract 1 s.size, rfl, ?_⟩, HB1.out⟩
        rw [Go.Lib.ext_list, HX.out]
        rw [dropIf_cons, HH.out, if_pos rfl]
        rfl
    · have hh : has l ((Utf8.decode s 0).1 : Int) = false := has_not_high hl (by omega)
      have hh2 : has l (x.toNat : Int) = false := has_not_high hl (by omega)
      obtain ⟨R, hR⟩ : ∃ R, (Utf8.decode s 0).1 = R := ⟨_, rfl⟩
      obtain ⟨K, hK⟩ : ∃ R, (Utf8.decode s 0).2 = R := ⟨_, rfl⟩
      rw [hR, hK] at hD
      rw [hR] at hh
      have HD := Lib.hid hD
      have HX := Lib.hid hx
      have HH := Lib.hid hh2
      clear hD hx he hh2 hR hK
      go_enter Tryz.func123, Tryz.ntmps123
      go_wp2_with fail
      refine HD.out.mono ?_
      rintro e w1 ⟨rfl, hb1⟩
      have HB1 := Lib.hid hb1
      have HR1 := Lib.hid (HR.out.below hb1)
      clear hb1
      go_wp2_with fail
      refine (contains_any b l R c _ hm HR1.out).mono ?_
      rintro e w' ⟨rfl, rfl⟩
      go_wp2_with fail
      go_ret
      exact ⟨⟨s, rfl, by rw [HX.out]; rw [dropIf_cons, HH.out, if_neg (by decide)]⟩, HB1.out⟩
def numSigns : List Int := [46, 101, 69, 43, 45, 95]
def rulesN : List Trip := [rDigit, rDigitOr numSigns]
/-- what stands behind a sign and a point -/
def behindS (l : List UInt8) : List UInt8 := dropIf [46] (dropIf [43, 45] l)
def looksR (l : List UInt8) : Bool := if behindS l = [] then false else allT (allF rulesN) (-1) (runesOf (behindS l))
theorem list_size (s : ByteArray) {l : List UInt8} (h : s.data.toList = l) : s.size = l.length := by rw [← h, size_list]
theorem row32_new {w : World} {T : TypeId} (l : List Int) : Row32 w.heap.size l (w.alloc (.cells (l.map (Value.int .i32)).toArray T)) := row32_of (heap_alloc_new w _)
set_option maxHeartbeats 1000000 in
theorem looks_any (s : ByteArray) (hs : s.size ≤ 1099511627776) (w : World) (E : Env w) :
    Calls Tryz.prog 98 #[.string s] w fun e w' => e = .returned (.bool (looksR s.data.toList)) ∧ Below w.heap.size w w' := by
  have hb0 : Below w.heap.size w (w.alloc (.cells #[.int .i32 43, .int .i32 45] 21)) := (Below.refl _ _).alloc (Nat.le_refl _) _
  have hr0 : Row32 w.heap.size [43, 45] (w.alloc (.cells #[.int .i32 43, .int .i32 45] 21)) := row32_new [43, 45]
  have h1 := behindOne_any s hs w.heap.size [43, 45] 2 (by decide) (by decide) _ (E.below hb0) hr0
  have HE := Lib.hid E
  have H1 := Lib.hid h1
  have HB0 := Lib.hid hb0
  clear E h1 hb0 hr0
  go_enter Tryz.func98, Tryz.ntmps98
  go_wp2_with fail
  refine H1.out.mono ?_
  rintro e w1 ⟨⟨T, rfl, hT⟩, hb1⟩
  have HB1 := Lib.hid (HB0.out.trans (hb1.mono HB0.out.size))
  have HT := Lib.hid hT
  have hT1 : T.size ≤ 1099511627776 := by
    rw [list_size T hT]
    have := dropIf_le [43, 45] s.data.toList
    rw [size_list] at this
    omega
  clear hb1 hT
  have hb2 : Below w1.heap.size w1 (w1.alloc (.cells #[.int .i32 46] 21)) := (Below.refl _ _).alloc (Nat.le_refl _) _
  have hr2 : Row32 w1.heap.size [46] (w1.alloc (.cells #[.int .i32 46] 21)) := row32_new [46]
  have h2 := behindOne_any T hT1 w1.heap.size [46] 1 (by decide) (by decide) _ ((HE.out.below HB1.out).below hb2) hr2
  have H2 := Lib.hid h2
  have HB2 := Lib.hid (HB1.out.trans (hb2.mono HB1.out.size))
  clear h2 hb2 hr2
  go_wp2_with fail
  refine H2.out.mono ?_
  rintro e w3 ⟨⟨U, rfl, hU⟩, hb3⟩
  rw [HT.out] at hU
  have hU1 : U.size ≤ 1099511627776 := by
    rw [list_size U hU]
    have := dropIf_le [46] (dropIf [43, 45] s.data.toList)
    have := dropIf_le [43, 45] s.data.toList
    rw [size_list] at this
    omega
  have hL : looksR s.data.toList = if U.data.toList = [] then false else allT (allF rulesN) (-1) (runesOf U.data.toList) := by unfold looksR behindS; rw [hU]
  have HB3 := Lib.hid (HB2.out.trans (hb3.mono HB2.out.size))
  have HL := Lib.hid hL
  clear hb3 hU hL
  by_cases h0 : U.data.toList = []
  · have hne : U.toList.isEmpty = true := by rw [ByteArray.toList_eq, h0]; rfl
    have hne2 : (!U.toList.isEmpty) = false := by rw [hne]; rfl
    have HZ := Lib.hid h0
    clear h0
    go_wp2_with fail
    go_ret
    exact ⟨by rw [HL.out, if_pos HZ.out]; rfl, HB3.out⟩
  · have hne : U.toList.isEmpty = false := by rw [ByteArray.toList_eq]; simpa using h0
    have hne2 : (!U.toList.isEmpty) = true := by rw [hne]; rfl
    obtain ⟨w4, h4⟩ : ∃ w4, w3.alloc (.cells #[.int .i32 46, .int .i32 101, .int .i32 69, .int .i32 43, .int .i32 45, .int .i32 95] 21) = w4 := ⟨_, rfl⟩
    have x4 : w4.heap[w3.heap.size]? = some (.cells (numSigns.map (Value.int .i32)).toArray 21 (0, 0)) := by rw [← h4]; exact new_alloc rfl
    have z4 : w4.heap.size = w3.heap.size + 1 := by rw [← h4]; simp
    have b4 : Below w3.heap.size w3 w4 := by rw [← h4]; exact (Below.refl _ _).alloc (Nat.le_refl _) _
    obtain ⟨w5, h5⟩ : ∃ w5, w4.alloc (.cells #[.slice (some ⟨w3.heap.size, 0, none⟩) 6 6] 127) = w5 := ⟨_, rfl⟩
    have x5 : w5.heap[w4.heap.size]? = some (.cells #[.slice (some ⟨w3.heap.size, 0, none⟩) 6 6] 127 (0, 0)) := by rw [← h5]; exact new_alloc rfl
    have y4 := keep_alloc (o' := .cells #[.slice (some ⟨w3.heap.size, 0, none⟩) 6 6] 127) x4
    rw [h5] at y4
    have l5 : Looked w4.heap.size numSigns w5 := looked_of (l := numSigns) y4 x5
    have b5 : Below w3.heap.size w3 w5 := by rw [← h5]; exact b4.alloc (by omega) _
    have z5 : w5.heap.size = w3.heap.size + 2 := by rw [← h5]; simp; omega
    have hbl : Below w5.heap.size w5 (w5.alloc (.cells #[.func (.func 124) #[] #[], .func (.func 138) #[] #[.pointer (some ⟨w4.heap.size, 0, none⟩)]] 116)) := (Below.refl _ _).alloc (Nat.le_refl _) _
    have hrow := new_alloc (w := w5) (o := .cells #[.func (.func 124) #[] #[], .func (.func 138) #[] #[.pointer (some ⟨w4.heap.size, 0, none⟩)]] 116) rfl
    have hR6 : Rules w5.heap.size rulesN (w5.alloc (.cells #[.func (.func 124) #[] #[], .func (.func 138) #[] #[.pointer (some ⟨w4.heap.size, 0, none⟩)]] 116)) := by
      intro j hj
      have hj4 : j < 2 := hj
      obtain rfl | rfl : j = 0 ∨ j = 1 := by omega
      · exact ⟨_, cell_of_row _ _ 0 _ _ _ hrow, rule_digit _⟩
      · exact ⟨_, cell_of_row _ _ 1 _ _ _ hrow, rule_digitOr _ _ _ (by decide) (l5.below hbl)⟩
    have hF := follows_any U hU1 w5.heap.size 2 rulesN (by decide) _ hR6
    have HF := Lib.hid hF
    have HZ := Lib.hid h0
    have HB5 := Lib.hid (HB3.out.trans ((b5.trans (hbl.mono (by omega))).mono HB3.out.size))
    clear h0 hF hR6 hrow hbl z5 b5 l5 y4 x5 b4 z4 x4
    go_wp2_with fail
    refine (digitOr_any _ _ _ _).mono ?_
    rintro e w' ⟨rfl, rfl⟩
    rw [h5]
    go_wp2_with fail
    refine HF.out.mono ?_
    rintro e w6 ⟨rfl, hb6⟩
    have HB6 := Lib.hid (HB5.out.trans (hb6.mono HB5.out.size))
    clear hb6
    go_wp2_with fail
    go_ret
    exact ⟨by rw [HL.out, if_neg HZ.out]; rfl, HB6.out⟩
end Go.Proofs.YtkliecngkcjieaaGreatDoor
