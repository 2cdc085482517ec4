/- Digits of bytes and bytes of digits tell each other; what bits of small numbers make. Conditions: none; nothing of the program is run here. A range over a function that comes to an end, or is left by one jump, obeys its law: what holds of each turn holds at its end. Conditions: those of the law's structure. A region that draws its order inside a round of a range over a function, and defers nothing, is walked as one outside it. Conditions: it defers nothing. -/
import Derived.WalkKit
import Derived.Test.YthojdcmkajmdjaaDoorTl
import Derived.RangeFuncNested
import Derived.RangeFuncCalls
import Derived.ControlIn
import Derived.OrdersIn
import Derived.RegionTactic
namespace Go.Proofs.YthojdcmkajmdjaaDoor
namespace Hx
theorem all8 (p : UInt8 → Prop) [∀ x, Decidable (p x)] (h : ∀ n : Fin 256, p (UInt8.ofNat n.1)) (b : UInt8) : p b := by
  have e := h ⟨b.toNat, b.toNat_lt⟩
  simpa using e
/-- a text's byte, or nought -/
def bt (s : ByteArray) (k : Nat) : UInt8 := s.data.toList.getD k 0
theorem bt_in (s : ByteArray) (k : Nat) (h : k < s.size) : bt s k = s[k] := by
  unfold bt; rw [List.getD_eq_getElem?_getD, List.getElem?_eq_getElem (by simpa using h)]; rfl
theorem bt_out (s : ByteArray) (k : Nat) (h : ¬ k < s.size) : bt s k = 0 := by
  unfold bt; rw [List.getD_eq_getElem?_getD, List.getElem?_eq_none (by simpa using h)]; rfl
/-- a digit -/
def hexC (n : UInt8) : UInt8 := if n < 10 then 48 + n else 87 + n
/-- the digits of bytes -/
def hexL : List UInt8 → List UInt8
  | [] => []
  | b :: l => hexC (b >>> 4) :: hexC (b &&& 15) :: hexL l
/-- what a byte is worth as a digit -/
def valC (c : UInt8) : Option UInt8 := if 48 ≤ c ∧ c ≤ 57 then some (c - 48) else if 97 ≤ c ∧ c ≤ 102 then some (c - 87) else none
/-- two digits' byte -/
def two (a b : UInt8) : Option UInt8 := match valC a, valC b with
  | some x, some y => some (x <<< 4 ||| y)
  | _, _ => none
/-- the bytes of digits -/
def unL : List UInt8 → Option (List UInt8)
  | [] => some []
  | [_] => none
  | a :: b :: l => match two a b, unL l with
    | some x, some t => some (x :: t)
    | _, _ => none
theorem hexL_length : ∀ l, (hexL l).length = 2 * l.length
  | [] => rfl
  | b :: l => by simp only [hexL, List.length_cons, hexL_length l]; omega
theorem hexL_append : ∀ a b, hexL (a ++ b) = hexL a ++ hexL b
  | [], _ => rfl
  | x :: a, b => by simp only [List.cons_append, hexL, hexL_append a b]
theorem two_hex (b : UInt8) : two (hexC (b >>> 4)) (hexC (b &&& 15)) = some b := all8 (fun b => two (hexC (b >>> 4)) (hexC (b &&& 15)) = some b) (by decide +kernel) b
theorem un_hex : ∀ l, unL (hexL l) = some l
  | [] => rfl
  | b :: l => by simp only [hexL, unL, two_hex, un_hex l]
theorem val_hex (c x : UInt8) (h : valC c = some x) : hexC x = c ∧ x < 16 :=
  all8 (fun c => ∀ x, valC c = some x → hexC x = c ∧ x < 16) (h := fun n => by
    have key : ∀ n : Fin 256, (match valC (UInt8.ofNat n.1) with | some x => decide (hexC x = UInt8.ofNat n.1 ∧ x < 16) | none => true) = true := by decide +kernel
    have k := key n
    intro x hx
    rw [hx] at k
    simpa using k) c x h
theorem nib (x y : UInt8) (hx : x < 16) (hy : y < 16) : (x <<< 4 ||| y) >>> 4 = x ∧ (x <<< 4 ||| y) &&& 15 = y := by
  have key : ∀ m n : Fin 16, ((UInt8.ofNat m.1) <<< 4 ||| (UInt8.ofNat n.1)) >>> 4 = UInt8.ofNat m.1 ∧ ((UInt8.ofNat m.1) <<< 4 ||| (UInt8.ofNat n.1)) &&& 15 = UInt8.ofNat n.1 := by decide +kernel
  have k := key ⟨x.toNat, by simpa [UInt8.lt_iff_toNat_lt] using hx⟩ ⟨y.toNat, by simpa [UInt8.lt_iff_toNat_lt] using hy⟩
  simpa using k
theorem two_some {a b x : UInt8} (h : two a b = some x) : hexC (x >>> 4) = a ∧ hexC (x &&& 15) = b := by
  unfold two at h
  split at h
  · rename_i u v hu hv
    obtain rfl := Option.some.inj h
    have h1 := val_hex _ _ hu
    have h2 := val_hex _ _ hv
    have h3 := nib u v h1.2 h2.2
    exact ⟨by rw [h3.1]; exact h1.1, by rw [h3.2]; exact h2.1⟩
  · cases h
theorem hex_un : ∀ l m, unL l = some m → hexL m = l
  | [], m, h => by obtain rfl := Option.some.inj h; rfl
  | [_], m, h => by cases h
  | a :: b :: l, m, h => by
    unfold unL at h
    split at h
    · rename_i x t hx ht
      obtain rfl := Option.some.inj h
      have h1 := two_some hx
      simp only [hexL, h1.1, h1.2, hex_un l t ht]
    · cases h
theorem un_len {l m : List UInt8} (h : unL l = some m) : l.length = 2 * m.length := by rw [← hex_un l m h, hexL_length]
theorem un_all {l m : List UInt8} (h : unL l = some m) : ∀ c ∈ l, valC c ≠ none := by
  rw [← hex_un l m h]
  clear h
  induction m with
  | nil => intro c hc; cases hc
  | cons x m ih =>
    intro c hc
    have key : ∀ b : UInt8, valC (hexC (b >>> 4)) ≠ none ∧ valC (hexC (b &&& 15)) ≠ none := fun b => all8 (fun b => valC (hexC (b >>> 4)) ≠ none ∧ valC (hexC (b &&& 15)) ≠ none) (by decide +kernel) b
    simp only [hexL, List.mem_cons] at hc
    rcases hc with rfl | rfl | hc
    · exact (key x).1
    · exact (key x).2
    · exact ih c hc
theorem un_snoc (a b : UInt8) : ∀ l o, unL l = some o → unL (l ++ [a, b]) = (two a b).map fun x => o ++ [x]
  | [], o, h => by
    obtain rfl := Option.some.inj h
    simp only [List.nil_append, unL]
    cases two a b <;> rfl
  | [_], o, h => by cases h
  | c :: d :: l, o, h => by
    unfold unL at h
    split at h
    · rename_i x t hx ht
      obtain rfl := Option.some.inj h
      simp only [List.cons_append, unL, hx, un_snoc a b l t ht]
      cases two a b <;> rfl
    · cases h
/-- what the text's digits tell, or nothing -/
def unB (s : ByteArray) : Option (List UInt8) := unL s.data.toList
/-- as far as the pair t -/
def upTo (l : List UInt8) (t : Nat) (o : List UInt8) : Prop := unL (l.take (2 * t)) = some o ∧ o.length = t
theorem upTo_zero (l : List UInt8) : upTo l 0 [] := ⟨rfl, rfl⟩
theorem upTo_succ {l : List UInt8} {t : Nat} {o : List UInt8} (h : upTo l t o) (ht : 2 * t + 1 < l.length) {x : UInt8} (hx : two l[2 * t] l[2 * t + 1] = some x) : upTo l (t + 1) (o ++ [x]) := by
  refine ⟨?_, by rw [List.length_append, h.2]; rfl⟩
  have e : l.take (2 * (t + 1)) = l.take (2 * t) ++ [l[2 * t], l[2 * t + 1]] := by
    rw [show 2 * (t + 1) = 2 * t + 1 + 1 by omega, List.take_succ_eq_append_getElem ht, List.take_succ_eq_append_getElem (by omega), List.append_assoc]; rfl
  rw [e, un_snoc _ _ _ _ h.1, hx]; rfl
theorem upTo_bad {l : List UInt8} {t : Nat} (ht : 2 * t + 1 < l.length) (hx : two l[2 * t] l[2 * t + 1] = none) : unL l = none := by
  cases h : unL l with
  | none => rfl
  | some m =>
    have h1 := un_all h l[2 * t] (List.getElem_mem _)
    have h2 := un_all h l[2 * t + 1] (List.getElem_mem _)
    unfold two at hx
    cases e1 : valC l[2 * t] with
    | none => exact absurd e1 h1
    | some x =>
      cases e2 : valC l[2 * t + 1] with
      | none => exact absurd e2 h2
      | some y => rw [e1, e2] at hx; cases hx
theorem upTo_end {l o : List UInt8} (h : upTo l (l.length / 2) o) : unL l = if 2 * o.length = l.length then some o else none := by
  by_cases e : 2 * o.length = l.length
  · rw [if_pos e]
    have := h.2
    have hl : l.take (2 * (l.length / 2)) = l := List.take_of_length_le (by omega)
    have h1 := h.1
    rwa [hl] at h1
  · rw [if_neg e]
    cases hm : unL l with
    | none => rfl
    | some m => have := un_len hm; have := h.2; omega
theorem wrap8 (z : UInt8) : IntKind.u8.wrap (z.toNat : Int) = (z.toNat : Int) := by
  have := z.toNat_lt
  simp [IntKind.wrap, IntKind.bits, IntKind.signed]; omega
theorem bits8_xor (a b : UInt8) : bits .xor .u8 (a.toNat : Int) (b.toNat : Int) = ((a ^^^ b).toNat : Int) := by
  show IntKind.u8.wrap ((BitVec.ofInt 8 (a.toNat : Int) ^^^ BitVec.ofInt 8 (b.toNat : Int)).toNat : Int) = _
  rw [BitVec.ofInt_natCast, BitVec.ofInt_natCast]
  have e : (BitVec.ofNat 8 a.toNat ^^^ BitVec.ofNat 8 b.toNat).toNat = (a ^^^ b).toNat := by
    rw [BitVec.toNat_xor, UInt8.toNat_xor, BitVec.toNat_ofNat, BitVec.toNat_ofNat]
    rw [Nat.mod_eq_of_lt a.toNat_lt, Nat.mod_eq_of_lt b.toNat_lt]
  rw [e]
  exact wrap8 _
theorem bits8_or (a b : UInt8) : bits .or .u8 (a.toNat : Int) (b.toNat : Int) = ((a ||| b).toNat : Int) := by
  show IntKind.u8.wrap ((BitVec.ofInt 8 (a.toNat : Int) ||| BitVec.ofInt 8 (b.toNat : Int)).toNat : Int) = _
  rw [BitVec.ofInt_natCast, BitVec.ofInt_natCast]
  have e : (BitVec.ofNat 8 a.toNat ||| BitVec.ofNat 8 b.toNat).toNat = (a ||| b).toNat := by
    rw [BitVec.toNat_or, UInt8.toNat_or, BitVec.toNat_ofNat, BitVec.toNat_ofNat]
    rw [Nat.mod_eq_of_lt a.toNat_lt, Nat.mod_eq_of_lt b.toNat_lt]
  rw [e]
  exact wrap8 _
theorem bits8_and (a b : UInt8) : bits .and .u8 (a.toNat : Int) (b.toNat : Int) = ((a &&& b).toNat : Int) := by
  show IntKind.u8.wrap ((BitVec.ofInt 8 (a.toNat : Int) &&& BitVec.ofInt 8 (b.toNat : Int)).toNat : Int) = _
  rw [BitVec.ofInt_natCast, BitVec.ofInt_natCast]
  have e : (BitVec.ofNat 8 a.toNat &&& BitVec.ofNat 8 b.toNat).toNat = (a &&& b).toNat := by
    rw [BitVec.toNat_and, UInt8.toNat_and, BitVec.toNat_ofNat, BitVec.toNat_ofNat]
    rw [Nat.mod_eq_of_lt a.toNat_lt, Nat.mod_eq_of_lt b.toNat_lt]
  rw [e]
  exact wrap8 _
theorem bits64 (a b : Nat) (ha : a < 2 ^ 30) (hb : b < 2 ^ 30) : bits .xor .i64 (a : Int) (b : Int) = ((a ^^^ b : Nat) : Int) ∧ bits .or .i64 (a : Int) (b : Int) = ((a ||| b : Nat) : Int) ∧ a ^^^ b < 2 ^ 30 ∧ a ||| b < 2 ^ 30 := by
  have hx := Nat.xor_lt_two_pow ha hb
  have ho := Nat.or_lt_two_pow ha hb
  refine ⟨?_, ?_, hx, ho⟩
  · show IntKind.i64.wrap ((BitVec.ofInt 64 (a : Int) ^^^ BitVec.ofInt 64 (b : Int)).toNat : Int) = _
    rw [BitVec.ofInt_natCast, BitVec.ofInt_natCast, BitVec.toNat_xor, BitVec.toNat_ofNat, BitVec.toNat_ofNat, Nat.mod_eq_of_lt (by omega), Nat.mod_eq_of_lt (by omega)]
    simp [IntKind.wrap, IntKind.bits, IntKind.signed]; omega
  · show IntKind.i64.wrap ((BitVec.ofInt 64 (a : Int) ||| BitVec.ofInt 64 (b : Int)).toNat : Int) = _
    rw [BitVec.ofInt_natCast, BitVec.ofInt_natCast, BitVec.toNat_or, BitVec.toNat_ofNat, BitVec.toNat_ofNat, Nat.mod_eq_of_lt (by omega), Nat.mod_eq_of_lt (by omega)]
    simp [IntKind.wrap, IntKind.bits, IntKind.signed]; omega
theorem or_zero (a b : Nat) : a ||| b = 0 ↔ a = 0 ∧ b = 0 := by
  constructor
  · intro h
    have h1 : a ≤ a ||| b := Nat.left_le_or
    have h2 : b ≤ a ||| b := Nat.right_le_or
    omega
  · rintro ⟨rfl, rfl⟩; rfl
theorem xor_zero (a b : Nat) : a ^^^ b = 0 ↔ a = b := by
  constructor
  · intro h
    have e : (a ^^^ b) ^^^ b = a := by rw [Nat.xor_assoc, Nat.xor_self, Nat.xor_zero]
    rw [h, Nat.zero_xor] at e
    exact e.symm
  · rintro rfl; exact Nat.xor_self _
theorem xor8_zero (a b : UInt8) : (a ^^^ b).toNat = 0 ↔ a = b := by
  rw [UInt8.toNat_xor, xor_zero]
  exact ⟨fun h => UInt8.toNat_inj.1 h, fun h => by rw [h]⟩
end Hx
end Go.Proofs.YthojdcmkajmdjaaDoor

namespace Go.Proofs.YthojdcmkajmdjaaDoor
open Go.RowKit
namespace Seqs
variable {F : Fence} {n : Nat} {P : Program}

/-- AN ITERATOR of N turns, with a box of its own or none: it comes back behind turn N, or when a round has left it. -/
def SeqRun (F : Fence) (n : Nat) (P : Program) (g : Nat) (lb : Array Value) (vals : Nat → Array Value) (N : Nat) (bx : Option Nat) (o0 : Obj) (S : World → Prop) : Prop :=
  ∀ (l : Nat) (J : Nat → World → Prop) (Jx : World → Prop) (W : World),
    (∀ t A B, J t A → A.grownBy B bx → J t B) → (∀ t A, J t A → S A) →
    (∀ t A, t < N → J t A → YieldAt F (n - 1) P l (vals t) A fun e B =>
      (e = .returned (.bool true) ∧ J (t + 1) B ∧ ∀ b, bx = some b → B.heap[b]? = A.heap[b]?) ∨ (e = .returned (.bool false) ∧ Jx B)) →
    (∀ b, bx = some b → W.heap[b]? = some o0) → J 0 W → CallsIn F n P g (#[.func (.yield l) #[] #[]] ++ lb) W fun e W' => (∃ v, e = .returned v) ∧ (J N W' ∨ Jx W')

/-- the blocks from B on, and the box, lie as they lay -/
def Past (B : Nat) (bx : Option Nat) (W W' : World) : Prop := W.heap.size ≤ W'.heap.size ∧ (∀ b, bx = some b → W'.heap[b]? = W.heap[b]?) ∧ ∀ k, B ≤ k → k < W.heap.size → W'.heap[k]? = W.heap[k]?
theorem Past.refl (B : Nat) (bx : Option Nat) (W : World) : Past B bx W W := ⟨Nat.le_refl _, fun _ _ => rfl, fun _ _ _ => rfl⟩

/-- how the body of a round may be left: at its end, or by the one jump c -/
def bodyEnds (c : Code) (B : Nat) (bx : Option Nat) (t : Nat) (I : Nat → World → Prop) (Ix : World → Prop) (W : World) : Exit → Act → World → Prop
  | .normal, _, W' => Past B bx W W' ∧ I (t + 1) W'
  | .exit id, _, W' => Code.exit id = c ∧ Past B bx W W' ∧ Ix W'
  | _, _, _ => False

/-- a turn of a block's object -/
theorem turn (W : World) (l : Nat) (o : Obj) : W.grownBy (W.putObj l o) (some l) := grownBy_putObj' W l o

/-- THE STATEMENT OVER SUCH AN ITERATOR, where the body touches no block laid since the loop began. -/
theorem wpIn_rangeFunc_run {g : Operand} {ps : Array Tmp} {assign body : Code} {Q : Exit → Act → World → Prop} {a : Act} {w : World}
    (hro : F.round = none) (h1 : 1 ≤ n) {gf : Nat} {lb : Array Value} (hg : a.eval g = .func (.func gf) #[] lb) (hF : F.fn gf) (eg : ∀ args w, (callFunc gf args).run P w = .ok (.enter gf args) w)
    {vals : Nat → Array Value} {N : Nat} {bx : Option Nat} {o0 : Obj} {S : World → Prop} (hseq : SeqRun F (n - 1) P gf lb vals N bx o0 S) (hps : ∀ t, (vals t).size = ps.size) (c : Code)
    (I : Nat → World → Prop) (Ix : World → Prop) (hI : ∀ t A B r, I t A → A.grownBy B (some r) → (w.heap.size ≤ r ∨ bx = some r) → I t B) (hIx : ∀ A B r, Ix A → A.grownBy B (some r) → w.heap.size ≤ r → Ix B)
    (hS : ∀ t A, I t A → S A) (hbx : ∀ b, bx = some b → w.heap[b]? = some o0) (h0 : I 0 w) (a₁ : Nat → Act)
    (hassign : ∀ (l t : Nat) (W : World) (K : Act → World → Prop), t < N → K (a₁ t) W →
      assign.wpIn (F.inRound l) (n - 1 - 1) P (Exit.then K (fun _ _ _ => False)) { tmps := (ps.zip (vals t)).foldl (fun t (p, v) => t.setIfInBounds p v) a.tmps, defers := [] } W)
    (hbody : ∀ (l t : Nat) (W : World), t < N → I t W → body.wpIn (F.inRound l) (n - 1 - 1) P (bodyEnds c w.heap.size bx t I Ix W) (a₁ t) W)
    (hdone : ∀ (D : Nat) (W : World), w.heap.size ≤ D → I N W → W.heap[D]? = some (.deferred (some [])) → Q .normal { a with defers := { target := .collected D, args := #[] } :: a.defers } W)
    (hstop : ∀ (D : Nat) (W : World), w.heap.size ≤ D → Ix W → W.heap[D]? = some (.deferred (some [])) → c.wpIn F n P Q { a with defers := { target := .collected D, args := #[] } :: a.defers } W) :
    (Code.rangeFunc g ps assign body).wpIn F n P Q a w := by
  refine wpIn_rangeFunc fun fn hfn => ?_
  rw [hro]
  have hBx : ∀ b, bx = some b → b < w.heap.size := fun b hb => (Array.getElem?_eq_some_iff.1 (hbx b hb)).1
  obtain ⟨rc, hrc⟩ : ∃ rc : LoopState → Option Code → Loop, ∀ st pe, rc st pe = { state := st, pending := pe, fn, tmps := a.tmps, params := ps, assign, body, defers := w.heap.size } := ⟨_, fun _ _ => rfl⟩
  obtain ⟨D, hD⟩ : ∃ D, w.heap.size = D := ⟨_, rfl⟩
  obtain ⟨W1, hW1⟩ : ∃ W1, (w.alloc (.deferred (some []))).alloc (.loop (rc .ready none)) = W1 := ⟨_, rfl⟩
  have hsz : W1.heap.size = D + 2 := by rw [← hW1, ← hD]; simp
  have hloop : W1.heap[D + 1]? = some (.loop (rc .ready none)) := by
    have h := World.alloc_heap_new (w.alloc (.deferred (some []))) (.loop (rc .ready none))
    rw [hW1, World.size_alloc, hD] at h
    exact h
  have hdef : W1.heap[D]? = some (.deferred (some [])) := by
    have h := World.alloc_heap_new w (.deferred (some []))
    rw [hD] at h
    rw [← hW1, Below.heap_alloc _ _ _ (by simp; omega)]
    exact h
  have hgrow : w.grownBy W1 (some D) := by
    rw [← hW1]
    refine ⟨rfl, rfl, rfl, by simp; omega, fun k hk _ => ?_⟩
    rw [Below.heap_alloc _ _ k (by simp; omega), Below.heap_alloc _ _ k hk]
  have hI1 : I 0 W1 := hI 0 w W1 D h0 hgrow (by omega)
  have hbx1 : ∀ b, bx = some b → W1.heap[b]? = some o0 := fun b hb => (hgrow.block b (hBx b hb) (by have := hBx b hb; simp; omega)).trans (hbx b hb)
  refine ⟨D + 1, [{ target := .collected D, args := #[] }], W1, { target := .fn (.func gf) lb, args := #[.func (.yield (D + 1)) #[] #[]] }, W1, gf,
    #[.func (.yield (D + 1)) #[] #[]] ++ lb, W1, ?_, ?_, ?_, ?_, fun _ => h1, ?_⟩
  · rw [← hW1, hrc, ← hD]; exact run_enterLoop_outer _ _ _ _ _
  · simp only [resolve, hg]; simp [go_sem]
  · intro f' hf'; simp [Target.leads] at hf'; subst hf'; exact hF
  · simp [invoke, go_sem, eg]
  refine (hseq (D + 1) (fun t A => I t A ∧ A.heap[D + 1]? = some (.loop (rc .ready none)) ∧ A.heap[D]? = some (.deferred (some [])) ∧ D + 2 ≤ A.heap.size)
    (fun A => Ix A ∧ A.heap[D + 1]? = some (.loop (rc .done (some c))) ∧ A.heap[D]? = some (.deferred (some []))) W1 ?_ (fun t A h => hS t A h.1) ?_ hbx1 ⟨hI1, hloop, hdef, by omega⟩).mono ?_
  · rintro t A B ⟨i, l, d, z⟩ hgr
    have hi : I t B := by
      cases bx with
      | none => exact hI t A B D i ⟨hgr.os, hgr.tape, hgr.output, hgr.size, fun k hk _ => hgr.block k hk (by simp)⟩ (by omega)
      | some b => exact hI t A B b i hgr (.inr rfl)
    refine ⟨hi, (hgr.block (D + 1) (by omega) ?_).trans l, (hgr.block D (by omega) ?_).trans d, Nat.le_trans z hgr.size⟩
    · cases bx with
      | none => simp
      | some b => have := hBx b rfl; simp; omega
    · cases bx with
      | none => simp
      | some b => have := hBx b rfl; simp; omega
  · -- one round
    rintro t A ht ⟨i, hl, hd, z⟩
    have hy := run_yield (P := P) (args := vals t) hl (by rw [hrc]; exact hps t)
    rw [hrc] at hy
    refine ⟨fn, _, assign, body, hy, roundIn_of_wpIn hfn (hassign _ t A _ ht ⟨_, run_beginRound hl (by rw [hrc]), ?_⟩)⟩
    obtain ⟨A2, hA2⟩ : ∃ A2, A.putObj (D + 1) (.loop { rc .ready none with state := .busy }) = A2 := ⟨_, rfl⟩
    rw [hA2]
    have z2 : A2.heap.size = A.heap.size := by rw [← hA2]; simp
    have hl2 : A2.heap[D + 1]? = some (.loop { rc .ready none with state := .busy }) := by rw [← hA2]; exact World.putObj_heap_same (by omega)
    have hd2 : A2.heap[D]? = some (.deferred (some [])) := by rw [← hA2]; exact (World.putObj_heap_other (by omega)).trans hd
    have hb2 : ∀ b, bx = some b → A2.heap[b]? = A.heap[b]? := fun b hb => by rw [← hA2]; have := hBx b hb; exact World.putObj_heap_other (by omega)
    have i2 : I t A2 := by rw [← hA2]; exact hI t A _ _ i (turn A _ _) (by omega)
    have back : ∀ (jump : Option Code) (B : World), Past w.heap.size bx A2 B →
        (Instr.endRound (D + 1) jump).run P B = .ok (.bool jump.isNone) (B.putObj (D + 1) (.loop (rc (if jump.isNone then .ready else .done) jump))) ∧ B.heap[D]? = some (.deferred (some [])) ∧ D + 2 ≤ B.heap.size := fun jump B hp => by
      have hl3 := (hp.2.2 (D + 1) (by omega) (by omega)).trans hl2
      have h := run_endRound (P := P) jump hl3
      simp only [hrc] at h ⊢
      exact ⟨h, (hp.2.2 D (by omega) (by omega)).trans hd2, by have := hp.1; omega⟩
    refine wpIn_mono (hbody _ t A2 ht i2) ?_
    rintro e a' B hb
    cases e with
    | normal =>
      obtain ⟨hp, hi⟩ := hb
      obtain ⟨h, d3, z3⟩ := back none B hp
      refine ⟨_, _, h, .inl ⟨rfl, ⟨hI _ _ _ _ hi (turn B _ _) (by omega), World.putObj_heap_same (by omega), (World.putObj_heap_other (by omega)).trans d3, by simpa using z3⟩, fun b hb => ?_⟩⟩
      have := hBx b hb
      rw [World.putObj_heap_other (by omega), hp.2.1 b hb, hb2 b hb]
    | exit id =>
      obtain ⟨hc, hp, hi⟩ := hb
      obtain ⟨h, d3, z3⟩ := back (some (.exit id)) B hp
      rw [hc] at h
      refine ⟨_, _, by rw [hc]; exact h, .inr ⟨rfl, hIx _ _ _ hi (turn B _ _) (by omega), World.putObj_heap_same (by omega), (World.putObj_heap_other (by omega)).trans d3⟩⟩
    | ret => exact hb.elim
    | goto t => exact hb.elim
    | panic ch => exact hb.elim
    | outgrown => exact hb.elim
  · -- the iterator has come back
    rintro e W2 ⟨⟨v, rfl⟩, ⟨hi, hl, hd, z⟩ | ⟨hi, hl, hd⟩⟩
    · have h := run_endLoop (P := P) hl (by rw [hrc]; simp)
      have hp : (rc .ready none).pending = none := by rw [hrc]
      rw [hp] at h
      exact ⟨none, _, h, hdone D _ (by omega) (hI _ _ _ _ hi (turn W2 _ _) (by omega)) ((World.putObj_heap_other (by omega)).trans hd)⟩
    · have h := run_endLoop (P := P) hl (by rw [hrc]; simp)
      have hp : (rc .done (some c)).pending = some c := by rw [hrc]
      rw [hp] at h
      exact ⟨some c, _, h, hstop D _ (by omega) (hIx _ _ _ hi (turn W2 _ _) (by omega)) ((World.putObj_heap_other (by omega)).trans hd)⟩
end Seqs
end Go.Proofs.YthojdcmkajmdjaaDoor

namespace Go.Proofs.YthojdcmkajmdjaaDoor
open Go.RowKit
theorem upon_in {P : Program} {o : Oper} {a : Act} {K : Act → World → Prop} {Q : Exit → Act → World → Prop} {r : Result Next} (l n : Nat) (h : o.upon P a K Q r) : o.uponIn (Fence.wide.inRound l) n P a K Q r := by
  cases r with
  | halt x w' => cases x <;> first | exact h | exact h.elim
  | ok x w' =>
    cases x with
    | value v => exact h
    | skip => exact h
    | «defer» d => exact h
    | enter f args => exact ⟨fun h => Bool.noConfusion (show false = true from h), CallsIn.inRound l (callsIn_wide.2 h)⟩
    | row rw args => exact ⟨fun h => Bool.noConfusion (show false = true from h), fun c cs _ => let ⟨v, w', r, s⟩ := h c cs; ⟨v, w', r, stepsIn_wide.2 s⟩⟩
    | _ => exact h.elim
def noDefer (ops : Array Oper) : Bool := ops.all fun o => match o.op with | .defer _ => false | _ => true
theorem noDefer_at {ops : Array Oper} (h : noDefer ops = true) {i : Nat} {o : Oper} (ho : ops[i]? = some o) : ∀ c, o.op ≠ .defer c := by
  intro c hc
  have hm := Array.mem_of_getElem? ho
  unfold noDefer at h
  rw [Array.all_eq_true'] at h
  have := h o hm
  rw [hc] at this
  cases this
theorem op_in {P : Program} {ops : Array Oper} {Q : Exit → Act → World → Prop} {i : Nat} {K : Act → World → Prop} {a : Act} {w : World} (l n : Nat) (hd : noDefer ops = true) (hno : ¬ LetsOut Q) (h : wpOp P ops Q i K a w) :
    wpOpIn (Fence.wide.inRound l) n P ops Q i K a w := by
  unfold wpOp at h
  unfold wpOpIn
  cases ho : ops[i]? with
  | none => simp only [ho] at h ⊢; exact h
  | some o =>
    simp only [ho] at h ⊢
    split at h
    · rename_i hw
      rw [if_pos hw]
      rcases h with h | ⟨_, h⟩
      · refine ⟨fun _ _ => trivial, ?_⟩
        rw [Oper.semAt_eq _ _ _ (noDefer_at hd ho)]
        exact upon_in l n h
      · exact absurd h hno
    · rename_i hw
      rw [if_neg hw]
      exact ⟨fun _ _ => trivial, h⟩
theorem any_in {P : Program} {md : Region.Mode} {ops : Array Oper} {Q : Exit → Act → World → Prop} (l n : Nat) (hd : noDefer ops = true) (hno : ¬ LetsOut Q) : ∀ (fuel : Nat) (listed : Array Bool) (a : Act) (w : World),
    wpAny P md ops Q fuel listed a w → wpAnyIn (Fence.wide.inRound l) n P md ops Q fuel listed a w
  | 0, _, _, _, h => h
  | fuel + 1, _, _, _, h => ⟨h.1, fun i hi => op_in l n hd hno (wpOpK (any_in l n hd hno fuel _) (h.2 i hi))⟩
where wpOpK {P : Program} {ops : Array Oper} {Q : Exit → Act → World → Prop} {i : Nat} {K K' : Act → World → Prop} {a : Act} {w : World} (hk : ∀ a w, K a w → K' a w) (h : wpOp P ops Q i K a w) : wpOp P ops Q i K' a w := wpOp_mono hk h
/-- THE REGION: its orders, walked as outside a round -/
theorem region_round {P : Program} {id : Nat} {ops : List Oper} {Q : Exit → Act → World → Prop} {a : Act} {w : World} {l n : Nat} (hm : P.follows .mixedOrders = true) (hd : noDefer ops.toArray = true) (hno : ¬ LetsOut Q)
    (h : wpAny P .any ops.toArray Q ops.toArray.size (Array.replicate ops.toArray.size false) a w.drew) : (Code.region id ops.toArray true).wpIn (Fence.wide.inRound l) n P Q a w :=
  wpIn_region_any hm (any_in l n hd hno _ _ _ _ h)
end Go.Proofs.YthojdcmkajmdjaaDoor
