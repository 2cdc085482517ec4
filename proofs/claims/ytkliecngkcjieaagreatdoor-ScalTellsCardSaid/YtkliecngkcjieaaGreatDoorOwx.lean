/- A range over a function that keeps blocks of its own, and comes to an end or is left by one jump, obeys its law: what holds of each turn holds at its end. Conditions: those of the law's structure. A range over a function that keeps blocks of its own, told by a list, and whose body may lay and turn blocks of its own, obeys its law: what holds of each turn holds at its end. Conditions: those of the law's structure. A range over a function that keeps blocks of its own, whose body may be left by any jump, obeys its law, and so does one within an iterator: what holds of each turn holds at its end. Conditions: those of the law's structure. -/
import Derived.RangeFuncNested
import Derived.RangeFuncBound
import Derived.RangeFuncCalls
import Derived.RangeFuncLeaves
import Derived.WalkKit
import Derived.Deep.Draws
import Derived.Laws.Rows
set_option maxRecDepth 100000
namespace Go.Proofs.YtkliecngkcjieaaGreatDoor
open Go.RowKit
/-- a turn of the block B, and new blocks -/
theorem gB_refl (w : World) (B : Nat) : w.grownBy w (some B) := World.grownBy.refl w _
theorem gB_drewN {w w' : World} {B : Nat} (h : w.grownBy w' (some B)) (n : Nat) : w.grownBy (w'.drewN n) (some B) := ⟨h.os, h.tape, h.output, h.size, h.block⟩
theorem gB_drew {w w' : World} {B : Nat} (h : w.grownBy w' (some B)) : w.grownBy w'.drew (some B) := ⟨h.os, h.tape, h.output, h.size, h.block⟩
theorem gB_alloc {w w' : World} {B : Nat} (h : w.grownBy w' (some B)) (o : Obj) : w.grownBy (w'.alloc o) (some B) :=
  ⟨h.os, h.tape, h.output, by have := h.size; simp; omega, fun k hk hne => (Below.heap_alloc w' o k (Nat.lt_of_lt_of_le hk h.size)).trans (h.block k hk hne)⟩
theorem gB_setCell {w w' : World} {B : Nat} (h : w.grownBy w' (some B)) (j : Nat) (v : Value) : w.grownBy (w'.setCell ⟨B, j, none⟩ v) (some B) :=
  ⟨h.os, h.tape, h.output, by have := h.size; simp; omega, fun k hk hne => (Below.heap_setCell w' _ v k (fun e => hne (by rw [e]))).trans (h.block k hk hne)⟩
theorem gB_of_below {w w' : World} (h : Below w.heap.size w w') (row : Option Nat) : w.grownBy w' row := ⟨h.os, h.tape, h.output, h.size, fun k hk _ => h.block k hk⟩
theorem below_of_grown {w w' : World} {b B : Nat} (h : w.grownBy w' (some b)) (hb : B ≤ b) (hB : B ≤ w.heap.size) : Below B w w' := ⟨h.os, h.tape, h.output, h.size, fun k hk => h.block k (by omega) (by simp; omega)⟩
namespace Seqo
variable {F : Fence} {n : Nat} {P : Program}

/-- the blocks from B on lie as they lay -/
def Keeps (B : Nat) (W W' : World) : Prop := W.heap.size ≤ W'.heap.size ∧ ∀ k, B ≤ k → k < W.heap.size → W'.heap[k]? = W.heap[k]?
theorem Keeps.refl (B : Nat) (W : World) : Keeps B W W := ⟨Nat.le_refl _, fun _ _ _ => rfl⟩
theorem Keeps.trans {B : Nat} {W W' W'' : World} (h : Keeps B W W') (k : Keeps B W' W'') : Keeps B W W'' :=
  ⟨Nat.le_trans h.1 k.1, fun j hj hl => (k.2 j hj (Nat.lt_of_lt_of_le hl h.1)).trans (h.2 j hj hl)⟩
theorem Keeps.of_below {B : Nat} {W W' : World} (h : Below W.heap.size W W') : Keeps B W W' := ⟨h.size, fun k _ hl => h.block k hl⟩
theorem Keeps.of_grown {B b : Nat} {W W' : World} (h : W.grownBy W' (some b)) (hb : b < B) : Keeps B W W' := ⟨h.size, fun k hk hl => h.block k hl (by simp; omega)⟩

/-- AN ITERATOR of N turns with blocks of its own: it comes back behind turn N, or when a round has left it. -/
def SeqOwn (F : Fence) (n : Nat) (P : Program) (g : Nat) (lb : Array Value) (vals : Nat → Array Value) (N : Nat) (S : World → Prop) : Prop :=
  ∀ (l : Nat) (J : Nat → World → Prop) (Jx : World → Prop) (W : World),
    (∀ t A B r, J t A → A.grownBy B (some r) → W.heap.size ≤ r → J t B) → (∀ t A, J t A → S A) →
    (∀ t A, t < N → J t A → W.heap.size ≤ A.heap.size → YieldAt F (n - 1) P l (vals t) A fun e B =>
      (e = .returned (.bool true) ∧ J (t + 1) B ∧ Keeps W.heap.size A B) ∨ (e = .returned (.bool false) ∧ Jx B)) →
    J 0 W → CallsIn F n P g (#[.func (.yield l) #[] #[]] ++ lb) W fun e W' => (∃ v, e = .returned v) ∧ (J N W' ∨ Jx W')

/-- how the body of a round may be left: at its end, or by the one jump c -/
def bodyEnds (c : Code) (B t : Nat) (I : Nat → World → Prop) (Ix : World → Prop) (W : World) : Exit → Act → World → Prop
  | .normal, _, W' => Keeps B W W' ∧ I (t + 1) W'
  | .exit id, _, W' => Code.exit id = c ∧ Keeps B W W' ∧ Ix W'
  | _, _, _ => False

/-- a turn of a block's object -/
theorem turn (W : World) (l : Nat) (o : Obj) : W.grownBy (W.putObj l o) (some l) := grownBy_putObj' W l o

/-- THE STATEMENT OVER SUCH AN ITERATOR, where the body touches no block laid since the loop began; what is assigned may be laid in blocks of its own. -/
theorem wpIn_rangeFunc_seqo {g : Operand} {ps : Array Tmp} {assign body : Code} {Q : Exit → Act → World → Prop} {a : Act} {w : World}
    (hro : F.round = none) (h1 : 1 ≤ n) {gf : Nat} {lb : Array Value} (hg : a.eval g = .func (.func gf) #[] lb) (hF : F.fn gf) (eg : ∀ args w, (callFunc gf args).run P w = .ok (.enter gf args) w)
    {vals : Nat → Array Value} {N : Nat} {S : World → Prop} (hseq : SeqOwn F (n - 1) P gf lb vals N S) (hps : ∀ t, (vals t).size = ps.size) (c : Code)
    (I : Nat → World → Prop) (Ix : World → Prop) (hI : ∀ t A B r, I t A → A.grownBy B (some r) → w.heap.size ≤ r → I t B) (hIx : ∀ A B r, Ix A → A.grownBy B (some r) → w.heap.size ≤ r → Ix B)
    (hS : ∀ t A, I t A → S A) (h0 : I 0 w) (Ax : Nat → Act → World → Prop)
    (hAx : ∀ t a A B r, Ax t a A → A.grownBy B (some r) → (∀ cs T q, A.heap[r]? ≠ some (.cells cs T q)) → Ax t a B)
    (hassign : ∀ (l t : Nat) (W : World) (K : Act → World → Prop), t < N → I t W → (∀ a' W', W.grownBy W' none → Ax t a' W' → K a' W') →
      assign.wpIn (F.inRound l) (n - 1 - 1) P (Exit.then K (fun _ _ _ => False)) { tmps := (ps.zip (vals t)).foldl (fun t (p, v) => t.setIfInBounds p v) a.tmps, defers := [] } W)
    (hbody : ∀ (l t : Nat) (a' : Act) (W : World), t < N → I t W → Ax t a' W → body.wpIn (F.inRound l) (n - 1 - 1) P (bodyEnds c w.heap.size t I Ix W) a' W)
    (hdone : ∀ (D : Nat) (W : World), w.heap.size ≤ D → I N W → W.heap[D]? = some (.deferred (some [])) → Q .normal { a with defers := { target := .collected D, args := #[] } :: a.defers } W)
    (hstop : ∀ (D : Nat) (W : World), w.heap.size ≤ D → Ix W → W.heap[D]? = some (.deferred (some [])) → c.wpIn F n P Q { a with defers := { target := .collected D, args := #[] } :: a.defers } W) :
    (Code.rangeFunc g ps assign body).wpIn F n P Q a w := by
  refine wpIn_rangeFunc fun fn hfn => ?_
  rw [hro]
  obtain ⟨rc, hrc⟩ : ∃ rc : LoopState → Option Code → Loop, ∀ st pe, rc st pe = { state := st, pending := pe, fn, tmps := a.tmps, params := ps, assign, body, defers := w.heap.size } := ⟨_, fun _ _ => rfl⟩
  obtain ⟨D, hD⟩ : ∃ D, w.heap.size = D := ⟨_, rfl⟩
  obtain ⟨W1, hW1⟩ : ∃ W1, (w.alloc (.deferred (some []))).alloc (.loop (rc .ready none)) = W1 := ⟨_, rfl⟩
  have hsz : W1.heap.size = D + 2 := by rw [← hW1, ← hD]; simp
  have hloop : W1.heap[D + 1]? = some (.loop (rc .ready none)) := by
    have h := World.alloc_heap_new (w.alloc (.deferred (some []))) (.loop (rc .ready none))
    rw [hW1, World.size_alloc, hD] at h
    exact h
  have hdef : W1.heap[D]? = some (.deferred (some [])) := by
    have h := World.alloc_heap_new w (.deferred (some []))
    rw [hD] at h
    rw [← hW1, Below.heap_alloc _ _ _ (by simp; omega)]
    exact h
  have hgrow : w.grownBy W1 (some D) := by
    rw [← hW1]
    refine ⟨rfl, rfl, rfl, by simp; omega, fun k hk _ => ?_⟩
    rw [Below.heap_alloc _ _ k (by simp; omega), Below.heap_alloc _ _ k hk]
  have hI1 : I 0 W1 := hI 0 w W1 D h0 hgrow (by omega)
  refine ⟨D + 1, [{ target := .collected D, args := #[] }], W1, { target := .fn (.func gf) lb, args := #[.func (.yield (D + 1)) #[] #[]] }, W1, gf,
    #[.func (.yield (D + 1)) #[] #[]] ++ lb, W1, ?_, ?_, ?_, ?_, fun _ => h1, ?_⟩
  · rw [← hW1, hrc, ← hD]; exact run_enterLoop_outer _ _ _ _ _
  · simp only [resolve, hg]; simp [go_sem]
  · intro f' hf'; simp [Target.leads] at hf'; subst hf'; exact hF
  · simp [invoke, go_sem, eg]
  refine (hseq (D + 1) (fun t A => I t A ∧ A.heap[D + 1]? = some (.loop (rc .ready none)) ∧ A.heap[D]? = some (.deferred (some [])) ∧ D + 2 ≤ A.heap.size)
    (fun A => Ix A ∧ A.heap[D + 1]? = some (.loop (rc .done (some c))) ∧ A.heap[D]? = some (.deferred (some []))) W1 ?_ (fun t A h => hS t A h.1) ?_ ⟨hI1, hloop, hdef, by omega⟩).mono ?_
  · rintro t A B r ⟨i, l, d, z⟩ hgr hr
    rw [hsz] at hr
    exact ⟨hI t A B r i hgr (by omega), (hgr.block (D + 1) (by omega) (by simp; omega)).trans l, (hgr.block D (by omega) (by simp; omega)).trans d, Nat.le_trans z hgr.size⟩
  · -- one round
    rintro t A ht ⟨i, hl, hd, z⟩ hA
    rw [hsz] at hA ⊢
    have hy := run_yield (P := P) (args := vals t) hl (by rw [hrc]; exact hps t)
    rw [hrc] at hy
    refine ⟨fn, _, assign, body, hy, roundIn_of_wpIn hfn (hassign _ t A _ ht i ?_)⟩
    intro a' A1 hg1 hax
    have z1 := hg1.size
    have hl1 := (hg1.block (D + 1) (by omega) (by simp)).trans hl
    have hd1 := (hg1.block D (by omega) (by simp)).trans hd
    have i1 : I t A1 := hI t A A1 D i ⟨hg1.os, hg1.tape, hg1.output, hg1.size, fun k hk _ => hg1.block k hk (by simp)⟩ (by omega)
    refine ⟨_, run_beginRound hl1 (by rw [hrc]), ?_⟩
    obtain ⟨A2, hA2⟩ : ∃ A2, A1.putObj (D + 1) (.loop { rc .ready none with state := .busy }) = A2 := ⟨_, rfl⟩
    rw [hA2]
    have z2 : A2.heap.size = A1.heap.size := by rw [← hA2]; simp
    have hl2 : A2.heap[D + 1]? = some (.loop { rc .ready none with state := .busy }) := by rw [← hA2]; exact World.putObj_heap_same (by omega)
    have hd2 : A2.heap[D]? = some (.deferred (some [])) := by rw [← hA2]; exact (World.putObj_heap_other (by omega)).trans hd1
    have i2 : I t A2 := by rw [← hA2]; exact hI t A1 _ _ i1 (turn A1 _ _) (by omega)
    have ax2 : Ax t a' A2 := by rw [← hA2]; exact hAx t a' A1 _ _ hax (turn A1 _ _) (fun cs T q => by rw [hl1]; simp)
    have back : ∀ (jump : Option Code) (B : World), Keeps w.heap.size A2 B →
        (Instr.endRound (D + 1) jump).run P B = .ok (.bool jump.isNone) (B.putObj (D + 1) (.loop (rc (if jump.isNone then .ready else .done) jump))) ∧ B.heap[D]? = some (.deferred (some [])) ∧ D + 2 ≤ B.heap.size := fun jump B hp => by
      have hl3 := (hp.2 (D + 1) (by omega) (by omega)).trans hl2
      have h := run_endRound (P := P) jump hl3
      simp only [hrc] at h ⊢
      exact ⟨h, (hp.2 D (by omega) (by omega)).trans hd2, by have := hp.1; omega⟩
    refine wpIn_mono (hbody _ t a' A2 ht i2 ax2) ?_
    rintro e a' B hb
    cases e with
    | normal =>
      obtain ⟨hp, hi⟩ := hb
      obtain ⟨h, d3, z3⟩ := back none B hp
      have hzz := hp.1
      refine ⟨_, _, h, .inl ⟨rfl, ⟨hI _ _ _ _ hi (turn B _ _) (by omega), World.putObj_heap_same (by omega), (World.putObj_heap_other (by omega)).trans d3, by simpa using z3⟩, ?_⟩⟩
      refine ⟨by simp; omega, fun k hk hkl => ?_⟩
      rw [World.putObj_heap_other (by omega), hp.2 k (by omega) (by omega), ← hA2, World.putObj_heap_other (by omega), hg1.block k hkl (by simp)]
    | exit id =>
      obtain ⟨hc, hp, hi⟩ := hb
      obtain ⟨h, d3, z3⟩ := back (some (.exit id)) B hp
      rw [hc] at h
      refine ⟨_, _, by rw [hc]; exact h, .inr ⟨rfl, hIx _ _ _ hi (turn B _ _) (by omega), World.putObj_heap_same (by omega), (World.putObj_heap_other (by omega)).trans d3⟩⟩
    | ret => exact hb.elim
    | goto t => exact hb.elim
    | panic ch => exact hb.elim
    | outgrown => exact hb.elim
  · -- the iterator has come back
    rintro e W2 ⟨⟨v, rfl⟩, ⟨hi, hl, hd, z⟩ | ⟨hi, hl, hd⟩⟩
    · have h := run_endLoop (P := P) hl (by rw [hrc]; simp)
      have hp : (rc .ready none).pending = none := by rw [hrc]
      rw [hp] at h
      exact ⟨none, _, h, hdone D _ (by omega) (hI _ _ _ _ hi (turn W2 _ _) (by omega)) ((World.putObj_heap_other (by omega)).trans hd)⟩
    · have h := run_endLoop (P := P) hl (by rw [hrc]; simp)
      have hp : (rc .done (some c)).pending = some c := by rw [hrc]
      rw [hp] at h
      exact ⟨some c, _, h, hstop D _ (by omega) (hIx _ _ _ hi (turn W2 _ _) (by omega)) ((World.putObj_heap_other (by omega)).trans hd)⟩
end Seqo
end Go.Proofs.YtkliecngkcjieaaGreatDoor

set_option maxRecDepth 100000
namespace Go.Proofs.YtkliecngkcjieaaGreatDoor
open Go.RowKit
namespace Seqx
open Seqo (turn)
variable {F : Fence} {n : Nat} {P : Program}
/-- the blocks of a list lie as they lay -/
def KeepsO (O : List Nat) (W W' : World) : Prop := W.heap.size ≤ W'.heap.size ∧ ∀ k ∈ O, W'.heap[k]? = W.heap[k]?
theorem KeepsO.refl (O : List Nat) (W : World) : KeepsO O W W := ⟨Nat.le_refl _, fun _ _ => rfl⟩
theorem KeepsO.trans {O : List Nat} {W W' W'' : World} (h : KeepsO O W W') (k : KeepsO O W' W'') : KeepsO O W W'' :=
  ⟨Nat.le_trans h.1 k.1, fun j hj => (k.2 j hj).trans (h.2 j hj)⟩
theorem KeepsO.of_below {O : List Nat} {W W' : World} (h : Below W.heap.size W W') (hO : ∀ k ∈ O, k < W.heap.size) : KeepsO O W W' := ⟨h.size, fun k hk => h.block k (hO k hk)⟩
theorem KeepsO.of_grown {O : List Nat} {r : Nat} {W W' : World} (h : W.grownBy W' (some r)) (hO : ∀ k ∈ O, k < W.heap.size) (hr : r ∉ O) : KeepsO O W W' :=
  ⟨h.size, fun k hk => h.block k (hO k hk) (fun e => hr (Option.some.inj e ▸ hk))⟩
/-- a block is no row of bytes -/
def NB (W : World) (r : Nat) : Prop := ∀ cs fr, W.heap[r]? ≠ some (.cells cs 5 fr)
/-- what holds of a turn, O being the iterator's blocks: those may turn, and new ones join them -/
structure Stab (J : Nat → List Nat → World → Prop) : Prop where
  own : ∀ t O A B r, J t O A → A.grownBy B (some r) → r ∈ O → NB B r → J t O B
  new : ∀ t O A B r, J t O A → A.grownBy B (some r) → A.heap.size ≤ r → r < B.heap.size → NB B r → J t (r :: O) B
/-- AN ITERATOR of N turns with blocks of its own: it comes back behind turn N, or when a round has left it. -/
def SeqX (F : Fence) (n : Nat) (P : Program) (g : Nat) (lb : Array Value) (vals : Nat → Array Value) (N : Nat) (S : World → Prop) : Prop :=
  ∀ (l : Nat) (J : Nat → List Nat → World → Prop) (Jx : World → Prop) (W : World),
    Stab J → (∀ t O A, J t O A → S A) →
    (∀ t O A, t < N → J t O A → YieldAt F (n - 1) P l (vals t) A fun e B =>
      (e = .returned (.bool true) ∧ J (t + 1) O B ∧ KeepsO O A B) ∨ (e = .returned (.bool false) ∧ Jx B)) →
    J 0 [] W → CallsIn F n P g (#[.func (.yield l) #[] #[]] ++ lb) W fun e W' => (∃ v, e = .returned v) ∧ ((∃ O, J N O W') ∨ Jx W')
/-- how the body of a round may be left: at its end, or by the one jump c -/
def bodyEnds (c : Code) (O : List Nat) (t : Nat) (I : Nat → List Nat → World → Prop) (Ix : World → Prop) (W : World) : Exit → Act → World → Prop
  | .normal, _, W' => KeepsO O W W' ∧ I (t + 1) O W'
  | .exit id, _, W' => Code.exit id = c ∧ KeepsO O W W' ∧ Ix W'
  | .ret, _, W' => Code.ret = c ∧ KeepsO O W W' ∧ Ix W'
  | _, _, _ => False
/-- THE STATEMENT OVER SUCH AN ITERATOR. -/
theorem wpIn_rangeFunc_seqx {g : Operand} {ps : Array Tmp} {assign body : Code} {Q : Exit → Act → World → Prop} {a : Act} {w : World}
    (hro : F.round = none) (h1 : 1 ≤ n) {gf : Nat} {lb : Array Value} (hg : a.eval g = .func (.func gf) #[] lb) (hF : F.fn gf) (eg : ∀ args w, (callFunc gf args).run P w = .ok (.enter gf args) w)
    {vals : Nat → Array Value} {N : Nat} {S : World → Prop} (hseq : SeqX F (n - 1) P gf lb vals N S) (hps : ∀ t, (vals t).size = ps.size) (c : Code)
    (I : Nat → List Nat → World → Prop) (Ix : World → Prop) (hI : Stab I) (hIx : ∀ A B, Ix A → A.grownBy B (some (w.heap.size + 1)) → Ix B)
    (hS : ∀ t O A, I t O A → S A) (h0 : I 0 [] w) (a₁ : Nat → Act)
    (hassign : ∀ (l t : Nat) (W : World) (K : Act → World → Prop), t < N → K (a₁ t) W →
      assign.wpIn (F.inRound l) (n - 1 - 1) P (Exit.then K (fun _ _ _ => False)) { tmps := (ps.zip (vals t)).foldl (fun t (p, v) => t.setIfInBounds p v) a.tmps, defers := [] } W)
    (hbody : ∀ (l t : Nat) (O : List Nat) (W : World), t < N → I t O W → w.heap.size ∈ O → w.heap.size + 1 ∈ O → w.heap.size + 2 ≤ W.heap.size → body.wpIn (F.inRound l) (n - 1 - 1) P (bodyEnds c O t I Ix W) (a₁ t) W)
    (hdone : ∀ (O : List Nat) (W : World), I N O W → w.heap.size ∈ O → w.heap.size + 1 ∈ O → W.heap[w.heap.size]? = some (.deferred (some [])) → Q .normal { a with defers := { target := .collected w.heap.size, args := #[] } :: a.defers } W)
    (hstop : ∀ (W : World), Ix W → W.heap[w.heap.size]? = some (.deferred (some [])) → c.wpIn F n P Q { a with defers := { target := .collected w.heap.size, args := #[] } :: a.defers } W) :
    (Code.rangeFunc g ps assign body).wpIn F n P Q a w := by
  refine wpIn_rangeFunc fun fn hfn => ?_
  rw [hro]
  obtain ⟨rc, hrc⟩ : ∃ rc : LoopState → Option Code → Loop, ∀ st pe, rc st pe = { state := st, pending := pe, fn, tmps := a.tmps, params := ps, assign, body, defers := w.heap.size } := ⟨_, fun _ _ => rfl⟩
  obtain ⟨D, hD⟩ : ∃ D, w.heap.size = D := ⟨_, rfl⟩
  obtain ⟨W1, hW1⟩ : ∃ W1, (w.alloc (.deferred (some []))).alloc (.loop (rc .ready none)) = W1 := ⟨_, rfl⟩
  have hsz : W1.heap.size = D + 2 := by rw [← hW1, ← hD]; simp
  have hloop : W1.heap[D + 1]? = some (.loop (rc .ready none)) := by
    have h := World.alloc_heap_new (w.alloc (.deferred (some []))) (.loop (rc .ready none))
    rw [hW1, World.size_alloc, hD] at h
    exact h
  have hdef : W1.heap[D]? = some (.deferred (some [])) := by
    have h := World.alloc_heap_new w (.deferred (some []))
    rw [hD] at h
    rw [← hW1, Below.heap_alloc _ _ _ (by simp; omega)]
    exact h
  have hI1 : I 0 [D + 1, D] W1 := by
    have h2 := hI.new 0 [] w (w.alloc (.deferred (some []))) D h0 (by rw [← hD]; exact gB_alloc (gB_refl _ _) _) (by omega) (by rw [World.size_alloc]; omega) (by
      intro cs fr h
      have h' := World.alloc_heap_new w (.deferred (some []))
      rw [hD] at h'
      rw [h'] at h; cases h)
    have h3 := hI.new 0 [D] (w.alloc (.deferred (some []))) W1 (D + 1) h2 (by
      rw [← hW1, show D + 1 = (w.alloc (.deferred (some []))).heap.size by rw [World.size_alloc, hD]]
      exact gB_alloc (gB_refl _ _) _) (by rw [World.size_alloc, hD]; exact Nat.le_refl _) (by omega) (by
      intro cs fr h
      rw [hloop] at h; cases h)
    exact h3
  rw [hD] at hbody hdone hstop
  refine ⟨D + 1, [{ target := .collected D, args := #[] }], W1, { target := .fn (.func gf) lb, args := #[.func (.yield (D + 1)) #[] #[]] }, W1, gf,
    #[.func (.yield (D + 1)) #[] #[]] ++ lb, W1, ?_, ?_, ?_, ?_, fun _ => h1, ?_⟩
  · rw [← hW1, hrc, ← hD]; exact run_enterLoop_outer _ _ _ _ _
  · simp only [resolve, hg]; simp [go_sem]
  · intro f' hf'; simp [Target.leads] at hf'; subst hf'; exact hF
  · simp [invoke, go_sem, eg]
  refine (hseq (D + 1) (fun t O A => I t (O ++ [D + 1, D]) A ∧ A.heap[D + 1]? = some (.loop (rc .ready none)) ∧ A.heap[D]? = some (.deferred (some [])) ∧ D + 2 ≤ A.heap.size ∧ D ∉ O ∧ D + 1 ∉ O)
    (fun A => Ix A ∧ A.heap[D + 1]? = some (.loop (rc .done (some c))) ∧ A.heap[D]? = some (.deferred (some []))) W1 ?_ (fun t O A h => hS t _ A h.1) ?_ ⟨hI1, hloop, hdef, by omega, by simp, by simp⟩).mono ?_
  · refine ⟨?_, ?_⟩
    · rintro t O A B r ⟨i, l, d, z, n1, n2⟩ hgr hr hnb
      have r1 : r ≠ D := fun e => n1 (e ▸ hr)
      have r2 : r ≠ D + 1 := fun e => n2 (e ▸ hr)
      exact ⟨hI.own t _ A B r i hgr (List.mem_append_left _ hr) hnb, (hgr.block (D + 1) (by omega) (by simp; omega)).trans l, (hgr.block D (by omega) (by simp; omega)).trans d, Nat.le_trans z hgr.size, n1, n2⟩
    · rintro t O A B r ⟨i, l, d, z, n1, n2⟩ hgr hr hlt hnb
      refine ⟨hI.new t _ A B r i hgr hr hlt hnb, (hgr.block (D + 1) (by omega) (by simp; omega)).trans l, (hgr.block D (by omega) (by simp; omega)).trans d, Nat.le_trans z hgr.size, ?_, ?_⟩
      · intro h
        rcases List.mem_cons.1 h with h | h
        · omega
        · exact n1 h
      · intro h
        rcases List.mem_cons.1 h with h | h
        · omega
        · exact n2 h
  · -- one round
    rintro t O A ht ⟨i, hl, hd, z, n1, n2⟩
    have hy := run_yield (P := P) (args := vals t) hl (by rw [hrc]; exact hps t)
    rw [hrc] at hy
    refine ⟨fn, _, assign, body, hy, roundIn_of_wpIn hfn (hassign _ t A _ ht ?_)⟩
    refine ⟨_, run_beginRound hl (by rw [hrc]), ?_⟩
    obtain ⟨A2, hA2⟩ : ∃ A2, A.putObj (D + 1) (.loop { rc .ready none with state := .busy }) = A2 := ⟨_, rfl⟩
    rw [hA2]
    have z2 : A2.heap.size = A.heap.size := by rw [← hA2]; simp
    have hl2 : A2.heap[D + 1]? = some (.loop { rc .ready none with state := .busy }) := by rw [← hA2]; exact World.putObj_heap_same (by omega)
    have hd2 : A2.heap[D]? = some (.deferred (some [])) := by rw [← hA2]; exact (World.putObj_heap_other (by omega)).trans hd
    have i2 : I t (O ++ [D + 1, D]) A2 := by rw [← hA2]; exact hI.own t _ A _ (D + 1) i (turn A _ _) (by simp) (fun cs fr h => by rw [World.putObj_heap_same (by omega)] at h; cases h)
    have kO : ∀ k ∈ O, A2.heap[k]? = A.heap[k]? := fun k hk => by
      rw [← hA2]
      exact World.putObj_heap_other (by intro e; first | exact n2 (e ▸ hk) | exact n2 (e.symm ▸ hk))
    have back : ∀ (jump : Option Code) (B : World), KeepsO (O ++ [D + 1, D]) A2 B →
        (Instr.endRound (D + 1) jump).run P B = .ok (.bool jump.isNone) (B.putObj (D + 1) (.loop (rc (if jump.isNone then .ready else .done) jump))) ∧ B.heap[D]? = some (.deferred (some [])) ∧ D + 2 ≤ B.heap.size := fun jump B hp => by
      have hl3 := (hp.2 (D + 1) (by simp)).trans hl2
      have h := run_endRound (P := P) jump hl3
      simp only [hrc] at h ⊢
      exact ⟨h, (hp.2 D (by simp)).trans hd2, by have := hp.1; omega⟩
    refine wpIn_mono (hbody _ t _ A2 ht i2 (by simp) (by simp) (by omega)) ?_
    rintro e a' B hb
    cases e with
    | normal =>
      obtain ⟨hp, hi⟩ := hb
      obtain ⟨h, d3, z3⟩ := back none B hp
      have hzz := hp.1
      refine ⟨_, _, h, .inl ⟨rfl, ⟨hI.own _ _ _ _ (D + 1) hi (turn B _ _) (by simp) (fun cs fr h => by rw [World.putObj_heap_same (by omega)] at h; cases h), World.putObj_heap_same (by omega), (World.putObj_heap_other (by omega)).trans d3, by simpa using z3, n1, n2⟩, ?_⟩⟩
      refine ⟨by simp; omega, fun k hk => ?_⟩
      rw [World.putObj_heap_other (by intro e; first | exact n2 (e ▸ hk) | exact n2 (e.symm ▸ hk)), hp.2 k (List.mem_append_left _ hk), kO k hk]
    | exit id =>
      obtain ⟨hc, hp, hi⟩ := hb
      obtain ⟨h, d3, z3⟩ := back (some (.exit id)) B hp
      rw [hc] at h
      refine ⟨_, _, by rw [hc]; exact h, .inr ⟨rfl, hIx _ _ hi (by rw [hD]; exact turn B _ _), World.putObj_heap_same (by omega), (World.putObj_heap_other (by omega)).trans d3⟩⟩
    | ret =>
      obtain ⟨hc, hp, hi⟩ := hb
      obtain ⟨h, d3, z3⟩ := back (some .ret) B hp
      rw [hc] at h
      refine ⟨_, _, by rw [hc]; exact h, .inr ⟨rfl, hIx _ _ hi (by rw [hD]; exact turn B _ _), World.putObj_heap_same (by omega), (World.putObj_heap_other (by omega)).trans d3⟩⟩
    | goto t => exact hb.elim
    | panic ch => exact hb.elim
    | outgrown => exact hb.elim
  · -- the iterator has come back
    rintro e W2 ⟨⟨v, rfl⟩, ⟨O, hi, hl, hd, z, n1, n2⟩ | ⟨hi, hl, hd⟩⟩
    · have h := run_endLoop (P := P) hl (by rw [hrc]; simp)
      have hp : (rc .ready none).pending = none := by rw [hrc]
      rw [hp] at h
      exact ⟨none, _, h, hdone _ _ (hI.own _ _ _ _ (D + 1) hi (turn W2 _ _) (by simp) (fun cs fr h => by rw [World.putObj_heap_same (by omega)] at h; cases h)) (by simp) (by simp) ((World.putObj_heap_other (by omega)).trans hd)⟩
    · have h := run_endLoop (P := P) hl (by rw [hrc]; simp)
      have hp : (rc .done (some c)).pending = some c := by rw [hrc]
      rw [hp] at h
      exact ⟨some c, _, h, hstop _ (hIx _ _ hi (by rw [hD]; exact turn W2 _ _)) ((World.putObj_heap_other (by omega)).trans hd)⟩
end Seqx
end Go.Proofs.YtkliecngkcjieaaGreatDoor

set_option maxRecDepth 100000
namespace Go.Proofs.YtkliecngkcjieaaGreatDoor
open Go.RowKit
namespace Seqx
open Seqo (turn)
variable {F : Fence} {n : Nat} {P : Program}
/-- what holds when an iterator has been left, O being its blocks: those may turn -/
def LeftO (Jx : List Nat → World → Prop) : Prop := ∀ O A B r, Jx O A → A.grownBy B (some r) → r ∈ O → NB B r → Jx O B
/-- AN ITERATOR of N turns with blocks of its own; Q: what it asks of what holds when a round has left it. -/
def SeqQ (Q : (List Nat → World → Prop) → Prop) (F : Fence) (n : Nat) (P : Program) (g : Nat) (lb : Array Value) (vals : Nat → Array Value) (N : Nat) (S : World → Prop) : Prop :=
  ∀ (l : Nat) (J : Nat → List Nat → World → Prop) (Jx : List Nat → World → Prop) (W : World),
    Stab J → Q Jx → (∀ t O A, J t O A → S A) →
    (∀ t O A, t < N → J t O A → YieldAt F (n - 1) P l (vals t) A fun e B =>
      KeepsO O A B ∧ ((e = .returned (.bool true) ∧ J (t + 1) O B) ∨ (e = .returned (.bool false) ∧ Jx O B))) →
    J 0 [] W → CallsIn F n P g (#[.func (.yield l) #[] #[]] ++ lb) W fun e W' => (∃ v, e = .returned v) ∧ ((∃ O, J N O W') ∨ ∃ O, Jx O W')
/-- one that may turn its blocks also when a round has left it -/
abbrev SeqY := SeqQ LeftO
theorem YieldAt_mono {m l : Nat} {args : Array Value} {W : World} {R R' : Ending → World → Prop} (h : YieldAt F m P l args W R) (hR : ∀ e B, R e B → R' e B) : YieldAt F m P l args W R' := by
  obtain ⟨fn, tmps, assign, body, hy, hr⟩ := h
  exact ⟨fn, tmps, assign, body, hy, hr.mono hR⟩
theorem YieldAt_wide {m m' l l' : Nat} {args : Array Value} {W : World} {R : Ending → World → Prop} (h : YieldAt Fence.wide m P l args W R) : YieldAt (Fence.wide.inRound l') m' P l args W R := by
  obtain ⟨fn, tmps, assign, body, hy, hr⟩ := h
  exact ⟨fn, tmps, assign, body, hy, trivial, fun c cs _ => hr.2 c cs (room_wide _)⟩
theorem YieldAt_deep {m m' l : Nat} {args : Array Value} {W : World} {R : Ending → World → Prop} (h : YieldAt Fence.wide m P l args W R) : YieldAt Fence.wide m' P l args W R := by
  obtain ⟨fn, tmps, assign, body, hy, hr⟩ := h
  exact ⟨fn, tmps, assign, body, hy, trivial, fun c cs _ => hr.2 c cs (room_wide _)⟩
theorem SeqX.toQ {g : Nat} {lb : Array Value} {vals : Nat → Array Value} {N : Nat} {S : World → Prop} (h : SeqX F n P g lb vals N S) : SeqQ (fun _ => True) F n P g lb vals N S :=
  fun l J Jx W hJ _ hS hY h0 => h l J (fun W => ∃ O, Jx O W) W hJ hS (fun t O A ht hj => YieldAt_mono (hY t O A ht hj) (fun e B hh => by
    obtain ⟨k, ⟨he, h1⟩ | ⟨he, h1⟩⟩ := hh
    · exact .inl ⟨he, h1, k⟩
    · exact .inr ⟨he, O, h1⟩)) h0
/-- how the body of a round may be left: at its end, or by a jump -/
def bodyEndsY (O : List Nat) (t : Nat) (I : Nat → List Nat → World → Prop) (Ix : Code → List Nat → World → Prop) (W : World) : Exit → Act → World → Prop
  | .normal, _, W' => KeepsO O W W' ∧ I (t + 1) O W'
  | .exit id, _, W' => KeepsO O W W' ∧ Ix (.exit id) O W'
  | .ret, _, W' => KeepsO O W W' ∧ Ix .ret O W'
  | _, _, _ => False
/-- THE STATEMENT OVER SUCH AN ITERATOR. -/
theorem wpIn_rangeFunc_seqy {g : Operand} {ps : Array Tmp} {assign body : Code} {Q : Exit → Act → World → Prop} {a : Act} {w : World}
    (hro : F.round = none) (h1 : 1 ≤ n) {gf : Nat} {lb : Array Value} (hg : a.eval g = .func (.func gf) #[] lb) (hF : F.fn gf) (eg : ∀ args w, (callFunc gf args).run P w = .ok (.enter gf args) w)
    {vals : Nat → Array Value} {N : Nat} {S : World → Prop} {Qx : (List Nat → World → Prop) → Prop} (hseq : SeqQ Qx F (n - 1) P gf lb vals N S) (hps : ∀ t, (vals t).size = ps.size)
    (I : Nat → List Nat → World → Prop) (Ix : Code → List Nat → World → Prop) (hI : Stab I) (hIx : ∀ c, LeftO (Ix c))
    (hQ : ∀ R : Code → Loop, Qx (fun O A => ∃ c, Ix c (O ++ [w.heap.size + 1, w.heap.size]) A ∧ A.heap[w.heap.size + 1]? = some (.loop (R c)) ∧ A.heap[w.heap.size]? = some (.deferred (some [])) ∧ w.heap.size ∉ O ∧ w.heap.size + 1 ∉ O))
    (hS : ∀ t O A, I t O A → S A) (h0 : I 0 [] w) (a₁ : Nat → Act)
    (hassign : ∀ (l t : Nat) (W : World) (K : Act → World → Prop), t < N → K (a₁ t) W →
      assign.wpIn (F.inRound l) (n - 1 - 1) P (Exit.then K (fun _ _ _ => False)) { tmps := (ps.zip (vals t)).foldl (fun t (p, v) => t.setIfInBounds p v) a.tmps, defers := [] } W)
    (hbody : ∀ (l t : Nat) (O : List Nat) (W : World), t < N → I t O W → w.heap.size ∈ O → w.heap.size + 1 ∈ O → w.heap.size + 2 ≤ W.heap.size → body.wpIn (F.inRound l) (n - 1 - 1) P (bodyEndsY O t I Ix W) (a₁ t) W)
    (hdone : ∀ (O : List Nat) (W : World), I N O W → w.heap.size ∈ O → w.heap.size + 1 ∈ O → W.heap[w.heap.size]? = some (.deferred (some [])) → Q .normal { a with defers := { target := .collected w.heap.size, args := #[] } :: a.defers } W)
    (hstop : ∀ (c : Code) (O : List Nat) (W : World), Ix c O W → w.heap.size ∈ O → w.heap.size + 1 ∈ O → W.heap[w.heap.size]? = some (.deferred (some [])) → c.wpIn F n P Q { a with defers := { target := .collected w.heap.size, args := #[] } :: a.defers } W) :
    (Code.rangeFunc g ps assign body).wpIn F n P Q a w := by
  refine wpIn_rangeFunc fun fn hfn => ?_
  rw [hro]
  obtain ⟨rc, hrc⟩ : ∃ rc : LoopState → Option Code → Loop, ∀ st pe, rc st pe = { state := st, pending := pe, fn, tmps := a.tmps, params := ps, assign, body, defers := w.heap.size } := ⟨_, fun _ _ => rfl⟩
  obtain ⟨D, hD⟩ : ∃ D, w.heap.size = D := ⟨_, rfl⟩
  obtain ⟨W1, hW1⟩ : ∃ W1, (w.alloc (.deferred (some []))).alloc (.loop (rc .ready none)) = W1 := ⟨_, rfl⟩
  have hsz : W1.heap.size = D + 2 := by rw [← hW1, ← hD]; simp
  have hloop : W1.heap[D + 1]? = some (.loop (rc .ready none)) := by
    have h := World.alloc_heap_new (w.alloc (.deferred (some []))) (.loop (rc .ready none))
    rw [hW1, World.size_alloc, hD] at h
    exact h
  have hdef : W1.heap[D]? = some (.deferred (some [])) := by
    have h := World.alloc_heap_new w (.deferred (some []))
    rw [hD] at h
    rw [← hW1, Below.heap_alloc _ _ _ (by simp; omega)]
    exact h
  have hI1 : I 0 [D + 1, D] W1 := by
    have h2 := hI.new 0 [] w (w.alloc (.deferred (some []))) D h0 (by rw [← hD]; exact gB_alloc (gB_refl _ _) _) (by omega) (by rw [World.size_alloc]; omega) (by
      intro cs fr h
      have h' := World.alloc_heap_new w (.deferred (some []))
      rw [hD] at h'
      rw [h'] at h; cases h)
    have h3 := hI.new 0 [D] (w.alloc (.deferred (some []))) W1 (D + 1) h2 (by
      rw [← hW1, show D + 1 = (w.alloc (.deferred (some []))).heap.size by rw [World.size_alloc, hD]]
      exact gB_alloc (gB_refl _ _) _) (by rw [World.size_alloc, hD]; exact Nat.le_refl _) (by omega) (by
      intro cs fr h
      rw [hloop] at h; cases h)
    exact h3
  rw [hD] at hbody hdone hstop
  refine ⟨D + 1, [{ target := .collected D, args := #[] }], W1, { target := .fn (.func gf) lb, args := #[.func (.yield (D + 1)) #[] #[]] }, W1, gf,
    #[.func (.yield (D + 1)) #[] #[]] ++ lb, W1, ?_, ?_, ?_, ?_, fun _ => h1, ?_⟩
  · rw [← hW1, hrc, ← hD]; exact run_enterLoop_outer _ _ _ _ _
  · simp only [resolve, hg]; simp [go_sem]
  · intro f' hf'; simp [Target.leads] at hf'; subst hf'; exact hF
  · simp [invoke, go_sem, eg]
  refine (hseq (D + 1) (fun t O A => I t (O ++ [D + 1, D]) A ∧ A.heap[D + 1]? = some (.loop (rc .ready none)) ∧ A.heap[D]? = some (.deferred (some [])) ∧ D + 2 ≤ A.heap.size ∧ D ∉ O ∧ D + 1 ∉ O)
    (fun O A => ∃ c, Ix c (O ++ [D + 1, D]) A ∧ A.heap[D + 1]? = some (.loop (rc .done (some c))) ∧ A.heap[D]? = some (.deferred (some [])) ∧ D ∉ O ∧ D + 1 ∉ O) W1 ?_ ?_ (fun t O A h => hS t _ A h.1) ?_ ⟨hI1, hloop, hdef, by omega, by simp, by simp⟩).mono ?_
  · refine ⟨?_, ?_⟩
    · rintro t O A B r ⟨i, l, d, z, n1, n2⟩ hgr hr hnb
      have r1 : r ≠ D := fun e => n1 (e ▸ hr)
      have r2 : r ≠ D + 1 := fun e => n2 (e ▸ hr)
      exact ⟨hI.own t _ A B r i hgr (List.mem_append_left _ hr) hnb, (hgr.block (D + 1) (by omega) (by simp; omega)).trans l, (hgr.block D (by omega) (by simp; omega)).trans d, Nat.le_trans z hgr.size, n1, n2⟩
    · rintro t O A B r ⟨i, l, d, z, n1, n2⟩ hgr hr hlt hnb
      refine ⟨hI.new t _ A B r i hgr hr hlt hnb, (hgr.block (D + 1) (by omega) (by simp; omega)).trans l, (hgr.block D (by omega) (by simp; omega)).trans d, Nat.le_trans z hgr.size, ?_, ?_⟩
      · intro h
        rcases List.mem_cons.1 h with h | h
        · omega
        · exact n1 h
      · intro h
        rcases List.mem_cons.1 h with h | h
        · omega
        · exact n2 h
  · have h := hQ (fun c => rc .done (some c))
    rw [hD] at h
    exact h
  · -- one round
    rintro t O A ht ⟨i, hl, hd, z, n1, n2⟩
    have hy := run_yield (P := P) (args := vals t) hl (by rw [hrc]; exact hps t)
    rw [hrc] at hy
    refine ⟨fn, _, assign, body, hy, roundIn_of_wpIn hfn (hassign _ t A _ ht ?_)⟩
    refine ⟨_, run_beginRound hl (by rw [hrc]), ?_⟩
    obtain ⟨A2, hA2⟩ : ∃ A2, A.putObj (D + 1) (.loop { rc .ready none with state := .busy }) = A2 := ⟨_, rfl⟩
    rw [hA2]
    have z2 : A2.heap.size = A.heap.size := by rw [← hA2]; simp
    have hl2 : A2.heap[D + 1]? = some (.loop { rc .ready none with state := .busy }) := by rw [← hA2]; exact World.putObj_heap_same (by omega)
    have hd2 : A2.heap[D]? = some (.deferred (some [])) := by rw [← hA2]; exact (World.putObj_heap_other (by omega)).trans hd
    have i2 : I t (O ++ [D + 1, D]) A2 := by rw [← hA2]; exact hI.own t _ A _ (D + 1) i (turn A _ _) (by simp) (fun cs fr h => by rw [World.putObj_heap_same (by omega)] at h; cases h)
    have kO : ∀ k ∈ O, A2.heap[k]? = A.heap[k]? := fun k hk => by
      rw [← hA2]
      exact World.putObj_heap_other (by intro e; first | exact n2 (e ▸ hk) | exact n2 (e.symm ▸ hk))
    have back : ∀ (jump : Option Code) (B : World), KeepsO (O ++ [D + 1, D]) A2 B →
        (Instr.endRound (D + 1) jump).run P B = .ok (.bool jump.isNone) (B.putObj (D + 1) (.loop (rc (if jump.isNone then .ready else .done) jump))) ∧ B.heap[D]? = some (.deferred (some [])) ∧ D + 2 ≤ B.heap.size := fun jump B hp => by
      have hl3 := (hp.2 (D + 1) (by simp)).trans hl2
      have h := run_endRound (P := P) jump hl3
      simp only [hrc] at h ⊢
      exact ⟨h, (hp.2 D (by simp)).trans hd2, by have := hp.1; omega⟩
    refine wpIn_mono (hbody _ t _ A2 ht i2 (by simp) (by simp) (by omega)) ?_
    rintro e a' B hb
    have kB : ∀ (B : World) (o : Obj), KeepsO (O ++ [D + 1, D]) A2 B → KeepsO O A (B.putObj (D + 1) o) := fun B o hp => by
      refine ⟨by have := hp.1; simp; omega, fun k hk => ?_⟩
      rw [World.putObj_heap_other (by intro e; first | exact n2 (e ▸ hk) | exact n2 (e.symm ▸ hk)), hp.2 k (List.mem_append_left _ hk), kO k hk]
    cases e with
    | normal =>
      obtain ⟨hp, hi⟩ := hb
      obtain ⟨h, d3, z3⟩ := back none B hp
      refine ⟨_, _, h, kB _ _ hp, .inl ⟨rfl, ⟨hI.own _ _ _ _ (D + 1) hi (turn B _ _) (by simp) (fun cs fr h => by rw [World.putObj_heap_same (by omega)] at h; cases h), World.putObj_heap_same (by omega), (World.putObj_heap_other (by omega)).trans d3, by simpa using z3, n1, n2⟩⟩⟩
    | exit id =>
      obtain ⟨hp, hi⟩ := hb
      obtain ⟨h, d3, z3⟩ := back (some (.exit id)) B hp
      refine ⟨_, _, h, kB _ _ hp, .inr ⟨rfl, _, hIx _ _ _ _ (D + 1) hi (turn B (D + 1) _) (by simp) (fun cs fr h => by rw [World.putObj_heap_same (by omega)] at h; cases h), World.putObj_heap_same (by omega), (World.putObj_heap_other (by omega)).trans d3, n1, n2⟩⟩
    | ret =>
      obtain ⟨hp, hi⟩ := hb
      obtain ⟨h, d3, z3⟩ := back (some .ret) B hp
      refine ⟨_, _, h, kB _ _ hp, .inr ⟨rfl, _, hIx _ _ _ _ (D + 1) hi (turn B (D + 1) _) (by simp) (fun cs fr h => by rw [World.putObj_heap_same (by omega)] at h; cases h), World.putObj_heap_same (by omega), (World.putObj_heap_other (by omega)).trans d3, n1, n2⟩⟩
    | goto t => exact hb.elim
    | panic ch => exact hb.elim
    | outgrown => exact hb.elim
  · -- the iterator has come back
    rintro e W2 ⟨⟨v, rfl⟩, ⟨O, hi, hl, hd, z, n1, n2⟩ | ⟨O, c, hi, hl, hd, n1, n2⟩⟩
    · have h := run_endLoop (P := P) hl (by rw [hrc]; simp)
      have hp : (rc .ready none).pending = none := by rw [hrc]
      rw [hp] at h
      exact ⟨none, _, h, hdone _ _ (hI.own _ _ _ _ (D + 1) hi (turn W2 _ _) (by simp) (fun cs fr h => by rw [World.putObj_heap_same (by omega)] at h; cases h)) (by simp) (by simp) ((World.putObj_heap_other (by omega)).trans hd)⟩
    · have h := run_endLoop (P := P) hl (by rw [hrc]; simp)
      have hp : (rc .done (some c)).pending = some c := by rw [hrc]
      rw [hp] at h
      have zl := (Array.getElem?_eq_some_iff.1 hl).1
      exact ⟨some c, _, h, hstop _ _ _ (hIx _ _ _ _ (D + 1) hi (turn W2 (D + 1) _) (by simp) (fun cs fr h => by rw [World.putObj_heap_same zl] at h; cases h)) (by simp) (by simp) ((World.putObj_heap_other (by omega)).trans hd)⟩
/-- what is asked of such a one where it may turn its blocks: it abides them -/
theorem left_of {Ix : Code → List Nat → World → Prop} {D : Nat} (h : ∀ c, LeftO (Ix c)) (R : Code → Loop) :
    LeftO (fun O A => ∃ c, Ix c (O ++ [D + 1, D]) A ∧ A.heap[D + 1]? = some (.loop (R c)) ∧ A.heap[D]? = some (.deferred (some [])) ∧ D ∉ O ∧ D + 1 ∉ O) := by
  rintro O A B r ⟨c, hc, hl, hd, n1, n2⟩ hgr hr hnb
  have r1 : r ≠ D := fun e => n1 (e ▸ hr)
  have r2 : r ≠ D + 1 := fun e => n2 (e ▸ hr)
  have z1 := (Array.getElem?_eq_some_iff.1 hl).1
  have z2 := (Array.getElem?_eq_some_iff.1 hd).1
  exact ⟨c, h c _ A B r hc hgr (List.mem_append_left _ hr) hnb, (hgr.block (D + 1) z1 (by simp; omega)).trans hl, (hgr.block D z2 (by simp; omega)).trans hd, n1, n2⟩
end Seqx
end Go.Proofs.YtkliecngkcjieaaGreatDoor
