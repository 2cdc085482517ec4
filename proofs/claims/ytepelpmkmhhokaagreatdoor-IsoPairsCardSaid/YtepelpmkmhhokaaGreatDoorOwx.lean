/- A range over a function that keeps blocks of its own, and comes to an end or is left by one jump, obeys its law: what holds of each turn holds at its end. Conditions: those of the law's structure. A range over a function that lays no block of its own, and whose body may lay and turn blocks of its own, obeys its law: what holds of each turn holds at its end. Conditions: those of the law's structure. A range over a function that turns blocks of its own, some of which lay before it began, and whose body may lay and turn others, obeys its law: what holds of each turn holds at its end. Conditions: those of the law's structure. A range over a function that turns blocks of its own, and whose body turns others that both look at, obeys its law; what is assigned may be laid in a block of its own. Conditions: those of the law's structure. -/
import Derived.RangeFuncNested
import Derived.RangeFuncBound
import Derived.RangeFuncCalls
import Derived.RangeFuncLeaves
import Derived.WalkKit
import Derived.Deep.Draws
import Derived.Laws.Rows
set_option maxRecDepth 100000
namespace Go.Proofs.YtepelpmkmhhokaaGreatDoor
open Go.RowKit
/-- a turn of the block B, and new blocks -/
theorem gB_refl (w : World) (B : Nat) : w.grownBy w (some B) := World.grownBy.refl w _
theorem gB_drewN {w w' : World} {B : Nat} (h : w.grownBy w' (some B)) (n : Nat) : w.grownBy (w'.drewN n) (some B) := ⟨h.os, h.tape, h.output, h.size, h.block⟩
theorem gB_drew {w w' : World} {B : Nat} (h : w.grownBy w' (some B)) : w.grownBy w'.drew (some B) := ⟨h.os, h.tape, h.output, h.size, h.block⟩
theorem gB_alloc {w w' : World} {B : Nat} (h : w.grownBy w' (some B)) (o : Obj) : w.grownBy (w'.alloc o) (some B) :=
  ⟨h.os, h.tape, h.output, by have := h.size; simp; omega, fun k hk hne => (Below.heap_alloc w' o k (Nat.lt_of_lt_of_le hk h.size)).trans (h.block k hk hne)⟩
theorem gB_setCell {w w' : World} {B : Nat} (h : w.grownBy w' (some B)) (j : Nat) (v : Value) : w.grownBy (w'.setCell ⟨B, j, none⟩ v) (some B) :=
  ⟨h.os, h.tape, h.output, by have := h.size; simp; omega, fun k hk hne => (Below.heap_setCell w' _ v k (fun e => hne (by rw [e]))).trans (h.block k hk hne)⟩
theorem gB_of_below {w w' : World} (h : Below w.heap.size w w') (row : Option Nat) : w.grownBy w' row := ⟨h.os, h.tape, h.output, h.size, fun k hk _ => h.block k hk⟩
theorem below_of_grown {w w' : World} {b B : Nat} (h : w.grownBy w' (some b)) (hb : B ≤ b) (hB : B ≤ w.heap.size) : Below B w w' := ⟨h.os, h.tape, h.output, h.size, fun k hk => h.block k (by omega) (by simp; omega)⟩
namespace Seqo
variable {F : Fence} {n : Nat} {P : Program}

/-- the blocks from B on lie as they lay -/
def Keeps (B : Nat) (W W' : World) : Prop := W.heap.size ≤ W'.heap.size ∧ ∀ k, B ≤ k → k < W.heap.size → W'.heap[k]? = W.heap[k]?
theorem Keeps.refl (B : Nat) (W : World) : Keeps B W W := ⟨Nat.le_refl _, fun _ _ _ => rfl⟩
theorem Keeps.trans {B : Nat} {W W' W'' : World} (h : Keeps B W W') (k : Keeps B W' W'') : Keeps B W W'' :=
  ⟨Nat.le_trans h.1 k.1, fun j hj hl => (k.2 j hj (Nat.lt_of_lt_of_le hl h.1)).trans (h.2 j hj hl)⟩
theorem Keeps.of_below {B : Nat} {W W' : World} (h : Below W.heap.size W W') : Keeps B W W' := ⟨h.size, fun k _ hl => h.block k hl⟩
theorem Keeps.of_grown {B b : Nat} {W W' : World} (h : W.grownBy W' (some b)) (hb : b < B) : Keeps B W W' := ⟨h.size, fun k hk hl => h.block k hl (by simp; omega)⟩

/-- AN ITERATOR of N turns with blocks of its own: it comes back behind turn N, or when a round has left it. -/
def SeqOwn (F : Fence) (n : Nat) (P : Program) (g : Nat) (lb : Array Value) (vals : Nat → Array Value) (N : Nat) (S : World → Prop) : Prop :=
  ∀ (l : Nat) (J : Nat → World → Prop) (Jx : World → Prop) (W : World),
    (∀ t A B r, J t A → A.grownBy B (some r) → W.heap.size ≤ r → J t B) → (∀ t A, J t A → S A) →
    (∀ t A, t < N → J t A → W.heap.size ≤ A.heap.size → YieldAt F (n - 1) P l (vals t) A fun e B =>
      (e = .returned (.bool true) ∧ J (t + 1) B ∧ Keeps W.heap.size A B) ∨ (e = .returned (.bool false) ∧ Jx B)) →
    J 0 W → CallsIn F n P g (#[.func (.yield l) #[] #[]] ++ lb) W fun e W' => (∃ v, e = .returned v) ∧ (J N W' ∨ Jx W')

/-- how the body of a round may be left: at its end, or by the one jump c -/
def bodyEnds (c : Code) (B t : Nat) (I : Nat → World → Prop) (Ix : World → Prop) (W : World) : Exit → Act → World → Prop
  | .normal, _, W' => Keeps B W W' ∧ I (t + 1) W'
  | .exit id, _, W' => Code.exit id = c ∧ Keeps B W W' ∧ Ix W'
  | _, _, _ => False

/-- a turn of a block's object -/
theorem turn (W : World) (l : Nat) (o : Obj) : W.grownBy (W.putObj l o) (some l) := grownBy_putObj' W l o

/-- THE STATEMENT OVER SUCH AN ITERATOR, where the body touches no block laid since the loop began; what is assigned may be laid in blocks of its own. -/
theorem wpIn_rangeFunc_seqo {g : Operand} {ps : Array Tmp} {assign body : Code} {Q : Exit → Act → World → Prop} {a : Act} {w : World}
    (hro : F.round = none) (h1 : 1 ≤ n) {gf : Nat} {lb : Array Value} (hg : a.eval g = .func (.func gf) #[] lb) (hF : F.fn gf) (eg : ∀ args w, (callFunc gf args).run P w = .ok (.enter gf args) w)
    {vals : Nat → Array Value} {N : Nat} {S : World → Prop} (hseq : SeqOwn F (n - 1) P gf lb vals N S) (hps : ∀ t, (vals t).size = ps.size) (c : Code)
    (I : Nat → World → Prop) (Ix : World → Prop) (hI : ∀ t A B r, I t A → A.grownBy B (some r) → w.heap.size ≤ r → I t B) (hIx : ∀ A B r, Ix A → A.grownBy B (some r) → w.heap.size ≤ r → Ix B)
    (hS : ∀ t A, I t A → S A) (h0 : I 0 w) (Ax : Nat → Act → World → Prop)
    (hAx : ∀ t a A B r, Ax t a A → A.grownBy B (some r) → (∀ cs T q, A.heap[r]? ≠ some (.cells cs T q)) → Ax t a B)
    (hassign : ∀ (l t : Nat) (W : World) (K : Act → World → Prop), t < N → I t W → (∀ a' W', W.grownBy W' none → Ax t a' W' → K a' W') →
      assign.wpIn (F.inRound l) (n - 1 - 1) P (Exit.then K (fun _ _ _ => False)) { tmps := (ps.zip (vals t)).foldl (fun t (p, v) => t.setIfInBounds p v) a.tmps, defers := [] } W)
    (hbody : ∀ (l t : Nat) (a' : Act) (W : World), t < N → I t W → Ax t a' W → body.wpIn (F.inRound l) (n - 1 - 1) P (bodyEnds c w.heap.size t I Ix W) a' W)
    (hdone : ∀ (D : Nat) (W : World), w.heap.size ≤ D → I N W → W.heap[D]? = some (.deferred (some [])) → Q .normal { a with defers := { target := .collected D, args := #[] } :: a.defers } W)
    (hstop : ∀ (D : Nat) (W : World), w.heap.size ≤ D → Ix W → W.heap[D]? = some (.deferred (some [])) → c.wpIn F n P Q { a with defers := { target := .collected D, args := #[] } :: a.defers } W) :
    (Code.rangeFunc g ps assign body).wpIn F n P Q a w := by
  refine wpIn_rangeFunc fun fn hfn => ?_
  rw [hro]
  obtain ⟨rc, hrc⟩ : ∃ rc : LoopState → Option Code → Loop, ∀ st pe, rc st pe = { state := st, pending := pe, fn, tmps := a.tmps, params := ps, assign, body, defers := w.heap.size } := ⟨_, fun _ _ => rfl⟩
  obtain ⟨D, hD⟩ : ∃ D, w.heap.size = D := ⟨_, rfl⟩
  obtain ⟨W1, hW1⟩ : ∃ W1, (w.alloc (.deferred (some []))).alloc (.loop (rc .ready none)) = W1 := ⟨_, rfl⟩
  have hsz : W1.heap.size = D + 2 := by rw [← hW1, ← hD]; simp
  have hloop : W1.heap[D + 1]? = some (.loop (rc .ready none)) := by
    have h := World.alloc_heap_new (w.alloc (.deferred (some []))) (.loop (rc .ready none))
    rw [hW1, World.size_alloc, hD] at h
    exact h
  have hdef : W1.heap[D]? = some (.deferred (some [])) := by
    have h := World.alloc_heap_new w (.deferred (some []))
    rw [hD] at h
    rw [← hW1, Below.heap_alloc _ _ _ (by simp; omega)]
    exact h
  have hgrow : w.grownBy W1 (some D) := by
    rw [← hW1]
    refine ⟨rfl, rfl, rfl, by simp; omega, fun k hk _ => ?_⟩
    rw [Below.heap_alloc _ _ k (by simp; omega), Below.heap_alloc _ _ k hk]
  have hI1 : I 0 W1 := hI 0 w W1 D h0 hgrow (by omega)
  refine ⟨D + 1, [{ target := .collected D, args := #[] }], W1, { target := .fn (.func gf) lb, args := #[.func (.yield (D + 1)) #[] #[]] }, W1, gf,
    #[.func (.yield (D + 1)) #[] #[]] ++ lb, W1, ?_, ?_, ?_, ?_, fun _ => h1, ?_⟩
  · rw [← hW1, hrc, ← hD]; exact run_enterLoop_outer _ _ _ _ _
  · simp only [resolve, hg]; simp [go_sem]
  · intro f' hf'; simp [Target.leads] at hf'; subst hf'; exact hF
  · simp [invoke, go_sem, eg]
  refine (hseq (D + 1) (fun t A => I t A ∧ A.heap[D + 1]? = some (.loop (rc .ready none)) ∧ A.heap[D]? = some (.deferred (some [])) ∧ D + 2 ≤ A.heap.size)
    (fun A => Ix A ∧ A.heap[D + 1]? = some (.loop (rc .done (some c))) ∧ A.heap[D]? = some (.deferred (some []))) W1 ?_ (fun t A h => hS t A h.1) ?_ ⟨hI1, hloop, hdef, by omega⟩).mono ?_
  · rintro t A B r ⟨i, l, d, z⟩ hgr hr
    rw [hsz] at hr
    exact ⟨hI t A B r i hgr (by omega), (hgr.block (D + 1) (by omega) (by simp; omega)).trans l, (hgr.block D (by omega) (by simp; omega)).trans d, Nat.le_trans z hgr.size⟩
  · -- one round
    rintro t A ht ⟨i, hl, hd, z⟩ hA
    rw [hsz] at hA ⊢
    have hy := run_yield (P := P) (args := vals t) hl (by rw [hrc]; exact hps t)
    rw [hrc] at hy
    refine ⟨fn, _, assign, body, hy, roundIn_of_wpIn hfn (hassign _ t A _ ht i ?_)⟩
    intro a' A1 hg1 hax
    have z1 := hg1.size
    have hl1 := (hg1.block (D + 1) (by omega) (by simp)).trans hl
    have hd1 := (hg1.block D (by omega) (by simp)).trans hd
    have i1 : I t A1 := hI t A A1 D i ⟨hg1.os, hg1.tape, hg1.output, hg1.size, fun k hk _ => hg1.block k hk (by simp)⟩ (by omega)
    refine ⟨_, run_beginRound hl1 (by rw [hrc]), ?_⟩
    obtain ⟨A2, hA2⟩ : ∃ A2, A1.putObj (D + 1) (.loop { rc .ready none with state := .busy }) = A2 := ⟨_, rfl⟩
    rw [hA2]
    have z2 : A2.heap.size = A1.heap.size := by rw [← hA2]; simp
    have hl2 : A2.heap[D + 1]? = some (.loop { rc .ready none with state := .busy }) := by rw [← hA2]; exact World.putObj_heap_same (by omega)
    have hd2 : A2.heap[D]? = some (.deferred (some [])) := by rw [← hA2]; exact (World.putObj_heap_other (by omega)).trans hd1
    have i2 : I t A2 := by rw [← hA2]; exact hI t A1 _ _ i1 (turn A1 _ _) (by omega)
    have ax2 : Ax t a' A2 := by rw [← hA2]; exact hAx t a' A1 _ _ hax (turn A1 _ _) (fun cs T q => by rw [hl1]; simp)
    have back : ∀ (jump : Option Code) (B : World), Keeps w.heap.size A2 B →
        (Instr.endRound (D + 1) jump).run P B = .ok (.bool jump.isNone) (B.putObj (D + 1) (.loop (rc (if jump.isNone then .ready else .done) jump))) ∧ B.heap[D]? = some (.deferred (some [])) ∧ D + 2 ≤ B.heap.size := fun jump B hp => by
      have hl3 := (hp.2 (D + 1) (by omega) (by omega)).trans hl2
      have h := run_endRound (P := P) jump hl3
      simp only [hrc] at h ⊢
      exact ⟨h, (hp.2 D (by omega) (by omega)).trans hd2, by have := hp.1; omega⟩
    refine wpIn_mono (hbody _ t a' A2 ht i2 ax2) ?_
    rintro e a' B hb
    cases e with
    | normal =>
      obtain ⟨hp, hi⟩ := hb
      obtain ⟨h, d3, z3⟩ := back none B hp
      have hzz := hp.1
      refine ⟨_, _, h, .inl ⟨rfl, ⟨hI _ _ _ _ hi (turn B _ _) (by omega), World.putObj_heap_same (by omega), (World.putObj_heap_other (by omega)).trans d3, by simpa using z3⟩, ?_⟩⟩
      refine ⟨by simp; omega, fun k hk hkl => ?_⟩
      rw [World.putObj_heap_other (by omega), hp.2 k (by omega) (by omega), ← hA2, World.putObj_heap_other (by omega), hg1.block k hkl (by simp)]
    | exit id =>
      obtain ⟨hc, hp, hi⟩ := hb
      obtain ⟨h, d3, z3⟩ := back (some (.exit id)) B hp
      rw [hc] at h
      refine ⟨_, _, by rw [hc]; exact h, .inr ⟨rfl, hIx _ _ _ hi (turn B _ _) (by omega), World.putObj_heap_same (by omega), (World.putObj_heap_other (by omega)).trans d3⟩⟩
    | ret => exact hb.elim
    | goto t => exact hb.elim
    | panic ch => exact hb.elim
    | outgrown => exact hb.elim
  · -- the iterator has come back
    rintro e W2 ⟨⟨v, rfl⟩, ⟨hi, hl, hd, z⟩ | ⟨hi, hl, hd⟩⟩
    · have h := run_endLoop (P := P) hl (by rw [hrc]; simp)
      have hp : (rc .ready none).pending = none := by rw [hrc]
      rw [hp] at h
      exact ⟨none, _, h, hdone D _ (by omega) (hI _ _ _ _ hi (turn W2 _ _) (by omega)) ((World.putObj_heap_other (by omega)).trans hd)⟩
    · have h := run_endLoop (P := P) hl (by rw [hrc]; simp)
      have hp : (rc .done (some c)).pending = some c := by rw [hrc]
      rw [hp] at h
      exact ⟨some c, _, h, hstop D _ (by omega) (hIx _ _ _ hi (turn W2 _ _) (by omega)) ((World.putObj_heap_other (by omega)).trans hd)⟩
end Seqo
end Go.Proofs.YtepelpmkmhhokaaGreatDoor

set_option maxRecDepth 100000
namespace Go.Proofs.YtepelpmkmhhokaaGreatDoor
open Go.RowKit
namespace Seqz
open Seqo (turn)
variable {F : Fence} {n : Nat} {P : Program}
/-- the two blocks of a loop lie as they lay -/
def KeepsD (D : Nat) (W W' : World) : Prop := W.heap.size ≤ W'.heap.size ∧ W'.heap[D]? = W.heap[D]? ∧ W'.heap[D + 1]? = W.heap[D + 1]?
theorem KeepsD.refl (D : Nat) (W : World) : KeepsD D W W := ⟨Nat.le_refl _, rfl, rfl⟩
theorem KeepsD.trans {D : Nat} {W W' W'' : World} (h : KeepsD D W W') (k : KeepsD D W' W'') : KeepsD D W W'' := ⟨Nat.le_trans h.1 k.1, k.2.1.trans h.2.1, k.2.2.trans h.2.2⟩
theorem KeepsD.of_below {D : Nat} {W W' : World} (h : Below W.heap.size W W') (hD : D + 2 ≤ W.heap.size) : KeepsD D W W' := ⟨h.size, h.block D (by omega), h.block (D + 1) (by omega)⟩
theorem KeepsD.of_grown {D r : Nat} {W W' : World} (h : W.grownBy W' (some r)) (hD : D + 2 ≤ W.heap.size) (h1 : r ≠ D) (h2 : r ≠ D + 1) : KeepsD D W W' :=
  ⟨h.size, h.block D (by omega) (by simpa using h1.symm), h.block (D + 1) (by omega) (by simpa using h2.symm)⟩
/-- AN ITERATOR of N turns that lays no block: it comes back behind turn N, or when a round has left it. -/
def SeqZ (F : Fence) (n : Nat) (P : Program) (g : Nat) (lb : Array Value) (vals : Nat → Array Value) (N : Nat) (S : World → Prop) : Prop :=
  ∀ (l : Nat) (J : Nat → World → Prop) (Jx : World → Prop) (W : World),
    (∀ t A, J t A → J t A.drew) → (∀ t A, J t A → S A) →
    (∀ t A, t < N → J t A → YieldAt F (n - 1) P l (vals t) A fun e B => (e = .returned (.bool true) ∧ J (t + 1) B) ∨ (e = .returned (.bool false) ∧ Jx B)) →
    J 0 W → CallsIn F n P g (#[.func (.yield l) #[] #[]] ++ lb) W fun e W' => (∃ v, e = .returned v) ∧ (J N W' ∨ Jx W')
/-- how the body of a round may be left: at its end, or by the one jump c -/
def bodyEndsZ (c : Code) (D t : Nat) (I : Nat → World → Prop) (Ix : World → Prop) (W : World) : Exit → Act → World → Prop
  | .normal, _, W' => KeepsD D W W' ∧ I (t + 1) W'
  | .exit id, _, W' => Code.exit id = c ∧ KeepsD D W W' ∧ Ix W'
  | _, _, _ => False
/-- THE STATEMENT OVER SUCH AN ITERATOR. -/
theorem wpIn_rangeFunc_seqz {g : Operand} {ps : Array Tmp} {assign body : Code} {Q : Exit → Act → World → Prop} {a : Act} {w : World}
    (hro : F.round = none) (h1 : 1 ≤ n) {gf : Nat} {lb : Array Value} (hg : a.eval g = .func (.func gf) #[] lb) (hF : F.fn gf) (eg : ∀ args w, (callFunc gf args).run P w = .ok (.enter gf args) w)
    {vals : Nat → Array Value} {N : Nat} {S : World → Prop} (hseq : SeqZ F (n - 1) P gf lb vals N S) (hps : ∀ t, (vals t).size = ps.size) (c : Code)
    (I : Nat → World → Prop) (Ix : World → Prop) (hI : ∀ t A B r, I t A → A.grownBy B (some r) → (r = w.heap.size ∨ r = w.heap.size + 1) → I t B) (hIx : ∀ A B, Ix A → A.grownBy B (some (w.heap.size + 1)) → Ix B)
    (hDr : ∀ t A, I t A → I t A.drew) (hS : ∀ t A, I t A → S A) (h0 : I 0 w) (Ax : Nat → Act → World → Prop)
    (hAx : ∀ t a A B, Ax t a A → A.grownBy B (some (w.heap.size + 1)) → w.heap.size + 2 ≤ A.heap.size → Ax t a B)
    (hassign : ∀ (l t : Nat) (W : World) (K : Act → World → Prop), t < N → I t W → w.heap.size + 2 ≤ W.heap.size → (∀ a' W', W.grownBy W' none → I t W' → Ax t a' W' → K a' W') →
      assign.wpIn (F.inRound l) (n - 1 - 1) P (Exit.then K (fun _ _ _ => False)) { tmps := (ps.zip (vals t)).foldl (fun t (p, v) => t.setIfInBounds p v) a.tmps, defers := [] } W)
    (hbody : ∀ (l t : Nat) (a' : Act) (W : World), t < N → I t W → Ax t a' W → w.heap.size + 2 ≤ W.heap.size → body.wpIn (F.inRound l) (n - 1 - 1) P (bodyEndsZ c w.heap.size t I Ix W) a' W)
    (hdone : ∀ (W : World), I N W → w.heap.size + 2 ≤ W.heap.size → W.heap[w.heap.size]? = some (.deferred (some [])) → Q .normal { a with defers := { target := .collected w.heap.size, args := #[] } :: a.defers } W)
    (hstop : ∀ (W : World), Ix W → W.heap[w.heap.size]? = some (.deferred (some [])) → c.wpIn F n P Q { a with defers := { target := .collected w.heap.size, args := #[] } :: a.defers } W) :
    (Code.rangeFunc g ps assign body).wpIn F n P Q a w := by
  refine wpIn_rangeFunc fun fn hfn => ?_
  rw [hro]
  obtain ⟨rc, hrc⟩ : ∃ rc : LoopState → Option Code → Loop, ∀ st pe, rc st pe = { state := st, pending := pe, fn, tmps := a.tmps, params := ps, assign, body, defers := w.heap.size } := ⟨_, fun _ _ => rfl⟩
  obtain ⟨D, hD⟩ : ∃ D, w.heap.size = D := ⟨_, rfl⟩
  obtain ⟨W1, hW1⟩ : ∃ W1, (w.alloc (.deferred (some []))).alloc (.loop (rc .ready none)) = W1 := ⟨_, rfl⟩
  have hsz : W1.heap.size = D + 2 := by rw [← hW1, ← hD]; simp
  have hloop : W1.heap[D + 1]? = some (.loop (rc .ready none)) := by
    have h := World.alloc_heap_new (w.alloc (.deferred (some []))) (.loop (rc .ready none))
    rw [hW1, World.size_alloc, hD] at h
    exact h
  have hdef : W1.heap[D]? = some (.deferred (some [])) := by
    have h := World.alloc_heap_new w (.deferred (some []))
    rw [hD] at h
    rw [← hW1, Below.heap_alloc _ _ _ (by simp; omega)]
    exact h
  have hI1 : I 0 W1 := by
    have h2 := hI 0 w (w.alloc (.deferred (some []))) D h0 (gB_alloc (gB_refl _ _) _) (.inl hD.symm)
    have h3 := hI 0 _ W1 (D + 1) h2 (by rw [← hW1]; exact gB_alloc (gB_refl _ _) _) (.inr (by rw [hD]))
    exact h3
  rw [hD] at hbody hdone hstop hassign hAx hI hIx
  refine ⟨D + 1, [{ target := .collected D, args := #[] }], W1, { target := .fn (.func gf) lb, args := #[.func (.yield (D + 1)) #[] #[]] }, W1, gf,
    #[.func (.yield (D + 1)) #[] #[]] ++ lb, W1, ?_, ?_, ?_, ?_, fun _ => h1, ?_⟩
  · rw [← hW1, hrc, ← hD]; exact run_enterLoop_outer _ _ _ _ _
  · simp only [resolve, hg]; simp [go_sem]
  · intro f' hf'; simp [Target.leads] at hf'; subst hf'; exact hF
  · simp [invoke, go_sem, eg]
  refine (hseq (D + 1) (fun t A => I t A ∧ A.heap[D + 1]? = some (.loop (rc .ready none)) ∧ A.heap[D]? = some (.deferred (some [])) ∧ D + 2 ≤ A.heap.size)
    (fun A => Ix A ∧ A.heap[D + 1]? = some (.loop (rc .done (some c))) ∧ A.heap[D]? = some (.deferred (some []))) W1 (fun t A h => ⟨hDr t A h.1, h.2⟩) (fun t A h => hS t A h.1) ?_ ⟨hI1, hloop, hdef, by omega⟩).mono ?_
  · -- one round
    rintro t A ht ⟨i, hl, hd, z⟩
    have hy := run_yield (P := P) (args := vals t) hl (by rw [hrc]; exact hps t)
    rw [hrc] at hy
    refine ⟨fn, _, assign, body, hy, roundIn_of_wpIn hfn (hassign _ t A _ ht i z ?_)⟩
    intro a' A1 hg1 i1 hax
    have z1 := hg1.size
    have hl1 := (hg1.block (D + 1) (by omega) (by simp)).trans hl
    have hd1 := (hg1.block D (by omega) (by simp)).trans hd
    refine ⟨_, run_beginRound hl1 (by rw [hrc]), ?_⟩
    obtain ⟨A2, hA2⟩ : ∃ A2, A1.putObj (D + 1) (.loop { rc .ready none with state := .busy }) = A2 := ⟨_, rfl⟩
    rw [hA2]
    have z2 : A2.heap.size = A1.heap.size := by rw [← hA2]; simp
    have hl2 : A2.heap[D + 1]? = some (.loop { rc .ready none with state := .busy }) := by rw [← hA2]; exact World.putObj_heap_same (by omega)
    have hd2 : A2.heap[D]? = some (.deferred (some [])) := by rw [← hA2]; exact (World.putObj_heap_other (by omega)).trans hd1
    have i2 : I t A2 := by rw [← hA2]; exact hI t A1 _ (D + 1) i1 (turn A1 _ _) (.inr rfl)
    have ax2 : Ax t a' A2 := by rw [← hA2]; exact hAx t a' A1 _ hax (turn A1 _ _) (by omega)
    have back : ∀ (jump : Option Code) (B : World), KeepsD D A2 B →
        (Instr.endRound (D + 1) jump).run P B = .ok (.bool jump.isNone) (B.putObj (D + 1) (.loop (rc (if jump.isNone then .ready else .done) jump))) ∧ B.heap[D]? = some (.deferred (some [])) ∧ D + 2 ≤ B.heap.size := fun jump B hp => by
      have hl3 := hp.2.2.trans hl2
      have h := run_endRound (P := P) jump hl3
      simp only [hrc] at h ⊢
      exact ⟨h, hp.2.1.trans hd2, by have := hp.1; omega⟩
    refine wpIn_mono (hbody _ t a' A2 ht i2 ax2 (by omega)) ?_
    rintro e a' B hb
    cases e with
    | normal =>
      obtain ⟨hp, hi⟩ := hb
      obtain ⟨h, d3, z3⟩ := back none B hp
      exact ⟨_, _, h, .inl ⟨rfl, hI _ _ _ (D + 1) hi (turn B _ _) (.inr rfl), World.putObj_heap_same (by omega), (World.putObj_heap_other (by omega)).trans d3, by simpa using z3⟩⟩
    | exit id =>
      obtain ⟨hc, hp, hi⟩ := hb
      obtain ⟨h, d3, z3⟩ := back (some (.exit id)) B hp
      rw [hc] at h
      exact ⟨_, _, by rw [hc]; exact h, .inr ⟨rfl, hIx _ _ hi (turn B _ _), World.putObj_heap_same (by omega), (World.putObj_heap_other (by omega)).trans d3⟩⟩
    | ret => exact hb.elim
    | goto t => exact hb.elim
    | panic ch => exact hb.elim
    | outgrown => exact hb.elim
  · -- the iterator has come back
    rintro e W2 ⟨⟨v, rfl⟩, ⟨hi, hl, hd, z⟩ | ⟨hi, hl, hd⟩⟩
    · have h := run_endLoop (P := P) hl (by rw [hrc]; simp)
      have hp : (rc .ready none).pending = none := by rw [hrc]
      rw [hp] at h
      exact ⟨none, _, h, hdone _ (hI _ _ _ (D + 1) hi (turn W2 _ _) (.inr rfl)) (by simpa using z) ((World.putObj_heap_other (by omega)).trans hd)⟩
    · have h := run_endLoop (P := P) hl (by rw [hrc]; simp)
      have hp : (rc .done (some c)).pending = some c := by rw [hrc]
      rw [hp] at h
      exact ⟨some c, _, h, hstop _ (hIx _ _ hi (turn W2 _ _)) ((World.putObj_heap_other (by omega)).trans hd)⟩
end Seqz
end Go.Proofs.YtepelpmkmhhokaaGreatDoor

set_option maxRecDepth 100000
namespace Go.Proofs.YtepelpmkmhhokaaGreatDoor
open Go.RowKit
/-- no block turns but those of O; new ones may come -/
structure Grw (O : Nat → Prop) (w w' : World) : Prop where
  os : w'.os = w.os
  tape : w'.tape = w.tape
  output : w'.output = w.output
  size : w.heap.size ≤ w'.heap.size
  block : ∀ k, k < w.heap.size → ¬ O k → w'.heap[k]? = w.heap[k]?
theorem Grw.refl (O : Nat → Prop) (w : World) : Grw O w w := ⟨rfl, rfl, rfl, Nat.le_refl _, fun _ _ _ => rfl⟩
theorem Grw.trans {O : Nat → Prop} {a b c : World} (h : Grw O a b) (k : Grw O b c) : Grw O a c :=
  ⟨k.os.trans h.os, k.tape.trans h.tape, k.output.trans h.output, Nat.le_trans h.size k.size, fun i hi ho => (k.block i (Nat.lt_of_lt_of_le hi h.size) ho).trans (h.block i hi ho)⟩
/-- over a smaller set where the others are new -/
theorem Grw.wide {O O' : Nat → Prop} {a b : World} (h : Grw O a b) (hO : ∀ k, k < a.heap.size → O k → O' k) : Grw O' a b := ⟨h.os, h.tape, h.output, h.size, fun k hk ho => h.block k hk fun e => ho (hO k hk e)⟩
theorem Grw.of_below {O : Nat → Prop} {a b : World} (h : Below a.heap.size a b) : Grw O a b := ⟨h.os, h.tape, h.output, h.size, fun k hk _ => h.block k hk⟩
theorem Grw.of_grown {O : Nat → Prop} {a b : World} {r : Nat} (h : a.grownBy b (some r)) (hr : O r) : Grw O a b :=
  ⟨h.os, h.tape, h.output, h.size, fun k hk ho => h.block k hk fun e => ho ((Option.some.inj e) ▸ hr)⟩
theorem Grw.below {O : Nat → Prop} {a b : World} {B : Nat} (h : Grw O a b) (hB : B ≤ a.heap.size) (hO : ∀ k, O k → B ≤ k) : Below B a b :=
  ⟨h.os, h.tape, h.output, h.size, fun k hk => h.block k (by omega) fun e => by have := hO k e; omega⟩
theorem Grw.drew {O : Nat → Prop} {a b : World} (h : Grw O a b) : Grw O a b.drew := ⟨h.os, h.tape, h.output, h.size, h.block⟩
namespace Seqk
open Seqo (turn)
variable {F : Fence} {n : Nat} {P : Program}
/-- the blocks of a set lie as they lay -/
def KeepsP (O : Nat → Prop) (W W' : World) : Prop := W.heap.size ≤ W'.heap.size ∧ ∀ k, O k → W'.heap[k]? = W.heap[k]?
theorem KeepsP.refl (O : Nat → Prop) (W : World) : KeepsP O W W := ⟨Nat.le_refl _, fun _ _ => rfl⟩
theorem KeepsP.trans {O : Nat → Prop} {W W' W'' : World} (h : KeepsP O W W') (k : KeepsP O W' W'') : KeepsP O W W'' :=
  ⟨Nat.le_trans h.1 k.1, fun j hj => (k.2 j hj).trans (h.2 j hj)⟩
theorem KeepsP.of_below {O : Nat → Prop} {W W' : World} (h : Below W.heap.size W W') (hO : ∀ k, O k → k < W.heap.size) : KeepsP O W W' := ⟨h.size, fun k hk => h.block k (hO k hk)⟩
theorem KeepsP.of_grown {O : Nat → Prop} {r : Nat} {W W' : World} (h : W.grownBy W' (some r)) (hO : ∀ k, O k → k < W.heap.size) (hr : ¬ O r) : KeepsP O W W' :=
  ⟨h.size, fun k hk => h.block k (hO k hk) (fun e => hr (Option.some.inj e ▸ hk))⟩
/-- what holds of a turn, O being the iterator's blocks: those may turn, and new ones join them -/
def Stab (J : Nat → (Nat → Prop) → World → Prop) : Prop := ∀ t (O O' : Nat → Prop) A B, J t O A → Grw O A B → (∀ r, O' r → O r ∨ (A.heap.size ≤ r ∧ r < B.heap.size)) → J t O' B
/-- AN ITERATOR of N turns with blocks of its own, among them those of O0; it begins at a world of Z and tells E of its last one: it comes back behind turn N, or when a round has left it. -/
def SeqK (F : Fence) (n : Nat) (P : Program) (g : Nat) (lb : Array Value) (vals : Nat → Array Value) (N : Nat) (S : World → Prop) (O0 : Nat → Prop) (Z : World → Prop) (E : (Nat → Prop) → World → Prop) : Prop :=
  ∀ (l : Nat) (J : Nat → (Nat → Prop) → World → Prop) (Jx : World → Prop) (W : World),
    Stab J → (∀ t O A, J t O A → S A) →
    (∀ t O A, t < N → J t O A → (∀ k, O k → k < A.heap.size) → YieldAt F (n - 1) P l (vals t) A fun e B =>
      (e = .returned (.bool true) ∧ J (t + 1) O B ∧ KeepsP O A B) ∨ (e = .returned (.bool false) ∧ Jx B)) →
    J 0 O0 W → Z W → CallsIn F n P g (#[.func (.yield l) #[] #[]] ++ lb) W fun e W' => (∃ v, e = .returned v) ∧ ((∃ O, J N O W' ∧ E O W') ∨ Jx W')
/-- how the body of a round may be left: at its end, or by the one jump c -/
def bodyEnds (c : Code) (O : Nat → Prop) (t : Nat) (I : Nat → (Nat → Prop) → World → Prop) (Ix : World → Prop) (W : World) : Exit → Act → World → Prop
  | .normal, _, W' => KeepsP O W W' ∧ I (t + 1) O W'
  | .exit id, _, W' => Code.exit id = c ∧ KeepsP O W W' ∧ Ix W'
  | .ret, _, W' => Code.ret = c ∧ KeepsP O W W' ∧ Ix W'
  | _, _, _ => False
/-- the iterator's blocks, and the two of the loop -/
def withD (D : Nat) (O : Nat → Prop) : Nat → Prop := fun k => O k ∨ k = D ∨ k = D + 1
/-- THE STATEMENT OVER SUCH AN ITERATOR. -/
theorem wpIn_rangeFunc_seqk {g : Operand} {ps : Array Tmp} {assign body : Code} {Q : Exit → Act → World → Prop} {a : Act} {w : World}
    (hro : F.round = none) (h1 : 1 ≤ n) {gf : Nat} {lb : Array Value} (hg : a.eval g = .func (.func gf) #[] lb) (hF : F.fn gf) (eg : ∀ args w, (callFunc gf args).run P w = .ok (.enter gf args) w)
    {vals : Nat → Array Value} {N : Nat} {S : World → Prop} {O0 : Nat → Prop} {Z : World → Prop} {E : (Nat → Prop) → World → Prop} (hseq : SeqK F (n - 1) P gf lb vals N S O0 Z E) (hps : ∀ t, (vals t).size = ps.size) (c : Code)
    (hO0 : ∀ k, O0 k → k < w.heap.size) (hZ : ∀ B, Below w.heap.size w B → Z B) (hE : ∀ O A B r, E O A → A.grownBy B (some r) → ¬ O r → E O B)
    (I : Nat → (Nat → Prop) → World → Prop) (Ix : World → Prop) (hI : Stab I) (hIx : ∀ A B r, Ix A → A.grownBy B (some r) → (r = w.heap.size + 1) → Ix B)
    (hS : ∀ t O A, I t O A → S A) (h0 : I 0 O0 w) (a₁ : Nat → Act)
    (hassign : ∀ (l t : Nat) (W : World) (K : Act → World → Prop), t < N → K (a₁ t) W →
      assign.wpIn (F.inRound l) (n - 1 - 1) P (Exit.then K (fun _ _ _ => False)) { tmps := (ps.zip (vals t)).foldl (fun t (p, v) => t.setIfInBounds p v) a.tmps, defers := [] } W)
    (hbody : ∀ (l t : Nat) (O : Nat → Prop) (W : World), t < N → I t (withD w.heap.size O) W → (∀ k, withD w.heap.size O k → k < W.heap.size) →
      body.wpIn (F.inRound l) (n - 1 - 1) P (bodyEnds c (withD w.heap.size O) t I Ix W) (a₁ t) W)
    (hdone : ∀ (O : Nat → Prop) (W : World), I N (withD w.heap.size O) W → E O W → w.heap.size + 2 ≤ W.heap.size → ¬ O w.heap.size → W.heap[w.heap.size]? = some (.deferred (some [])) → Q .normal { a with defers := { target := .collected w.heap.size, args := #[] } :: a.defers } W)
    (hstop : ∀ (W : World), Ix W → W.heap[w.heap.size]? = some (.deferred (some [])) → c.wpIn F n P Q { a with defers := { target := .collected w.heap.size, args := #[] } :: a.defers } W) :
    (Code.rangeFunc g ps assign body).wpIn F n P Q a w := by
  refine wpIn_rangeFunc fun fn hfn => ?_
  rw [hro]
  obtain ⟨rc, hrc⟩ : ∃ rc : LoopState → Option Code → Loop, ∀ st pe, rc st pe = { state := st, pending := pe, fn, tmps := a.tmps, params := ps, assign, body, defers := w.heap.size } := ⟨_, fun _ _ => rfl⟩
  obtain ⟨D, hD⟩ : ∃ D, w.heap.size = D := ⟨_, rfl⟩
  obtain ⟨W1, hW1⟩ : ∃ W1, (w.alloc (.deferred (some []))).alloc (.loop (rc .ready none)) = W1 := ⟨_, rfl⟩
  have hsz : W1.heap.size = D + 2 := by rw [← hW1, ← hD]; simp
  have hloop : W1.heap[D + 1]? = some (.loop (rc .ready none)) := by
    have h := World.alloc_heap_new (w.alloc (.deferred (some []))) (.loop (rc .ready none))
    rw [hW1, World.size_alloc, hD] at h
    exact h
  have hdef : W1.heap[D]? = some (.deferred (some [])) := by
    have h := World.alloc_heap_new w (.deferred (some []))
    rw [hD] at h
    rw [← hW1, Below.heap_alloc _ _ _ (by simp; omega)]
    exact h
  have hbl : Below w.heap.size w W1 := by rw [← hW1]; exact ((Below.refl _ w).alloc (Nat.le_refl _) _).alloc (by simp) _
  have hI1 : I 0 (withD D O0) W1 := hI 0 O0 _ w W1 h0 (Grw.of_below hbl) (by
    rintro r (h | h | h)
    · exact .inl h
    · exact .inr (by omega)
    · exact .inr (by omega))
  have hZ1 := hZ W1 hbl
  rw [hD] at hbody hdone hstop hO0 hIx
  refine ⟨D + 1, [{ target := .collected D, args := #[] }], W1, { target := .fn (.func gf) lb, args := #[.func (.yield (D + 1)) #[] #[]] }, W1, gf,
    #[.func (.yield (D + 1)) #[] #[]] ++ lb, W1, ?_, ?_, ?_, ?_, fun _ => h1, ?_⟩
  · rw [← hW1, hrc, ← hD]; exact run_enterLoop_outer _ _ _ _ _
  · simp only [resolve, hg]; simp [go_sem]
  · intro f' hf'; simp [Target.leads] at hf'; subst hf'; exact hF
  · simp [invoke, go_sem, eg]
  refine (hseq (D + 1) (fun t O A => I t (withD D O) A ∧ A.heap[D + 1]? = some (.loop (rc .ready none)) ∧ A.heap[D]? = some (.deferred (some [])) ∧ D + 2 ≤ A.heap.size ∧ ¬ O D ∧ ¬ O (D + 1))
    (fun A => Ix A ∧ A.heap[D + 1]? = some (.loop (rc .done (some c))) ∧ A.heap[D]? = some (.deferred (some []))) W1 ?_ (fun t O A h => hS t _ A h.1) ?_ ⟨hI1, hloop, hdef, by omega, fun h => by have := hO0 _ h; omega, fun h => by have := hO0 _ h; omega⟩ hZ1).mono ?_
  · rintro t O O' A B ⟨i, l, d, z, n1, n2⟩ hgr hO'
    refine ⟨hI t _ _ A B i (hgr.wide fun k _ h => .inl h) ?_, (hgr.block (D + 1) (by omega) n2).trans l, (hgr.block D (by omega) n1).trans d, Nat.le_trans z hgr.size, ?_, ?_⟩
    · rintro r (h | h)
      · rcases hO' r h with h | h
        · exact .inl (.inl h)
        · exact .inr h
      · exact .inl (.inr h)
    · intro h
      rcases hO' _ h with h | h
      · exact n1 h
      · omega
    · intro h
      rcases hO' _ h with h | h
      · exact n2 h
      · omega
  · -- one round
    rintro t O A ht ⟨i, hl, hd, z, n1, n2⟩ hOA
    have hy := run_yield (P := P) (args := vals t) hl (by rw [hrc]; exact hps t)
    rw [hrc] at hy
    refine ⟨fn, _, assign, body, hy, roundIn_of_wpIn hfn (hassign _ t A _ ht ?_)⟩
    refine ⟨_, run_beginRound hl (by rw [hrc]), ?_⟩
    obtain ⟨A2, hA2⟩ : ∃ A2, A.putObj (D + 1) (.loop { rc .ready none with state := .busy }) = A2 := ⟨_, rfl⟩
    rw [hA2]
    have z2 : A2.heap.size = A.heap.size := by rw [← hA2]; simp
    have hl2 : A2.heap[D + 1]? = some (.loop { rc .ready none with state := .busy }) := by rw [← hA2]; exact World.putObj_heap_same (by omega)
    have hd2 : A2.heap[D]? = some (.deferred (some [])) := by rw [← hA2]; exact (World.putObj_heap_other (by omega)).trans hd
    have inD1 : ∀ O, withD D O (D + 1) := fun O => .inr (.inr rfl)
    have i2 : I t (withD D O) A2 := by rw [← hA2]; exact hI t _ _ A _ i (Grw.of_grown (turn A _ _) (inD1 O)) fun r h => .inl h
    have kO : ∀ k, O k → A2.heap[k]? = A.heap[k]? := fun k hk => by
      rw [← hA2]
      exact World.putObj_heap_other (by intro e; first | exact n2 (e ▸ hk) | exact n2 (e.symm ▸ hk))
    have back : ∀ (jump : Option Code) (B : World), KeepsP (withD D O) A2 B →
        (Instr.endRound (D + 1) jump).run P B = .ok (.bool jump.isNone) (B.putObj (D + 1) (.loop (rc (if jump.isNone then .ready else .done) jump))) ∧ B.heap[D]? = some (.deferred (some [])) ∧ D + 2 ≤ B.heap.size := fun jump B hp => by
      have hl3 := (hp.2 (D + 1) (inD1 O)).trans hl2
      have h := run_endRound (P := P) jump hl3
      simp only [hrc] at h ⊢
      exact ⟨h, (hp.2 D (.inr (.inl rfl))).trans hd2, by have := hp.1; omega⟩
    refine wpIn_mono (hbody _ t O A2 ht i2 (by
      rintro k (h | h | h)
      · have := hOA k h; omega
      · omega
      · omega)) ?_
    rintro e a' B hb
    cases e with
    | normal =>
      obtain ⟨hp, hi⟩ := hb
      obtain ⟨h, d3, z3⟩ := back none B hp
      have hzz := hp.1
      refine ⟨_, _, h, .inl ⟨rfl, ⟨hI _ _ _ B _ hi (Grw.of_grown (turn B _ _) (inD1 O)) fun r h => .inl h, World.putObj_heap_same (by omega), (World.putObj_heap_other (by omega)).trans d3, by simpa using z3, n1, n2⟩, ?_⟩⟩
      refine ⟨by simp; omega, fun k hk => ?_⟩
      rw [World.putObj_heap_other (by intro e; first | exact n2 (e ▸ hk) | exact n2 (e.symm ▸ hk)), hp.2 k (.inl hk), kO k hk]
    | exit id =>
      obtain ⟨hc, hp, hi⟩ := hb
      obtain ⟨h, d3, z3⟩ := back (some (.exit id)) B hp
      rw [hc] at h
      refine ⟨_, _, by rw [hc]; exact h, .inr ⟨rfl, hIx _ _ _ hi (turn B _ _) rfl, World.putObj_heap_same (by omega), (World.putObj_heap_other (by omega)).trans d3⟩⟩
    | ret =>
      obtain ⟨hc, hp, hi⟩ := hb
      obtain ⟨h, d3, z3⟩ := back (some .ret) B hp
      rw [hc] at h
      refine ⟨_, _, by rw [hc]; exact h, .inr ⟨rfl, hIx _ _ _ hi (turn B _ _) rfl, World.putObj_heap_same (by omega), (World.putObj_heap_other (by omega)).trans d3⟩⟩
    | goto t => exact hb.elim
    | panic ch => exact hb.elim
    | outgrown => exact hb.elim
  · -- the iterator has come back
    rintro e W2 ⟨⟨v, rfl⟩, ⟨O, ⟨hi, hl, hd, z, n1, n2⟩, he⟩ | ⟨hi, hl, hd⟩⟩
    · have h := run_endLoop (P := P) hl (by rw [hrc]; simp)
      have hp : (rc .ready none).pending = none := by rw [hrc]
      rw [hp] at h
      exact ⟨none, _, h, hdone O _ (hI _ _ _ W2 _ hi (Grw.of_grown (turn W2 (D + 1) _) (.inr (.inr rfl))) fun r h => .inl h) (hE _ _ _ _ he (turn W2 (D + 1) _) n2) (by simpa using z) n1 ((World.putObj_heap_other (by omega)).trans hd)⟩
    · have h := run_endLoop (P := P) hl (by rw [hrc]; simp)
      have hp : (rc .done (some c)).pending = some c := by rw [hrc]
      rw [hp] at h
      exact ⟨some c, _, h, hstop _ (hIx _ _ _ hi (turn W2 _ _) rfl) ((World.putObj_heap_other (by omega)).trans hd)⟩
end Seqk
end Go.Proofs.YtepelpmkmhhokaaGreatDoor

set_option maxRecDepth 100000
namespace Go.Proofs.YtepelpmkmhhokaaGreatDoor
open Go.RowKit
namespace Seqk
open Seqo (turn)
variable {F : Fence} {n : Nat} {P : Program}
/-- AN ITERATOR of N turns with blocks of its own, among them those of O0; it begins at a world of Z and tells E of its last one: it comes back behind turn N, or when a round has left it. -/
def SeqT (F : Fence) (n : Nat) (P : Program) (g : Nat) (lb : Array Value) (vals : Nat → Array Value) (N : Nat) (S : Nat → (Nat → Prop) → World → Prop) (O0 : Nat → Prop) (Z : World → Prop) (E : (Nat → Prop) → World → Prop) (Up : World → World → Prop) : Prop :=
  ∀ (l : Nat) (J : Nat → (Nat → Prop) → World → Prop) (Jx : World → Prop) (W : World),
    Stab J → (∀ t O A, J t O A → S t O A) →
    (∀ t O A, t < N → J t O A → (∀ k, O k → k < A.heap.size) → YieldAt F (n - 1) P l (vals t) A fun e B =>
      (e = .returned (.bool true) ∧ J (t + 1) O B ∧ KeepsP O A B ∧ Up A B) ∨ (e = .returned (.bool false) ∧ Jx B)) →
    J 0 O0 W → Z W → CallsIn F n P g (#[.func (.yield l) #[] #[]] ++ lb) W fun e W' => (∃ v, e = .returned v) ∧ ((∃ O, J N O W' ∧ E O W') ∨ Jx W')
/-- how the body of a round may be left: at its end, or by the one jump c -/
def bodyEndsT (c : Code) (O : Nat → Prop) (t : Nat) (Up : World → World → Prop) (I : Nat → (Nat → Prop) → World → Prop) (Ix : World → Prop) (W : World) : Exit → Act → World → Prop
  | .normal, _, W' => KeepsP O W W' ∧ Up W W' ∧ I (t + 1) O W'
  | .exit id, _, W' => Code.exit id = c ∧ KeepsP O W W' ∧ Ix W'
  | .ret, _, W' => Code.ret = c ∧ KeepsP O W W' ∧ Ix W'
  | _, _, _ => False
/-- THE STATEMENT OVER SUCH AN ITERATOR. -/
theorem wpIn_rangeFunc_seqt {g : Operand} {ps : Array Tmp} {assign body : Code} {Q : Exit → Act → World → Prop} {a : Act} {w : World}
    (hro : F.round = none) (h1 : 1 ≤ n) {gf : Nat} {lb : Array Value} (hg : a.eval g = .func (.func gf) #[] lb) (hF : F.fn gf) (eg : ∀ args w, (callFunc gf args).run P w = .ok (.enter gf args) w)
    {vals : Nat → Array Value} {N : Nat} {S : Nat → (Nat → Prop) → World → Prop} {O0 : Nat → Prop} {Z : World → Prop} {E : (Nat → Prop) → World → Prop} {Up : World → World → Prop} (hseq : SeqT F (n - 1) P gf lb vals N S O0 Z E Up) (hUt : ∀ A B C, Up A B → Up B C → Up A C) (hUb : ∀ A B, w.heap.size ≤ A.heap.size → Below A.heap.size A B → Up A B) (hUd : ∀ A B, A.grownBy B (some (w.heap.size + 1)) → (∀ cs T q, A.heap[w.heap.size + 1]? ≠ some (.cells cs T q)) → Up A B) (hSw : ∀ t O A, S t (withD w.heap.size O) A → S t O A) (hps : ∀ t, (vals t).size = ps.size) (c : Code)
    (hO0 : ∀ k, O0 k → k < w.heap.size) (hZ : ∀ B, Below w.heap.size w B → Z B) (hE : ∀ O A B r, E O A → A.grownBy B (some r) → ¬ O r → E O B)
    (I : Nat → (Nat → Prop) → World → Prop) (Ix : World → Prop) (hI : Stab I) (hIx : ∀ A B r, Ix A → A.grownBy B (some r) → (r = w.heap.size + 1) → Ix B)
    (hS : ∀ t O A, I t O A → S t O A) (h0 : I 0 O0 w) (Ax : Nat → Act → World → Prop)
    (hAx : ∀ t a A B r, Ax t a A → A.grownBy B (some r) → (∀ cs T q, A.heap[r]? ≠ some (.cells cs T q)) → Ax t a B)
    (hassign : ∀ (l t : Nat) (O : Nat → Prop) (W : World) (K : Act → World → Prop), t < N → I t (withD w.heap.size O) W → (∀ a' W', Below W.heap.size W W' → Ax t a' W' → K a' W') →
      assign.wpIn (F.inRound l) (n - 1 - 1) P (Exit.then K (fun _ _ _ => False)) { tmps := (ps.zip (vals t)).foldl (fun t (p, v) => t.setIfInBounds p v) a.tmps, defers := [] } W)
    (hbody : ∀ (l t : Nat) (O : Nat → Prop) (a' : Act) (W : World), t < N → I t (withD w.heap.size O) W → (∀ k, withD w.heap.size O k → k < W.heap.size) → Ax t a' W →
      body.wpIn (F.inRound l) (n - 1 - 1) P (bodyEndsT c (withD w.heap.size O) t Up I Ix W) a' W)
    (hdone : ∀ (O : Nat → Prop) (W : World), I N (withD w.heap.size O) W → E O W → w.heap.size + 2 ≤ W.heap.size → ¬ O w.heap.size → W.heap[w.heap.size]? = some (.deferred (some [])) → Q .normal { a with defers := { target := .collected w.heap.size, args := #[] } :: a.defers } W)
    (hstop : ∀ (W : World), Ix W → W.heap[w.heap.size]? = some (.deferred (some [])) → c.wpIn F n P Q { a with defers := { target := .collected w.heap.size, args := #[] } :: a.defers } W) :
    (Code.rangeFunc g ps assign body).wpIn F n P Q a w := by
  refine wpIn_rangeFunc fun fn hfn => ?_
  rw [hro]
  obtain ⟨rc, hrc⟩ : ∃ rc : LoopState → Option Code → Loop, ∀ st pe, rc st pe = { state := st, pending := pe, fn, tmps := a.tmps, params := ps, assign, body, defers := w.heap.size } := ⟨_, fun _ _ => rfl⟩
  obtain ⟨D, hD⟩ : ∃ D, w.heap.size = D := ⟨_, rfl⟩
  obtain ⟨W1, hW1⟩ : ∃ W1, (w.alloc (.deferred (some []))).alloc (.loop (rc .ready none)) = W1 := ⟨_, rfl⟩
  have hsz : W1.heap.size = D + 2 := by rw [← hW1, ← hD]; simp
  have hloop : W1.heap[D + 1]? = some (.loop (rc .ready none)) := by
    have h := World.alloc_heap_new (w.alloc (.deferred (some []))) (.loop (rc .ready none))
    rw [hW1, World.size_alloc, hD] at h
    exact h
  have hdef : W1.heap[D]? = some (.deferred (some [])) := by
    have h := World.alloc_heap_new w (.deferred (some []))
    rw [hD] at h
    rw [← hW1, Below.heap_alloc _ _ _ (by simp; omega)]
    exact h
  have hbl : Below w.heap.size w W1 := by rw [← hW1]; exact ((Below.refl _ w).alloc (Nat.le_refl _) _).alloc (by simp) _
  have hI1 : I 0 (withD D O0) W1 := hI 0 O0 _ w W1 h0 (Grw.of_below hbl) (by
    rintro r (h | h | h)
    · exact .inl h
    · exact .inr (by omega)
    · exact .inr (by omega))
  have hZ1 := hZ W1 hbl
  rw [hD] at hbody hdone hstop hO0 hIx hassign hUd hSw
  refine ⟨D + 1, [{ target := .collected D, args := #[] }], W1, { target := .fn (.func gf) lb, args := #[.func (.yield (D + 1)) #[] #[]] }, W1, gf,
    #[.func (.yield (D + 1)) #[] #[]] ++ lb, W1, ?_, ?_, ?_, ?_, fun _ => h1, ?_⟩
  · rw [← hW1, hrc, ← hD]; exact run_enterLoop_outer _ _ _ _ _
  · simp only [resolve, hg]; simp [go_sem]
  · intro f' hf'; simp [Target.leads] at hf'; subst hf'; exact hF
  · simp [invoke, go_sem, eg]
  refine (hseq (D + 1) (fun t O A => I t (withD D O) A ∧ A.heap[D + 1]? = some (.loop (rc .ready none)) ∧ A.heap[D]? = some (.deferred (some [])) ∧ D + 2 ≤ A.heap.size ∧ ¬ O D ∧ ¬ O (D + 1))
    (fun A => Ix A ∧ A.heap[D + 1]? = some (.loop (rc .done (some c))) ∧ A.heap[D]? = some (.deferred (some []))) W1 ?_ (fun t O A h => hSw t O A (hS t _ A h.1)) ?_ ⟨hI1, hloop, hdef, by omega, fun h => by have := hO0 _ h; omega, fun h => by have := hO0 _ h; omega⟩ hZ1).mono ?_
  · rintro t O O' A B ⟨i, l, d, z, n1, n2⟩ hgr hO'
    refine ⟨hI t _ _ A B i (hgr.wide fun k _ h => .inl h) ?_, (hgr.block (D + 1) (by omega) n2).trans l, (hgr.block D (by omega) n1).trans d, Nat.le_trans z hgr.size, ?_, ?_⟩
    · rintro r (h | h)
      · rcases hO' r h with h | h
        · exact .inl (.inl h)
        · exact .inr h
      · exact .inl (.inr h)
    · intro h
      rcases hO' _ h with h | h
      · exact n1 h
      · omega
    · intro h
      rcases hO' _ h with h | h
      · exact n2 h
      · omega
  · -- one round
    rintro t O A ht ⟨i, hl, hd, z, n1, n2⟩ hOA
    have hy := run_yield (P := P) (args := vals t) hl (by rw [hrc]; exact hps t)
    rw [hrc] at hy
    refine ⟨fn, _, assign, body, hy, roundIn_of_wpIn hfn (hassign _ t O A _ ht i ?_)⟩
    intro a' A1 hg1 hax
    have z1 := hg1.size
    have hl1 := (hg1.block (D + 1) (by omega)).trans hl
    have hd1 := (hg1.block D (by omega)).trans hd
    have i1 : I t (withD D O) A1 := hI t _ _ A A1 i (Grw.of_below hg1) fun r h => .inl h
    refine ⟨_, run_beginRound hl1 (by rw [hrc]), ?_⟩
    obtain ⟨A2, hA2⟩ : ∃ A2, A1.putObj (D + 1) (.loop { rc .ready none with state := .busy }) = A2 := ⟨_, rfl⟩
    rw [hA2]
    have z2 : A2.heap.size = A1.heap.size := by rw [← hA2]; simp
    have hl2 : A2.heap[D + 1]? = some (.loop { rc .ready none with state := .busy }) := by rw [← hA2]; exact World.putObj_heap_same (by omega)
    have hd2 : A2.heap[D]? = some (.deferred (some [])) := by rw [← hA2]; exact (World.putObj_heap_other (by omega)).trans hd1
    have inD1 : ∀ O, withD D O (D + 1) := fun O => .inr (.inr rfl)
    have i2 : I t (withD D O) A2 := by rw [← hA2]; exact hI t _ _ A1 _ i1 (Grw.of_grown (turn A1 _ _) (inD1 O)) fun r h => .inl h
    have ax2 : Ax t a' A2 := by rw [← hA2]; exact hAx t a' A1 _ _ hax (turn A1 _ _) (fun cs T q => by rw [hl1]; simp)
    have u2 : Up A A2 := hUt _ _ _ (hUb A A1 (by omega) hg1) (by rw [← hA2]; exact hUd _ _ (turn A1 _ _) (fun cs T q => by rw [hl1]; simp))
    have kO : ∀ k, O k → A2.heap[k]? = A.heap[k]? := fun k hk => by
      have hkl := hOA k hk
      rw [← hA2, World.putObj_heap_other (by intro e; first | exact n2 (e ▸ hk) | exact n2 (e.symm ▸ hk)), hg1.block k hkl]
    have back : ∀ (jump : Option Code) (B : World), KeepsP (withD D O) A2 B →
        (Instr.endRound (D + 1) jump).run P B = .ok (.bool jump.isNone) (B.putObj (D + 1) (.loop (rc (if jump.isNone then .ready else .done) jump))) ∧ B.heap[D]? = some (.deferred (some [])) ∧ D + 2 ≤ B.heap.size := fun jump B hp => by
      have hl3 := (hp.2 (D + 1) (inD1 O)).trans hl2
      have h := run_endRound (P := P) jump hl3
      simp only [hrc] at h ⊢
      exact ⟨h, (hp.2 D (.inr (.inl rfl))).trans hd2, by have := hp.1; omega⟩
    refine wpIn_mono (hbody _ t O a' A2 ht i2 (by
      rintro k (h | h | h)
      · have := hOA k h; omega
      · omega
      · omega) ax2) ?_
    rintro e a' B hb
    cases e with
    | normal =>
      obtain ⟨hp, hu, hi⟩ := hb
      obtain ⟨h, d3, z3⟩ := back none B hp
      have hzz := hp.1
      refine ⟨_, _, h, .inl ⟨rfl, ⟨hI _ _ _ B _ hi (Grw.of_grown (turn B _ _) (inD1 O)) fun r h => .inl h, World.putObj_heap_same (by omega), (World.putObj_heap_other (by omega)).trans d3, by simpa using z3, n1, n2⟩, ?_⟩⟩
      refine ⟨⟨by simp; omega, fun k hk => ?_⟩, hUt _ _ _ u2 (hUt _ _ _ hu (hUd _ _ (turn B _ _) (fun cs T q => by rw [(hp.2 (D + 1) (inD1 O)).trans hl2]; simp)))⟩
      rw [World.putObj_heap_other (by intro e; first | exact n2 (e ▸ hk) | exact n2 (e.symm ▸ hk)), hp.2 k (.inl hk), kO k hk]
    | exit id =>
      obtain ⟨hc, hp, hi⟩ := hb
      obtain ⟨h, d3, z3⟩ := back (some (.exit id)) B hp
      rw [hc] at h
      refine ⟨_, _, by rw [hc]; exact h, .inr ⟨rfl, hIx _ _ _ hi (turn B _ _) rfl, World.putObj_heap_same (by omega), (World.putObj_heap_other (by omega)).trans d3⟩⟩
    | ret =>
      obtain ⟨hc, hp, hi⟩ := hb
      obtain ⟨h, d3, z3⟩ := back (some .ret) B hp
      rw [hc] at h
      refine ⟨_, _, by rw [hc]; exact h, .inr ⟨rfl, hIx _ _ _ hi (turn B _ _) rfl, World.putObj_heap_same (by omega), (World.putObj_heap_other (by omega)).trans d3⟩⟩
    | goto t => exact hb.elim
    | panic ch => exact hb.elim
    | outgrown => exact hb.elim
  · -- the iterator has come back
    rintro e W2 ⟨⟨v, rfl⟩, ⟨O, ⟨hi, hl, hd, z, n1, n2⟩, he⟩ | ⟨hi, hl, hd⟩⟩
    · have h := run_endLoop (P := P) hl (by rw [hrc]; simp)
      have hp : (rc .ready none).pending = none := by rw [hrc]
      rw [hp] at h
      exact ⟨none, _, h, hdone O _ (hI _ _ _ W2 _ hi (Grw.of_grown (turn W2 (D + 1) _) (.inr (.inr rfl))) fun r h => .inl h) (hE _ _ _ _ he (turn W2 (D + 1) _) n2) (by simpa using z) n1 ((World.putObj_heap_other (by omega)).trans hd)⟩
    · have h := run_endLoop (P := P) hl (by rw [hrc]; simp)
      have hp : (rc .done (some c)).pending = some c := by rw [hrc]
      rw [hp] at h
      exact ⟨some c, _, h, hstop _ (hIx _ _ _ hi (turn W2 _ _) rfl) ((World.putObj_heap_other (by omega)).trans hd)⟩
end Seqk
end Go.Proofs.YtepelpmkmhhokaaGreatDoor
