/- A range over a function that keeps cells of its own obeys its law: what holds of each turn holds at its end. Conditions: those of the law's structure. A range over a function that keeps one variable of its own in a box obeys its law: what holds of each turn holds at its end. Conditions: those of the law's structure. -/
import Derived.RangeFuncNested
import Derived.RangeFuncBound
import Derived.RangeFuncCalls
import Derived.RangeFuncLeaves
import Derived.WalkKit
namespace Go.Proofs.YthojdcmkajmdjaaDoor
open Go.RowKit
namespace Till
variable {F : Fence} {n : Nat} {P : Program}

/-- what a round keeps: the cells of blocks from B on -/
def KeepC (B : Nat) (W W' : World) : Prop := ∀ b cs t, B ≤ b → W.heap[b]? = some (.cells cs t (0, 0)) → W'.heap[b]? = some (.cells cs t (0, 0))

/-- AN ITERATOR WITHOUT AN END that keeps one block of cells of its own, and whose round N must leave it: it comes back when a round has left it. -/
def SeqTill (F : Fence) (n : Nat) (P : Program) (g : Nat) (lb : Array Value) (vals : Nat → Array Value) (N : Nat) (S : World → Prop) : Prop :=
  ∀ (l : Nat) (J : Nat → World → Prop) (Jx : World → Prop) (W : World),
    (∀ t A B, J t A → A.grownBy B (some W.heap.size) → J t B) → (∀ t A, J t A → S A) →
    (∀ t A, t ≤ N → J t A → YieldAt F (n - 1) P l (vals t) A fun e B =>
      (e = .returned (.bool true) ∧ t < N ∧ J (t + 1) B ∧ KeepC W.heap.size A B) ∨ (e = .returned (.bool false) ∧ Jx B)) →
    J 0 W → CallsIn F n P g (#[.func (.yield l) #[] #[]] ++ lb) W fun e W' => (∃ v, e = .returned v) ∧ Jx W'

/-- the blocks from B on lie as they lay -/
def Past (B : Nat) (W W' : World) : Prop := W.heap.size ≤ W'.heap.size ∧ ∀ k, B ≤ k → k < W.heap.size → W'.heap[k]? = W.heap[k]?
theorem Past.refl (B : Nat) (W : World) : Past B W W := ⟨Nat.le_refl _, fun _ _ _ => rfl⟩

/-- how the body of a round may be left: at its end, or by the one jump c -/
def bodyEnds (c : Code) (B N t : Nat) (I : Nat → World → Prop) (Ix : World → Prop) (W : World) : Exit → Act → World → Prop
  | .normal, _, W' => t < N ∧ Past B W W' ∧ I (t + 1) W'
  | .exit id, _, W' => Code.exit id = c ∧ Past B W W' ∧ Ix W'
  | _, _, _ => False

/-- a turn of a block's object -/
theorem turn (W : World) (l : Nat) (o : Obj) : W.grownBy (W.putObj l o) (some l) := grownBy_putObj' W l o

/-- THE STATEMENT OVER SUCH AN ITERATOR, where the body touches no block laid since the loop began. -/
theorem wpIn_rangeFunc_till {g : Operand} {ps : Array Tmp} {assign body : Code} {Q : Exit → Act → World → Prop} {a : Act} {w : World}
    (hro : F.round = none) (h1 : 1 ≤ n) {gf : Nat} {lb : Array Value} (hg : a.eval g = .func (.func gf) #[] lb) (hF : F.fn gf) (eg : ∀ args w, (callFunc gf args).run P w = .ok (.enter gf args) w)
    {vals : Nat → Array Value} {N : Nat} {S : World → Prop} (hseq : SeqTill F (n - 1) P gf lb vals N S) (hps : ∀ t, (vals t).size = ps.size) (c : Code)
    (I : Nat → World → Prop) (Ix : World → Prop) (hI : ∀ t A B r, I t A → A.grownBy B (some r) → w.heap.size ≤ r → I t B) (hIx : ∀ A B r, Ix A → A.grownBy B (some r) → w.heap.size ≤ r → Ix B)
    (hS : ∀ t A, I t A → S A) (h0 : I 0 w) (a₁ : Nat → Act)
    (hassign : ∀ (l t : Nat) (W : World) (K : Act → World → Prop), K (a₁ t) W →
      assign.wpIn (F.inRound l) (n - 1 - 1) P (Exit.then K (fun _ _ _ => False)) { tmps := (ps.zip (vals t)).foldl (fun t (p, v) => t.setIfInBounds p v) a.tmps, defers := [] } W)
    (hbody : ∀ (l t : Nat) (W : World), t ≤ N → I t W → body.wpIn (F.inRound l) (n - 1 - 1) P (bodyEnds c w.heap.size N t I Ix W) (a₁ t) W)
    (hstop : ∀ (D : Nat) (W : World), w.heap.size ≤ D → Ix W → W.heap[D]? = some (.deferred (some [])) → c.wpIn F n P Q { a with defers := { target := .collected D, args := #[] } :: a.defers } W) :
    (Code.rangeFunc g ps assign body).wpIn F n P Q a w := by
  refine wpIn_rangeFunc fun fn hfn => ?_
  rw [hro]
  -- the record of the loop, by its state and its pending jump
  obtain ⟨rc, hrc⟩ : ∃ rc : LoopState → Option Code → Loop, ∀ st pe, rc st pe = { state := st, pending := pe, fn, tmps := a.tmps, params := ps, assign, body, defers := w.heap.size } := ⟨_, fun _ _ => rfl⟩
  obtain ⟨D, hD⟩ : ∃ D, w.heap.size = D := ⟨_, rfl⟩
  obtain ⟨W1, hW1⟩ : ∃ W1, (w.alloc (.deferred (some []))).alloc (.loop (rc .ready none)) = W1 := ⟨_, rfl⟩
  have hsz : W1.heap.size = D + 2 := by rw [← hW1, ← hD]; simp
  have hloop : W1.heap[D + 1]? = some (.loop (rc .ready none)) := by
    have h := World.alloc_heap_new (w.alloc (.deferred (some []))) (.loop (rc .ready none))
    rw [hW1, World.size_alloc, hD] at h
    exact h
  have hdef : W1.heap[D]? = some (.deferred (some [])) := by
    have h := World.alloc_heap_new w (.deferred (some []))
    rw [hD] at h
    rw [← hW1, Below.heap_alloc _ _ _ (by simp; omega)]
    exact h
  have hgrow : w.grownBy W1 (some D) := by
    rw [← hW1]
    refine ⟨rfl, rfl, rfl, by simp; omega, fun k hk _ => ?_⟩
    rw [Below.heap_alloc _ _ k (by simp; omega), Below.heap_alloc _ _ k hk]
  have hI1 : I 0 W1 := hI 0 w W1 D h0 hgrow (by omega)
  refine ⟨D + 1, [{ target := .collected D, args := #[] }], W1, { target := .fn (.func gf) lb, args := #[.func (.yield (D + 1)) #[] #[]] }, W1, gf,
    #[.func (.yield (D + 1)) #[] #[]] ++ lb, W1, ?_, ?_, ?_, ?_, fun _ => h1, ?_⟩
  · rw [← hW1, hrc, ← hD]; exact run_enterLoop_outer _ _ _ _ _
  · simp only [resolve, hg]; simp [go_sem]
  · intro f' hf'; simp [Target.leads] at hf'; subst hf'; exact hF
  · simp [invoke, go_sem, eg]
  refine (hseq (D + 1) (fun t A => I t A ∧ A.heap[D + 1]? = some (.loop (rc .ready none)) ∧ A.heap[D]? = some (.deferred (some [])) ∧ D + 2 ≤ A.heap.size)
    (fun A => Ix A ∧ A.heap[D + 1]? = some (.loop (rc .done (some c))) ∧ A.heap[D]? = some (.deferred (some []))) W1 ?_ (fun t A h => hS t A h.1) ?_ ⟨hI1, hloop, hdef, by omega⟩).mono ?_
  · rintro t A B ⟨i, l, d, z⟩ hgr
    rw [hsz] at hgr
    exact ⟨hI t A B _ i hgr (by omega), (hgr.block (D + 1) (by omega) (by simp)).trans l, (hgr.block D (by omega) (by simp)).trans d, Nat.le_trans z hgr.size⟩
  · -- one round
    rintro t A ht ⟨i, hl, hd, z⟩
    have hy := run_yield (P := P) (args := vals t) hl (by rw [hrc]; exact hps t)
    rw [hrc] at hy
    refine ⟨fn, _, assign, body, hy, roundIn_of_wpIn hfn (hassign _ t A _ ⟨_, run_beginRound hl (by rw [hrc]), ?_⟩)⟩
    obtain ⟨A2, hA2⟩ : ∃ A2, A.putObj (D + 1) (.loop { rc .ready none with state := .busy }) = A2 := ⟨_, rfl⟩
    rw [hA2]
    have z2 : A2.heap.size = A.heap.size := by rw [← hA2]; simp
    have hl2 : A2.heap[D + 1]? = some (.loop { rc .ready none with state := .busy }) := by rw [← hA2]; exact World.putObj_heap_same (by omega)
    have hd2 : A2.heap[D]? = some (.deferred (some [])) := by rw [← hA2]; exact (World.putObj_heap_other (by omega)).trans hd
    have i2 : I t A2 := by rw [← hA2]; exact hI t A _ _ i (turn A _ _) (by omega)
    have back : ∀ (jump : Option Code) (B : World), Past w.heap.size A2 B →
        (Instr.endRound (D + 1) jump).run P B = .ok (.bool jump.isNone) (B.putObj (D + 1) (.loop (rc (if jump.isNone then .ready else .done) jump))) ∧ B.heap[D]? = some (.deferred (some [])) ∧ D + 2 ≤ B.heap.size := fun jump B hp => by
      have hl3 := (hp.2 (D + 1) (by omega) (by omega)).trans hl2
      have h := run_endRound (P := P) jump hl3
      simp only [hrc] at h ⊢
      exact ⟨h, (hp.2 D (by omega) (by omega)).trans hd2, by have := hp.1; omega⟩
    refine wpIn_mono (hbody _ t A2 ht i2) ?_
    rintro e a' B hb
    cases e with
    | normal =>
      obtain ⟨hlt, hp, hi⟩ := hb
      obtain ⟨h, d3, z3⟩ := back none B hp
      refine ⟨_, _, h, .inl ⟨rfl, hlt, ⟨hI _ _ _ _ hi (turn B _ _) (by omega), World.putObj_heap_same (by omega), (World.putObj_heap_other (by omega)).trans d3, by simpa using z3⟩, ?_⟩⟩
      intro b cs ty hb0 hbc
      rw [hsz] at hb0
      have hlt' : b < A.heap.size := (Array.getElem?_eq_some_iff.1 hbc).1
      rw [World.putObj_heap_other (by omega), hp.2 b (by omega) (by omega), ← hA2, World.putObj_heap_other (by omega)]
      exact hbc
    | exit id =>
      obtain ⟨hc, hp, hi⟩ := hb
      obtain ⟨h, d3, z3⟩ := back (some (.exit id)) B hp
      rw [hc] at h
      refine ⟨_, _, by rw [hc]; exact h, .inr ⟨rfl, hIx _ _ _ hi (turn B _ _) (by omega), World.putObj_heap_same (by omega), (World.putObj_heap_other (by omega)).trans d3⟩⟩
    | ret => exact hb.elim
    | goto t => exact hb.elim
    | panic ch => exact hb.elim
    | outgrown => exact hb.elim
  · -- the iterator has come back
    rintro e W2 ⟨⟨v, rfl⟩, hi, hl, hd⟩
    have h := run_endLoop (P := P) hl (by rw [hrc]; simp)
    have hp : (rc .done (some c)).pending = some c := by rw [hrc]
    rw [hp] at h
    exact ⟨some c, _, h, hstop D _ (by omega) (hIx _ _ _ hi (turn W2 _ _) (by omega)) ((World.putObj_heap_other (by omega)).trans hd)⟩
end Till
end Go.Proofs.YthojdcmkajmdjaaDoor

namespace Go.Proofs.YthojdcmkajmdjaaDoor
open Go.RowKit
namespace Box
variable {F : Fence} {n : Nat} {P : Program}

/-- AN ITERATOR that turns one box that lay before it, and whose round N must leave it: it comes back when a round has left it. -/
def SeqBox (F : Fence) (n : Nat) (P : Program) (g : Nat) (lb : Array Value) (vals : Nat → Array Value) (N Bx : Nat) (o0 : Obj) (S : World → Prop) : Prop :=
  ∀ (l : Nat) (J : Nat → World → Prop) (Jx : World → Prop) (W : World),
    (∀ t A B, J t A → A.grownBy B (some Bx) → J t B) → (∀ t A, J t A → S A) →
    (∀ t A, t ≤ N → J t A → YieldAt F (n - 1) P l (vals t) A fun e B =>
      (e = .returned (.bool true) ∧ t < N ∧ J (t + 1) B ∧ B.heap[Bx]? = A.heap[Bx]?) ∨ (e = .returned (.bool false) ∧ Jx B)) →
    W.heap[Bx]? = some o0 → J 0 W → CallsIn F n P g (#[.func (.yield l) #[] #[]] ++ lb) W fun e W' => (∃ v, e = .returned v) ∧ Jx W'

/-- the blocks from B on, and the box, lie as they lay -/
def Past (B Bx : Nat) (W W' : World) : Prop := W.heap.size ≤ W'.heap.size ∧ W'.heap[Bx]? = W.heap[Bx]? ∧ ∀ k, B ≤ k → k < W.heap.size → W'.heap[k]? = W.heap[k]?
theorem Past.refl (B Bx : Nat) (W : World) : Past B Bx W W := ⟨Nat.le_refl _, rfl, fun _ _ _ => rfl⟩

/-- how the body of a round may be left: at its end, or by the one jump c -/
def bodyEnds (c : Code) (B Bx N t : Nat) (I : Nat → World → Prop) (Ix : World → Prop) (W : World) : Exit → Act → World → Prop
  | .normal, _, W' => t < N ∧ Past B Bx W W' ∧ I (t + 1) W'
  | .exit id, _, W' => Code.exit id = c ∧ Past B Bx W W' ∧ Ix W'
  | _, _, _ => False

/-- a turn of a block's object -/
theorem turn (W : World) (l : Nat) (o : Obj) : W.grownBy (W.putObj l o) (some l) := grownBy_putObj' W l o

/-- THE STATEMENT OVER SUCH AN ITERATOR, where the body touches no block laid since the loop began. -/
theorem wpIn_rangeFunc_box {g : Operand} {ps : Array Tmp} {assign body : Code} {Q : Exit → Act → World → Prop} {a : Act} {w : World}
    (hro : F.round = none) (h1 : 1 ≤ n) {gf : Nat} {lb : Array Value} (hg : a.eval g = .func (.func gf) #[] lb) (hF : F.fn gf) (eg : ∀ args w, (callFunc gf args).run P w = .ok (.enter gf args) w)
    {vals : Nat → Array Value} {N Bx : Nat} {o0 : Obj} {S : World → Prop} (hseq : SeqBox F (n - 1) P gf lb vals N Bx o0 S) (hps : ∀ t, (vals t).size = ps.size) (c : Code)
    (I : Nat → World → Prop) (Ix : World → Prop) (hI : ∀ t A B r, I t A → A.grownBy B (some r) → (w.heap.size ≤ r ∨ r = Bx) → I t B) (hIx : ∀ A B r, Ix A → A.grownBy B (some r) → w.heap.size ≤ r → Ix B)
    (hS : ∀ t A, I t A → S A) (hbx : w.heap[Bx]? = some o0) (h0 : I 0 w) (a₁ : Nat → Act)
    (hassign : ∀ (l t : Nat) (W : World) (K : Act → World → Prop), K (a₁ t) W →
      assign.wpIn (F.inRound l) (n - 1 - 1) P (Exit.then K (fun _ _ _ => False)) { tmps := (ps.zip (vals t)).foldl (fun t (p, v) => t.setIfInBounds p v) a.tmps, defers := [] } W)
    (hbody : ∀ (l t : Nat) (W : World), t ≤ N → I t W → body.wpIn (F.inRound l) (n - 1 - 1) P (bodyEnds c w.heap.size Bx N t I Ix W) (a₁ t) W)
    (hstop : ∀ (D : Nat) (W : World), w.heap.size ≤ D → Ix W → W.heap[D]? = some (.deferred (some [])) → c.wpIn F n P Q { a with defers := { target := .collected D, args := #[] } :: a.defers } W) :
    (Code.rangeFunc g ps assign body).wpIn F n P Q a w := by
  refine wpIn_rangeFunc fun fn hfn => ?_
  rw [hro]
  have hBx : Bx < w.heap.size := (Array.getElem?_eq_some_iff.1 hbx).1
  -- the record of the loop, by its state and its pending jump
  obtain ⟨rc, hrc⟩ : ∃ rc : LoopState → Option Code → Loop, ∀ st pe, rc st pe = { state := st, pending := pe, fn, tmps := a.tmps, params := ps, assign, body, defers := w.heap.size } := ⟨_, fun _ _ => rfl⟩
  obtain ⟨D, hD⟩ : ∃ D, w.heap.size = D := ⟨_, rfl⟩
  obtain ⟨W1, hW1⟩ : ∃ W1, (w.alloc (.deferred (some []))).alloc (.loop (rc .ready none)) = W1 := ⟨_, rfl⟩
  have hsz : W1.heap.size = D + 2 := by rw [← hW1, ← hD]; simp
  have hloop : W1.heap[D + 1]? = some (.loop (rc .ready none)) := by
    have h := World.alloc_heap_new (w.alloc (.deferred (some []))) (.loop (rc .ready none))
    rw [hW1, World.size_alloc, hD] at h
    exact h
  have hdef : W1.heap[D]? = some (.deferred (some [])) := by
    have h := World.alloc_heap_new w (.deferred (some []))
    rw [hD] at h
    rw [← hW1, Below.heap_alloc _ _ _ (by simp; omega)]
    exact h
  have hgrow : w.grownBy W1 (some D) := by
    rw [← hW1]
    refine ⟨rfl, rfl, rfl, by simp; omega, fun k hk _ => ?_⟩
    rw [Below.heap_alloc _ _ k (by simp; omega), Below.heap_alloc _ _ k hk]
  have hI1 : I 0 W1 := hI 0 w W1 D h0 hgrow (by omega)
  have hbx1 : W1.heap[Bx]? = some o0 := (hgrow.block Bx hBx (by simp; omega)).trans hbx
  refine ⟨D + 1, [{ target := .collected D, args := #[] }], W1, { target := .fn (.func gf) lb, args := #[.func (.yield (D + 1)) #[] #[]] }, W1, gf,
    #[.func (.yield (D + 1)) #[] #[]] ++ lb, W1, ?_, ?_, ?_, ?_, fun _ => h1, ?_⟩
  · rw [← hW1, hrc, ← hD]; exact run_enterLoop_outer _ _ _ _ _
  · simp only [resolve, hg]; simp [go_sem]
  · intro f' hf'; simp [Target.leads] at hf'; subst hf'; exact hF
  · simp [invoke, go_sem, eg]
  refine (hseq (D + 1) (fun t A => I t A ∧ A.heap[D + 1]? = some (.loop (rc .ready none)) ∧ A.heap[D]? = some (.deferred (some [])) ∧ D + 2 ≤ A.heap.size)
    (fun A => Ix A ∧ A.heap[D + 1]? = some (.loop (rc .done (some c))) ∧ A.heap[D]? = some (.deferred (some []))) W1 ?_ (fun t A h => hS t A h.1) ?_ hbx1 ⟨hI1, hloop, hdef, by omega⟩).mono ?_
  · rintro t A B ⟨i, l, d, z⟩ hgr
    exact ⟨hI t A B _ i hgr (.inr rfl), (hgr.block (D + 1) (by omega) (by simp; omega)).trans l, (hgr.block D (by omega) (by simp; omega)).trans d, Nat.le_trans z hgr.size⟩
  · -- one round
    rintro t A ht ⟨i, hl, hd, z⟩
    have hy := run_yield (P := P) (args := vals t) hl (by rw [hrc]; exact hps t)
    rw [hrc] at hy
    refine ⟨fn, _, assign, body, hy, roundIn_of_wpIn hfn (hassign _ t A _ ⟨_, run_beginRound hl (by rw [hrc]), ?_⟩)⟩
    obtain ⟨A2, hA2⟩ : ∃ A2, A.putObj (D + 1) (.loop { rc .ready none with state := .busy }) = A2 := ⟨_, rfl⟩
    rw [hA2]
    have z2 : A2.heap.size = A.heap.size := by rw [← hA2]; simp
    have hl2 : A2.heap[D + 1]? = some (.loop { rc .ready none with state := .busy }) := by rw [← hA2]; exact World.putObj_heap_same (by omega)
    have hd2 : A2.heap[D]? = some (.deferred (some [])) := by rw [← hA2]; exact (World.putObj_heap_other (by omega)).trans hd
    have hb2 : A2.heap[Bx]? = A.heap[Bx]? := by rw [← hA2]; exact World.putObj_heap_other (by omega)
    have i2 : I t A2 := by rw [← hA2]; exact hI t A _ _ i (turn A _ _) (by omega)
    have back : ∀ (jump : Option Code) (B : World), Past w.heap.size Bx A2 B →
        (Instr.endRound (D + 1) jump).run P B = .ok (.bool jump.isNone) (B.putObj (D + 1) (.loop (rc (if jump.isNone then .ready else .done) jump))) ∧ B.heap[D]? = some (.deferred (some [])) ∧ D + 2 ≤ B.heap.size := fun jump B hp => by
      have hl3 := (hp.2.2 (D + 1) (by omega) (by omega)).trans hl2
      have h := run_endRound (P := P) jump hl3
      simp only [hrc] at h ⊢
      exact ⟨h, (hp.2.2 D (by omega) (by omega)).trans hd2, by have := hp.1; omega⟩
    refine wpIn_mono (hbody _ t A2 ht i2) ?_
    rintro e a' B hb
    cases e with
    | normal =>
      obtain ⟨hlt, hp, hi⟩ := hb
      obtain ⟨h, d3, z3⟩ := back none B hp
      refine ⟨_, _, h, .inl ⟨rfl, hlt, ⟨hI _ _ _ _ hi (turn B _ _) (by omega), World.putObj_heap_same (by omega), (World.putObj_heap_other (by omega)).trans d3, by simpa using z3⟩, ?_⟩⟩
      rw [World.putObj_heap_other (by omega), hp.2.1, hb2]
    | exit id =>
      obtain ⟨hc, hp, hi⟩ := hb
      obtain ⟨h, d3, z3⟩ := back (some (.exit id)) B hp
      rw [hc] at h
      refine ⟨_, _, by rw [hc]; exact h, .inr ⟨rfl, hIx _ _ _ hi (turn B _ _) (by omega), World.putObj_heap_same (by omega), (World.putObj_heap_other (by omega)).trans d3⟩⟩
    | ret => exact hb.elim
    | goto t => exact hb.elim
    | panic ch => exact hb.elim
    | outgrown => exact hb.elim
  · -- the iterator has come back
    rintro e W2 ⟨⟨v, rfl⟩, hi, hl, hd⟩
    have h := run_endLoop (P := P) hl (by rw [hrc]; simp)
    have hp : (rc .done (some c)).pending = some c := by rw [hrc]
    rw [hp] at h
    exact ⟨some c, _, h, hstop D _ (by omega) (hIx _ _ _ hi (turn W2 _ _) (by omega)) ((World.putObj_heap_other (by omega)).trans hd)⟩
end Box
end Go.Proofs.YthojdcmkajmdjaaDoor
