/- A range over a function that lays no block of its own, and whose body may lay and turn blocks of its own, obeys its law: what holds of each turn holds at its end. Conditions: those of the law's structure. -/
import Derived.Test.YtfpcjdopfodfnaaGreatDoorOwn
set_option maxRecDepth 100000
namespace Go.Proofs.YtfpcjdopfodfnaaGreatDoor
open Go.RowKit
namespace Seqz
open Seqo (turn)
variable {F : Fence} {n : Nat} {P : Program}
/-- the two blocks of a loop lie as they lay -/
def KeepsD (D : Nat) (W W' : World) : Prop := W.heap.size ≤ W'.heap.size ∧ W'.heap[D]? = W.heap[D]? ∧ W'.heap[D + 1]? = W.heap[D + 1]?
theorem KeepsD.refl (D : Nat) (W : World) : KeepsD D W W := ⟨Nat.le_refl _, rfl, rfl⟩
theorem KeepsD.trans {D : Nat} {W W' W'' : World} (h : KeepsD D W W') (k : KeepsD D W' W'') : KeepsD D W W'' := ⟨Nat.le_trans h.1 k.1, k.2.1.trans h.2.1, k.2.2.trans h.2.2⟩
theorem KeepsD.of_below {D : Nat} {W W' : World} (h : Below W.heap.size W W') (hD : D + 2 ≤ W.heap.size) : KeepsD D W W' := ⟨h.size, h.block D (by omega), h.block (D + 1) (by omega)⟩
theorem KeepsD.of_grown {D r : Nat} {W W' : World} (h : W.grownBy W' (some r)) (hD : D + 2 ≤ W.heap.size) (h1 : r ≠ D) (h2 : r ≠ D + 1) : KeepsD D W W' :=
  ⟨h.size, h.block D (by omega) (by simpa using h1.symm), h.block (D + 1) (by omega) (by simpa using h2.symm)⟩
/-- AN ITERATOR of N turns that lays no block: it comes back behind turn N, or when a round has left it. -/
def SeqZ (F : Fence) (n : Nat) (P : Program) (g : Nat) (lb : Array Value) (vals : Nat → Array Value) (N : Nat) (S : World → Prop) : Prop :=
  ∀ (l : Nat) (J : Nat → World → Prop) (Jx : World → Prop) (W : World),
    (∀ t A, J t A → J t A.drew) → (∀ t A, J t A → S A) →
    (∀ t A, t < N → J t A → YieldAt F (n - 1) P l (vals t) A fun e B => (e = .returned (.bool true) ∧ J (t + 1) B) ∨ (e = .returned (.bool false) ∧ Jx B)) →
    J 0 W → CallsIn F n P g (#[.func (.yield l) #[] #[]] ++ lb) W fun e W' => (∃ v, e = .returned v) ∧ (J N W' ∨ Jx W')
/-- how the body of a round may be left: at its end, or by the one jump c -/
def bodyEndsZ (c : Code) (D t : Nat) (I : Nat → World → Prop) (Ix : World → Prop) (W : World) : Exit → Act → World → Prop
  | .normal, _, W' => KeepsD D W W' ∧ I (t + 1) W'
  | .exit id, _, W' => Code.exit id = c ∧ KeepsD D W W' ∧ Ix W'
  | _, _, _ => False
/-- THE STATEMENT OVER SUCH AN ITERATOR. -/
theorem wpIn_rangeFunc_seqz {g : Operand} {ps : Array Tmp} {assign body : Code} {Q : Exit → Act → World → Prop} {a : Act} {w : World}
    (hro : F.round = none) (h1 : 1 ≤ n) {gf : Nat} {lb : Array Value} (hg : a.eval g = .func (.func gf) #[] lb) (hF : F.fn gf) (eg : ∀ args w, (callFunc gf args).run P w = .ok (.enter gf args) w)
    {vals : Nat → Array Value} {N : Nat} {S : World → Prop} (hseq : SeqZ F (n - 1) P gf lb vals N S) (hps : ∀ t, (vals t).size = ps.size) (c : Code)
    (I : Nat → World → Prop) (Ix : World → Prop) (hI : ∀ t A B r, I t A → A.grownBy B (some r) → (r = w.heap.size ∨ r = w.heap.size + 1) → I t B) (hIx : ∀ A B, Ix A → A.grownBy B (some (w.heap.size + 1)) → Ix B)
    (hDr : ∀ t A, I t A → I t A.drew) (hS : ∀ t A, I t A → S A) (h0 : I 0 w) (Ax : Nat → Act → World → Prop)
    (hAx : ∀ t a A B, Ax t a A → A.grownBy B (some (w.heap.size + 1)) → w.heap.size + 2 ≤ A.heap.size → Ax t a B)
    (hassign : ∀ (l t : Nat) (W : World) (K : Act → World → Prop), t < N → I t W → w.heap.size + 2 ≤ W.heap.size → (∀ a' W', W.grownBy W' none → I t W' → Ax t a' W' → K a' W') →
      assign.wpIn (F.inRound l) (n - 1 - 1) P (Exit.then K (fun _ _ _ => False)) { tmps := (ps.zip (vals t)).foldl (fun t (p, v) => t.setIfInBounds p v) a.tmps, defers := [] } W)
    (hbody : ∀ (l t : Nat) (a' : Act) (W : World), t < N → I t W → Ax t a' W → w.heap.size + 2 ≤ W.heap.size → body.wpIn (F.inRound l) (n - 1 - 1) P (bodyEndsZ c w.heap.size t I Ix W) a' W)
    (hdone : ∀ (W : World), I N W → w.heap.size + 2 ≤ W.heap.size → W.heap[w.heap.size]? = some (.deferred (some [])) → Q .normal { a with defers := { target := .collected w.heap.size, args := #[] } :: a.defers } W)
    (hstop : ∀ (W : World), Ix W → W.heap[w.heap.size]? = some (.deferred (some [])) → c.wpIn F n P Q { a with defers := { target := .collected w.heap.size, args := #[] } :: a.defers } W) :
    (Code.rangeFunc g ps assign body).wpIn F n P Q a w := by
  refine wpIn_rangeFunc fun fn hfn => ?_
  rw [hro]
  obtain ⟨rc, hrc⟩ : ∃ rc : LoopState → Option Code → Loop, ∀ st pe, rc st pe = { state := st, pending := pe, fn, tmps := a.tmps, params := ps, assign, body, defers := w.heap.size } := ⟨_, fun _ _ => rfl⟩
  obtain ⟨D, hD⟩ : ∃ D, w.heap.size = D := ⟨_, rfl⟩
  obtain ⟨W1, hW1⟩ : ∃ W1, (w.alloc (.deferred (some []))).alloc (.loop (rc .ready none)) = W1 := ⟨_, rfl⟩
  have hsz : W1.heap.size = D + 2 := by rw [← hW1, ← hD]; simp
  have hloop : W1.heap[D + 1]? = some (.loop (rc .ready none)) := by
    have h := World.alloc_heap_new (w.alloc (.deferred (some []))) (.loop (rc .ready none))
    rw [hW1, World.size_alloc, hD] at h
    exact h
  have hdef : W1.heap[D]? = some (.deferred (some [])) := by
    have h := World.alloc_heap_new w (.deferred (some []))
    rw [hD] at h
    rw [← hW1, Below.heap_alloc _ _ _ (by simp; omega)]
    exact h
  have hI1 : I 0 W1 := by
    have h2 := hI 0 w (w.alloc (.deferred (some []))) D h0 (gB_alloc (gB_refl _ _) _) (.inl hD.symm)
    have h3 := hI 0 _ W1 (D + 1) h2 (by rw [← hW1]; exact gB_alloc (gB_refl _ _) _) (.inr (by rw [hD]))
    exact h3
  rw [hD] at hbody hdone hstop hassign hAx hI hIx
  refine ⟨D + 1, [{ target := .collected D, args := #[] }], W1, { target := .fn (.func gf) lb, args := #[.func (.yield (D + 1)) #[] #[]] }, W1, gf,
    #[.func (.yield (D + 1)) #[] #[]] ++ lb, W1, ?_, ?_, ?_, ?_, fun _ => h1, ?_⟩
  · rw [← hW1, hrc, ← hD]; exact run_enterLoop_outer _ _ _ _ _
  · simp only [resolve, hg]; simp [go_sem]
  · intro f' hf'; simp [Target.leads] at hf'; subst hf'; exact hF
  · simp [invoke, go_sem, eg]
  refine (hseq (D + 1) (fun t A => I t A ∧ A.heap[D + 1]? = some (.loop (rc .ready none)) ∧ A.heap[D]? = some (.deferred (some [])) ∧ D + 2 ≤ A.heap.size)
    (fun A => Ix A ∧ A.heap[D + 1]? = some (.loop (rc .done (some c))) ∧ A.heap[D]? = some (.deferred (some []))) W1 (fun t A h => ⟨hDr t A h.1, h.2⟩) (fun t A h => hS t A h.1) ?_ ⟨hI1, hloop, hdef, by omega⟩).mono ?_
  · -- one round
    rintro t A ht ⟨i, hl, hd, z⟩
    have hy := run_yield (P := P) (args := vals t) hl (by rw [hrc]; exact hps t)
    rw [hrc] at hy
    refine ⟨fn, _, assign, body, hy, roundIn_of_wpIn hfn (hassign _ t A _ ht i z ?_)⟩
    intro a' A1 hg1 i1 hax
    have z1 := hg1.size
    have hl1 := (hg1.block (D + 1) (by omega) (by simp)).trans hl
    have hd1 := (hg1.block D (by omega) (by simp)).trans hd
    refine ⟨_, run_beginRound hl1 (by rw [hrc]), ?_⟩
    obtain ⟨A2, hA2⟩ : ∃ A2, A1.putObj (D + 1) (.loop { rc .ready none with state := .busy }) = A2 := ⟨_, rfl⟩
    rw [hA2]
    have z2 : A2.heap.size = A1.heap.size := by rw [← hA2]; simp
    have hl2 : A2.heap[D + 1]? = some (.loop { rc .ready none with state := .busy }) := by rw [← hA2]; exact World.putObj_heap_same (by omega)
    have hd2 : A2.heap[D]? = some (.deferred (some [])) := by rw [← hA2]; exact (World.putObj_heap_other (by omega)).trans hd1
    have i2 : I t A2 := by rw [← hA2]; exact hI t A1 _ (D + 1) i1 (turn A1 _ _) (.inr rfl)
    have ax2 : Ax t a' A2 := by rw [← hA2]; exact hAx t a' A1 _ hax (turn A1 _ _) (by omega)
    have back : ∀ (jump : Option Code) (B : World), KeepsD D A2 B →
        (Instr.endRound (D + 1) jump).run P B = .ok (.bool jump.isNone) (B.putObj (D + 1) (.loop (rc (if jump.isNone then .ready else .done) jump))) ∧ B.heap[D]? = some (.deferred (some [])) ∧ D + 2 ≤ B.heap.size := fun jump B hp => by
      have hl3 := hp.2.2.trans hl2
      have h := run_endRound (P := P) jump hl3
      simp only [hrc] at h ⊢
      exact ⟨h, hp.2.1.trans hd2, by have := hp.1; omega⟩
    refine wpIn_mono (hbody _ t a' A2 ht i2 ax2 (by omega)) ?_
    rintro e a' B hb
    cases e with
    | normal =>
      obtain ⟨hp, hi⟩ := hb
      obtain ⟨h, d3, z3⟩ := back none B hp
      exact ⟨_, _, h, .inl ⟨rfl, hI _ _ _ (D + 1) hi (turn B _ _) (.inr rfl), World.putObj_heap_same (by omega), (World.putObj_heap_other (by omega)).trans d3, by simpa using z3⟩⟩
    | exit id =>
      obtain ⟨hc, hp, hi⟩ := hb
      obtain ⟨h, d3, z3⟩ := back (some (.exit id)) B hp
      rw [hc] at h
      exact ⟨_, _, by rw [hc]; exact h, .inr ⟨rfl, hIx _ _ hi (turn B _ _), World.putObj_heap_same (by omega), (World.putObj_heap_other (by omega)).trans d3⟩⟩
    | ret => exact hb.elim
    | goto t => exact hb.elim
    | panic ch => exact hb.elim
    | outgrown => exact hb.elim
  · -- the iterator has come back
    rintro e W2 ⟨⟨v, rfl⟩, ⟨hi, hl, hd, z⟩ | ⟨hi, hl, hd⟩⟩
    · have h := run_endLoop (P := P) hl (by rw [hrc]; simp)
      have hp : (rc .ready none).pending = none := by rw [hrc]
      rw [hp] at h
      exact ⟨none, _, h, hdone _ (hI _ _ _ (D + 1) hi (turn W2 _ _) (.inr rfl)) (by simpa using z) ((World.putObj_heap_other (by omega)).trans hd)⟩
    · have h := run_endLoop (P := P) hl (by rw [hrc]; simp)
      have hp : (rc .done (some c)).pending = some c := by rw [hrc]
      rw [hp] at h
      exact ⟨some c, _, h, hstop _ (hIx _ _ hi (turn W2 _ _)) ((World.putObj_heap_other (by omega)).trans hd)⟩
end Seqz
end Go.Proofs.YtfpcjdopfodfnaaGreatDoor
