/- A range over a function that keeps blocks of its own, told by a list, and whose body may lay and turn blocks of its own, obeys its law: what holds of each turn holds at its end. Conditions: those of the law's structure. -/
import Derived.Test.YtkliecngkcjieaaGreatDoorOwn
set_option maxRecDepth 100000
namespace Go.Proofs.YtkliecngkcjieaaGreatDoor
open Go.RowKit
namespace Seqx
open Seqo (turn)
variable {F : Fence} {n : Nat} {P : Program}
/-- the blocks of a list lie as they lay -/
def KeepsO (O : List Nat) (W W' : World) : Prop := W.heap.size ≤ W'.heap.size ∧ ∀ k ∈ O, W'.heap[k]? = W.heap[k]?
theorem KeepsO.refl (O : List Nat) (W : World) : KeepsO O W W := ⟨Nat.le_refl _, fun _ _ => rfl⟩
theorem KeepsO.trans {O : List Nat} {W W' W'' : World} (h : KeepsO O W W') (k : KeepsO O W' W'') : KeepsO O W W'' :=
  ⟨Nat.le_trans h.1 k.1, fun j hj => (k.2 j hj).trans (h.2 j hj)⟩
theorem KeepsO.of_below {O : List Nat} {W W' : World} (h : Below W.heap.size W W') (hO : ∀ k ∈ O, k < W.heap.size) : KeepsO O W W' := ⟨h.size, fun k hk => h.block k (hO k hk)⟩
theorem KeepsO.of_grown {O : List Nat} {r : Nat} {W W' : World} (h : W.grownBy W' (some r)) (hO : ∀ k ∈ O, k < W.heap.size) (hr : r ∉ O) : KeepsO O W W' :=
  ⟨h.size, fun k hk => h.block k (hO k hk) (fun e => hr (Option.some.inj e ▸ hk))⟩
/-- a block is no row of bytes -/
def NB (W : World) (r : Nat) : Prop := ∀ cs fr, W.heap[r]? ≠ some (.cells cs 5 fr)
/-- what holds of a turn, O being the iterator's blocks: those may turn, and new ones join them -/
structure Stab (J : Nat → List Nat → World → Prop) : Prop where
  own : ∀ t O A B r, J t O A → A.grownBy B (some r) → r ∈ O → NB B r → J t O B
  new : ∀ t O A B r, J t O A → A.grownBy B (some r) → A.heap.size ≤ r → r < B.heap.size → NB B r → J t (r :: O) B
/-- AN ITERATOR of N turns with blocks of its own: it comes back behind turn N, or when a round has left it. -/
def SeqX (F : Fence) (n : Nat) (P : Program) (g : Nat) (lb : Array Value) (vals : Nat → Array Value) (N : Nat) (S : World → Prop) : Prop :=
  ∀ (l : Nat) (J : Nat → List Nat → World → Prop) (Jx : World → Prop) (W : World),
    Stab J → (∀ t O A, J t O A → S A) →
    (∀ t O A, t < N → J t O A → YieldAt F (n - 1) P l (vals t) A fun e B =>
      (e = .returned (.bool true) ∧ J (t + 1) O B ∧ KeepsO O A B) ∨ (e = .returned (.bool false) ∧ Jx B)) →
    J 0 [] W → CallsIn F n P g (#[.func (.yield l) #[] #[]] ++ lb) W fun e W' => (∃ v, e = .returned v) ∧ ((∃ O, J N O W') ∨ Jx W')
/-- how the body of a round may be left: at its end, or by the one jump c -/
def bodyEnds (c : Code) (O : List Nat) (t : Nat) (I : Nat → List Nat → World → Prop) (Ix : World → Prop) (W : World) : Exit → Act → World → Prop
  | .normal, _, W' => KeepsO O W W' ∧ I (t + 1) O W'
  | .exit id, _, W' => Code.exit id = c ∧ KeepsO O W W' ∧ Ix W'
  | .ret, _, W' => Code.ret = c ∧ KeepsO O W W' ∧ Ix W'
  | _, _, _ => False
/-- THE STATEMENT OVER SUCH AN ITERATOR. -/
theorem wpIn_rangeFunc_seqx {g : Operand} {ps : Array Tmp} {assign body : Code} {Q : Exit → Act → World → Prop} {a : Act} {w : World}
    (hro : F.round = none) (h1 : 1 ≤ n) {gf : Nat} {lb : Array Value} (hg : a.eval g = .func (.func gf) #[] lb) (hF : F.fn gf) (eg : ∀ args w, (callFunc gf args).run P w = .ok (.enter gf args) w)
    {vals : Nat → Array Value} {N : Nat} {S : World → Prop} (hseq : SeqX F (n - 1) P gf lb vals N S) (hps : ∀ t, (vals t).size = ps.size) (c : Code)
    (I : Nat → List Nat → World → Prop) (Ix : World → Prop) (hI : Stab I) (hIx : ∀ A B, Ix A → A.grownBy B (some (w.heap.size + 1)) → Ix B)
    (hS : ∀ t O A, I t O A → S A) (h0 : I 0 [] w) (a₁ : Nat → Act)
    (hassign : ∀ (l t : Nat) (W : World) (K : Act → World → Prop), t < N → K (a₁ t) W →
      assign.wpIn (F.inRound l) (n - 1 - 1) P (Exit.then K (fun _ _ _ => False)) { tmps := (ps.zip (vals t)).foldl (fun t (p, v) => t.setIfInBounds p v) a.tmps, defers := [] } W)
    (hbody : ∀ (l t : Nat) (O : List Nat) (W : World), t < N → I t O W → w.heap.size ∈ O → w.heap.size + 1 ∈ O → w.heap.size + 2 ≤ W.heap.size → body.wpIn (F.inRound l) (n - 1 - 1) P (bodyEnds c O t I Ix W) (a₁ t) W)
    (hdone : ∀ (O : List Nat) (W : World), I N O W → w.heap.size ∈ O → w.heap.size + 1 ∈ O → W.heap[w.heap.size]? = some (.deferred (some [])) → Q .normal { a with defers := { target := .collected w.heap.size, args := #[] } :: a.defers } W)
    (hstop : ∀ (W : World), Ix W → W.heap[w.heap.size]? = some (.deferred (some [])) → c.wpIn F n P Q { a with defers := { target := .collected w.heap.size, args := #[] } :: a.defers } W) :
    (Code.rangeFunc g ps assign body).wpIn F n P Q a w := by
  refine wpIn_rangeFunc fun fn hfn => ?_
  rw [hro]
  obtain ⟨rc, hrc⟩ : ∃ rc : LoopState → Option Code → Loop, ∀ st pe, rc st pe = { state := st, pending := pe, fn, tmps := a.tmps, params := ps, assign, body, defers := w.heap.size } := ⟨_, fun _ _ => rfl⟩
  obtain ⟨D, hD⟩ : ∃ D, w.heap.size = D := ⟨_, rfl⟩
  obtain ⟨W1, hW1⟩ : ∃ W1, (w.alloc (.deferred (some []))).alloc (.loop (rc .ready none)) = W1 := ⟨_, rfl⟩
  have hsz : W1.heap.size = D + 2 := by rw [← hW1, ← hD]; simp
  have hloop : W1.heap[D + 1]? = some (.loop (rc .ready none)) := by
    have h := World.alloc_heap_new (w.alloc (.deferred (some []))) (.loop (rc .ready none))
    rw [hW1, World.size_alloc, hD] at h
    exact h
  have hdef : W1.heap[D]? = some (.deferred (some [])) := by
    have h := World.alloc_heap_new w (.deferred (some []))
    rw [hD] at h
    rw [← hW1, Below.heap_alloc _ _ _ (by simp; omega)]
    exact h
  have hI1 : I 0 [D + 1, D] W1 := by
    have h2 := hI.new 0 [] w (w.alloc (.deferred (some []))) D h0 (by rw [← hD]; exact gB_alloc (gB_refl _ _) _) (by omega) (by rw [World.size_alloc]; omega) (by
      intro cs fr h
      have h' := World.alloc_heap_new w (.deferred (some []))
      rw [hD] at h'
      rw [h'] at h; cases h)
    have h3 := hI.new 0 [D] (w.alloc (.deferred (some []))) W1 (D + 1) h2 (by
      rw [← hW1, show D + 1 = (w.alloc (.deferred (some []))).heap.size by rw [World.size_alloc, hD]]
      exact gB_alloc (gB_refl _ _) _) (by rw [World.size_alloc, hD]; exact Nat.le_refl _) (by omega) (by
      intro cs fr h
      rw [hloop] at h; cases h)
    exact h3
  rw [hD] at hbody hdone hstop
  refine ⟨D + 1, [{ target := .collected D, args := #[] }], W1, { target := .fn (.func gf) lb, args := #[.func (.yield (D + 1)) #[] #[]] }, W1, gf,
    #[.func (.yield (D + 1)) #[] #[]] ++ lb, W1, ?_, ?_, ?_, ?_, fun _ => h1, ?_⟩
  · rw [← hW1, hrc, ← hD]; exact run_enterLoop_outer _ _ _ _ _
  · simp only [resolve, hg]; simp [go_sem]
  · intro f' hf'; simp [Target.leads] at hf'; subst hf'; exact hF
  · simp [invoke, go_sem, eg]
  refine (hseq (D + 1) (fun t O A => I t (O ++ [D + 1, D]) A ∧ A.heap[D + 1]? = some (.loop (rc .ready none)) ∧ A.heap[D]? = some (.deferred (some [])) ∧ D + 2 ≤ A.heap.size ∧ D ∉ O ∧ D + 1 ∉ O)
    (fun A => Ix A ∧ A.heap[D + 1]? = some (.loop (rc .done (some c))) ∧ A.heap[D]? = some (.deferred (some []))) W1 ?_ (fun t O A h => hS t _ A h.1) ?_ ⟨hI1, hloop, hdef, by omega, by simp, by simp⟩).mono ?_
  · refine ⟨?_, ?_⟩
    · rintro t O A B r ⟨i, l, d, z, n1, n2⟩ hgr hr hnb
      have r1 : r ≠ D := fun e => n1 (e ▸ hr)
      have r2 : r ≠ D + 1 := fun e => n2 (e ▸ hr)
      exact ⟨hI.own t _ A B r i hgr (List.mem_append_left _ hr) hnb, (hgr.block (D + 1) (by omega) (by simp; omega)).trans l, (hgr.block D (by omega) (by simp; omega)).trans d, Nat.le_trans z hgr.size, n1, n2⟩
    · rintro t O A B r ⟨i, l, d, z, n1, n2⟩ hgr hr hlt hnb
      refine ⟨hI.new t _ A B r i hgr hr hlt hnb, (hgr.block (D + 1) (by omega) (by simp; omega)).trans l, (hgr.block D (by omega) (by simp; omega)).trans d, Nat.le_trans z hgr.size, ?_, ?_⟩
      · intro h
        rcases List.mem_cons.1 h with h | h
        · omega
        · exact n1 h
      · intro h
        rcases List.mem_cons.1 h with h | h
        · omega
        · exact n2 h
  · -- one round
    rintro t O A ht ⟨i, hl, hd, z, n1, n2⟩
    have hy := run_yield (P := P) (args := vals t) hl (by rw [hrc]; exact hps t)
    rw [hrc] at hy
    refine ⟨fn, _, assign, body, hy, roundIn_of_wpIn hfn (hassign _ t A _ ht ?_)⟩
    refine ⟨_, run_beginRound hl (by rw [hrc]), ?_⟩
    obtain ⟨A2, hA2⟩ : ∃ A2, A.putObj (D + 1) (.loop { rc .ready none with state := .busy }) = A2 := ⟨_, rfl⟩
    rw [hA2]
    have z2 : A2.heap.size = A.heap.size := by rw [← hA2]; simp
    have hl2 : A2.heap[D + 1]? = some (.loop { rc .ready none with state := .busy }) := by rw [← hA2]; exact World.putObj_heap_same (by omega)
    have hd2 : A2.heap[D]? = some (.deferred (some [])) := by rw [← hA2]; exact (World.putObj_heap_other (by omega)).trans hd
    have i2 : I t (O ++ [D + 1, D]) A2 := by rw [← hA2]; exact hI.own t _ A _ (D + 1) i (turn A _ _) (by simp) (fun cs fr h => by rw [World.putObj_heap_same (by omega)] at h; cases h)
    have kO : ∀ k ∈ O, A2.heap[k]? = A.heap[k]? := fun k hk => by
      rw [← hA2]
      exact World.putObj_heap_other (by intro e; first | exact n2 (e ▸ hk) | exact n2 (e.symm ▸ hk))
    have back : ∀ (jump : Option Code) (B : World), KeepsO (O ++ [D + 1, D]) A2 B →
        (Instr.endRound (D + 1) jump).run P B = .ok (.bool jump.isNone) (B.putObj (D + 1) (.loop (rc (if jump.isNone then .ready else .done) jump))) ∧ B.heap[D]? = some (.deferred (some [])) ∧ D + 2 ≤ B.heap.size := fun jump B hp => by
      have hl3 := (hp.2 (D + 1) (by simp)).trans hl2
      have h := run_endRound (P := P) jump hl3
      simp only [hrc] at h ⊢
      exact ⟨h, (hp.2 D (by simp)).trans hd2, by have := hp.1; omega⟩
    refine wpIn_mono (hbody _ t _ A2 ht i2 (by simp) (by simp) (by omega)) ?_
    rintro e a' B hb
    cases e with
    | normal =>
      obtain ⟨hp, hi⟩ := hb
      obtain ⟨h, d3, z3⟩ := back none B hp
      have hzz := hp.1
      refine ⟨_, _, h, .inl ⟨rfl, ⟨hI.own _ _ _ _ (D + 1) hi (turn B _ _) (by simp) (fun cs fr h => by rw [World.putObj_heap_same (by omega)] at h; cases h), World.putObj_heap_same (by omega), (World.putObj_heap_other (by omega)).trans d3, by simpa using z3, n1, n2⟩, ?_⟩⟩
      refine ⟨by simp; omega, fun k hk => ?_⟩
      rw [World.putObj_heap_other (by intro e; first | exact n2 (e ▸ hk) | exact n2 (e.symm ▸ hk)), hp.2 k (List.mem_append_left _ hk), kO k hk]
    | exit id =>
      obtain ⟨hc, hp, hi⟩ := hb
      obtain ⟨h, d3, z3⟩ := back (some (.exit id)) B hp
      rw [hc] at h
      refine ⟨_, _, by rw [hc]; exact h, .inr ⟨rfl, hIx _ _ hi (by rw [hD]; exact turn B _ _), World.putObj_heap_same (by omega), (World.putObj_heap_other (by omega)).trans d3⟩⟩
    | ret =>
      obtain ⟨hc, hp, hi⟩ := hb
      obtain ⟨h, d3, z3⟩ := back (some .ret) B hp
      rw [hc] at h
      refine ⟨_, _, by rw [hc]; exact h, .inr ⟨rfl, hIx _ _ hi (by rw [hD]; exact turn B _ _), World.putObj_heap_same (by omega), (World.putObj_heap_other (by omega)).trans d3⟩⟩
    | goto t => exact hb.elim
    | panic ch => exact hb.elim
    | outgrown => exact hb.elim
  · -- the iterator has come back
    rintro e W2 ⟨⟨v, rfl⟩, ⟨O, hi, hl, hd, z, n1, n2⟩ | ⟨hi, hl, hd⟩⟩
    · have h := run_endLoop (P := P) hl (by rw [hrc]; simp)
      have hp : (rc .ready none).pending = none := by rw [hrc]
      rw [hp] at h
      exact ⟨none, _, h, hdone _ _ (hI.own _ _ _ _ (D + 1) hi (turn W2 _ _) (by simp) (fun cs fr h => by rw [World.putObj_heap_same (by omega)] at h; cases h)) (by simp) (by simp) ((World.putObj_heap_other (by omega)).trans hd)⟩
    · have h := run_endLoop (P := P) hl (by rw [hrc]; simp)
      have hp : (rc .done (some c)).pending = some c := by rw [hrc]
      rw [hp] at h
      exact ⟨some c, _, h, hstop _ (hIx _ _ hi (by rw [hD]; exact turn W2 _ _)) ((World.putObj_heap_other (by omega)).trans hd)⟩
end Seqx
end Go.Proofs.YtkliecngkcjieaaGreatDoor
