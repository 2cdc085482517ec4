/- What is met, step by step: how what is read grows by it; a sign is laid behind others. Conditions: the row is the call's own. A quoted text is read as the document tells it. Conditions: the library's tables lie as they are laid; the text is right, and not too long. -/
import Derived.Test.YtkliecngkcjieaaGreatDoorMta
import Derived.Test.YtkliecngkcjieaaGreatDoorEsk
import Derived.Test.YtkliecngkcjieaaGreatDoorQte
import Derived.Test.YtkliecngkcjieaaGreatDoorMtr
import Derived.WalkMore
import Derived.Lib.BufferRead
import Derived.Laws.EntriesVeiled
set_option maxRecDepth 100000
namespace Go.Proofs.YtkliecngkcjieaaGreatDoor
open Go.RowKit Go.Shelf
open Pl Quo Seqx
open Seqo (turn)
theorem mets_len (L : List UInt8) : ∀ (f b : Nat), (metsF f L b).length ≤ f
  | 0, _ => Nat.le_refl _
  | f + 1, b => by
    unfold metsF
    split
    · simp
    · split
      · rw [List.length_cons]
        have := mets_len L f
        have h := this (b + (by assumption : Nat))
        omega
      · simp
      · simp
theorem numM_in {k : Nat} {t : List UInt8} {r : Int} {n : Nat} (h : numM k t = .sgn r n) : 0 ≤ r ∧ r ≤ 1114111 := by
  unfold numM at h
  split at h
  · cases h
  · split at h
    · cases h
    · split at h
      · rename_i ho
        cases h
        unfold okSign at ho
        rw [decide_eq_true_iff] at ho
        omega
      · cases h
theorem escM_in {t : List UInt8} {r : Int} {n : Nat} (h : escM t = .sgn r n) : 0 ≤ r ∧ r ≤ 1114111 := by
  cases t with
  | nil => cases h
  | cons c t =>
    simp only [escM] at h
    have d2 := fun h => numM_in (k := 2) (t := t) (r := r) (n := n) h
    have d4 := fun h => numM_in (k := 4) (t := t) (r := r) (n := n) h
    obtain ⟨D2, hD2⟩ : ∃ D, numM 2 t = D := ⟨_, rfl⟩
    obtain ⟨D4, hD4⟩ : ∃ D, numM 4 t = D := ⟨_, rfl⟩
    rw [hD2] at h d2
    rw [hD4] at h d4
    have hc := c.toNat_lt
    repeat' split at h
    all_goals first
      | (cases h; omega)
      | exact d2 h
      | exact d4 h
      | cases h
theorem lookM_in {L : List UInt8} (hne : L ≠ []) {r : Int} {n : Nat} (h : lookM L = .sgn r n) : 0 ≤ r ∧ r ≤ 1114111 := by
  unfold lookM at h
  split at h
  · cases h
  · split at h
    · exact escM_in h
    · unfold itsM at h
      split at h
      · cases h
        have := runes_in L _ (Nat.le_refl _) ((Go.Lib.decodeL L).1 : Int) (by rw [runesOf_step L hne]; exact List.mem_cons_self)
        exact this
      · cases h
theorem metsF_succ (f : Nat) (L : List UInt8) (b : Nat) : metsF (f + 1) L b = if L.length ≤ b then [(L.length, .fault 42)] else match lookM (L.drop b) with
    | .sgn r k => (b + k, .sgn r k) :: metsF f L (b + k)
    | .last => [(b + 1, .last)]
    | .fault e => [(b, .fault e)] := rfl
/-- WHAT IS MET FROM A PLACE ON: a sign and the rest, the last quote, or a fault -/
theorem mets_step (L : List UInt8) (f b : Nat) (hf : L.length < f + b) (hb : b ≤ L.length) (hv : Go.Lib.validD (L.drop b) = true) :
    (∃ r k f', metsF f L b = (b + k, .sgn r k) :: metsF f' L (b + k) ∧ L.length < f' + (b + k) ∧ b + k ≤ L.length ∧ Go.Lib.validD (L.drop (b + k)) = true ∧ 0 ≤ r ∧ r ≤ 1114111) ∨
    (∃ x, metsF f L b = [(x, .last)] ∧ x ≤ L.length) ∨ (∃ x e, metsF f L b = [(x, .fault e)] ∧ (e = 41 ∨ e = 42)) := by
  obtain ⟨f, rfl⟩ : ∃ f', f = f' + 1 := ⟨f - 1, by omega⟩
  rw [metsF_succ]
  by_cases hlt : L.length ≤ b
  · rw [if_pos hlt]
    exact .inr (.inr ⟨_, _, rfl, .inr rfl⟩)
  · rw [if_neg hlt]
    have hne : L.drop b ≠ [] := by
      intro h
      have := congrArg List.length h
      rw [List.length_drop, List.length_nil] at this
      omega
    have hdl := List.length_drop (i := b) (l := L)
    have hdd : ∀ k, (L.drop b).drop k = L.drop (b + k) := fun k => List.drop_drop
    rcases look_cases (L.drop b) hne hv with ⟨e, t, ht⟩ | ⟨t, ht, e, e2⟩ | ⟨u, r, k, ht, e, e2, k1, k2, k3⟩ | ⟨e, _⟩ | ⟨e, e2, k1, k2, k3⟩
    · rw [e]
      exact .inr (.inl ⟨_, rfl, by omega⟩)
    · rw [e]
      exact .inr (.inr ⟨b, 41, rfl, .inl rfl⟩)
    · rw [e]
      rw [ht, List.length_cons] at hdl
      refine .inl ⟨r, k + 1, f, rfl, by omega, by omega, ?_, lookM_in hne e⟩
      rw [← hdd]
      refine valid_drop_low _ _ hv (fun x hx => ?_)
      rw [ht, List.take_succ_cons] at hx
      rcases List.mem_cons.1 hx with rfl | hx
      · decide
      · exact k3 x hx
    · rw [e]
      exact .inr (.inr ⟨b, 42, rfl, .inr rfl⟩)
    · have hin := lookM_in hne e
      rw [e]
      refine .inl ⟨(Go.Lib.decodeL (L.drop b)).1, (Go.Lib.decodeL (L.drop b)).2, f, rfl, by omega, by omega, ?_, hin⟩
      rw [← hdd]
      exact (valid_head _ hne hv).2
/-- where a row lies -/
theorem own_or {W : World} {b n : Nat} {v : Value} {xs : List Value} (h : W.ownsRow b 5 1 v n xs) : v.ownBlock = none ∨ ∃ g cur, v.ownBlock = some g ∧ b ≤ g ∧ g < W.heap.size ∧ W.heap[g]? = some (.cells cur 5 (0, 0)) := by
  rcases h with ⟨ha, ⟨h0, h1⟩ | ⟨g, c', cur, hv, hbg, hg2, hr2⟩⟩
  · left; rw [h0]; rfl
  · exact .inr ⟨g, cur, by rw [hv]; rfl, hbg, (Array.getElem?_eq_some_iff.1 hg2).1, hg2⟩
theorem enc_cells (r : Int) : bc (Go.Lib.encodeRune r) = Go.Lib.runeCells r := Go.Lib.byteCells_encodeRune r
set_option maxHeartbeats 2000000 in
theorem lay_any (B X : Nat) (v : Value) (n : Nat) (xs : List Value) (r : Int) (w : World) (hown : w.ownsRow B 5 1 v n xs) (hn : n ≤ 1099511627776) (hB : B ≤ w.heap.size) (h0 : 0 ≤ r) (h1 : r ≤ 1114111)
    (hX : w.heap[X]? = some (.cells #[v] 92 (0, 0))) (hne : v.ownBlock ≠ some X) :
    Calls Tryz.prog 107 #[.int .i32 r, .pointer (some ⟨X, 0, none⟩)] w fun e w' => (∃ u, e = .returned u) ∧ ∃ v' o W2, W2.ownsRow B 5 1 v' (n + (Go.Lib.encodeRune r).length) (xs ++ bc (Go.Lib.encodeRune r)) ∧ (w.alloc o).grownBy W2 v.ownBlock ∧ w' = W2.setCell ⟨X, 0, none⟩ v' := by
  have hA := Tryz.utf8_AppendRune_plain B v n xs r (by omega) (by omega) w hown (by omega) hB
  rw [enc_cells, ← Go.Lib.runeCells_length]
  have hc := cell_of_row _ X 0 _ _ _ hX
  have hlX := (Array.getElem?_eq_some_iff.1 hX).1
  have HA := Lib.hid hA
  have HX := Lib.hid hX
  have HNE := Lib.hid hne
  clear hA hown hX hne
  go_enter Tryz.func107, Tryz.ntmps107
  go_wp2_with fail
  refine HA.out.mono ?_
  rintro e w' ⟨v', rfl, hown', o, hgr⟩
  have hx2 : w'.heap[X]? = some (.cells #[v] 92 (0, 0)) := (hgr.block X (by simp; omega) (fun e => HNE.out e.symm)).trans ((Below.heap_alloc _ _ _ hlX).trans HX.out)
  have c2 := cell_of_row _ X 0 _ _ _ hx2
  have f2 := frozen_of_row _ X 0 _ _ hx2
  have hlen := (Go.Lib.runeCells_le r).1
  obtain ⟨g', cap', cur', hv', _, _, _⟩ := own_slice hown' (by omega)
  subst hv'
  have HO := Lib.hid hown'
  have HG := Lib.hid hgr
  clear hx2 hown' hgr hc hlen
  go_wp2_with fail
  go_end0
  exact ⟨⟨_, rfl⟩, _, o, w', HO.out, HG.out, rfl⟩
end Go.Proofs.YtkliecngkcjieaaGreatDoor

set_option maxRecDepth 100000
namespace Go.Proofs.YtkliecngkcjieaaGreatDoor
open Go.RowKit Go.Shelf
open Pl Quo Seqx
open Seqo (turn)
attribute [local go_sem] Oper.semAt_some
/-- what holds all along: the boxes, the looker's map -/
structure RB (w : World) (M Bm m : Nat) (s : ByteArray) (a : Nat) (W : World) : Prop where
  b0 : W.heap[M]? = some (.cells #[.string ⟨#[]⟩] 9 (0, 0))
  b1 : W.heap[M + 1]? = some (.cells #[.int .i64 0] 3 (0, 0))
  b2 : W.heap[M + 2]? = some (.cells #[.int .i64 0] 27 (0, 0))
  b4 : W.heap[M + 4]? = some (.cells #[.func (.func 107) #[] #[.pointer (some ⟨M + 3, 0, none⟩)]] 132 (0, 0))
  b5 : W.heap[M + 5]? = some (.cells #[.int .i64 a] 3 (0, 0))
  b6 : W.heap[M + 6]? = some (.cells #[.string s] 9 (0, 0))
  b7 : W.heap[M + 7]? = some (.cells #[.int .i64 a] 3 (0, 0))
  b8 : W.heap[M + 8]? = some (.cells #[lookV Bm] 87 (0, 0))
  below : Below w.heap.size w W
  size : M + 9 ≤ W.heap.size
  look : W.heap[Bm]? = some (.cells #[.map (some m)] 143 (0, 0))
  map : W.heap[m]? = some (.map (entI signsP 0).toArray 4)
/-- a change in one block that is none of those -/
theorem RB.step {w A B : World} {M Bm m : Nat} {s : ByteArray} {a : Nat} (h : RB w M Bm m s a A) (hM : w.heap.size ≤ M) (hBm : Bm < w.heap.size) (hm : m < w.heap.size) (hos : B.os = A.os) (htp : B.tape = A.tape) (hou : B.output = A.output) (hsz : A.heap.size ≤ B.heap.size)
    (hk : ∀ k, k < M + 9 → k ≠ M + 3 → B.heap[k]? = A.heap[k]?) : RB w M Bm m s a B := by
  have hb : Below w.heap.size A B := ⟨hos, htp, hou, hsz, fun k hk' => hk k (by omega) (by omega)⟩
  exact ⟨(hk _ (by omega) (by omega)).trans h.b0, (hk _ (by omega) (by omega)).trans h.b1, (hk _ (by omega) (by omega)).trans h.b2, (hk _ (by omega) (by omega)).trans h.b4, (hk _ (by omega) (by omega)).trans h.b5,
    (hk _ (by omega) (by omega)).trans h.b6, (hk _ (by omega) (by omega)).trans h.b7, (hk _ (by omega) (by omega)).trans h.b8, h.below.trans hb, Nat.le_trans h.size hsz, (hk _ (by omega) (by omega)).trans h.look, (hk _ (by omega) (by omega)).trans h.map⟩
/-- the row of what was read -/
def RW (M : Nat) (pre : List UInt8) (O : List Nat) (W : World) : Prop :=
  ∃ v, W.heap[M + 3]? = some (.cells #[v] 92 (0, 0)) ∧ (∀ k ∈ O, v.ownBlock ≠ some k) ∧ W.ownsRow (M + 9) 5 1 v pre.length (bc pre)
/-- the iterator's own blocks -/
def RO (M : Nat) (O : List Nat) (W : World) : Prop := ∀ k ∈ O, M + 9 ≤ k ∧ k < W.heap.size ∧ NB W k
theorem RO.own {M : Nat} {O : List Nat} {A B : World} {r : Nat} (h : RO M O A) (hg : A.grownBy B (some r)) (hnb : NB B r) : RO M O B := fun k hk => by
  obtain ⟨a, b, c⟩ := h k hk
  refine ⟨a, Nat.lt_of_lt_of_le b hg.size, ?_⟩
  by_cases e : k = r
  · subst e; exact hnb
  · exact fun cs fr h => c cs fr (by rw [← hg.block k b (by simpa using e)]; exact h)
theorem RO.new {M : Nat} {O : List Nat} {A B : World} {r : Nat} (h : RO M O A) (hM : M + 9 ≤ A.heap.size) (hg : A.grownBy B (some r)) (hr : A.heap.size ≤ r) (hlt : r < B.heap.size) (hnb : NB B r) : RO M (r :: O) B := fun k hk => by
  rcases List.mem_cons.1 hk with rfl | hk
  · exact ⟨by omega, hlt, hnb⟩
  · obtain ⟨a, b, c⟩ := h k hk
    exact ⟨a, Nat.lt_of_lt_of_le b hg.size, fun cs fr h => c cs fr (by rw [← hg.block k b (by simp; omega)]; exact h)⟩
theorem RW.own {M : Nat} {pre : List UInt8} {O : List Nat} {A B : World} {r : Nat} (h : RW M pre O A) (hM : M + 9 ≤ A.heap.size) (hr : r ∈ O) (hr9 : M + 9 ≤ r) (hg : A.grownBy B (some r)) : RW M pre O B := by
  obtain ⟨v, h1, h2, h3⟩ := h
  refine ⟨v, (hg.block _ (by omega) (by simp; omega)).trans h1, h2, own_keep5 h3 fun g hv => ?_⟩
  rcases own_or h3 with e | ⟨g', cur, hv', _, hlt, _⟩
  · rw [e] at hv; cases hv
  · rw [hv'] at hv
    obtain rfl : g' = g := by injection hv
    exact hg.block g' hlt (fun e => h2 r hr (by rw [hv', e]))
theorem RW.new {M : Nat} {pre : List UInt8} {O : List Nat} {A B : World} {r : Nat} (h : RW M pre O A) (hM : M + 9 ≤ A.heap.size) (hg : A.grownBy B (some r)) (hr : A.heap.size ≤ r) : RW M pre (r :: O) B := by
  obtain ⟨v, h1, h2, h3⟩ := h
  have keep : ∀ k, k < A.heap.size → B.heap[k]? = A.heap[k]? := fun k hk => hg.block k hk (by simp; omega)
  refine ⟨v, (keep _ (by omega)).trans h1, fun k hk => ?_, own_keep5 h3 fun g hv => ?_⟩
  · rcases List.mem_cons.1 hk with rfl | hk
    · rcases own_or h3 with e | ⟨g', cur, hv', _, hlt, _⟩
      · rw [e]; simp
      · rw [hv']; intro e
        obtain rfl : g' = k := by injection e
        omega
    · exact h2 k hk
  · rcases own_or h3 with e | ⟨g', cur, hv', _, hlt, _⟩
    · rw [e] at hv; cases hv
    · rw [hv'] at hv
      obtain rfl : g' = g := by injection hv
      exact keep g' hlt
/-- what holds of a turn -/
def RI (w : World) (M Bm m : Nat) (s : ByteArray) (a : Nat) (L : List UInt8) (t : Nat) (O : List Nat) (W : World) : Prop :=
  RB w M Bm m s a W ∧ RO M O W ∧ ∃ b f pre, L.length < f + b ∧ b ≤ L.length ∧ Go.Lib.validD (L.drop b) = true ∧ (mets L).drop t = metsF f L b ∧ foldM (mets L) = (foldM (metsF f L b)).put pre 0 ∧ pre.length ≤ 4 * t ∧ RW M pre O W
theorem RI_stab (w : World) (M Bm m : Nat) (s : ByteArray) (a : Nat) (L : List UInt8) (hM : w.heap.size ≤ M) (hBm : Bm < w.heap.size) (hm : m < w.heap.size) : Stab (RI w M Bm m s a L) := by
  refine ⟨?_, ?_⟩
  · rintro t O A B r ⟨h1, h2, b, f, pre, h3, h4, h5, h6, h7, h8, h9⟩ hg hr hnb
    have hr9 := (h2 r hr).1
    have hz := h1.size
    exact ⟨h1.step hM hBm hm hg.os hg.tape hg.output hg.size (fun k hk _ => hg.block k (by omega) (by simp; omega)), h2.own hg hnb, b, f, pre, h3, h4, h5, h6, h7, h8, h9.own hz hr hr9 hg⟩
  · rintro t O A B r ⟨h1, h2, b, f, pre, h3, h4, h5, h6, h7, h8, h9⟩ hg hr hlt hnb
    have hz := h1.size
    exact ⟨h1.step hM hBm hm hg.os hg.tape hg.output hg.size (fun k hk _ => hg.block k (by omega) (by simp; omega)), h2.new hz hg hr hlt hnb, b, f, pre, h3, h4, h5, h6, h7, h8, h9.new hz hg hr⟩
/-- what holds when the body has left the loop: by a last quote; by a fault -/
def RX (w : World) (M : Nat) (a : Nat) (L : List UInt8) (id : Nat) (c : Code) (O : List Nat) (W : World) : Prop :=
  RO M O W ∧ Below w.heap.size w W ∧ M + 9 ≤ W.heap.size ∧
  ((c = .exit id ∧ ∃ pre x, foldM (mets L) = .ok pre x ∧ x ≤ L.length ∧ pre.length ≤ 4 * (L.length + 1) ∧ RW M pre O W ∧ W.heap[M]? = some (.cells #[.string ⟨#[]⟩] 9 (0, 0)) ∧ W.heap[M + 1]? = some (.cells #[.int .i64 0] 3 (0, 0)) ∧ W.heap[M + 2]? = some (.cells #[.int .i64 0] 27 (0, 0)) ∧ W.heap[M + 5]? = some (.cells #[.int .i64 ((a : Int) + (x : Int))] 3 (0, 0))) ∨
   (c = .ret ∧ ∃ e, foldM (mets L) = .err e ∧ W.heap[M]? = some (.cells #[.string ⟨#[]⟩] 9 (0, 0)) ∧ W.heap[M + 1]? = some (.cells #[.int .i64 0] 3 (0, 0)) ∧ W.heap[M + 2]? = some (.cells #[.int .i64 e] 27 (0, 0))))
theorem RX_left (w : World) (M : Nat) (a : Nat) (L : List UInt8) (id : Nat) (hM : w.heap.size ≤ M) (c : Code) : LeftO (RX w M a L id c) := by
  rintro O A B r ⟨h1, h2, h3, h4⟩ hg hr hnb
  have hr9 := (h1 r hr).1
  have hz2 := h2.size
  have keep : ∀ k, k < M + 9 → B.heap[k]? = A.heap[k]? := fun k hk => hg.block k (by omega) (by simp; omega)
  refine ⟨h1.own hg hnb, h2.trans (below_of_grown hg (by omega) (by omega)), Nat.le_trans h3 hg.size, ?_⟩
  rcases h4 with ⟨hc, pre, x, g1, g2, g3, g4, g5, g6, g7, g8⟩ | ⟨hc, e, g1, g2, g3, g4⟩
  · exact .inl ⟨hc, pre, x, g1, g2, g3, g4.own h3 hr hr9 hg, (keep _ (by omega)).trans g5, (keep _ (by omega)).trans g6, (keep _ (by omega)).trans g7, (keep _ (by omega)).trans g8⟩
  · exact .inr ⟨hc, e, g1, (keep _ (by omega)).trans g2, (keep _ (by omega)).trans g3, (keep _ (by omega)).trans g4⟩
/-- what is answered -/
def rdT (R : Rd) : ByteArray := match R with
  | .ok T _ => ⟨T.toArray⟩
  | .err _ => ⟨#[]⟩
def rdN (R : Rd) : Int := match R with
  | .ok _ n => n
  | .err _ => 0
def rdE (R : Rd) : Int := match R with
  | .ok _ _ => 0
  | .err e => e
def mvA (a : Nat) (ms : List (Nat × Quo.Met)) (j : Nat) : Value := match ms[j]? with
  | some (b, _) => .int .i64 ((a + b : Nat) : Int)
  | none => .int .i64 0
def mvB (ms : List (Nat × Quo.Met)) (j : Nat) : Value := match ms[j]? with
  | some (_, m) => m.val
  | none => .nilIface
theorem metV_eq (a : Nat) (ms : List (Nat × Quo.Met)) (j : Nat) : metV a ms j = #[mvA a ms j, mvB ms j] := by
  unfold metV mvA mvB
  cases ms[j]? with
  | none => rfl
  | some x => rfl
theorem mv_at {a : Nat} {ms : List (Nat × Quo.Met)} {j b : Nat} {m : Quo.Met} {r : List (Nat × Quo.Met)} (h : ms.drop j = (b, m) :: r) : mvA a ms j = .int .i64 ((a + b : Nat) : Int) ∧ mvB ms j = m.val := by
  unfold mvA mvB
  rw [(drop_cons h).1]
  exact ⟨rfl, rfl⟩
theorem RW.keep {M : Nat} {pre : List UInt8} {O : List Nat} {A B : World} (h : RW M pre O A) (hM : M + 9 ≤ A.heap.size) (hk : ∀ k, k < A.heap.size → k = M + 3 ∨ M + 9 ≤ k → B.heap[k]? = A.heap[k]?) : RW M pre O B := by
  obtain ⟨v, h1, h2, h3⟩ := h
  refine ⟨v, (hk _ (by omega) (.inl rfl)).trans h1, h2, own_keep5 h3 fun g hv => ?_⟩
  rcases own_or h3 with e | ⟨g', cur, hv', hge, hlt, _⟩
  · rw [e] at hv; cases hv
  · rw [hv'] at hv
    obtain rfl : g' = g := by injection hv
    exact hk g' hlt (.inr hge)
theorem RO.keep {M : Nat} {O : List Nat} {A B : World} (h : RO M O A) (hz : A.heap.size ≤ B.heap.size) (hk : ∀ k, k < A.heap.size → M + 9 ≤ k → B.heap[k]? = A.heap[k]?) : RO M O B := fun k hkO => by
  obtain ⟨a, b, c⟩ := h k hkO
  exact ⟨a, by omega, fun cs fr h => c cs fr (by rw [← hk k b a]; exact h)⟩
/-- a sign more was laid -/
theorem RI_more {w W W2 : World} {M Bm m : Nat} {s : ByteArray} {a : Nat} {O : List Nat} {pre q : List UInt8} {v v' : Value} {o1 o2 : Obj} (hwM : w.heap.size ≤ M) (hBl : Bm < w.heap.size) (hml : m < w.heap.size) (hB : RB w M Bm m s a W) (hO : RO M O W)
    (h1 : W.heap[M + 3]? = some (.cells #[v] 92 (0, 0))) (h2 : ∀ k ∈ O, v.ownBlock ≠ some k) (h3 : W.ownsRow (M + 9) 5 1 v pre.length (bc pre))
    (hown : W2.ownsRow (M + 9) 5 1 v' (pre.length + q.length) (bc pre ++ bc q)) (hg : ((W.alloc o1).alloc o2).grownBy W2 v.ownBlock) :
    KeepsO O W (W2.setCell ⟨M + 3, 0, none⟩ v') ∧ RB w M Bm m s a (W2.setCell ⟨M + 3, 0, none⟩ v') ∧ RO M O (W2.setCell ⟨M + 3, 0, none⟩ v') ∧ RW M (pre ++ q) O (W2.setCell ⟨M + 3, 0, none⟩ v') := by
  have hz := hB.size
  have hsz2 := hg.size
  rw [World.size_alloc, World.size_alloc] at hsz2
  have hgn : ∀ k, k < M + 9 → v.ownBlock ≠ some k := fun k hk e => by
    rcases own_or h3 with e' | ⟨g, cur, hv', hge, _, _⟩
    · rw [e'] at e; cases e
    · rw [hv'] at e
      have := Option.some.inj e
      omega
  have keep : ∀ k, k < W.heap.size → v.ownBlock ≠ some k → W2.heap[k]? = W.heap[k]? := fun k hk hne =>
    (hg.block k (by simp; omega) (fun e => hne e.symm)).trans ((Below.heap_alloc _ _ _ (by simp; omega)).trans (Below.heap_alloc _ _ _ hk))
  have hg9 : W2.grownBy (W2.setCell ⟨M + 3, 0, none⟩ v') (some (M + 3)) := gB_setCell (gB_refl _ _) 0 v'
  have hs9 := hg9.size
  have keep2 : ∀ k, k < W2.heap.size → k ≠ M + 3 → (W2.setCell ⟨M + 3, 0, none⟩ v').heap[k]? = W2.heap[k]? := fun k hk hne => hg9.block k hk (by simpa using hne)
  have hOk : ∀ k ∈ O, (W2.setCell ⟨M + 3, 0, none⟩ v').heap[k]? = W.heap[k]? := fun k hk => by
    obtain ⟨x, y, z⟩ := hO k hk
    exact (keep2 k (by omega) (by omega)).trans (keep k y (h2 k hk))
  have h13 : W2.heap[M + 3]? = some (.cells #[v] 92 (0, 0)) := (keep _ (by omega) (hgn _ (by omega))).trans h1
  refine ⟨⟨by omega, hOk⟩, hB.step hwM hBl hml (hg9.os.trans hg.os) (hg9.tape.trans hg.tape) (hg9.output.trans hg.output) (by omega) (fun k hk hne => (keep2 k (by omega) hne).trans (keep k (by omega) (hgn k hk))), fun k hk => ?_, v', heap_setCell_same W2 (M + 3) 0 _ _ _ h13, fun k hk => ?_, ?_⟩
  · obtain ⟨x, y, z⟩ := hO k hk
    exact ⟨x, by omega, fun cs fr h => z cs fr (by rw [← hOk k hk]; exact h)⟩
  · obtain ⟨x, y, z⟩ := hO k hk
    exact own_loc hg hown k (by simp; omega) (fun cs fr h => z cs fr (by rw [← h]; exact (Below.heap_alloc _ _ _ y).symm)) (h2 k hk)
  · have e : bc (pre ++ q) = bc pre ++ bc q := by simp [bc, Go.Lib.byteCells]
    rw [e, List.length_append]
    refine own_keep5 hown fun g hk => keep2 g ?_ ?_
    · rcases own_or hown with e' | ⟨g', cur, hv', _, hlt, _⟩
      · rw [e'] at hk; cases hk
      · rw [hv'] at hk
        obtain rfl : g' = g := Option.some.inj hk
        exact hlt
    · rcases own_or hown with e' | ⟨g', cur, hv', hge, hlt, _⟩
      · rw [e'] at hk; cases hk
      · rw [hv'] at hk
        obtain rfl : g' = g := Option.some.inj hk
        omega
set_option maxHeartbeats 8000000 in
theorem readText_in (s : ByteArray) (hs : s.size ≤ 1000000) (a : Nat) (ha : a ≤ s.size) (L : List UInt8) (hL : s.data.toList.drop a = L) (hv : Go.Lib.validD L = true) (Bm m : Nat) (w : World) (E : Env w)
    (hBm : w.heap[Bm]? = some (.cells #[.map (some m)] 143 (0, 0))) (hm : w.heap[m]? = some (.map (entI signsP 0).toArray 4)) :
    CallsIn Fence.wide 6 Tryz.prog 72 #[.string s, .int .i64 a, lookV Bm] w fun e w' => e = .returned (.tuple #[.string (rdT ((foldM (mets L)).put [] a)), .int .i64 (rdN ((foldM (mets L)).put [] a)), .int .i64 (rdE ((foldM (mets L)).put [] a))]) ∧ Below w.heap.size w w' := by
  have HE := Lib.hid E
  have HBM := Lib.hid hBm
  have HMM := Lib.hid hm
  have hBl := (Array.getElem?_eq_some_iff.1 hBm).1
  have hml := (Array.getElem?_eq_some_iff.1 hm).1
  clear E hBm hm
  have hab : (a : Int) ≤ 1000000 := by omega
  unfold lookV
  refine callsIn_of_wp_marks Tryz.func72 rfl trivial ?_ rfl
  simp only [Tryz.ntmps72, List.size_toArray, List.length_cons, List.length_nil, Nat.reduceAdd, Nat.reduceSub, Array.replicate_succ, Array.replicate_zero, List.push_toArray, List.append_toArray, List.nil_append, List.cons_append]
  refine wpIn_wide.2 ?_
  go_wp2_with (go_at_call 109; refine (meetings_any s a Bm _).mono ?_; rintro e w' ⟨rfl, rfl⟩)
  apply wp_scope_straight
  go_wp2_with fail
  apply wp_label
  go_wp2_with (go_at_call 109; refine (meetings_any s a Bm _).mono ?_; rintro e w' ⟨rfl, rfl⟩)
  obtain ⟨M, hM⟩ : ∃ M, w.heap.size = M := ⟨_, rfl⟩
  obtain ⟨W9, hW9⟩ : ∃ W9, (((((((((w).alloc (.cells #[.string ⟨#[]⟩] 9)).alloc (.cells #[.int .i64 0] 3)).alloc (.cells #[.int .i64 0] 27)).alloc (.cells #[.slice none 0 0] 92)).alloc (.cells #[.func (.func 107) #[] #[.pointer (some ⟨w.heap.size + 1 + 1 + 1, 0, none⟩)]] 132)).alloc (.cells #[.int .i64 a] 3)).alloc (.cells #[.string s] 9)).alloc (.cells #[.int .i64 a] 3)).alloc (.cells #[lookV Bm] 87) = W9 := ⟨_, rfl⟩
  rw [hW9, hM]
  rw [hM] at hW9
  have hz9 : W9.heap.size = M + 9 := by rw [← hW9, ← hM]; simp
  have g0 : W9.heap[M + 0]? = some (.cells #[.string ⟨#[]⟩] 9 (0, 0)) := by
    rw [← hW9]
    iterate 8 rw [Below.heap_alloc _ _ _ (by simp [hM]; try omega)]
    have h := heap_alloc_new (w) (.cells #[.string ⟨#[]⟩] 9)
    simp only [hM] at h
    exact h
  have g1 : W9.heap[M + 1]? = some (.cells #[.int .i64 0] 3 (0, 0)) := by
    rw [← hW9]
    iterate 7 rw [Below.heap_alloc _ _ _ (by simp [hM]; try omega)]
    have h := heap_alloc_new ((w).alloc (.cells #[.string ⟨#[]⟩] 9)) (.cells #[.int .i64 0] 3)
    simp only [World.size_alloc, hM] at h
    exact h
  have g2 : W9.heap[M + 2]? = some (.cells #[.int .i64 0] 27 (0, 0)) := by
    rw [← hW9]
    iterate 6 rw [Below.heap_alloc _ _ _ (by simp [hM]; try omega)]
    have h := heap_alloc_new (((w).alloc (.cells #[.string ⟨#[]⟩] 9)).alloc (.cells #[.int .i64 0] 3)) (.cells #[.int .i64 0] 27)
    simp only [World.size_alloc, hM] at h
    exact h
  have g3 : W9.heap[M + 3]? = some (.cells #[.slice none 0 0] 92 (0, 0)) := by
    rw [← hW9]
    iterate 5 rw [Below.heap_alloc _ _ _ (by simp [hM]; try omega)]
    have h := heap_alloc_new ((((w).alloc (.cells #[.string ⟨#[]⟩] 9)).alloc (.cells #[.int .i64 0] 3)).alloc (.cells #[.int .i64 0] 27)) (.cells #[.slice none 0 0] 92)
    simp only [World.size_alloc, hM] at h
    exact h
  have g4 : W9.heap[M + 4]? = some (.cells #[.func (.func 107) #[] #[.pointer (some ⟨M + 1 + 1 + 1, 0, none⟩)]] 132 (0, 0)) := by
    rw [← hW9]
    iterate 4 rw [Below.heap_alloc _ _ _ (by simp [hM]; try omega)]
    have h := heap_alloc_new (((((w).alloc (.cells #[.string ⟨#[]⟩] 9)).alloc (.cells #[.int .i64 0] 3)).alloc (.cells #[.int .i64 0] 27)).alloc (.cells #[.slice none 0 0] 92)) (.cells #[.func (.func 107) #[] #[.pointer (some ⟨M + 1 + 1 + 1, 0, none⟩)]] 132)
    simp only [World.size_alloc, hM] at h
    exact h
  have g5 : W9.heap[M + 5]? = some (.cells #[.int .i64 a] 3 (0, 0)) := by
    rw [← hW9]
    iterate 3 rw [Below.heap_alloc _ _ _ (by simp [hM]; try omega)]
    have h := heap_alloc_new ((((((w).alloc (.cells #[.string ⟨#[]⟩] 9)).alloc (.cells #[.int .i64 0] 3)).alloc (.cells #[.int .i64 0] 27)).alloc (.cells #[.slice none 0 0] 92)).alloc (.cells #[.func (.func 107) #[] #[.pointer (some ⟨M + 1 + 1 + 1, 0, none⟩)]] 132)) (.cells #[.int .i64 a] 3)
    simp only [World.size_alloc, hM] at h
    exact h
  have g6 : W9.heap[M + 6]? = some (.cells #[.string s] 9 (0, 0)) := by
    rw [← hW9]
    iterate 2 rw [Below.heap_alloc _ _ _ (by simp [hM]; try omega)]
    have h := heap_alloc_new (((((((w).alloc (.cells #[.string ⟨#[]⟩] 9)).alloc (.cells #[.int .i64 0] 3)).alloc (.cells #[.int .i64 0] 27)).alloc (.cells #[.slice none 0 0] 92)).alloc (.cells #[.func (.func 107) #[] #[.pointer (some ⟨M + 1 + 1 + 1, 0, none⟩)]] 132)).alloc (.cells #[.int .i64 a] 3)) (.cells #[.string s] 9)
    simp only [World.size_alloc, hM] at h
    exact h
  have g7 : W9.heap[M + 7]? = some (.cells #[.int .i64 a] 3 (0, 0)) := by
    rw [← hW9]
    iterate 1 rw [Below.heap_alloc _ _ _ (by simp [hM]; try omega)]
    have h := heap_alloc_new ((((((((w).alloc (.cells #[.string ⟨#[]⟩] 9)).alloc (.cells #[.int .i64 0] 3)).alloc (.cells #[.int .i64 0] 27)).alloc (.cells #[.slice none 0 0] 92)).alloc (.cells #[.func (.func 107) #[] #[.pointer (some ⟨M + 1 + 1 + 1, 0, none⟩)]] 132)).alloc (.cells #[.int .i64 a] 3)).alloc (.cells #[.string s] 9)) (.cells #[.int .i64 a] 3)
    simp only [World.size_alloc, hM] at h
    exact h
  have g8 : W9.heap[M + 8]? = some (.cells #[lookV Bm] 87 (0, 0)) := by
    rw [← hW9]
    iterate 0 rw [Below.heap_alloc _ _ _ (by simp [hM]; try omega)]
    have h := heap_alloc_new (((((((((w).alloc (.cells #[.string ⟨#[]⟩] 9)).alloc (.cells #[.int .i64 0] 3)).alloc (.cells #[.int .i64 0] 27)).alloc (.cells #[.slice none 0 0] 92)).alloc (.cells #[.func (.func 107) #[] #[.pointer (some ⟨M + 1 + 1 + 1, 0, none⟩)]] 132)).alloc (.cells #[.int .i64 a] 3)).alloc (.cells #[.string s] 9)).alloc (.cells #[.int .i64 a] 3)) (.cells #[lookV Bm] 87)
    simp only [World.size_alloc, hM] at h
    exact h
  have hbl : Below w.heap.size w W9 := by
    rw [← hW9]
    exact (((((((((Below.refl _ w).alloc (by simp) _).alloc (by simp; try omega) _).alloc (by simp; try omega) _).alloc (by simp; try omega) _).alloc (by simp; try omega) _).alloc (by simp; try omega) _).alloc (by simp; try omega) _).alloc (by simp; try omega) _).alloc (by simp; try omega) _
  have hRB : RB w M Bm m s a W9 := ⟨g0, g1, g2, g4, g5, g6, g7, g8, hbl, by omega, (hbl.block Bm hBl).trans HBM.out, (hbl.block m hml).trans HMM.out⟩
  have hLl : L.length = s.size - a := by
    rw [← hL, List.length_drop, Array.length_toList]
    rfl
  have hRI : RI w M Bm m s a L 0 [] W9 := ⟨hRB, fun k hk => absurd hk (by simp), 0, L.length + 1, [], by omega, by omega, hv, rfl, (put_zero _).symm, by simp, .slice none 0 0, g3, fun k hk => absurd hk (by simp), ⟨rfl, .inl ⟨rfl, rfl⟩⟩⟩
  have hN : (mets L).length ≤ L.length + 1 := mets_len L _ _
  have hwM : w.heap.size ≤ M := by omega
  have hrun := meetings_run s hs a ha L hL hv (M + 1 + 1 + 1 + 1 + 1 + 1) (M + 1 + 1 + 1 + 1 + 1 + 1 + 1) (M + 1 + 1 + 1 + 1 + 1 + 1 + 1 + 1) Bm (fun A => RB w M Bm m s a A)
    (fun A h => ⟨cell_of_row _ _ 0 _ _ _ h.b6, cell_of_row _ _ 0 _ _ _ h.b7, cell_of_row _ _ 0 _ _ _ h.b8⟩)
    (fun A R h h1 h2 h3 => look_any R h2 h1 h3 Bm m A h.look h.map (HE.out.below h.below))
  have HRUN := Lib.hid hrun
  have HRI := Lib.hid hRI
  have HMZ := Lib.hid hM
  clear hW9 g0 g1 g2 g3 g4 g5 g6 g7 g8 hbl hRB hRI hrun hM
  refine (wpIn_wide (n := 6)).1 ?_
  refine wpIn_rangeFunc_seqy (Qx := LeftO) rfl (by decide) (gf := 133) (lb := #[.pointer (some ⟨M + 1 + 1 + 1 + 1 + 1 + 1 + 1, 0, none⟩), .pointer (some ⟨M + 1 + 1 + 1 + 1 + 1 + 1, 0, none⟩), .pointer (some ⟨M + 1 + 1 + 1 + 1 + 1 + 1 + 1 + 1, 0, none⟩)]) rfl trivial (enters_of Tryz.func133 (by kernel_rfl) rfl)
    HRUN.out (fun t => metV_size a (mets L) t) (RI w M Bm m s a L) (RX w M a L 0) (RI_stab w M Bm m s a L hwM hBl hml) (fun c => RX_left w M a L 0 hwM c) (fun R => left_of (fun c => RX_left w M a L 0 hwM c) R)
    (fun t O A h => h.1) HRI.out
    (fun t => { tmps := #[.string s, .int .i64 a, .func (.func 112) #[] #[.pointer (some ⟨Bm, 0, none⟩)], undef, undef, undef, .pointer (some ⟨M, 0, none⟩), .pointer (some ⟨M + 1, 0, none⟩), .pointer (some ⟨M + 1 + 1, 0, none⟩), .pointer (some ⟨M + 1 + 1 + 1, 0, none⟩), .pointer (some ⟨M + 1 + 1 + 1 + 1, 0, none⟩), .pointer (some ⟨M + 1 + 1 + 1 + 1 + 1, 0, none⟩), mvA a (mets L) t, mvB (mets L) t, undef, undef, undef, .func (.func 107) #[] #[.pointer (some ⟨M + 1 + 1 + 1, 0, none⟩)], .int .i64 a, .string s, .int .i64 a, .func (.func 112) #[] #[.pointer (some ⟨Bm, 0, none⟩)], .func (.func 133) #[] #[.pointer (some ⟨M + 1 + 1 + 1 + 1 + 1 + 1 + 1, 0, none⟩), .pointer (some ⟨M + 1 + 1 + 1 + 1 + 1 + 1, 0, none⟩), .pointer (some ⟨M + 1 + 1 + 1 + 1 + 1 + 1 + 1 + 1, 0, none⟩)], mvA a (mets L) t, mvB (mets L) t, undef, undef, undef, undef, undef, undef, undef, undef, undef, undef, undef, undef, undef, undef, undef, undef, undef, undef, undef], defers := [] })
    ?hassign ?hbody ?hdone ?hstop
  case hassign =>
    intro l t W K ht hK
    rw [metV_eq]
    have HKK := Lib.hid hK
    clear hK
    gi_wp2
    exact HKK.out
  case hbody =>
    rintro l t O W ht ⟨hB, hO, b, f, pre, p1, p2, p3, p4, p5, p6, p7⟩ hD hD1 hz
    have hst := mets_step L f b p1 p2 p3
    obtain ⟨v, h1, h2, h3⟩ := p7
    have hz' := hB.size
    have c4 : W.cell? ⟨M + 1 + 1 + 1 + 1, 0, none⟩ = some (.func (.func 107) #[] #[.pointer (some ⟨M + 1 + 1 + 1, 0, none⟩)]) := cell_of_row _ _ 0 _ _ _ hB.b4
    have c5 : W.cell? ⟨M + 1 + 1 + 1 + 1 + 1, 0, none⟩ = some (.int .i64 a) := cell_of_row _ _ 0 _ _ _ hB.b5
    have l4 : M + 1 + 1 + 1 + 1 < W.heap.size := by omega
    have l5 : M + 1 + 1 + 1 + 1 + 1 < W.heap.size := by omega
    have f5 := frozen_of_row _ (M + 1 + 1 + 1 + 1 + 1) 0 _ _ hB.b5
    rcases hst with ⟨r, k, f', e, q1, q2, q3, q4, q5⟩ | ⟨x, e, q1⟩ | ⟨x, er, e, q1⟩
    · rw [e] at p4 p5
      obtain ⟨ea, eb⟩ := mv_at (a := a) p4
      have hdc := drop_cons p4
      rw [ea, eb]
      have hC := fun o => lay_any (M + 9) (M + 3) v pre.length (bc pre) r (W.alloc o) (h3.alloc o) (by omega) (by simp; omega) q4 q5 ((Below.heap_alloc _ _ _ (by omega)).trans h1) (fun e => by
        rcases own_or h3 with e' | ⟨g, cur, hv', hge, _, _⟩
        · rw [e'] at e; cases e
        · rw [hv'] at e
          have := Option.some.inj e
          omega)
      have ht0 : ∀ w, (Instr.typeAssert (.iface 139 (.agg #[.int .i32 r, .int .i64 k])) 137 139 true).run Tryz.prog w = .ok (.tuple #[.agg #[.int .i32 r, .int .i64 k], .bool true]) w := fun _ => by kernel_rfl
      have h107 : Fence.wide.fn 107 := trivial
      simp only [Quo.Met.val]
      have HC := Lib.hid hC
      have HB := Lib.hid hB
      have HO := Lib.hid hO
      have H1 := Lib.hid h1
      have H2 := Lib.hid h2
      have H3 := Lib.hid h3
      have P4 := Lib.hid p4
      have P5 := Lib.hid p5
      have HDC := Lib.hid hdc
      clear hC hB hO h1 h2 h3 p4 p5 hdc ea eb e hD hD1 p1 p3 q4 q5 hz f5 c5
      gi_wp2_with (gi_at_call 107; refine (CallsIn.inRound l (callsIn_wide.2 (HC.out _))).mono ?_; rintro e w' ⟨⟨u, rfl⟩, v', o, W2, hown, hgr, rfl⟩)
      have hmore := RI_more hwM hBl hml HB.out HO.out H1.out H2.out H3.out hown hgr
      have hfo : foldM (mets L) = (foldM (metsF f' L (b + k))).put (pre ++ Go.Lib.encodeRune r) 0 := by
        rw [P5.out]
        simp only [foldM]
        rw [put_put]
      have hle : (Go.Lib.encodeRune r).length ≤ 4 := by rw [← Go.Lib.runeCells_length]; exact (Go.Lib.runeCells_le r).2
      exact ⟨hmore.1, hmore.2.1, hmore.2.2.1, b + k, f', pre ++ Go.Lib.encodeRune r, q1, q2, q3, HDC.out.2.2, hfo, by rw [List.length_append]; omega, hmore.2.2.2⟩
    · rw [e] at p4 p5
      obtain ⟨ea, eb⟩ := mv_at (a := a) p4
      rw [ea, eb]
      have ht0 : ∀ w, (Instr.typeAssert (.iface 140 (.agg #[])) 137 139 true).run Tryz.prog w = .ok (.tuple #[.agg #[.int .i32 0, .int .i64 0], .bool false]) w := fun _ => by kernel_rfl
      have ht1 : ∀ w, (Instr.typeAssert (.iface 140 (.agg #[])) 137 140 true).run Tryz.prog w = .ok (.tuple #[.agg #[], .bool true]) w := fun _ => by kernel_rfl
      simp only [Quo.Met.val]
      obtain ⟨W1, hW1⟩ : ∃ W1, (W.setCell ⟨M + 1 + 1 + 1 + 1 + 1, 0, none⟩ (.int .i64 ((a : Int) + (x : Int)))).alloc (.cells #[] 140) = W1 := ⟨_, rfl⟩
      have keep : ∀ k, k < W.heap.size → k ≠ M + 5 → W1.heap[k]? = W.heap[k]? := fun k hk hne => by
        rw [← hW1]
        exact (Below.heap_alloc _ _ _ (by have := (gB_setCell (gB_refl W (M + 1 + 1 + 1 + 1 + 1)) 0 (.int .i64 ((a : Int) + (x : Int)))).size; omega)).trans (Below.heap_setCell _ _ _ _ hne)
      have hg1 : W.grownBy W1 (some (M + 5)) := by
        rw [← hW1]
        exact gB_alloc (gB_setCell (gB_refl W _) 0 _) _
      have h55 : W1.heap[M + 5]? = some (.cells #[.int .i64 ((a : Int) + (x : Int))] 3 (0, 0)) := by
        rw [← hW1]
        exact (Below.heap_alloc _ _ _ (by have := (gB_setCell (gB_refl W (M + 1 + 1 + 1 + 1 + 1)) 0 (.int .i64 ((a : Int) + (x : Int)))).size; omega)).trans (heap_setCell_same _ (M + 5) 0 _ _ _ hB.b5)
      have hsz := hg1.size
      have hfo : foldM (mets L) = .ok pre x := by
        rw [p5]
        simp [foldM, Rd.put]
      have hend : KeepsO O W W1 ∧ RX w M a L 0 (.exit 0) O W1 :=
        ⟨⟨hsz, fun k hk => keep k (hO k hk).2.1 (by have := (hO k hk).1; omega)⟩, hO.keep hsz (fun k hk hge => keep k hk (by omega)), hB.below.trans (below_of_grown hg1 (by omega) (by omega)), by omega,
          .inl ⟨rfl, pre, x, hfo, q1, by omega, RW.keep ⟨v, h1, h2, h3⟩ hz' (fun k hk h => keep k hk (by omega)), (keep _ (by omega) (by omega)).trans hB.b0, (keep _ (by omega) (by omega)).trans hB.b1, (keep _ (by omega) (by omega)).trans hB.b2, h55⟩⟩
      have HEND := Lib.hid hend
      have HW1 := Lib.hid hW1
      clear hB hO h1 h2 h3 p4 p5 ea eb e hD hD1 p1 p3 hz keep hg1 h55 hsz hfo hend hW1 c4
      gi_wp2
      rw [HW1.out]
      exact HEND.out
    · rw [e] at p4 p5
      obtain ⟨ea, eb⟩ := mv_at (a := a) p4
      rw [ea, eb]
      have ht0 : ∀ w, (Instr.typeAssert (.iface 141 (.int .i64 er)) 137 139 true).run Tryz.prog w = .ok (.tuple #[.agg #[.int .i32 0, .int .i64 0], .bool false]) w := fun _ => by kernel_rfl
      have ht1 : ∀ w, (Instr.typeAssert (.iface 141 (.int .i64 er)) 137 140 true).run Tryz.prog w = .ok (.tuple #[.agg #[], .bool false]) w := fun _ => by kernel_rfl
      have ht2 : ∀ w, (Instr.typeAssert (.iface 141 (.int .i64 er)) 137 141 true).run Tryz.prog w = .ok (.tuple #[.int .i64 er, .bool true]) w := fun _ => by kernel_rfl
      simp only [Quo.Met.val]
      have d0 : W.cell? ⟨M, 0, none⟩ = some (.string ⟨#[]⟩) := cell_of_row _ _ 0 _ _ _ hB.b0
      have d1 : W.cell? ⟨M + 1, 0, none⟩ = some (.int .i64 0) := cell_of_row _ _ 0 _ _ _ hB.b1
      have d2 : W.cell? ⟨M + 1 + 1, 0, none⟩ = some (.int .i64 0) := cell_of_row _ _ 0 _ _ _ hB.b2
      have e0 := frozen_of_row _ M 0 _ _ hB.b0
      have e1 := frozen_of_row _ (M + 1) 0 _ _ hB.b1
      have e2 := frozen_of_row _ (M + 1 + 1) 0 _ _ hB.b2
      obtain ⟨W1, hW1⟩ : ∃ W1, ((W.setCell ⟨M, 0, none⟩ (.string ⟨#[]⟩)).setCell ⟨M + 1, 0, none⟩ (.int .i64 0)).setCell ⟨M + 1 + 1, 0, none⟩ (.int .i64 er) = W1 := ⟨_, rfl⟩
      have keep : ∀ k, M + 2 < k → W1.heap[k]? = W.heap[k]? := fun k hk => by
        rw [← hW1]
        exact (Below.heap_setCell _ _ _ _ (show k ≠ M + 2 by omega)).trans ((Below.heap_setCell _ _ _ _ (show k ≠ M + 1 by omega)).trans (Below.heap_setCell _ _ _ _ (show k ≠ M by omega)))
      have i0 : W1.heap[M]? = some (.cells #[.string ⟨#[]⟩] 9 (0, 0)) := by
        rw [← hW1]
        exact (Below.heap_setCell _ _ _ _ (show M ≠ M + 2 by omega)).trans ((Below.heap_setCell _ _ _ _ (show M ≠ M + 1 by omega)).trans (heap_setCell_same _ M 0 _ _ _ hB.b0))
      have i1 : W1.heap[M + 1]? = some (.cells #[.int .i64 0] 3 (0, 0)) := by
        rw [← hW1]
        exact (Below.heap_setCell _ _ _ _ (show M + 1 ≠ M + 2 by omega)).trans (heap_setCell_same _ (M + 1) 0 _ _ _ ((Below.heap_setCell _ _ _ _ (show M + 1 ≠ M by omega)).trans hB.b1))
      have i2 : W1.heap[M + 2]? = some (.cells #[.int .i64 er] 27 (0, 0)) := by
        rw [← hW1]
        exact heap_setCell_same _ (M + 2) 0 _ _ _ ((Below.heap_setCell _ _ _ _ (show M + 2 ≠ M + 1 by omega)).trans ((Below.heap_setCell _ _ _ _ (show M + 2 ≠ M by omega)).trans hB.b2))
      have hbe : Below w.heap.size W W1 := by
        rw [← hW1]
        exact (((Below.refl _ W).setCell (p := ⟨M, 0, none⟩) (by simpa using hwM) _).setCell (p := ⟨M + 1, 0, none⟩) (by simp; omega) _).setCell (p := ⟨M + 1 + 1, 0, none⟩) (by simp; omega) _
      have hsz := hbe.size
      have hfo : foldM (mets L) = .err er := by
        rw [p5]
        simp [foldM, Rd.put]
      have hend : KeepsO O W W1 ∧ RX w M a L 0 .ret O W1 :=
        ⟨⟨hsz, fun k hk => keep k (by have := (hO k hk).1; omega)⟩, hO.keep hsz (fun k hk hge => keep k (by omega)), hB.below.trans hbe, by omega, .inr ⟨rfl, er, hfo, i0, i1, i2⟩⟩
      have HEND := Lib.hid hend
      have HW1 := Lib.hid hW1
      clear hB hO h1 h2 h3 p4 p5 ea eb e hD hD1 p1 p3 hz keep hbe hsz hfo hend hW1 c4 c5 f5 i0 i1 i2
      gi_wp2
      rw [HW1.out]
      exact HEND.out
  case hdone =>
    rintro O W ⟨hB, hO, b, f, pre, p1, p2, p3, p4, p5, p6, p7⟩ hD hD1 hK
    exfalso
    rw [List.drop_length] at p4
    rcases mets_step L f b p1 p2 p3 with ⟨r, k, f', e, _⟩ | ⟨x, e, _⟩ | ⟨x, e', e, _⟩
    · rw [e] at p4; cases p4
    · rw [e] at p4; cases p4
    · rw [e] at p4; cases p4
  case hstop =>
    rintro c O W ⟨hO, hb, hz, h⟩ hD hD1 hK
    rcases h with ⟨rfl, pre, x, g1, g2, g3, ⟨v, h1, h2, h3⟩, b0, b1, b2, b5⟩ | ⟨rfl, er, g1, b0, b1, b2⟩
    · have hcv : (convert 92 9 v).run Tryz.prog W.drew = .ok (.string ⟨pre.toArray⟩) W.drew := by
        rcases h3 with ⟨ha, ⟨hv0, hn0⟩ | ⟨g, c', cur, hv', hbg, hg2, hr2⟩⟩
        · have hp : pre = [] := List.eq_nil_of_length_eq_zero hn0
          subst hp
          rw [hv0]
          exact Lib.run_convert_nil_bytes W.drew _ _ _ _ Tryz.underlying92 Tryz.underlying5 Tryz.underlying9
        · have hrow : W.drew.ownsRow (M + 9) 5 1 (.slice (some ⟨g, 0, none⟩) pre.length c') pre.length (bc pre) := ⟨ha, .inr ⟨g, c', cur, rfl, hbg, hg2, hr2⟩⟩
          rw [hv']
          exact conv_row hrow rfl
      have c3 : W.cell? ⟨M + 1 + 1 + 1, 0, none⟩ = some v := cell_of_row _ _ 0 _ _ _ h1
      have c5 : W.cell? ⟨M + 1 + 1 + 1 + 1 + 1, 0, none⟩ = some (.int .i64 ((a : Int) + (x : Int))) := cell_of_row _ _ 0 _ _ _ b5
      have d0 : W.cell? ⟨M, 0, none⟩ = some (.string ⟨#[]⟩) := cell_of_row _ _ 0 _ _ _ b0
      have d1 : W.cell? ⟨M + 1, 0, none⟩ = some (.int .i64 0) := cell_of_row _ _ 0 _ _ _ b1
      have d2 : W.cell? ⟨M + 1 + 1, 0, none⟩ = some (.int .i64 0) := cell_of_row _ _ 0 _ _ _ b2
      have e0 := frozen_of_row _ M 0 _ _ b0
      have e1 := frozen_of_row _ (M + 1) 0 _ _ b1
      have e2 := frozen_of_row _ (M + 1 + 1) 0 _ _ b2
      have HK := Lib.hid hK
      have HB := Lib.hid hb
      have B0 := Lib.hid b0
      have B1 := Lib.hid b1
      have B2 := Lib.hid b2
      have HO := Lib.hid hO
      have HD := Lib.hid hD
      clear hK hb b0 b1 b2 b5 h1 h2 h3 hO hD hD1
      gi_wp2
      go_wp2
      go_region
      clear c3 c5 d0 d1 d2 e0 e1 e2 hcv
      obtain ⟨W1, hW1⟩ : ∃ W1, (((W.setCell ⟨M, 0, none⟩ (.string ⟨pre.toArray⟩)).setCell ⟨M + 1, 0, none⟩ (.int .i64 ((a : Int) + (x : Int)))).setCell ⟨M + 1 + 1, 0, none⟩ (.int .i64 0)).drew = W1 := ⟨_, rfl⟩
      rw [hW1, hz9]
      have keep : ∀ k, M + 2 < k → W1.heap[k]? = W.heap[k]? := fun k hk => by
        rw [← hW1]
        exact (Below.heap_setCell _ _ _ _ (show k ≠ M + 2 by omega)).trans ((Below.heap_setCell _ _ _ _ (show k ≠ M + 1 by omega)).trans (Below.heap_setCell _ _ _ _ (show k ≠ M by omega)))
      have i0 : W1.heap[M]? = some (.cells #[.string ⟨pre.toArray⟩] 9 (0, 0)) := by
        rw [← hW1]
        exact (Below.heap_setCell _ _ _ _ (show M ≠ M + 2 by omega)).trans ((Below.heap_setCell _ _ _ _ (show M ≠ M + 1 by omega)).trans (heap_setCell_same _ M 0 _ _ _ B0.out))
      have i1 : W1.heap[M + 1]? = some (.cells #[.int .i64 ((a : Int) + (x : Int))] 3 (0, 0)) := by
        rw [← hW1]
        exact (Below.heap_setCell _ _ _ _ (show M + 1 ≠ M + 2 by omega)).trans (heap_setCell_same _ (M + 1) 0 _ _ _ ((Below.heap_setCell _ _ _ _ (show M + 1 ≠ M by omega)).trans B1.out))
      have i2 : W1.heap[M + 2]? = some (.cells #[.int .i64 0] 27 (0, 0)) := by
        rw [← hW1]
        exact heap_setCell_same _ (M + 2) 0 _ _ _ ((Below.heap_setCell _ _ _ _ (show M + 2 ≠ M + 1 by omega)).trans ((Below.heap_setCell _ _ _ _ (show M + 2 ≠ M by omega)).trans B2.out))
      have hbe : Below w.heap.size w W1 := by
        rw [← hW1]
        exact (((HB.out.setCell (p := ⟨M, 0, none⟩) (by simpa using hwM) _).setCell (p := ⟨M + 1, 0, none⟩) (by simp; omega) _).setCell (p := ⟨M + 1 + 1, 0, none⟩) (by simp; omega) _).drew
      have hk9 : W1.heap[M + 9]? = some (.deferred (some [])) := (keep _ (by omega)).trans (by rw [← hz9]; exact HK.out)
      have hlt9 := (Array.getElem?_eq_some_iff.1 hk9).1
      have r0 : (W1.putObj (M + 9) (.deferred none)).cell? ⟨M, 0, none⟩ = some (.string ⟨pre.toArray⟩) := cell_of_row _ _ 0 _ _ _ ((World.putObj_heap_other (by omega)).trans i0)
      have r1 : (W1.putObj (M + 9) (.deferred none)).cell? ⟨M + 1, 0, none⟩ = some (.int .i64 ((a : Int) + (x : Int))) := cell_of_row _ _ 0 _ _ _ ((World.putObj_heap_other (by omega)).trans i1)
      have r2 : (W1.putObj (M + 9) (.deferred none)).cell? ⟨M + 1 + 1, 0, none⟩ = some (.int .i64 0) := cell_of_row _ _ 0 _ _ _ ((World.putObj_heap_other (by omega)).trans i2)
      have hbz : Below w.heap.size w (W1.putObj (M + 9) (.deferred none)) := hbe.trans (below_of_grown (turn W1 (M + 9) (.deferred none)) (by omega) (by omega))
      have hans : rdT ((foldM (mets L)).put [] a) = ⟨pre.toArray⟩ ∧ rdN ((foldM (mets L)).put [] a) = (a : Int) + (x : Int) ∧ rdE ((foldM (mets L)).put [] a) = 0 := by
        rw [g1]
        refine ⟨by simp [Rd.put, rdT], ?_, rfl⟩
        simp only [Rd.put, rdN]
        omega
      have HBZ := Lib.hid hbz
      have HAN := Lib.hid hans
      have HK9 := Lib.hid hk9
      clear keep i0 i1 i2 hbe hW1 hk9 hbz hans
      go_wp2
      refine ⟨by simp, .inl ⟨_, _, rfl, run_takeDeferred HK9.out, ?_⟩⟩
      exact ⟨.tuple #[.string ⟨pre.toArray⟩, .int .i64 ((a : Int) + (x : Int)), .int .i64 0], by simp [results, Tryz.results72, go_sem, r0, r1, r2], by rw [HAN.out.1, HAN.out.2.1, HAN.out.2.2], HBZ.out⟩
    · rw [hz9] at hK ⊢
      have hlt9 := (Array.getElem?_eq_some_iff.1 hK).1
      have r0 : (W.putObj (M + 9) (.deferred none)).cell? ⟨M, 0, none⟩ = some (.string ⟨#[]⟩) := cell_of_row _ _ 0 _ _ _ ((World.putObj_heap_other (by omega)).trans b0)
      have r1 : (W.putObj (M + 9) (.deferred none)).cell? ⟨M + 1, 0, none⟩ = some (.int .i64 0) := cell_of_row _ _ 0 _ _ _ ((World.putObj_heap_other (by omega)).trans b1)
      have r2 : (W.putObj (M + 9) (.deferred none)).cell? ⟨M + 1 + 1, 0, none⟩ = some (.int .i64 er) := cell_of_row _ _ 0 _ _ _ ((World.putObj_heap_other (by omega)).trans b2)
      have hbz : Below w.heap.size w (W.putObj (M + 9) (.deferred none)) := hb.trans (below_of_grown (turn W (M + 9) (.deferred none)) (by omega) (by omega))
      have hans : rdT ((foldM (mets L)).put [] a) = ⟨#[]⟩ ∧ rdN ((foldM (mets L)).put [] a) = 0 ∧ rdE ((foldM (mets L)).put [] a) = er := by
        rw [g1]
        exact ⟨rfl, rfl, rfl⟩
      have HBZ := Lib.hid hbz
      have HAN := Lib.hid hans
      have HK9 := Lib.hid hK
      clear hb b0 b1 b2 hK hbz hans hO hD hD1 g1
      gi_wp2
      refine ⟨by simp, .inl ⟨_, _, rfl, run_takeDeferred HK9.out, ?_⟩⟩
      exact ⟨.tuple #[.string ⟨#[]⟩, .int .i64 0, .int .i64 er], by simp [results, Tryz.results72, go_sem, r0, r1, r2], by rw [HAN.out.1, HAN.out.2.1, HAN.out.2.2], HBZ.out⟩
end Go.Proofs.YtkliecngkcjieaaGreatDoor
