/- A stack of rows of pairs: what lies in it, its top taken off, turned, and another one laid upon it. Conditions: none. Pairs that are walked to are gone through as they are come to first. Conditions: both graphs are right and lie. -/
import Derived.Test.YtepelpmkmhhokaaGreatDoorKdx
import Derived.Test.YtepelpmkmhhokaaGreatDoorMtw
import Derived.Test.YtepelpmkmhhokaaGreatDoorWdx
import Derived.Test.YtepelpmkmhhokaaGreatDoorWix
import Derived.Test.YtepelpmkmhhokaaGreatDoorOwx
import Derived.Test.YtepelpmkmhhokaaGreatDoorMtx
import Derived.Test.YtepelpmkmhhokaaGreatDoorNcx
import Derived.Sort.CutIn
set_option maxRecDepth 100000
namespace Go.Proofs.YtepelpmkmhhokaaGreatDoor
open Go.RowKit Go.Shelf
open Scs Dfs
/-- the least of what some numbers are -/
theorem least_ex {α : Type} (R : α → Prop) (mu : α → Nat) (h : ∃ a, R a) : ∃ a, R a ∧ ∀ b, R b → mu a ≤ mu b := by
  obtain ⟨a, ha⟩ := h
  have : ∀ n, ∀ a, R a → mu a = n → ∃ a, R a ∧ ∀ b, R b → mu a ≤ mu b := by
    intro n
    induction n using Nat.strongRecOn with
    | _ n ih =>
      intro a ha hn
      by_cases hb : ∃ b, R b ∧ mu b < mu a
      · obtain ⟨b, hb, hlt⟩ := hb
        exact ih (mu b) (by omega) b hb rfl
      · exact ⟨a, ha, fun b hb' => Nat.le_of_not_lt fun hlt => hb ⟨b, hb', hlt⟩⟩
  exact this _ a ha rfl
open Classical in
noncomputable def least {α : Type} (R : α → Prop) (mu : α → Nat) : Nat := if h : ∃ a, R a then mu (Classical.choose (least_ex R mu h)) else 0
theorem least_le {α : Type} {R : α → Prop} {mu : α → Nat} {a : α} (h : R a) : least R mu ≤ mu a := by
  unfold least
  rw [dif_pos ⟨a, h⟩]
  exact (Classical.choose_spec (least_ex R mu ⟨a, h⟩)).2 a h
theorem least_at {α : Type} {R : α → Prop} {mu : α → Nat} (h : ∃ a, R a) : ∃ a, R a ∧ mu a = least R mu := by
  unfold least
  rw [dif_pos h]
  exact ⟨_, (Classical.choose_spec (least_ex R mu h)).1, rfl⟩
/-- the cells of rows -/
def cellsV (vs : List (Value × Value)) : List Value := vs.flatMap fun q => [q.1, q.2]
theorem cellsV_len (vs : List (Value × Value)) : (cellsV vs).length = vs.length * 2 := by
  induction vs with
  | nil => rfl
  | cons q t ih => simp [cellsV] at ih ⊢; omega
theorem cellsV_snoc (vs : List (Value × Value)) (q : Value × Value) : cellsV (vs ++ [q]) = cellsV vs ++ [q.1, q.2] := by simp [cellsV]
theorem own_top2 {W : World} {b k c : Nat} {q : Option Addr} {vs : List (Value × Value)} {va vb : Value} (h : W.ownsRow b 124 2 (.slice q (k + 1) c) (k + 1) (cellsV (vs ++ [(va, vb)]))) (hk : vs.length = k) :
    ∃ g, q = some ⟨g, 0, none⟩ ∧ W.cell? ⟨g, k * 2, none⟩ = some va ∧ W.cell? ⟨g, k * 2 + 1, none⟩ = some vb ∧ W.frozen? ⟨g, k * 2, none⟩ = false ∧ W.frozen? ⟨g, k * 2 + 1, none⟩ = false ∧ k + 1 ≤ c ∧ W.ownsRow b 124 2 (.slice q k c) k (cellsV vs) ∧
      ∀ (W' : World) (va' vb' : Value), W'.heap[g]? = ((W.setCell ⟨g, k * 2, none⟩ va').setCell ⟨g, k * 2 + 1, none⟩ vb').heap[g]? → W'.ownsRow b 124 2 (.slice q (k + 1) c) (k + 1) (cellsV (vs ++ [(va', vb')])) := by
  have hl := cellsV_len vs
  rw [hk] at hl
  rcases h with ⟨ha, ⟨h1, h2⟩ | ⟨g, c', cur, hv, hbg, hg, hnc, hcm, hcs, htake⟩⟩
  · omega
  · injection hv with hq _ hc
    subst hq hc
    rw [cellsV_snoc] at htake
    have g0 : cur.toList[k * 2]? = some va := by
      have h1 : (cellsV vs ++ [va, vb])[k * 2]? = some va := by rw [List.getElem?_append_right (by omega), hl]; simp
      rw [← htake, List.getElem?_take_of_lt (by omega)] at h1
      exact h1
    have g1 : cur.toList[k * 2 + 1]? = some vb := by
      have h1 : (cellsV vs ++ [va, vb])[k * 2 + 1]? = some vb := by rw [List.getElem?_append_right (by omega), hl]; simp
      rw [← htake, List.getElem?_take_of_lt (by omega)] at h1
      exact h1
    refine ⟨g, rfl, ?_, ?_, frozen_of_row _ _ _ _ _ hg, frozen_of_row _ _ _ _ _ hg, hnc, ⟨hl, .inr ⟨g, c, cur, rfl, hbg, hg, by omega, hcm, hcs, ?_⟩⟩, fun W' va' vb' hW' => ⟨?_, .inr ⟨g, c, (cur.setIfInBounds (k * 2) va').setIfInBounds (k * 2 + 1) vb', rfl, hbg, ?_, hnc, hcm, by simpa using hcs, ?_⟩⟩⟩
    · rw [cell_of_row _ _ _ _ _ _ hg, ← Array.getElem?_toList]; exact g0
    · rw [cell_of_row _ _ _ _ _ _ hg, ← Array.getElem?_toList]; exact g1
    · have h1 := congrArg (List.take (k * 2)) htake
      rw [List.take_take, Nat.min_eq_left (by omega)] at h1
      rw [h1, List.take_append_of_le_length (by omega), List.take_of_length_le (by omega)]
    · rw [cellsV_len, List.length_append, hk]; rfl
    · rw [hW']
      exact heap_setCell_same _ _ _ _ _ _ (heap_setCell_same _ _ _ _ _ _ hg)
    · rw [cellsV_snoc]
      have hcl : cur.toList.length = c * 2 := by simpa using hcs
      have e1 : cur.toList.take ((k + 1) * 2) = cellsV vs ++ [va, vb] := htake
      rw [Array.toList_setIfInBounds, Array.toList_setIfInBounds, List.take_set, List.take_set, e1]
      rw [List.set_append_right _ _ (by omega), hl, Nat.sub_self]
      rw [List.set_append_right _ _ (by omega), hl, Nat.add_sub_cancel_left]
      rfl
/-- both of a row's, as numbers -/
def fsI (M : Nat) (ps : List Nat) : List Int := ps.map fun p => ((p / M : Nat) : Int)
def snI (M : Nat) (ps : List Nat) : List Int := ps.map fun p => ((p % M : Nat) : Int)
/-- a row of pairs lies as two rows of numbers -/
structure Rl (A : World) (q : Option Addr) (l : List Int) (c : Nat) : Prop where
  il : Il A q l.toArray
  cap : l.length ≤ c
  tag : Tag A q l.length
def Rw (A : World) (M : Nat) (ps : List Nat) (q : Value × Value) : Prop := ∃ qa ca qb cb, q = (.slice qa ps.length ca, .slice qb ps.length cb) ∧ Rl A qa (fsI M ps) ca ∧ Rl A qb (snI M ps) cb
/-- blocks of numbers stay -/
def Up (A B : World) : Prop := A.heap.size ≤ B.heap.size ∧ ∀ (k : Nat) (cs : Array Value), A.heap[k]? = some (Obj.cells cs 3 (0, 0)) → B.heap[k]? = some (Obj.cells cs 3 (0, 0))
theorem Up.refl (A : World) : Up A A := ⟨Nat.le_refl _, fun _ _ h => h⟩
theorem Up.trans {A B C : World} (h : Up A B) (k : Up B C) : Up A C := ⟨Nat.le_trans h.1 k.1, fun x cs e => k.2 x cs (h.2 x cs e)⟩
theorem Up.of_below {A B : World} (h : Below A.heap.size A B) : Up A B := ⟨h.size, fun k _ e => (h.block k (Array.getElem?_eq_some_iff.1 e).1).trans e⟩
theorem Up.of_grown {A B : World} {r : Nat} (h : A.grownBy B (some r)) (hr : ∀ cs : Array Value, A.heap[r]? ≠ some (Obj.cells cs 3 (0, 0))) : Up A B :=
  ⟨h.size, fun k cs e => (h.block k (Array.getElem?_eq_some_iff.1 e).1 (by simp; intro e2; subst e2; exact hr cs e)).trans e⟩
theorem Il.tagged {A B : World} {q : Option Addr} {l : List Int} (h : Il A q l.toArray) (t : Tag A q l.length) (k : Up A B) : Il B q l.toArray := by
  refine ⟨h.small, ?_⟩
  rcases h.lies with h0 | ⟨blk, off, hp, hbl, hc⟩
  · exact .inl h0
  · rcases t with h0 | ⟨g, o, cs, hq, hg⟩
    · exact .inl (by simpa using h0)
    · rw [hp] at hq
      injection hq with hq
      injection hq with e1 e2 _
      subst e1
      exact .inr ⟨blk, off, hp, Nat.lt_of_lt_of_le hbl k.1, fun i hi => (World.cell?_of_block ((k.2 _ _ hg).trans hg.symm)).trans (hc i hi)⟩
theorem Tag.up {A B : World} {q : Option Addr} {n : Nat} (t : Tag A q n) (k : Up A B) : Tag B q n := by
  rcases t with h0 | ⟨g, o, cs, hq, hg⟩
  · exact .inl h0
  · exact .inr ⟨g, o, cs, hq, k.2 _ _ hg⟩
theorem Rl.up {A B : World} {q : Option Addr} {l : List Int} {c : Nat} (h : Rl A q l c) (k : Up A B) : Rl B q l c := ⟨h.il.tagged h.tag k, h.cap, h.tag.up k⟩
theorem Rw.up {A B : World} {M : Nat} {ps : List Nat} {q : Value × Value} (h : Rw A M ps q) (k : Up A B) : Rw B M ps q := by
  obtain ⟨qa, ca, qb, cb, e, h1, h2⟩ := h
  exact ⟨qa, ca, qb, cb, e, h1.up k, h2.up k⟩
/-- the first one of a row, and the rest -/
theorem Rl.head {A : World} {q : Option Addr} {x : Int} {l : List Int} {c : Nat} (h : Rl A q (x :: l) c) : ∃ g o, q = some ⟨g, o, none⟩ ∧ A.cell? ⟨g, o, none⟩ = some (.int .i64 x) ∧ Rl A (some (tl g o c)) l (c - 1) ∧ l.length + 1 ≤ c := by
  obtain ⟨blk, off, hp, hbl, hc⟩ := h.il.at 0 (by simp)
  have hcap := h.cap
  simp only [List.length_cons] at hcap
  rw [Nat.add_zero] at hc
  refine ⟨blk, off, hp, by simpa using hc, ⟨⟨by have := h.il.small; simp at this ⊢; omega, ?_⟩, by omega, ?_⟩, hcap⟩
  · unfold tl
    by_cases h1 : c = 1
    · refine .inl ?_
      have : l.length = 0 := by omega
      simpa using this
    · rw [if_neg h1]
      refine .inr ⟨blk, off + 1, rfl, hbl, fun i hi => ?_⟩
      simp at hi
      obtain ⟨blk', off', hp', _, hc'⟩ := h.il.at (i + 1) (by simp; omega)
      rw [hp] at hp'
      injection hp' with hp'
      injection hp' with e1 e2 _
      subst e1 e2
      rw [show off + 1 + i = off + (i + 1) by omega, hc']
      simp [getElem!_def]
  · rcases h.tag with h0 | ⟨g, o, cs, hq, hg⟩
    · simp at h0
    · rw [hp] at hq
      injection hq with hq
      injection hq with e1 e2 _
      subst e1 e2
      unfold tl
      by_cases h1 : c = 1
      · exact .inl (by omega)
      · rw [if_neg h1]
        exact .inr ⟨blk, off + 1, cs, rfl, hg⟩
/-- all rows of a stack, the top first -/
def RwAll (A : World) (M : Nat) : List (List Nat) → List (Value × Value) → Prop
  | [], [] => True
  | r :: s, q :: vs => Rw A M r q ∧ RwAll A M s vs
  | _, _ => False
theorem RwAll.len {A : World} {M : Nat} : ∀ {s : List (List Nat)} {vs : List (Value × Value)}, RwAll A M s vs → vs.length = s.length
  | [], [], _ => rfl
  | _ :: s, _ :: vs, h => by simp [h.2.len]
  | [], _ :: _, h => h.elim
  | _ :: _, [], h => h.elim
theorem RwAll.up {A B : World} {M : Nat} (k : Up A B) : ∀ {s : List (List Nat)} {vs : List (Value × Value)}, RwAll A M s vs → RwAll B M s vs
  | [], [], _ => trivial
  | _ :: _, _ :: _, h => ⟨h.1.up k, RwAll.up k h.2⟩
  | [], _ :: _, h => h.elim
  | _ :: _, [], h => h.elim
/-- the stack -/
structure Sk (A : World) (M b : Nat) (v : Value) (s : List (List Nat)) (vs : List (Value × Value)) : Prop where
  own : A.ownsRow b 124 2 v s.length (cellsV vs.reverse)
  all : RwAll A M s vs
theorem Sk.shape {A : World} {M b : Nat} {v : Value} {s : List (List Nat)} {vs : List (Value × Value)} (h : Sk A M b v s vs) : ∃ q c, v = .slice q s.length c := by
  rcases h.own with ⟨_, ⟨h1, h2⟩ | ⟨g, c', cur, hv, _⟩⟩
  · exact ⟨none, 0, by rw [h1, h2]⟩
  · exact ⟨_, _, hv⟩
theorem Sk.keep {A B : World} {M b : Nat} {v : Value} {s : List (List Nat)} {vs : List (Value × Value)} (h : Sk A M b v s vs) (k : Up A B) (hv : ∀ g, v.ownBlock = some g → B.heap[g]? = A.heap[g]?) : Sk B M b v s vs := ⟨own_keepG h.own hv, h.all.up k⟩
/-- a pair as two numbers -/
def prI (M p : Nat) : Int × Int := (((p / M : Nat) : Int), ((p % M : Nat) : Int))
theorem prI_inj {M p q : Nat} (h : prI M p = prI M q) : p = q := by
  unfold prI at h
  injection h with h1 h2
  rw [← pair_self M p, ← pair_self M q, show p / M = q / M by omega, show p % M = q % M by omega]
theorem prI_mem {M p : Nat} {l : List Nat} : prI M p ∈ l.map (prI M) ↔ p ∈ l := by
  constructor
  · intro h
    obtain ⟨q, hq, e⟩ := List.mem_map.1 h
    rw [← prI_inj e]
    exact hq
  · exact fun h => List.mem_map.2 ⟨p, h, rfl⟩
end Go.Proofs.YtepelpmkmhhokaaGreatDoor

set_option maxRecDepth 100000
namespace Go.Proofs.YtepelpmkmhhokaaGreatDoor
open Go.RowKit Go.Shelf
open Scs Dfs Seqk
attribute [local go_sem] Oper.semAt_some
theorem info124 : (Tryz.prog.info? 124).map (fun i => (i.zero, i.size, i.bytes)) = some (some (.agg #[.slice none 0 0, .slice none 0 0]), 2, 48) := by kernel_rfl
/-- how much is left of a stack -/
def muS : List (List Nat) → Nat
  | [] => 0
  | r :: s => 2 * r.length + 1 + muS s
def muI (K : Nat → List Nat) (R : List Nat) (NM : Nat) (x : Nat × List (List Nat) × List (Value × Value) × (Nat → Prop)) : Nat := muS x.2.1 + 2 * rest K (R.take x.1) NM
/-- what a round finds -/
structure Itr (K : Nat → List Nat) (NM M : Nat) (R : List Nat) (C b0 : Nat) (J : Nat → (Nat → Prop) → World → Prop) (v : Value) (W : World) (t : Nat) (s : List (List Nat)) (vs : List (Value × Value)) (O : Nat → Prop) : Prop where
  j : J t O W
  here : t ≤ R.length
  rest_ : visits K (NM + 1) s.flatten (R.take t) = R
  few : ∀ y ∈ s.flatten, y < NM
  stk : Sk W M b0 v s vs
  small : s.length ≤ t + 1
  come : HasP W C ((R.take t).map (prI M))
  oC : O C
  oV : ∀ g, v.ownBlock = some g → O g
  lt : ∀ k, O k → k < W.heap.size
  base : b0 ≤ W.heap.size
abbrev Xt := Nat × List (List Nat) × List (Value × Value) × (Nat → Prop)
def RI (K : Nat → List Nat) (NM M : Nat) (R : List Nat) (C b0 : Nat) (J : Nat → (Nat → Prop) → World → Prop) (v : Value) (W : World) : Xt → Prop := fun x => Itr K NM M R C b0 J v W x.1 x.2.1 x.2.2.1 x.2.2.2
/-- both nodes of a pair are known, and fit; their kids lie -/
def Kn2 (D E : Array Fn) (Ka Kb M : Nat) (A : World) (p : Nat) : Prop := ∃ qk ck qd cd qk' ck' qd' cd', Kv Ka (p / M) (ndV D[p / M]! qk (keysOf D[p / M]!).length ck qd (kidsOf D[p / M]!).length cd) A ∧ Kv Kb (p % M) (ndV E[p % M]! qk' (keysOf E[p % M]!).length ck' qd' (kidsOf E[p % M]!).length cd') A ∧
  fitG D E (p / M) (p % M) = true ∧ Rl A qd (kidsOf D[p / M]!) cd ∧ Rl A qd' (kidsOf E[p % M]!) cd'
/-- what the one who goes through them keeps -/
def Sp (D E : Array Fn) (Ka Kb M : Nat) (R : List Nat) (Bw : Nat) (x0 x1 x2 x3 x4 x5 : Value) (t : Nat) (A : World) : Prop := A.heap[Bw]? = some (.cells #[x0, x1, x2, x3, x4, x5] 59 (0, 0)) ∧ ∀ t', t = t' + 1 → Kn2 D E Ka Kb M A R[t']!
set_option maxHeartbeats 32000000 in
theorem prs_in {D E : Array Fn} {ma mb : Nat} {pa pb : Option Addr} {Ka Kb : Nat} (ra rb ca cb Bw : Nat) (hma : D.size = ma) (hmb : E.size = mb) (hba : badFrom D.size D.toList 0 = none) (hbb : badFrom E.size E.toList 0 = none) (hra : ra < ma) (hrb : rb < mb) (h200 : ma ≤ 200) (h201 : mb ≤ 200)
    (l : Nat) (J : Nat → (Nat → Prop) → World → Prop) (Jx : World → Prop) (W : World) (R : List Nat) (hR : pw ma mb (KN D) (KN E) ra rb = R)
    (hJ : Stab J) (hS : ∀ t O A, J t O A → Sp D E Ka Kb mb R Bw (.int .i64 ra) (.slice pa ma ca) (.map (some Ka)) (.int .i64 rb) (.slice pb mb cb) (.map (some Kb)) t A)
    (hY : ∀ t O A, t < R.length → J t O A → (∀ k, O k → k < A.heap.size) → YieldAt Fence.wide 4 Tryz.prog l #[aggP (prI mb R[t]!)] A fun e B =>
      (e = .returned (.bool true) ∧ J (t + 1) O B ∧ KeepsP O A B ∧ Up A B) ∨ (e = .returned (.bool false) ∧ Jx B))
    (h0 : J 0 (fun _ => False) W) :
    CallsIn Fence.wide 5 Tryz.prog 61 #[.func (.yield l) #[] #[], .pointer (some ⟨Bw, 0, none⟩)] W fun e W' => (∃ v, e = .returned v) ∧ ((∃ O, J R.length O W' ∧ True) ∨ Jx W') := by
  obtain ⟨hbw, _⟩ := hS _ _ _ h0
  obtain ⟨i0, hi0, hi1, hi2, hi3⟩ := info_parts info124
  have hBl : Bw < W.heap.size := (Array.getElem?_eq_some_iff.1 hbw).1
  obtain ⟨W1, hW1, hz1, hb1, hm1⟩ := at1 W (.map #[] 0)
  have hbw1 := (hb1.block Bw hBl).trans hbw
  obtain ⟨q0, q1, q2, q3, q4, q5⟩ := cell6 hbw1
  have hRT := roots62_any ra rb ma mb ca cb pa pb Ka Kb W1
  have HRT := Lib.hid hRT
  have HS := Lib.hid hS
  have HJ := Lib.hid hJ
  have HY := Lib.hid hY
  have H0 := Lib.hid h0
  have HW1 := Lib.hid hW1
  have HB1 := Lib.hid hb1
  have HM1 := Lib.hid hm1
  have HZ1 := Lib.hid hz1
  have HBL := Lib.hid hBl
  clear hRT hS hJ hY h0 hbw hW1 hb1 hm1 hz1 hbw1 hBl
  have hrl : R.length ≤ 40000 := by
    have h1 := few_len _ _ (walk_went (pk_lt (KN_lt hba) (KN_lt hbb)) (pair_lt (show ra < D.size by omega) (show rb < E.size by omega))).few
    have h2 : (walk (pk E.size (KN D) (KN E)) (D.size * E.size) (ra * E.size + rb)) = R := by rw [← hR, ← hma, ← hmb]; rfl
    rw [h2, hma, hmb] at h1
    have h3 : ma * mb ≤ 200 * 200 := Nat.mul_le_mul h200 h201
    omega
  have HRL := Lib.hid hrl
  clear hrl
  refine callsIn_of_wp Tryz.func61 rfl trivial ?_ rfl
  simp only [Tryz.ntmps61, List.size_toArray, List.length_cons, List.length_nil, Nat.reduceAdd, Nat.reduceSub, Array.replicate_succ, Array.replicate_zero, List.push_toArray, List.append_toArray, List.nil_append, List.cons_append]
  have hmm := @run_makeMap Tryz.prog
  gi_upto_region 1 with fail
  rw [HW1.out]
  gi_wp2
  refine ⟨trivial, ?_⟩
  refine (callsIn_wide.2 HRT.out).mono ?_
  rintro e w2 ⟨b1, b2, rfl, hb1, hb2, hr1, hr2, hbl2⟩
  obtain ⟨w3, hw3, hz3, hb3, hr3⟩ := at1 w2 (.cells #[.slice (some ⟨b1, 0, none⟩) 1 1, .slice (some ⟨b2, 0, none⟩) 1 1] 124)
  have HB12 := Lib.hid (show W1.heap.size ≤ b1 ∧ W1.heap.size ≤ b2 from ⟨hb1, hb2⟩)
  have HR1 := Lib.hid hr1
  have HR2 := Lib.hid hr2
  have HBL2 := Lib.hid hbl2
  have HW3 := Lib.hid hw3
  have HZ3 := Lib.hid hz3
  have HB3 := Lib.hid hb3
  have HR3 := Lib.hid hr3
  clear hb1 hb2 hr1 hr2 hbl2 hw3 hz3 hb3 hr3 q0 q1 q2 q3 q4 q5
  gi_upto_region 2 with fail
  rw [HW3.out]
  gi_loopw [4, 5, 6] (fun v _ _ wr => ∃ x : Xt, RI (pk mb (KN D) (KN E)) (ma * mb) mb R W.heap.size W.heap.size J v wr x) (fun v _ _ wr => least (RI (pk mb (KN D) (KN E)) (ma * mb) mb R W.heap.size W.heap.size J v wr) (muI (pk mb (KN D) (KN E)) R (ma * mb)))
  case atStart =>
    have hz1 := HZ1.out
    have hz2 := HBL2.out.size
    have hz3 := HZ3.out
    have hb03 : Below W.heap.size W w3 := HB1.out.trans ((HBL2.out.mono (by omega)).trans (HB3.out.mono (by omega)))
    have l1 := (Array.getElem?_eq_some_iff.1 HR1.out).1
    have l2 := (Array.getElem?_eq_some_iff.1 HR2.out).1
    have r1 := (HB3.out.block b1 l1).trans HR1.out
    have r2 := (HB3.out.block b2 l2).trans HR2.out
    have hm3 : w3.heap[W.heap.size]? = some (.map #[] 0) := (HB3.out.block _ (by omega)).trans ((HBL2.out.block _ (by omega)).trans HM1.out)
    have hx1 : (ra * mb + rb) / mb = ra := pair_fst hrb
    have hx2 : (ra * mb + rb) % mb = rb := pair_snd hrb
    have mk : ∀ (b x : Nat), w3.heap[b]? = some (.cells #[.int .i64 (x : Int)] 3 (0, 0)) → Rl w3 (some ⟨b, 0, none⟩) [(x : Int)] 1 := fun b x h =>
      ⟨⟨by simp, .inr ⟨b, 0, rfl, (Array.getElem?_eq_some_iff.1 h).1, fun i hi => by
        have : i = 0 := by simp at hi; omega
        subst this
        rw [cell_of_row _ _ _ _ _ _ h]
        rfl⟩⟩, by simp, .inr ⟨b, 0, _, rfl, h⟩⟩
    refine ⟨(0, [[ra * mb + rb]], [(.slice (some ⟨b1, 0, none⟩) 1 1, .slice (some ⟨b2, 0, none⟩) 1 1)], fun k => W.heap.size ≤ k ∧ k < w3.heap.size), (show Itr _ _ _ _ _ _ _ _ _ _ _ _ _ from ⟨HJ.out 0 _ _ W w3 H0.out (Grw.of_below hb03) fun r hr => .inr hr, Nat.zero_le _, ?_, ?_, ⟨⟨rfl, .inr ⟨w2.heap.size, 1, _, rfl, by omega, HR3.out, Nat.le_refl _, by decide, rfl, rfl⟩⟩, ⟨_, _, _, _, rfl, ?_, ?_⟩, trivial⟩, Nat.le_refl _, hm3, ⟨Nat.le_refl _, by omega⟩, fun g hg => ?_, fun k hk => hk.2, by omega⟩)⟩
    · rw [← hR]; rfl
    · intro y hy
      simp at hy
      rw [hy]
      exact pair_lt hra hrb
    · have e : fsI mb [ra * mb + rb] = [(ra : Int)] := by simp only [fsI, List.map_cons, List.map_nil, hx1]
      rw [e]
      exact mk b1 ra r1
    · have e : snI mb [ra * mb + rb] = [(rb : Int)] := by simp only [snI, List.map_cons, List.map_nil, hx2]
      rw [e]
      exact mk b2 rb r2
    · have hg2 : w2.heap.size = g := by simpa [Value.ownBlock] using hg
      subst hg2
      exact ⟨by omega, by omega⟩
  case round =>
    obtain ⟨⟨t, s, vs, O⟩, hit, hmu⟩ := least_at (mu := muI (pk mb (KN D) (KN E)) R (ma * mb)) hrel
    have hit : Itr (pk mb (KN D) (KN E)) (ma * mb) mb R W.heap.size W.heap.size J _ wr t s vs O := hit
    obtain ⟨q, c, rfl⟩ := hit.stk.shape
    have HIT := Lib.hid hit
    have HMU := Lib.hid hmu
    clear hmu
    cases s with
    | nil =>
      have htk : R.take t = R := hit.rest_
      have htN : t = R.length := by
        have h1 := congrArg List.length htk
        rw [List.length_take] at h1
        have h2 := hit.here
        omega
      have HT := Lib.hid htN
      clear hit htk htN
      gi_wp2
      go_end0
      exact ⟨⟨_, rfl⟩, .inl ⟨O, by rw [← HT.out]; exact HIT.out.j, trivial⟩⟩
    | cons r s' =>
      cases vs with
      | nil => exact hit.stk.all.elim
      | cons q0 vs' =>
        have hall : Rw wr mb r q0 ∧ RwAll wr mb s' vs' := hit.stk.all
        obtain ⟨⟨qa, ca', qb, cb', rfl, hla, hlb⟩, hall'⟩ := hall
        have hown := hit.stk.own
        simp only [List.reverse_cons, List.length_cons] at hown
        obtain ⟨g, rfl, ht0, ht1, hf0, hf1, hkc, hown1, hset⟩ := own_top2 hown (by rw [List.length_reverse, hall'.len])
        obtain ⟨k, hk⟩ : ∃ k, s'.length = k := ⟨_, rfl⟩
        have hkm : k ≤ 1000000 := by
          have h1 := hit.small
          have h2 := hit.here
          have h3 := HRL.out
          simp only [List.length_cons] at h1
          omega
        have h0k : (0 : Int) < ((k + 1 : Nat) : Int) := by omega
        have hkk : (k : Int) < ((k + 1 : Nat) : Int) := by omega
        have hk0 : (0 : Int) ≤ (k : Int) := by omega
        have hkci : (k : Int) ≤ (c : Int) := by omega
        have hc0 : ¬ c = 0 := by omega
        have hsl : (r :: s').length = k + 1 := by rw [List.length_cons, hk]
        simp only [List.length_cons] at hsl
        rw [hk] at ht0 ht1 hf0 hf1 hkc hown1 hset hown
        have HK := Lib.hid hk
        have HALL := Lib.hid hall'
        have HLA := Lib.hid hla
        have HLB := Lib.hid hlb
        have HOWN := Lib.hid hown
        have HOWN1 := Lib.hid hown1
        have HSET := Lib.hid hset
        simp only [List.length_cons, hk]
        clear hit hk hall' hla hlb hown hown1 hset hsl hkc
        cases r with
        | nil =>
          simp only [List.length_nil] at ht0 ht1
          have hnew : RI (pk mb (KN D) (KN E)) (ma * mb) mb R W.heap.size W.heap.size J (.slice (some ⟨g, 0, none⟩) k c) wr (t, s', vs', O) := by
            have h := HIT.out
            exact (show Itr _ _ _ _ _ _ _ _ _ t s' vs' O from ⟨h.j, h.here, by simpa using h.rest_, by simpa using h.few, ⟨by rw [HK.out]; exact HOWN1.out, HALL.out⟩, by have := h.small; simp at this; omega, h.come, h.oC, fun g' hg' => h.oV g' hg', h.lt, h.base⟩)
          have HNEW := Lib.hid hnew
          clear hnew
          gi_wp2
          go_roundw
          case rel => exact ⟨_, HNEW.out⟩
          case measure =>
            have hm := HMU.out
            simp only [List.length_cons, HK.out] at hm
            rw [← hm]
            refine Nat.lt_of_le_of_lt (least_le HNEW.out) ?_
            simp [muI, muS] <;> omega
        | cons p ps =>
          obtain ⟨ga, oa, rfl, xa, hla', hca⟩ := HLA.out.head
          obtain ⟨gb, ob, rfl, xb, hlb', hcb⟩ := HLB.out.head
          simp only [List.length_map] at hca hcb
          simp only [List.length_cons] at ht0 ht1
          have htk := take63_any g (k * 2) ga oa gb ob ps.length ca' cb' _ _ wr ht0 ht1 hf0 hf1 xa xb hca hcb
          have hCl := (Array.getElem?_eq_some_iff.1 HIT.out.come).1
          have hgC : g ≠ W.heap.size := by
            have := own_neM HIT.out.stk.own HIT.out.come
            exact this g rfl
          have hpN : p < ma * mb := HIT.out.few p (by simp)
          have hn1 : ((ps.length : Int) + 1 == 0) = false := by rw [beq_eq_false_iff_ne]; omega
          obtain ⟨n, hn⟩ : ∃ n, ps.length = n := ⟨_, rfl⟩
          obtain ⟨a, ha⟩ : ∃ a : Int, ((p / mb : Nat) : Int) = a := ⟨_, rfl⟩
          obtain ⟨b, hb⟩ : ∃ b : Int, ((p % mb : Nat) : Int) = b := ⟨_, rfl⟩
          have hpr : prI mb p = (a, b) := by rw [← ha, ← hb]; rfl
          rw [hn] at htk ht0 hn1
          dsimp only at htk
          rw [ha, hb] at htk
          have HTK := Lib.hid htk
          have HLA2 := Lib.hid hla'
          have HLB2 := Lib.hid hlb'
          have HN := Lib.hid hn
          have HPR := Lib.hid hpr
          have HPN := Lib.hid hpN
          have HCL := Lib.hid hCl
          have HGC := Lib.hid hgC
          clear htk hla' hlb' hn hpr ha hb hpN hCl hgC ht1 hf0 hf1 xa xb hca hcb
          gi_upto_region 6 with fail
          gi_wp2
          refine ⟨trivial, ?_⟩
          refine (callsIn_wide.2 HTK.out).mono ?_
          rintro e w1 ⟨rfl, hg1, hh1⟩
          obtain ⟨w4, hw4, hz4, hb4, hr4⟩ := at1 w1 (.cells #[.int .i64 a, .int .i64 b] 39)
          have hit := HIT.out
          have hz1 := hg1.size
          have hCl := HCL.out
          have hgl : g < wr.heap.size := by
            obtain ⟨_, hh⟩ := own_lt hit.stk.own g rfl
            exact hh
          have hown1 := HSET.out w1 (.slice (some (tl ga oa ca')) n (ca' - 1)) (.slice (some (tl gb ob cb')) n (cb' - 1)) hh1
          have ntag : ∀ cs : Array Value, wr.heap[g]? ≠ some (Obj.cells cs 3 (0, 0)) := fun cs e => own_neX hit.stk.own e (by decide) g rfl rfl
          have hup1 : Up wr w1 := Up.of_grown hg1 ntag
          have hup4 : Up w1 w4 := Up.of_below hb4
          have hown4 := own_keepG hown1 fun g' hg' => hb4.block g' (own_lt hown1 g' hg').2
          have hsk4 : Sk w4 mb W.heap.size (.slice (some ⟨g, 0, none⟩) (k + 1) c) (ps :: s') ((.slice (some (tl ga oa ca')) n (ca' - 1), .slice (some (tl gb ob cb')) n (cb' - 1)) :: vs') := by
            refine ⟨by rw [List.length_cons, HK.out, List.reverse_cons]; exact hown4, ⟨_, _, _, _, by rw [HN.out], (HLA2.out.up hup1).up hup4, (HLB2.out.up hup1).up hup4⟩, (HALL.out.up hup1).up hup4⟩
          have hco4 : HasP w4 W.heap.size ((R.take t).map (prI mb)) := (hit.come.keep (hg1.block _ hCl (by have := HGC.out; simp; omega))).keep (hb4.block _ (by omega))
          have hj1 : J t O w1 := HJ.out t O O wr w1 hit.j (Grw.of_grown hg1 (hit.oV g rfl)) fun _ h => .inl h
          have hj4 : J t (fun k => O k ∨ k = w1.heap.size) w4 := HJ.out t O _ w1 w4 hj1 (Grw.of_below hb4) fun r hr => by
            rcases hr with h | h
            · exact .inl h
            · exact .inr (by omega)
          have hlk := look_pair w4 W.heap.size (prI mb p) _ hco4
          rw [HPR.out] at hlk
          unfold aggP at hlk
          have p0 := cell_of_row _ _ 0 _ _ _ hr4
          have p1 := cell_of_row _ _ 1 _ _ _ hr4
          obtain ⟨B, hB⟩ : ∃ B, w1.heap.size = B := ⟨_, rfl⟩
          rw [hB] at p0 p1 hr4 hj4
          have HW4 := Lib.hid hw4
          have HSK4 := Lib.hid hsk4
          have HCO4 := Lib.hid hco4
          have HJ4 := Lib.hid hj4
          have HBB := Lib.hid (show wr.heap.size ≤ B ∧ w4.heap.size = B + 1 by omega)
          have HR4 := Lib.hid hr4
          clear hit hz1 hCl hgl hown1 ntag hup1 hup4 hown4 hsk4 hco4 hj1 hj4 hw4 hz4 hb4 hr4 hg1 hh1 ht0
          gi_upto_region 7 with fail
          rw [HW4.out]
          clear hB
          by_cases hin : p ∈ R.take t
          · rw [inP_true (by rw [← HPR.out]; exact prI_mem.2 hin)] at hlk
            have hnew : RI (pk mb (KN D) (KN E)) (ma * mb) mb R W.heap.size W.heap.size J (.slice (some ⟨g, 0, none⟩) (k + 1) c) w4 (t, ps :: s', (.slice (some (tl ga oa ca')) n (ca' - 1), .slice (some (tl gb ob cb')) n (cb' - 1)) :: vs', fun k => O k ∨ k = B) := by
              have h := HIT.out
              have hz := HBB.out
              have hr := h.rest_
              simp only [List.flatten_cons, List.cons_append] at hr
              rw [next_in hin] at hr
              exact (show Itr _ _ _ _ _ _ _ _ _ t (ps :: s') _ _ from ⟨HJ4.out, h.here, hr, fun y hy => h.few y (by simp at hy ⊢; exact .inr hy), HSK4.out, h.small, HCO4.out, .inl h.oC, fun g' hg' => .inl (h.oV g' hg'), fun k' hk' => by
                rcases hk' with hk' | hk'
                · have := h.lt k' hk'; omega
                · omega, by have := h.base; omega⟩)
            have HNEW := Lib.hid hnew
            clear hnew hin
            gi_wp2
            go_roundw
            case rel => exact ⟨_, HNEW.out⟩
            case measure =>
              have hm := HMU.out
              simp only [List.length_cons, HK.out] at hm
              rw [← hm]
              refine Nat.lt_of_le_of_lt (least_le HNEW.out) ?_
              simp [muI, muS] <;> omega
          · rw [inP_false (by rw [← HPR.out]; exact fun h => hin (prI_mem.1 h))] at hlk
            have hit := HIT.out
            have hkl := pk_lt (KN_lt hba) (KN_lt hbb)
            rw [hma, hmb] at hkl
            have hsf : ∀ y ∈ ps ++ s'.flatten, y < ma * mb := fun y hy => hit.few y (by simp at hy ⊢; exact .inr hy)
            have hfew : Few (ma * mb) (R.take t) := by
              have hw := walk_went hkl (pair_lt hra hrb)
              rw [show walk (pk mb (KN D) (KN E)) (ma * mb) (ra * mb + rb) = R from hR] at hw
              exact ⟨(List.take_sublist t R).nodup hw.few.1, fun y hy => hw.few.2 y (List.mem_of_mem_take hy)⟩
            have hrest : visits (pk mb (KN D) (KN E)) (ma * mb + 1) (p :: (ps ++ s'.flatten)) (R.take t) = R := hit.rest_
            have hat := next_at hkl HPN.out hsf hfew hin hrest
            have htl : (R.take t).length = t := by rw [List.length_take]; have := hit.here; omega
            rw [htl] at hat
            have htR : t < R.length := (List.getElem?_eq_some_iff.1 hat).1
            have htk : R.take (t + 1) = R.take t ++ [p] := by rw [List.take_add_one, hat]; rfl
            have hgx : R[t]! = p := by rw [getElem!_pos R t htR]; exact (List.getElem?_eq_some_iff.1 hat).2
            have hnotin : (a, b) ∉ (R.take t).map (prI mb) := by rw [← HPR.out]; exact fun h => hin (prI_mem.1 h)
            have hput := put_pair w4 W.heap.size (a, b) _ HCO4.out hnotin
            have hhas := HCO4.out.put (a, b)
            rw [show (R.take t).map (prI mb) ++ [(a, b)] = (R.take (t + 1)).map (prI mb) by rw [htk, List.map_append, List.map_singleton, HPR.out]] at hput hhas
            obtain ⟨w5, hw5⟩ : ∃ w5, w4.putObj W.heap.size (.map (entP ((R.take (t + 1)).map (prI mb)) 0).toArray ((R.take (t + 1)).map (prI mb)).length) = w5 := ⟨_, rfl⟩
            rw [hw5] at hput hhas
            have hg5 : w4.grownBy w5 (some W.heap.size) := by rw [← hw5]; exact Seqo.turn w4 _ _
            have hz5 : w5.heap.size = w4.heap.size := by rw [← hw5]; simp
            have hBB := HBB.out
            have hCl := HCL.out
            have hj5 : J t (fun k => O k ∨ k = B) w5 := HJ.out t _ _ w4 w5 HJ4.out (Grw.of_grown hg5 (.inl hit.oC)) fun _ h => .inl h
            have hlt5 : ∀ k', (O k' ∨ k' = B) → k' < w5.heap.size := fun k' hk' => by
              rcases hk' with hk' | hk'
              · have := hit.lt k' hk'; omega
              · omega
            have hup5 : Up w4 w5 := Up.of_grown hg5 fun cs e => by
              have h1 := HCO4.out
              unfold HasP at h1
              rw [h1] at e
              cases e
            have hsk5 := HSK4.out.keep hup5 fun g' hg' => hg5.block g' (own_lt HSK4.out.own g' hg').2 (by simpa using own_neM HSK4.out.own HCO4.out g' hg')
            have p50 : w5.cell? ⟨B, 0, none⟩ = some (.int .i64 a) := (World.cell?_of_block (hg5.block B (by omega) (by simp; omega))).trans p0
            have p51 : w5.cell? ⟨B, 1, none⟩ = some (.int .i64 b) := (World.cell?_of_block (hg5.block B (by omega) (by simp; omega))).trans p1
            have hr5 := (hg5.block B (by omega) (by simp; omega)).trans HR4.out
            obtain ⟨fn, tmps, assign, body, hy, hR3⟩ := HY.out t _ w5 htR hj5 hlt5
            rw [hgx, HPR.out] at hy
            unfold aggP at hy hput
            have HRY := Lib.hid hR3
            have HAT := Lib.hid hat
            have HTK := Lib.hid htk
            have HHAS := Lib.hid hhas
            have HJ5 := Lib.hid hj5
            have HSK5 := Lib.hid hsk5
            have HR5 := Lib.hid hr5
            have HREST := Lib.hid hrest
            have HFEW := Lib.hid hfew
            have HIN := Lib.hid hin
            have HGX := Lib.hid hgx
            have HTR := Lib.hid htR
            have HSF := Lib.hid hsf
            have HKL := Lib.hid hkl
            clear hR3 hat htk hhas hg5 hj5 hsk5 hw5 hin hgx htl hlt5 hrest hfew htR hup5 hr5 hnotin hit hBB hCl hz5 hsf hkl
            gi_wp2
            refine HRY.out.mono ?_
            rintro e W6 (⟨rfl, hj6, hk6, hu6⟩ | ⟨rfl, hJx⟩)
            · obtain ⟨hbw6, hkn6⟩ := HS.out _ _ _ hj6
              have hkn := hkn6 t rfl
              rw [HGX.out] at hkn
              obtain ⟨qk, ck, qd, cd, qk', ck', qd', cd', kva, kvb, hfit, hrl, hrl'⟩ := hkn
              obtain ⟨q0, q1, q2, q3, q4, q5⟩ := cell6 hbw6
              have hr6 := (hk6.2 B (.inr rfl)).trans HR5.out
              have b0 := cell_of_row _ _ 0 _ _ _ hr6
              have b1' := cell_of_row _ _ 1 _ _ _ hr6
              have hkd := kids64_any ra rb ma mb ca cb pa pb Ka Kb (p / mb) (p % mb) _ _ _ _ _ _ _ _ _ _ _ _ _ _ W6 kva kvb
              have ha : ((p / mb : Nat) : Int) = a := congrArg Prod.fst HPR.out
              have hb : ((p % mb : Nat) : Int) = b := congrArg Prod.snd HPR.out
              rw [ha, hb] at hkd
              obtain ⟨na, hna⟩ : ∃ n, (kidsOf D[p / mb]!).length = n := ⟨_, rfl⟩
              obtain ⟨nb, hnb⟩ : ∃ n, (kidsOf E[p % mb]!).length = n := ⟨_, rfl⟩
              rw [hna, hnb] at hkd
              have HKD := Lib.hid hkd
              have HRL1 := Lib.hid hrl
              have HRL2 := Lib.hid hrl'
              have HFIT := Lib.hid hfit
              have HNA := Lib.hid hna
              have HNB := Lib.hid hnb
              have HJ6 := Lib.hid hj6
              have HK6 := Lib.hid hk6
              have HU6 := Lib.hid hu6
              clear hkd hrl hrl' hfit hna hnb hj6 hk6 hu6 hbw6 hkn6 kva kvb hr6 hy hput hlk p0 p1 p50 p51 ha hb
              gi_upto_region 10 with fail
              gi_wp2
              refine ⟨trivial, ?_⟩
              refine (callsIn_wide.2 HKD.out).mono ?_
              rintro e w7 ⟨rfl, hb7⟩
              have HB7 := Lib.hid hb7
              clear hb7 b0 b1' q0 q1 q2 q3 q4 q5
              have hsk7 := ((HSK5.out.keep HU6.out fun g' hg' => HK6.out.2 g' (.inl (HIT.out.oV g' hg'))).keep (Up.of_below HB7.out) fun g' hg' => HB7.out.block g' (Nat.lt_of_lt_of_le (own_lt HSK5.out.own g' hg').2 HK6.out.1))
              have how7 := hsk7.own
              simp only [List.length_cons, HK.out] at how7
              have hall7 := hsk7.all
              have hb07 : W.heap.size ≤ w7.heap.size := by
                have h1 := HIT.out.base
                have h2 := HBB.out
                have h3 := HK6.out.1
                have h4 := HB7.out.size
                have h5 := (Array.getElem?_eq_some_iff.1 HR5.out).1
                omega
              have HOW7 := Lib.hid how7
              have HALL7 := Lib.hid hall7
              have HB07 := Lib.hid hb07
              clear hsk7 how7 hall7 hb07
              gi_wp2_with (first
                | (gi_at_builtin
                   refine wpListIn_append_own_at _ rfl _ _ 126 rfl W.heap.size 124 i0 (.agg #[.slice none 0 0, .slice none 0 0]) 2 48 Tryz.underlying126 hi0 hi1 hi2 hi3 rfl (by decide) (.slice (some ⟨g, 0, none⟩) (k + 1) c) (k + 1) _ rfl (HOW7.out.alloc _) ⟨w7.heap.size, 0, none⟩ 1 1 [.slice qd na cd, .slice qd' nb cd'] rfl rfl (World.news_of_block (heap_alloc_new w7 _)) (by intro u hu; simp at hu; rcases hu with rfl | rfl <;> rfl) (by unfold maxLen; omega) (by omega) (by have := HB07.out; simp; omega) ?_
                   intro v8 w8 hown8 hg8 _ hat8
                   obtain ⟨g8, cap8, rfl, hb8, hl8⟩ := hown8.form (by omega)
                   have HOW8 := Lib.hid hown8
                   have HG8 := Lib.hid hg8
                   have HAT8 := Lib.hid hat8
                   have HL8 := Lib.hid hl8
                   clear hown8 hg8 hat8 hb8 hl8))
              have h := HIT.out
              have hz5 : B < w5.heap.size := (Array.getElem?_eq_some_iff.1 HR5.out).1
              have hz6 := HK6.out.1
              have hz7 := HB7.out.size
              have hz8 := HG8.out.size
              have hBB := HBB.out
              have hCl := HCL.out
              simp only [World.size_alloc] at hz8
              have hgl7 : g < w7.heap.size := by
                have := (own_lt HOW7.out g rfl).2
                exact this
              have ntag : ∀ cs : Array Value, (w7.alloc (.cells #[.slice qd na cd, .slice qd' nb cd'] 124)).heap[g]? ≠ some (Obj.cells cs 3 (0, 0)) := fun cs e => own_neX (HOW7.out.alloc _) e (by decide) g rfl rfl
              have hup8 : Up w7 w8 := (Up.of_below ((Below.refl _ w7).alloc (Nat.le_refl _) _)).trans (Up.of_grown HG8.out ntag)
              have hup68 : Up W6 w8 := (Up.of_below HB7.out).trans hup8
              have hpl := fst_lt HPN.out
              have hpr := snd_lt HPN.out
              have hlen : (KN D (p / mb)).length = (KN E (p % mb)).length := fit_len hba hbb _ _ (by omega) (by omega) HFIT.out
              have hkf : (pk mb (KN D) (KN E) p).map (· / mb) = KN D (p / mb) := pk_fst (N := ma) (by have := KN_lt hbb; rw [hmb] at this; exact this) HPN.out hlen
              have hks : (pk mb (KN D) (KN E) p).map (· % mb) = KN E (p % mb) := pk_snd (N := ma) (by have := KN_lt hbb; rw [hmb] at this; exact this) HPN.out hlen
              have hfs : fsI mb (pk mb (KN D) (KN E) p) = kidsOf D[p / mb]! := by
                rw [← kn_cast hba (by omega), ← hkf, List.map_map]
                rfl
              have hsn : snI mb (pk mb (KN D) (KN E) p) = kidsOf E[p % mb]! := by
                rw [← kn_cast hbb (by omega), ← hks, List.map_map]
                rfl
              have hl1 : (pk mb (KN D) (KN E) p).length = na := by rw [← HNA.out, ← hfs]; simp [fsI]
              have hl2 : (pk mb (KN D) (KN E) p).length = nb := by rw [← HNB.out, ← hsn]; simp [snI]
              have hrw : Rw w8 mb (pk mb (KN D) (KN E) p) (.slice qd na cd, .slice qd' nb cd') :=
                ⟨qd, cd, qd', cd', by rw [← hl1, ← hl2], by rw [hfs]; exact HRL1.out.up hup68, by rw [hsn]; exact HRL2.out.up hup68⟩
              have hC6 : W6.heap[W.heap.size]? = w5.heap[W.heap.size]? := HK6.out.2 _ (.inl h.oC)
              have hC8 : w8.heap[W.heap.size]? = W6.heap[W.heap.size]? := (HG8.out.block _ (by simp; omega) (by have := HGC.out; simp [Value.ownBlock]; omega)).trans ((Below.heap_alloc _ _ _ (by omega)).trans (HB7.out.block _ (by omega)))
              have hj8 : J (t + 1) (fun k' => (O k' ∨ k' = B) ∨ k' = g8) w8 := by
                refine HJ.out (t + 1) (fun k' => O k' ∨ k' = B) _ W6 w8 HJ6.out ?_ fun r hr => ?_
                · exact (Grw.of_below (HB7.out.alloc hz7 _)).trans (Grw.of_grown (r := g) HG8.out (.inl (h.oV g rfl)))
                · rcases hr with hr | hr
                  · exact .inl hr
                  · rcases HAT8.out with e | e
                    · have e1 : g8 = g := by simpa [Value.ownBlock] using e
                      exact .inl (.inl (by rw [hr, e1]; exact h.oV g rfl))
                    · have e1 : g8 = w7.heap.size + 1 := by simpa [Value.ownBlock] using e
                      exact .inr ⟨by omega, by rw [hr]; exact HL8.out⟩
              have hnew : RI (pk mb (KN D) (KN E)) (ma * mb) mb R W.heap.size W.heap.size J (.slice (some ⟨g8, 0, none⟩) (k + 1 + 1) cap8) w8 (t + 1, pk mb (KN D) (KN E) p :: ps :: s', (.slice qd na cd, .slice qd' nb cd') :: (.slice (some (tl ga oa ca')) n (ca' - 1), .slice (some (tl gb ob cb')) n (cb' - 1)) :: vs', fun k' => (O k' ∨ k' = B) ∨ k' = g8) := by
                refine (show Itr _ _ _ _ _ _ _ _ _ (t + 1) (pk mb (KN D) (KN E) p :: ps :: s') _ _ from ⟨hj8, HTR.out, ?_, ?_, ⟨?_, ⟨hrw, RwAll.up hup8 HALL7.out⟩⟩, ?_, ?_, .inl (.inl h.oC), fun g' hg' => ?_, fun k' hk' => ?_, by have := h.base; omega⟩)
                · have hr := HREST.out
                  rw [next_new HKL.out HPN.out HFEW.out HIN.out] at hr
                  rw [HTK.out]
                  simpa using hr
                · intro y hy
                  rw [List.flatten_cons, List.mem_append] at hy
                  rcases hy with hy | hy
                  · exact HKL.out p HPN.out y hy
                  · exact HSF.out y (by simpa using hy)
                · have := HOW8.out
                  simp only [List.length_cons, HK.out, List.reverse_cons, cellsV_snoc] at this ⊢
                  simpa using this
                · have h1 := h.small
                  simp only [List.length_cons] at h1 ⊢
                  omega
                · exact (HHAS.out.keep hC6).keep hC8
                · have e1 : g8 = g' := by simpa [Value.ownBlock] using hg'
                  exact .inr e1.symm
                · rcases hk' with (hk' | hk') | hk'
                  · have := h.lt k' hk'; omega
                  · omega
                  · rw [hk']; exact HL8.out
              refine ⟨⟨_, hnew⟩, ?_⟩
              have hm := HMU.out
              simp only [List.length_cons, HK.out] at hm
              rw [← hm]
              refine Nat.lt_of_le_of_lt (least_le hnew) ?_
              have hrs := rest_snoc (kids := pk mb (KN D) (KN E)) HIN.out (ma * mb) HPN.out
              rw [← HTK.out] at hrs
              simp only [muI, muS, List.length_cons]
              omega
            · have HJX := Lib.hid hJx
              clear hJx hy hput hlk p0 p1 p50 p51
              gi_wp2
              refine bodyPost_ret (results_none rfl _ _ _) rfl ?_
              exact ⟨⟨_, rfl⟩, .inr HJX.out⟩
end Go.Proofs.YtepelpmkmhhokaaGreatDoor
