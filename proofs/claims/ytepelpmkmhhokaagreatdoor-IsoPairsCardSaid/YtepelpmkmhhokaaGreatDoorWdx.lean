/- A walk through a graph, each node once, its kids in their order: what it comes to. Conditions: none; nothing of the program is named here. A walk that keeps what is next in a row comes to what the walk by recursion comes to. Conditions: none; nothing of the program is named here. What a graph's tidy one is: its nodes are right, their keys and kids stand in order, its walk comes to places one by one. Conditions: none; nothing of the program is run here. -/
import Derived.Test.YtepelpmkmhhokaaGreatDoorLmx
namespace Dfs
section
variable (kids : Nat → List Nat)
/-- what is come to, with all that is walked to from one -/
def visit : Nat → Nat → List Nat → List Nat
  | 0, _, o => o
  | f + 1, i, o => if i ∈ o then o else (kids i).foldl (fun o j => visit f j o) (o ++ [i])
/-- what is come to from some, one after the other -/
def visits (f : Nat) (js : List Nat) (o : List Nat) : List Nat := js.foldl (fun o j => visit kids f j o) o
end
/-- places below n, none twice -/
def Few (n : Nat) (o : List Nat) : Prop := o.Nodup ∧ ∀ x ∈ o, x < n
theorem few_len : ∀ (n : Nat) (o : List Nat), Few n o → o.length ≤ n
  | 0, o, h => by
    match o with
    | [] => exact Nat.le_refl _
    | x :: t => exact absurd (h.2 x (by simp)) (Nat.not_lt_zero _)
  | n + 1, o, h => by
    have he : Few n (o.erase n) := by
      refine ⟨h.1.erase n, fun x hx => ?_⟩
      have := (h.1.mem_erase_iff).1 hx
      have h2 := h.2 x this.2
      omega
    have ih := few_len n _ he
    by_cases hm : n ∈ o
    · rw [List.length_erase_of_mem hm] at ih
      omega
    · rw [List.erase_of_not_mem hm] at ih
      omega
theorem Few.snoc {n : Nat} {o : List Nat} {i : Nat} (h : Few n o) (hi : i < n) (hn : i ∉ o) : Few n (o ++ [i]) := by
  refine ⟨?_, fun x hx => ?_⟩
  · rw [List.nodup_append]
    refine ⟨h.1, by simp, fun a ha b hb e => ?_⟩
    simp at hb
    subst hb e
    exact hn ha
  · rcases List.mem_append.1 hx with hx | hx
    · exact h.2 x hx
    · simp at hx; omega
/-- what a walk keeps -/
structure Went (kids : Nat → List Nat) (n : Nat) (js o r : List Nat) : Prop where
  pre : o <+: r
  few : Few n r
  all : ∀ j ∈ js, j ∈ r
  closed : ∀ x ∈ r, x ∉ o → ∀ y ∈ kids x, y ∈ r
  from_ : ∀ t x, o.length ≤ t → r[t]? = some x → x ∈ js ∨ ∃ s k, s < t ∧ r[s]? = some k ∧ x ∈ kids k
theorem pre_get {o r : List Nat} (h : o <+: r) {t : Nat} (ht : t < o.length) : r[t]? = o[t]? := by
  obtain ⟨u, rfl⟩ := h
  rw [List.getElem?_append_left ht]
theorem Went.nil {kids : Nat → List Nat} {n : Nat} {o : List Nat} (h : Few n o) : Went kids n [] o o :=
  ⟨List.prefix_refl _, h, fun _ hj => by simp at hj, fun _ hx hn => absurd hx hn, fun t x ht he => by
    rw [List.getElem?_eq_none ht] at he; cases he⟩
theorem Went.trans {kids : Nat → List Nat} {n : Nat} {js ks o r q : List Nat} (h1 : Went kids n js o r) (h2 : Went kids n ks r q) : Went kids n (js ++ ks) o q := by
  refine ⟨h1.pre.trans h2.pre, h2.few, fun j hj => ?_, fun x hx hn y hy => ?_, fun t x ht he => ?_⟩
  · rcases List.mem_append.1 hj with hj | hj
    · exact h2.pre.subset (h1.all j hj)
    · exact h2.all j hj
  · by_cases hr : x ∈ r
    · exact h2.pre.subset (h1.closed x hr hn y hy)
    · exact h2.closed x hx hr y hy
  · by_cases hl : t < r.length
    · rw [pre_get h2.pre hl] at he
      rcases h1.from_ t x ht he with h | ⟨s, k, hs, hk, hx⟩
      · exact .inl (List.mem_append.2 (.inl h))
      · exact .inr ⟨s, k, hs, by rw [pre_get h2.pre (by omega)]; exact hk, hx⟩
    · rcases h2.from_ t x (by omega) he with h | h
      · exact .inl (List.mem_append.2 (.inr h))
      · exact .inr h
section
variable {kids : Nat → List Nat} {n : Nat} (hk : ∀ i, i < n → ∀ j ∈ kids i, j < n)
include hk
theorem visit_went : ∀ (f i : Nat) (o : List Nat), i < n → Few n o → n < f + o.length → Went kids n [i] o (visit kids f i o) ∧ ∀ g, f ≤ g → visit kids g i o = visit kids f i o
  | 0, i, o, hi, ho, hf => by
    have := few_len n o ho
    omega
  | f + 1, i, o, hi, ho, hf => by
    by_cases hm : i ∈ o
    · have e : ∀ g, f + 1 ≤ g → visit kids g i o = o := fun g hg => by
        obtain ⟨g, rfl⟩ : ∃ g', g = g' + 1 := ⟨g - 1, by omega⟩
        unfold visit
        rw [if_pos hm]
      rw [e (f + 1) (Nat.le_refl _)]
      refine ⟨⟨List.prefix_refl _, ho, fun j hj => by simp at hj; rw [hj]; exact hm, fun _ hx hn => absurd hx hn, fun t x ht he => by rw [List.getElem?_eq_none ht] at he; cases he⟩, fun g hg => e g hg⟩
    · have ho' := ho.snoc hi hm
      have hfold : ∀ (js : List Nat), (∀ j ∈ js, j < n) → ∀ o', Few n o' → n < f + o'.length → Went kids n js o' (visits kids f js o') ∧ ∀ g, f ≤ g → visits kids g js o' = visits kids f js o' := by
        intro js
        induction js with
        | nil => intro _ o' h' _; exact ⟨Went.nil h', fun g _ => rfl⟩
        | cons j t ih =>
          intro hj o' h' hf'
          obtain ⟨h1, e1⟩ := visit_went f j o' (hj j (by simp)) h' hf'
          have hl : o'.length ≤ (visit kids f j o').length := h1.pre.length_le
          obtain ⟨h2, e2⟩ := ih (fun x hx => hj x (by simp [hx])) (visit kids f j o') h1.few (by omega)
          refine ⟨?_, fun g hg => ?_⟩
          · have := h1.trans h2
            exact this
          · show visits kids g t (visit kids g j o') = visits kids f t (visit kids f j o')
            rw [e1 g hg, e2 g hg]
      obtain ⟨h1, e1⟩ := hfold (kids i) (hk i hi) (o ++ [i]) ho' (by simp; omega)
      have e0 : visit kids (f + 1) i o = visits kids f (kids i) (o ++ [i]) := by
        conv => lhs; unfold visit
        rw [if_neg hm]
        rfl
      rw [e0]
      refine ⟨⟨(List.prefix_append o [i]).trans h1.pre, h1.few, fun j hj => ?_, fun x hx hn y hy => ?_, fun t x ht he => ?_⟩, fun g hg => ?_⟩
      · simp at hj
        rw [hj]
        exact h1.pre.subset (by simp)
      · by_cases hx2 : x ∈ o ++ [i]
        · have hxi : x = i := by
            rcases List.mem_append.1 hx2 with h | h
            · exact absurd h hn
            · simpa using h
          subst hxi
          exact h1.all y hy
        · exact h1.closed x hx hx2 y hy
      · by_cases ht2 : t = o.length
        · subst ht2
          rw [pre_get h1.pre (by simp)] at he
          simp at he
          exact .inl (by simp [he])
        · rcases h1.from_ t x (by simp; omega) he with h | h
          · refine .inr ⟨o.length, i, by omega, ?_, h⟩
            rw [pre_get h1.pre (by simp)]
            simp
          · exact .inr h
      · obtain ⟨g, rfl⟩ : ∃ g', g = g' + 1 := ⟨g - 1, by omega⟩
        conv => lhs; unfold visit
        rw [if_neg hm]
        exact e1 g (by omega)
theorem visits_went (f : Nat) : ∀ (js o : List Nat), (∀ j ∈ js, j < n) → Few n o → n < f + o.length → Went kids n js o (visits kids f js o) ∧ ∀ g, f ≤ g → visits kids g js o = visits kids f js o
  | [], o, _, ho, _ => ⟨Went.nil ho, fun _ _ => rfl⟩
  | j :: t, o, hj, ho, hf => by
    obtain ⟨h1, e1⟩ := visit_went hk f j o (hj j (by simp)) ho hf
    have hl : o.length ≤ (visit kids f j o).length := h1.pre.length_le
    obtain ⟨h2, e2⟩ := visits_went f t (visit kids f j o) (fun x hx => hj x (by simp [hx])) h1.few (by omega)
    refine ⟨h1.trans h2, fun g hg => ?_⟩
    show visits kids g t (visit kids g j o) = visits kids f t (visit kids f j o)
    rw [e1 g hg, e2 g hg]
end
theorem visit_in {kids : Nat → List Nat} {f i : Nat} {o : List Nat} (h : i ∈ o) : visit kids f i o = o := by
  cases f with
  | zero => rfl
  | succ f => unfold visit; rw [if_pos h]
theorem visit_new {kids : Nat → List Nat} {f i : Nat} {o : List Nat} (h : i ∉ o) : visit kids (f + 1) i o = visits kids f (kids i) (o ++ [i]) := by
  conv => lhs; unfold visit
  rw [if_neg h]
  rfl
theorem visits_cons (kids : Nat → List Nat) (f j : Nat) (t o : List Nat) : visits kids f (j :: t) o = visits kids f t (visit kids f j o) := rfl
theorem visits_append (kids : Nat → List Nat) (f : Nat) (s t o : List Nat) : visits kids f (s ++ t) o = visits kids f t (visits kids f s o) := by simp [visits, List.foldl_append]
/-- the walk stays within what is closed -/
theorem visit_within {kids : Nat → List Nat} {S : Nat → Prop} (hS : ∀ x, S x → ∀ y ∈ kids x, S y) : ∀ (f i : Nat) (o : List Nat), S i → (∀ x ∈ o, S x) → ∀ x ∈ visit kids f i o, S x
  | 0, _, _, _, ho => ho
  | f + 1, i, o, hi, ho => by
    by_cases hm : i ∈ o
    · rw [visit_in hm]; exact ho
    · rw [visit_new hm]
      have : ∀ (js o : List Nat), (∀ j ∈ js, S j) → (∀ x ∈ o, S x) → ∀ x ∈ visits kids f js o, S x := by
        intro js
        induction js with
        | nil => intro o _ h; exact h
        | cons j t ih => intro o hj h; exact ih _ (fun x hx => hj x (by simp [hx])) (visit_within hS f j o (hj j (by simp)) h)
      refine this (kids i) (o ++ [i]) (hS i hi) fun x hx => ?_
      rcases List.mem_append.1 hx with hx | hx
      · exact ho x hx
      · simp at hx; rw [hx]; exact hi
/-- the walk under other names -/
theorem visit_map {kids kids' : Nat → List Nat} {φ : Nat → Nat} {S : Nat → Prop} (hS : ∀ x, S x → ∀ y ∈ kids x, S y) (hφ : ∀ x y, S x → S y → φ x = φ y → x = y) (hm : ∀ x, S x → kids' (φ x) = (kids x).map φ) :
    ∀ (f i : Nat) (o : List Nat), S i → (∀ x ∈ o, S x) → visit kids' f (φ i) (o.map φ) = (visit kids f i o).map φ
  | 0, _, _, _, _ => rfl
  | f + 1, i, o, hi, ho => by
    by_cases h : i ∈ o
    · rw [visit_in h, visit_in (List.mem_map.2 ⟨i, h, rfl⟩)]
    · have h' : φ i ∉ o.map φ := fun e => by
        obtain ⟨y, hy, e⟩ := List.mem_map.1 e
        exact h (hφ y i (ho y hy) hi e ▸ hy)
      rw [visit_new h, visit_new h', hm i hi]
      have : ∀ (js o : List Nat), (∀ j ∈ js, S j) → (∀ x ∈ o, S x) → visits kids' f (js.map φ) (o.map φ) = (visits kids f js o).map φ := by
        intro js
        induction js with
        | nil => intro o _ _; rfl
        | cons j t ih =>
          intro o hj h
          rw [List.map_cons, visits_cons, visits_cons, visit_map hS hφ hm f j o (hj j (by simp)) h]
          exact ih _ (fun x hx => hj x (by simp [hx])) (visit_within hS f j o (hj j (by simp)) h)
      have e := this (kids i) (o ++ [i]) (hS i hi) (fun x hx => by
        rcases List.mem_append.1 hx with hx | hx
        · exact ho x hx
        · simp at hx; rw [hx]; exact hi)
      rw [← e]
      simp
/-- the walk from a root -/
def walk (kids : Nat → List Nat) (n root : Nat) : List Nat := visit kids (n + 1) root []
theorem few_nil (n : Nat) : Few n [] := ⟨List.nodup_nil, fun _ h => by simp at h⟩
theorem walk_went {kids : Nat → List Nat} {n root : Nat} (hk : ∀ i, i < n → ∀ j ∈ kids i, j < n) (hr : root < n) : Went kids n [root] [] (walk kids n root) :=
  (visit_went hk (n + 1) root [] hr (few_nil n) (by simp)).1
theorem walk_head {kids : Nat → List Nat} {n root : Nat} (hk : ∀ i, i < n → ∀ j ∈ kids i, j < n) (hr : root < n) : ∃ t, walk kids n root = root :: t := by
  have h : [root] <+: walk kids n root := by
    unfold walk
    rw [visit_new (by simp)]
    have hs : Few n ([] ++ [root]) := (few_nil n).snoc hr (by simp)
    exact (visits_went hk n (kids root) ([] ++ [root]) (hk root hr) hs (by simp)).1.pre
  obtain ⟨t, ht⟩ := h
  exact ⟨t, ht.symm⟩
theorem walk_closed {kids : Nat → List Nat} {n root : Nat} (hk : ∀ i, i < n → ∀ j ∈ kids i, j < n) (hr : root < n) : ∀ x ∈ walk kids n root, ∀ y ∈ kids x, y ∈ walk kids n root :=
  fun x hx y hy => (walk_went hk hr).closed x hx (by simp) y hy
/-- the place of a number among some -/
def idx : List Nat → Nat → Nat
  | [], _ => 0
  | y :: t, x => if y = x then 0 else idx t x + 1
theorem idx_lt : ∀ {l : List Nat} {x : Nat}, x ∈ l → idx l x < l.length ∧ l[idx l x]? = some x
  | [], _, h => by simp at h
  | y :: t, x, h => by
    unfold idx
    by_cases e : y = x
    · rw [if_pos e]; simp [e]
    · rw [if_neg e]
      have hx : x ∈ t := by
        rcases List.mem_cons.1 h with h | h
        · exact absurd h.symm e
        · exact h
      obtain ⟨h1, h2⟩ := idx_lt hx
      exact ⟨by simp; omega, by simpa using h2⟩
theorem idx_inj {l : List Nat} {x y : Nat} (hx : x ∈ l) (hy : y ∈ l) (e : idx l x = idx l y) : x = y := by
  have h1 := (idx_lt hx).2
  have h2 := (idx_lt hy).2
  rw [e, h2] at h1
  exact (Option.some.inj h1).symm
theorem idx_get : ∀ {l : List Nat} {t x : Nat}, l.Nodup → l[t]? = some x → idx l x = t
  | [], _, _, _, h => by simp at h
  | y :: l, 0, x, _, h => by simp at h; unfold idx; rw [if_pos h]
  | y :: l, t + 1, x, hn, h => by
    have hn2 := List.nodup_cons.1 hn
    have h' : l[t]? = some x := by simpa using h
    have hx : x ∈ l := List.mem_of_getElem? h'
    unfold idx
    have hne : ¬ y = x := fun e => hn2.1 (by rw [e]; exact hx)
    rw [if_neg hne, idx_get hn2.2 h']
theorem map_idx {l : List Nat} (h : l.Nodup) : l.map (idx l) = List.range l.length := by
  refine List.ext_getElem (by simp) fun t h1 h2 => ?_
  have ht : t < l.length := by simpa using h1
  simp only [List.getElem_map, List.getElem_range]
  exact idx_get h (List.getElem?_eq_getElem ht)
/-- the walk through the tidy graph comes to places one by one -/
theorem walk_tidy {kids kids' : Nat → List Nat} {n root : Nat} (hk : ∀ i, i < n → ∀ j ∈ kids i, j < n) (hr : root < n)
    (hm : ∀ x, x ∈ walk kids n root → kids' (idx (walk kids n root) x) = (kids x).map (idx (walk kids n root))) :
    walk kids' (walk kids n root).length 0 = List.range (walk kids n root).length := by
  have hW := walk_went hk hr
  obtain ⟨t, ht⟩ := walk_head hk hr
  obtain ⟨l, hl⟩ : ∃ l, walk kids n root = l := ⟨_, rfl⟩
  have hcl := walk_closed hk hr
  rw [hl] at hW ht hcl hm ⊢
  have hroot : root ∈ l := by rw [ht]; simp
  have h0 : idx l root = 0 := by rw [ht]; unfold idx; rw [if_pos rfl]
  have h1 := visit_map (kids := kids) (kids' := kids') (φ := idx l) (S := fun x => x ∈ l) hcl (fun x y hx hy e => idx_inj hx hy e) hm (n + 1) root [] hroot (fun x hx => by simp at hx)
  rw [h0, show visit kids (n + 1) root [] = l from hl, map_idx hW.few.1] at h1
  have hk' : ∀ i, i < l.length → ∀ j ∈ kids' i, j < l.length := fun i hi j hj => by
    have hx : l[i]? = some l[i] := List.getElem?_eq_getElem hi
    have hxm : l[i] ∈ l := List.getElem_mem hi
    have e := hm l[i] hxm
    rw [idx_get hW.few.1 hx] at e
    rw [e] at hj
    obtain ⟨y, hy, rfl⟩ := List.mem_map.1 hj
    exact (idx_lt (hcl _ hxm y hy)).1
  have hlen := few_len n l hW.few
  have hpos : 0 < l.length := by rw [ht]; simp
  have h2 := (visit_went hk' (l.length + 1) 0 [] hpos (few_nil _) (by simp)).2 (n + 1) (by omega)
  unfold walk
  rw [← h2]
  exact h1
/-- where a path leads -/
def at_ (kids : Nat → List Nat) : Nat → List Int → Option Nat
  | i, [] => some i
  | i, p :: r => if 0 ≤ p ∧ p < (kids i).length then at_ kids ((kids i)[p.toNat]!) r else none
theorem at_snoc (kids : Nat → List Nat) (k : Int) : ∀ (l : List Int) (i : Nat), at_ kids i (l ++ [k]) = (at_ kids i l).bind fun a => if 0 ≤ k ∧ k < (kids a).length then some ((kids a)[k.toNat]!) else none
  | [], i => by
    rw [List.nil_append]
    simp only [at_, Option.bind]
  | p :: r, i => by
    rw [List.cons_append]
    unfold at_
    by_cases h : 0 ≤ p ∧ p < (kids i).length
    · rw [if_pos h, if_pos h, at_snoc kids k r]
    · rw [if_neg h, if_neg h]; rfl
theorem get_mem {l : List Nat} {p : Int} (h : 0 ≤ p ∧ p < l.length) : l[p.toNat]! ∈ l := by
  have hp : p.toNat < l.length := by omega
  rw [getElem!_pos l p.toNat hp]
  exact List.getElem_mem hp
theorem at_within {kids : Nat → List Nat} {S : Nat → Prop} (hS : ∀ x, S x → ∀ y ∈ kids x, S y) : ∀ (l : List Int) (i a : Nat), S i → at_ kids i l = some a → S a
  | [], i, a, hi, h => by cases h; exact hi
  | p :: r, i, a, hi, h => by
    unfold at_ at h
    by_cases hp : 0 ≤ p ∧ p < (kids i).length
    · rw [if_pos hp] at h
      exact at_within hS r _ a (hS i hi _ (get_mem hp)) h
    · rw [if_neg hp] at h; cases h
theorem at_map {kids kids' : Nat → List Nat} {φ : Nat → Nat} {S : Nat → Prop} (hS : ∀ x, S x → ∀ y ∈ kids x, S y) (hm : ∀ x, S x → kids' (φ x) = (kids x).map φ) : ∀ (l : List Int) (i : Nat), S i → at_ kids' (φ i) l = (at_ kids i l).map φ
  | [], _, _ => rfl
  | p :: r, i, hi => by
    unfold at_
    rw [hm i hi, List.length_map]
    by_cases hp : 0 ≤ p ∧ p < (kids i).length
    · rw [if_pos hp, if_pos hp]
      have hpl : p.toNat < (kids i).length := by omega
      have e : ((kids i).map φ)[p.toNat]! = φ ((kids i)[p.toNat]!) := by
        rw [getElem!_pos _ p.toNat (by simpa using hpl), getElem!_pos (kids i) p.toNat hpl, List.getElem_map]
      rw [e]
      exact at_map hS hm r _ (hS i hi _ (get_mem hp))
    · rw [if_neg hp, if_neg hp]; rfl
end Dfs

namespace Dfs
theorem visits_nil (kids : Nat → List Nat) (F : Nat) (o : List Nat) : visits kids F [] o = o := rfl
theorem next_in {kids : Nat → List Nat} {F x : Nat} {s o : List Nat} (h : x ∈ o) : visits kids F (x :: s) o = visits kids F s o := by
  rw [visits_cons, visit_in h]
section
variable {kids : Nat → List Nat} {n : Nat} (hk : ∀ i, i < n → ∀ j ∈ kids i, j < n)
include hk
theorem next_new {x : Nat} {s o : List Nat} (hx : x < n) (ho : Few n o) (h : x ∉ o) : visits kids (n + 1) (x :: s) o = visits kids (n + 1) (kids x ++ s) (o ++ [x]) := by
  have hs := ho.snoc hx h
  have hl := few_len n _ hs
  rw [visits_cons, visit_new h, visits_append, (visits_went hk n (kids x) (o ++ [x]) (hk x hx) hs (by simp)).2 (n + 1) (by omega)]
theorem next_at {x : Nat} {s o R : List Nat} (hx : x < n) (hs : ∀ y ∈ s, y < n) (ho : Few n o) (h : x ∉ o) (hR : visits kids (n + 1) (x :: s) o = R) : R[o.length]? = some x := by
  rw [next_new hk hx ho h] at hR
  have hw := (visits_went hk (n + 1) (kids x ++ s) (o ++ [x]) (fun j hj => by
    rcases List.mem_append.1 hj with hj | hj
    · exact hk x hx j hj
    · exact hs j hj) (ho.snoc hx h) (by omega)).1.pre
  rw [hR] at hw
  rw [pre_get hw (by simp)]
  simp
end
/-- how many kids those have that are not come to yet -/
def rest (kids : Nat → List Nat) (o : List Nat) : Nat → Nat
  | 0 => 0
  | n + 1 => rest kids o n + if n ∈ o then 0 else (kids n).length
theorem rest_over {kids : Nat → List Nat} {o : List Nat} {x : Nat} : ∀ n, n ≤ x → rest kids (o ++ [x]) n = rest kids o n
  | 0, _ => rfl
  | n + 1, h => by
    unfold rest
    rw [rest_over n (by omega)]
    have e : n ∈ o ++ [x] ↔ n ∈ o := by
      simp
      intro e; omega
    simp only [e]
theorem rest_snoc {kids : Nat → List Nat} {o : List Nat} {x : Nat} (hx : x ∉ o) : ∀ n, x < n → rest kids (o ++ [x]) n + (kids x).length = rest kids o n
  | 0, h => by omega
  | n + 1, h => by
    unfold rest
    by_cases e : n = x
    · subst e
      rw [rest_over n (Nat.le_refl _), if_pos (by simp), if_neg hx]
      omega
    · have ih := rest_snoc (kids := kids) hx n (by omega)
      have e2 : n ∈ o ++ [x] ↔ n ∈ o := by
        simp
        intro e3; exact absurd e3 e
      simp only [e2]
      omega
theorem rest_le {kids : Nat → List Nat} {o : List Nat} {m : Nat} : ∀ n, (∀ i, i < n → (kids i).length ≤ m) → rest kids o n ≤ n * m
  | 0, _ => by simp [rest]
  | n + 1, hm => by
    unfold rest
    have ih := rest_le (o := o) n fun i hi => hm i (by omega)
    have h := hm n (by omega)
    rw [Nat.succ_mul]
    split <;> omega
end Dfs

set_option maxRecDepth 100000
namespace Go.Proofs.YtepelpmkmhhokaaGreatDoor
open Go.RowKit Go.Shelf
open Scs Dfs
/-- what a right node's scalar is -/
theorem right_x {f : Fn} {n : Int} (h : rightF f n = true) : (f.k = 0 ∧ rightS f.x = true) ∨ ((f.k = 1 ∨ f.k = 2) ∧ f.x = nullS) := by
  rcases right_kind h with hk | hk | hk
  · refine .inl ⟨hk, ?_⟩
    unfold rightF at h
    rw [if_pos hk] at h
    unfold oneB at h
    simp only [List.all_cons, List.all_nil, id, Bool.and_eq_true, Bool.and_true] at h
    exact h.1
  · refine .inr ⟨.inl hk, ?_⟩
    unfold rightF at h
    rw [if_neg (by omega), if_pos hk] at h
    unfold seqB at h
    simp only [List.all_cons, List.all_nil, id, Bool.and_eq_true, Bool.and_true] at h
    exact of_decide_eq_true h.1
  · refine .inr ⟨.inr hk, ?_⟩
    unfold rightF at h
    rw [if_neg (by omega), if_neg (by omega), if_pos hk] at h
    unfold mapB at h
    simp only [List.all_cons, List.all_nil, id, Bool.and_eq_true, Bool.and_true] at h
    exact of_decide_eq_true h.1
theorem right_scalars {f : Fn} {n : Int} (h : rightF f n = true) (hk : f.k = 2) : ∀ x ∈ f.keys.toList, rightS x = true := by
  intro x hx
  unfold rightF at h
  rw [hk] at h
  have h2 : mapB f n = true := by simpa using h
  have hkb : keysB f = true := by
    unfold mapB at h2
    simp only [List.all_cons, List.all_nil, id, Bool.and_eq_true, Bool.and_true] at h2
    exact h2.2.2.1
  unfold keysB at hkb
  cases ha : (f.keys.toList.any fun x => !rightS x)
  · rw [List.any_eq_false] at ha
    have := ha x hx
    simpa using this
  · rw [ha, if_pos rfl] at hkb
    cases hkb
theorem one_right {f : Fn} {n : Int} (hk : f.k = 0) (hx : rightS f.x = true) (h1 : f.keys.size = 0) (h2 : f.kids.size = 0) : rightF f n = true := by
  unfold rightF oneB
  rw [if_pos hk, hx, decide_eq_true h1, decide_eq_true h2]
  rfl
theorem seq_right {f : Fn} {n : Int} (hk : f.k = 1) (hx : f.x = nullS) (h1 : f.keys.size = 0) (h2 : ∀ z ∈ f.kids.toList, 0 ≤ z ∧ z < n) : rightF f n = true := by
  unfold rightF seqB
  rw [if_neg (by omega), if_pos hk, decide_eq_true hx, decide_eq_true h1, nodesB_iff.2 h2]
  rfl
theorem map_right {f : Fn} {n : Int} (hk : f.k = 2) (hx : f.x = nullS) (h1 : f.keys.size = f.kids.size) (h2 : ∀ z ∈ f.kids.toList, 0 ≤ z ∧ z < n) (h3 : ∀ x ∈ f.keys.toList, rightS x = true) (h4 : f.keys.toList.Nodup) : rightF f n = true := by
  have ha : (f.keys.toList.any fun x => !rightS x) = false := by
    rw [List.any_eq_false]
    intro x hx
    simp [h3 x hx]
  have hkb : keysB f = true := by
    unfold keysB
    rw [ha, if_neg (by decide), twice_nodup h4]
    rfl
  unfold rightF mapB
  rw [if_neg (by omega), if_neg (by omega), if_pos hk, decide_eq_true hx, if_pos hk, decide_eq_true h1, hkb, nodesB_iff.2 h2]
  rfl
theorem keysOf_nodup {f : Fn} {n : Int} (h : rightF f n = true) : (keysOf f).Nodup := by
  by_cases hk : f.k = 2
  · rw [keysOf_map h hk]
    exact (sort_perm _).nodup_iff.2 (right_map h hk).2.1
  · rw [keysOf_no hk]; exact List.nodup_nil
/-- what stands in order is put in order as it stands -/
theorem insB_last {α : Type} (p : α → α → Bool) (x : α) : ∀ l : List α, (∀ y ∈ l, p x y = false) → insB p x l = l ++ [x]
  | [], _ => rfl
  | y :: t, h => by
    unfold insB
    rw [if_neg (by rw [h y (by simp)]; decide), insB_last p x t (fun z hz => h z (by simp [hz]))]
    rfl
theorem insBs_range (p : Nat → Nat → Bool) : ∀ n, (∀ a b, a < b → b < n → p b a = false) → insBs p (List.range n) = List.range n
  | 0, _ => rfl
  | n + 1, h => by
    rw [List.range_succ, insBs_snoc, insBs_range p n (fun a b hab hb => h a b hab (by omega))]
    exact insB_last p n _ fun y hy => h y n (List.mem_range.1 hy) (by omega)
/-- what the tidy graph has for a node, the walk being l -/
structure TidyF (f F : Fn) (l : List Nat) : Prop where
  k : F.k = f.k
  x : F.x = f.x
  keys : F.keys.toList = keysOf f
  kids : F.kids.toList = (kidsOf f).map fun z => ((idx l z.toNat : Nat) : Int)
theorem TidyF.order {f F : Fn} {l : List Nat} {n : Int} (h : TidyF f F l) (hR : rightF f n = true) : orderN F F.keys.size = List.range F.keys.size := by
  refine insBs_range _ _ fun a b hab hb => ?_
  have hb2 : b < (keysOf f).length := by rw [← h.keys, Array.length_toList]; exact hb
  have hr := keysOf_rise hR hab hb2
  have e : ∀ t, t < F.keys.size → F.keys[t]! = (keysOf f)[t]! := fun t ht => by
    have ht2 : t < (keysOf f).length := by rw [← h.keys, Array.length_toList]; exact ht
    rw [getElem!_pos F.keys t ht, getElem!_pos (keysOf f) t ht2]
    simp only [← h.keys, Array.getElem_toList]
  unfold pKey ltOf
  rw [e a (by omega), e b hb]
  have := cmp_swap (keysOf f)[b]! (keysOf f)[a]!
  exact decide_eq_false (by omega)
theorem TidyF.sizes {f F : Fn} {l : List Nat} {n : Int} (h : TidyF f F l) (hR : rightF f n = true) : F.kids.size = f.kids.size ∧ (f.k = 2 → F.keys.size = F.kids.size) ∧ (f.k ≠ 2 → F.keys.size = 0) := by
  have h1 : F.kids.size = f.kids.size := by rw [← Array.length_toList, h.kids, List.length_map, kidsOf_len hR]
  have h2 : F.keys.size = (keysOf f).length := by rw [← Array.length_toList, h.keys]
  refine ⟨h1, fun hk => ?_, fun hk => ?_⟩
  · rw [h2, h1, keysOf_len hR hk, kidsOf_len hR]
  · rw [h2, keysOf_no hk]; rfl
theorem TidyF.right {f F : Fn} {l : List Nat} {n : Int} (h : TidyF f F l) (hR : rightF f n = true) (hl : ∀ z ∈ kidsOf f, z.toNat ∈ l) : rightF F l.length = true := by
  obtain ⟨s1, s2, s3⟩ := h.sizes hR
  have hkids : ∀ z ∈ F.kids.toList, 0 ≤ z ∧ z < (l.length : Int) := by
    intro z hz
    rw [h.kids] at hz
    obtain ⟨y, hy, rfl⟩ := List.mem_map.1 hz
    have := (idx_lt (hl y hy)).1
    omega
  rcases right_x hR with ⟨hk, hx⟩ | ⟨hk | hk, hx⟩
  · exact one_right (h.k.trans hk) (by rw [h.x]; exact hx) (s3 (by omega)) (by rw [s1]; exact (right_one hR hk).2)
  · exact seq_right (h.k.trans hk) (h.x.trans hx) (s3 (by omega)) hkids
  · refine map_right (h.k.trans hk) (h.x.trans hx) (s2 hk) hkids (fun x hx => ?_) ?_
    · rw [h.keys, keysOf_map hR hk] at hx
      exact right_scalars hR hk x ((sort_perm _).mem_iff.1 hx)
    · rw [h.keys]; exact keysOf_nodup hR
theorem TidyF.paired {f F : Fn} {l : List Nat} {n : Int} (h : TidyF f F l) (hR : rightF f n = true) (hk : f.k = 2) : pairedB F = true := by
  unfold pairedB
  rw [if_pos (h.k.trans hk)]
  exact decide_eq_true ((h.sizes hR).2.1 hk)
theorem map_range {α : Type} [Inhabited α] (a : Array α) (n : Nat) (hn : a.size = n) : (List.range n).map (fun i => a[i]!) = a.toList := by
  subst hn
  refine List.ext_getElem (by simp) fun i h1 h2 => ?_
  have hi : i < a.size := by simpa using h1
  simp [getElem!_pos a i hi]
theorem TidyF.keysOf {f F : Fn} {l : List Nat} {n : Int} (h : TidyF f F l) (hR : rightF f n = true) : keysOf F = F.keys.toList := by
  by_cases hk : f.k = 2
  · rw [← orderN_keys (h.paired hR hk), h.order hR]
    exact map_range _ _ rfl
  · rw [keysOf_no (by rw [h.k]; exact hk), h.keys, keysOf_no hk]
theorem TidyF.kidsOf {f F : Fn} {l : List Nat} {n : Int} (h : TidyF f F l) (hR : rightF f n = true) : kidsOf F = F.kids.toList := by
  by_cases hk : f.k = 2
  · rw [← orderN_kids' (h.paired hR hk), h.order hR]
    exact map_range _ _ ((h.sizes hR).2.1 hk).symm
  · by_cases hk1 : f.k = 1
    · exact kidsOf_seq (h.k.trans hk1)
    · have hk0 : f.k = 0 := by rcases right_kind hR with h | h | h <;> omega
      rw [kidsOf_one (h.k.trans hk0), h.kids, kidsOf_one hk0]
      rfl
/-- a node's kids, as places -/
def KN (L : Array Fn) (i : Nat) : List Nat := (kidsOf L[i]!).map Int.toNat
theorem right_at {L : Array Fn} (hb : badFrom L.size L.toList 0 = none) {i : Nat} (hi : i < L.size) : rightF L[i]! L.size = true := by
  have := bad_none hb L[i]! (by rw [getElem!_pos L i hi]; exact Array.getElem_mem_toList hi)
  exact this
theorem KN_lt {L : Array Fn} (hb : badFrom L.size L.toList 0 = none) : ∀ i, i < L.size → ∀ j ∈ KN L i, j < L.size := by
  intro i hi j hj
  obtain ⟨z, hz, rfl⟩ := List.mem_map.1 hj
  have := kidsOf_mem (right_at hb hi) z hz
  omega
/-- the graph's walk -/
def wk (L : Array Fn) (root : Nat) : List Nat := walk (KN L) L.size root
theorem wk_lt {L : Array Fn} (hb : badFrom L.size L.toList 0 = none) {root : Nat} (hr : root < L.size) : ∀ x ∈ wk L root, x < L.size := (walk_went (KN_lt hb) hr).few.2
theorem wk_closed {L : Array Fn} (hb : badFrom L.size L.toList 0 = none) {root : Nat} (hr : root < L.size) : ∀ x ∈ wk L root, ∀ z ∈ kidsOf L[x]!, z.toNat ∈ wk L root :=
  fun x hx z hz => walk_closed (KN_lt hb) hr x hx z.toNat (List.mem_map.2 ⟨z, hz, rfl⟩)
theorem kidsOf_perm {f : Fn} {n : Int} (h : rightF f n = true) : (kidsOf f).Perm f.kids.toList := by
  rcases right_kind h with hk | hk | hk
  · have h2 := (right_one h hk).2
    rw [kidsOf_one hk, (List.length_eq_zero_iff.1 (by rw [Array.length_toList]; exact h2) : f.kids.toList = [])]
  · rw [kidsOf_seq hk]
  · rw [kidsOf_map h hk]
    have h1 := (sortedP_perm f).map (·.2)
    have h2 : (pairsL f (pairsN f)).map (·.2) = f.kids.toList := by
      have hs := (pairsN_map h hk).2
      have e : (pairsL f (pairsN f)).map (·.2) = (List.range (pairsN f)).map (fun i => f.kids[i]!) := by
        unfold pairsL
        rw [List.map_map]
        rfl
      rw [e]
      refine List.ext_getElem (by simp [hs]) fun i h1 h2 => ?_
      have hi : i < f.kids.size := by simpa using h2
      simp [getElem!_pos f.kids i hi]
    rwa [h2] at h1
/-- each node but the root is a kid of one that was come to before -/
theorem wk_from {L : Array Fn} (hb : badFrom L.size L.toList 0 = none) {root : Nat} (hr : root < L.size) {t x : Nat} (ht : 0 < t) (hx : (wk L root)[t]? = some x) : ∃ s k, s < t ∧ (wk L root)[s]? = some k ∧ x ∈ KN L k := by
  have hW := walk_went (KN_lt hb) hr
  rcases hW.from_ t x (Nat.zero_le _) hx with h | h
  · exfalso
    simp at h
    subst h
    obtain ⟨u, hu⟩ := walk_head (KN_lt hb) hr
    have hn := hW.few.1
    have hx' : (walk (KN L) L.size x)[t]? = some x := hx
    rw [hu] at hx' hn
    have h1 := idx_get hn hx'
    have h2 : idx (x :: u) x = 0 := by unfold idx; rw [if_pos rfl]
    omega
  · exact h
/-- what is walked to from a node that is walked to is walked to -/
theorem wk_less {L : Array Fn} (hb : badFrom L.size L.toList 0 = none) {root i : Nat} (hr : root < L.size) (hi : i ∈ wk L root) : ∀ y ∈ wk L i, y ∈ wk L root :=
  visit_within (S := fun x => x ∈ wk L root) (walk_closed (KN_lt hb) hr) (L.size + 1) i [] hi (fun _ h => by simp at h)
theorem wk_mem0 {L : Array Fn} (hb : badFrom L.size L.toList 0 = none) {root : Nat} (hr : root < L.size) : (wk L root)[0]? = some root := by
  obtain ⟨t, ht⟩ := walk_head (KN_lt hb) hr
  unfold wk
  rw [ht]
  rfl
/-- what is tidy of a graph, the walk being l -/
structure TidyG (L T : Array Fn) (l : List Nat) : Prop where
  size : T.size = l.length
  node : ∀ t, t < l.length → TidyF L[l[t]!]! T[t]! l
section
variable {L T : Array Fn} {root : Nat} (hb : badFrom L.size L.toList 0 = none) (hr : root < L.size) (hT : TidyG L T (wk L root))
include hb hr hT
theorem TidyG.at {t : Nat} (ht : t < T.size) : ∃ x, x ∈ wk L root ∧ idx (wk L root) x = t ∧ (wk L root)[t]! = x ∧ rightF L[x]! L.size = true ∧ TidyF L[x]! T[t]! (wk L root) := by
  have ht2 : t < (wk L root).length := by rw [← hT.size]; exact ht
  have hg : (wk L root)[t]? = some (wk L root)[t] := List.getElem?_eq_getElem ht2
  have hm : (wk L root)[t] ∈ wk L root := List.getElem_mem ht2
  have hn := hT.node t ht2
  rw [getElem!_pos (wk L root) t ht2] at hn
  exact ⟨(wk L root)[t], hm, idx_get (walk_went (KN_lt hb) hr).few.1 hg, getElem!_pos _ _ _, right_at hb (wk_lt hb hr _ hm), hn⟩
theorem TidyG.of_mem {x : Nat} (hx : x ∈ wk L root) : idx (wk L root) x < T.size ∧ rightF L[x]! L.size = true ∧ TidyF L[x]! T[idx (wk L root) x]! (wk L root) := by
  obtain ⟨h1, h2⟩ := idx_lt hx
  have hn := hT.node _ h1
  rw [getElem!_pos (wk L root) _ h1, (List.getElem?_eq_some_iff.1 h2).2] at hn
  exact ⟨by rw [hT.size]; exact h1, right_at hb (wk_lt hb hr _ hx), hn⟩
theorem TidyG.len : T.size ≤ L.size ∧ 0 < T.size := by
  obtain ⟨t, ht⟩ := walk_head (KN_lt hb) hr
  refine ⟨by rw [hT.size]; exact few_len _ _ (walk_went (KN_lt hb) hr).few, ?_⟩
  rw [hT.size]
  unfold wk
  rw [ht]
  simp
theorem TidyG.bad : badFrom T.size T.toList 0 = none := by
  refine bad_all fun f hf => ?_
  obtain ⟨t, ht, rfl⟩ := List.getElem_of_mem hf
  rw [Array.length_toList] at ht
  obtain ⟨x, hx, _, _, hR, hF⟩ := hT.at hb hr ht
  have h := hF.right hR (wk_closed hb hr x hx)
  rw [← hT.size, getElem!_pos T t ht] at h
  simpa using h
theorem TidyG.check (h2 : L.size ≤ 200) : checkG 0 T.toList = (0, 0) := by
  obtain ⟨h1, h3⟩ := hT.len hb hr
  have hbd := hT.bad hb hr
  unfold checkG
  rw [Array.length_toList, if_neg (by omega), plB_iff.2 ⟨by omega, by omega⟩, if_pos rfl, hbd]
theorem TidyG.kn {x : Nat} (hx : x ∈ wk L root) : KN T (idx (wk L root) x) = (KN L x).map (idx (wk L root)) := by
  obtain ⟨_, hR, hF⟩ := hT.of_mem hb hr hx
  unfold KN
  rw [hF.kidsOf hR, hF.kids, List.map_map, List.map_map]
  rfl
theorem TidyG.walk : wk T 0 = List.range T.size := by
  have h := walk_tidy (kids := KN L) (kids' := KN T) (KN_lt hb) hr fun x hx => hT.kn hb hr hx
  unfold wk
  rw [hT.size]
  exact h
omit hT in
theorem wk_root : idx (wk L root) root = 0 := by
  obtain ⟨t, ht⟩ := walk_head (KN_lt hb) hr
  unfold wk
  rw [ht]
  unfold idx
  rw [if_pos rfl]
omit hT in
theorem wk_mem : root ∈ wk L root := by
  obtain ⟨t, ht⟩ := walk_head (KN_lt hb) hr
  unfold wk
  rw [ht]
  simp
/-- a path leads in the tidy graph to the new place of the node to which it leads in the graph -/
theorem TidyG.path (l : List Int) : at_ (KN T) 0 l = (at_ (KN L) root l).map (idx (wk L root)) := by
  have h := at_map (kids := KN L) (kids' := KN T) (φ := idx (wk L root)) (S := fun x => x ∈ wk L root) (walk_closed (KN_lt hb) hr) (fun x hx => hT.kn hb hr hx) l root (wk_mem hb hr)
  rw [wk_root hb hr] at h
  exact h
end
theorem idx_range {m z : Nat} (h : z < m) : idx (List.range m) z = z := idx_get List.nodup_range (by rw [List.getElem?_range h])
theorem sameF_iff {f g : Fn} : sameF f g = true ↔ f.k = g.k ∧ f.x = g.x ∧ f.keys = g.keys ∧ f.kids = g.kids := by
  unfold sameF
  by_cases h1 : f.k = g.k
  · by_cases h2 : f.x = g.x
    · by_cases h3 : f.keys = g.keys
      · rw [if_pos h1, if_pos h2, if_pos h3]; simp [h1, h2, h3]
      · rw [if_pos h1, if_pos h2, if_neg h3]; simp [h3]
    · rw [if_pos h1, if_neg h2]; simp [h2]
  · rw [if_neg h1]; simp [h1]
/-- a tidy graph is its own tidy one -/
theorem TidyG.again {L T T' : Array Fn} {root : Nat} (hb : badFrom L.size L.toList 0 = none) (hr : root < L.size) (hT : TidyG L T (wk L root)) (hT' : TidyG T T' (wk T 0)) : sameNs T T' = true := by
  have hw := hT.walk hb hr
  have hs : T'.size = T.size := by rw [hT'.size, hw, List.length_range]
  unfold sameNs
  refine decide_eq_true ⟨hs.symm, fun t ht => sameF_iff.2 ?_⟩
  obtain ⟨x, hx, _, _, hR, hF⟩ := hT.at hb hr ht
  have hF' := hT'.node t (by rw [hw, List.length_range]; exact ht)
  rw [hw] at hF'
  have ht2 : t < (List.range T.size).length := by simpa using ht
  rw [getElem!_pos (List.range T.size) t ht2, List.getElem_range] at hF'
  refine ⟨hF'.k.symm, hF'.x.symm, ?_, ?_⟩
  · rw [← Array.toList_inj, hF'.keys, hF.keysOf hR]
  · rw [← Array.toList_inj, hF'.kids, hF.kidsOf hR]
    have hRT := hF.right hR (wk_closed hb hr x hx)
    rw [← hT.size] at hRT
    have : (T[t]!.kids.toList.map fun z => ((idx (List.range T.size) z.toNat : Nat) : Int)) = T[t]!.kids.toList.map id := by
      refine List.map_congr_left fun z hz => ?_
      have hz2 := right_kids hRT z hz
      rw [idx_range (by omega)]
      simp; omega
    rw [this, List.map_id]
end Go.Proofs.YtepelpmkmhhokaaGreatDoor
