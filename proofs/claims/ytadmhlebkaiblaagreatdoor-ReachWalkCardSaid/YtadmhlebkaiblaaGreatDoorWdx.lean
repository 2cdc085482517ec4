/- A walk through a graph, each node once, its kids in their order: what it comes to. Conditions: none; nothing of the program is named here. A walk that keeps what is next in a row comes to what the walk by recursion comes to. Conditions: none; nothing of the program is named here. -/
namespace Dfs
section
variable (kids : Nat → List Nat)
/-- what is come to, with all that is walked to from one -/
def visit : Nat → Nat → List Nat → List Nat
  | 0, _, o => o
  | f + 1, i, o => if i ∈ o then o else (kids i).foldl (fun o j => visit f j o) (o ++ [i])
/-- what is come to from some, one after the other -/
def visits (f : Nat) (js : List Nat) (o : List Nat) : List Nat := js.foldl (fun o j => visit kids f j o) o
end
/-- places below n, none twice -/
def Few (n : Nat) (o : List Nat) : Prop := o.Nodup ∧ ∀ x ∈ o, x < n
theorem few_len : ∀ (n : Nat) (o : List Nat), Few n o → o.length ≤ n
  | 0, o, h => by
    match o with
    | [] => exact Nat.le_refl _
    | x :: t => exact absurd (h.2 x (by simp)) (Nat.not_lt_zero _)
  | n + 1, o, h => by
    have he : Few n (o.erase n) := by
      refine ⟨h.1.erase n, fun x hx => ?_⟩
      have := (h.1.mem_erase_iff).1 hx
      have h2 := h.2 x this.2
      omega
    have ih := few_len n _ he
    by_cases hm : n ∈ o
    · rw [List.length_erase_of_mem hm] at ih
      omega
    · rw [List.erase_of_not_mem hm] at ih
      omega
theorem Few.snoc {n : Nat} {o : List Nat} {i : Nat} (h : Few n o) (hi : i < n) (hn : i ∉ o) : Few n (o ++ [i]) := by
  refine ⟨?_, fun x hx => ?_⟩
  · rw [List.nodup_append]
    refine ⟨h.1, by simp, fun a ha b hb e => ?_⟩
    simp at hb
    subst hb e
    exact hn ha
  · rcases List.mem_append.1 hx with hx | hx
    · exact h.2 x hx
    · simp at hx; omega
/-- what a walk keeps -/
structure Went (kids : Nat → List Nat) (n : Nat) (js o r : List Nat) : Prop where
  pre : o <+: r
  few : Few n r
  all : ∀ j ∈ js, j ∈ r
  closed : ∀ x ∈ r, x ∉ o → ∀ y ∈ kids x, y ∈ r
  from_ : ∀ t x, o.length ≤ t → r[t]? = some x → x ∈ js ∨ ∃ s k, s < t ∧ r[s]? = some k ∧ x ∈ kids k
theorem pre_get {o r : List Nat} (h : o <+: r) {t : Nat} (ht : t < o.length) : r[t]? = o[t]? := by
  obtain ⟨u, rfl⟩ := h
  rw [List.getElem?_append_left ht]
theorem Went.nil {kids : Nat → List Nat} {n : Nat} {o : List Nat} (h : Few n o) : Went kids n [] o o :=
  ⟨List.prefix_refl _, h, fun _ hj => by simp at hj, fun _ hx hn => absurd hx hn, fun t x ht he => by
    rw [List.getElem?_eq_none ht] at he; cases he⟩
theorem Went.trans {kids : Nat → List Nat} {n : Nat} {js ks o r q : List Nat} (h1 : Went kids n js o r) (h2 : Went kids n ks r q) : Went kids n (js ++ ks) o q := by
  refine ⟨h1.pre.trans h2.pre, h2.few, fun j hj => ?_, fun x hx hn y hy => ?_, fun t x ht he => ?_⟩
  · rcases List.mem_append.1 hj with hj | hj
    · exact h2.pre.subset (h1.all j hj)
    · exact h2.all j hj
  · by_cases hr : x ∈ r
    · exact h2.pre.subset (h1.closed x hr hn y hy)
    · exact h2.closed x hx hr y hy
  · by_cases hl : t < r.length
    · rw [pre_get h2.pre hl] at he
      rcases h1.from_ t x ht he with h | ⟨s, k, hs, hk, hx⟩
      · exact .inl (List.mem_append.2 (.inl h))
      · exact .inr ⟨s, k, hs, by rw [pre_get h2.pre (by omega)]; exact hk, hx⟩
    · rcases h2.from_ t x (by omega) he with h | h
      · exact .inl (List.mem_append.2 (.inr h))
      · exact .inr h
section
variable {kids : Nat → List Nat} {n : Nat} (hk : ∀ i, i < n → ∀ j ∈ kids i, j < n)
include hk
theorem visit_went : ∀ (f i : Nat) (o : List Nat), i < n → Few n o → n < f + o.length → Went kids n [i] o (visit kids f i o) ∧ ∀ g, f ≤ g → visit kids g i o = visit kids f i o
  | 0, i, o, hi, ho, hf => by
    have := few_len n o ho
    omega
  | f + 1, i, o, hi, ho, hf => by
    by_cases hm : i ∈ o
    · have e : ∀ g, f + 1 ≤ g → visit kids g i o = o := fun g hg => by
        obtain ⟨g, rfl⟩ : ∃ g', g = g' + 1 := ⟨g - 1, by omega⟩
        unfold visit
        rw [if_pos hm]
      rw [e (f + 1) (Nat.le_refl _)]
      refine ⟨⟨List.prefix_refl _, ho, fun j hj => by simp at hj; rw [hj]; exact hm, fun _ hx hn => absurd hx hn, fun t x ht he => by rw [List.getElem?_eq_none ht] at he; cases he⟩, fun g hg => e g hg⟩
    · have ho' := ho.snoc hi hm
      have hfold : ∀ (js : List Nat), (∀ j ∈ js, j < n) → ∀ o', Few n o' → n < f + o'.length → Went kids n js o' (visits kids f js o') ∧ ∀ g, f ≤ g → visits kids g js o' = visits kids f js o' := by
        intro js
        induction js with
        | nil => intro _ o' h' _; exact ⟨Went.nil h', fun g _ => rfl⟩
        | cons j t ih =>
          intro hj o' h' hf'
          obtain ⟨h1, e1⟩ := visit_went f j o' (hj j (by simp)) h' hf'
          have hl : o'.length ≤ (visit kids f j o').length := h1.pre.length_le
          obtain ⟨h2, e2⟩ := ih (fun x hx => hj x (by simp [hx])) (visit kids f j o') h1.few (by omega)
          refine ⟨?_, fun g hg => ?_⟩
          · have := h1.trans h2
            exact this
          · show visits kids g t (visit kids g j o') = visits kids f t (visit kids f j o')
            rw [e1 g hg, e2 g hg]
      obtain ⟨h1, e1⟩ := hfold (kids i) (hk i hi) (o ++ [i]) ho' (by simp; omega)
      have e0 : visit kids (f + 1) i o = visits kids f (kids i) (o ++ [i]) := by
        conv => lhs; unfold visit
        rw [if_neg hm]
        rfl
      rw [e0]
      refine ⟨⟨(List.prefix_append o [i]).trans h1.pre, h1.few, fun j hj => ?_, fun x hx hn y hy => ?_, fun t x ht he => ?_⟩, fun g hg => ?_⟩
      · simp at hj
        rw [hj]
        exact h1.pre.subset (by simp)
      · by_cases hx2 : x ∈ o ++ [i]
        · have hxi : x = i := by
            rcases List.mem_append.1 hx2 with h | h
            · exact absurd h hn
            · simpa using h
          subst hxi
          exact h1.all y hy
        · exact h1.closed x hx hx2 y hy
      · by_cases ht2 : t = o.length
        · subst ht2
          rw [pre_get h1.pre (by simp)] at he
          simp at he
          exact .inl (by simp [he])
        · rcases h1.from_ t x (by simp; omega) he with h | h
          · refine .inr ⟨o.length, i, by omega, ?_, h⟩
            rw [pre_get h1.pre (by simp)]
            simp
          · exact .inr h
      · obtain ⟨g, rfl⟩ : ∃ g', g = g' + 1 := ⟨g - 1, by omega⟩
        conv => lhs; unfold visit
        rw [if_neg hm]
        exact e1 g (by omega)
theorem visits_went (f : Nat) : ∀ (js o : List Nat), (∀ j ∈ js, j < n) → Few n o → n < f + o.length → Went kids n js o (visits kids f js o) ∧ ∀ g, f ≤ g → visits kids g js o = visits kids f js o
  | [], o, _, ho, _ => ⟨Went.nil ho, fun _ _ => rfl⟩
  | j :: t, o, hj, ho, hf => by
    obtain ⟨h1, e1⟩ := visit_went hk f j o (hj j (by simp)) ho hf
    have hl : o.length ≤ (visit kids f j o).length := h1.pre.length_le
    obtain ⟨h2, e2⟩ := visits_went f t (visit kids f j o) (fun x hx => hj x (by simp [hx])) h1.few (by omega)
    refine ⟨h1.trans h2, fun g hg => ?_⟩
    show visits kids g t (visit kids g j o) = visits kids f t (visit kids f j o)
    rw [e1 g hg, e2 g hg]
end
theorem visit_in {kids : Nat → List Nat} {f i : Nat} {o : List Nat} (h : i ∈ o) : visit kids f i o = o := by
  cases f with
  | zero => rfl
  | succ f => unfold visit; rw [if_pos h]
theorem visit_new {kids : Nat → List Nat} {f i : Nat} {o : List Nat} (h : i ∉ o) : visit kids (f + 1) i o = visits kids f (kids i) (o ++ [i]) := by
  conv => lhs; unfold visit
  rw [if_neg h]
  rfl
theorem visits_cons (kids : Nat → List Nat) (f j : Nat) (t o : List Nat) : visits kids f (j :: t) o = visits kids f t (visit kids f j o) := rfl
theorem visits_append (kids : Nat → List Nat) (f : Nat) (s t o : List Nat) : visits kids f (s ++ t) o = visits kids f t (visits kids f s o) := by simp [visits, List.foldl_append]
/-- the walk stays within what is closed -/
theorem visit_within {kids : Nat → List Nat} {S : Nat → Prop} (hS : ∀ x, S x → ∀ y ∈ kids x, S y) : ∀ (f i : Nat) (o : List Nat), S i → (∀ x ∈ o, S x) → ∀ x ∈ visit kids f i o, S x
  | 0, _, _, _, ho => ho
  | f + 1, i, o, hi, ho => by
    by_cases hm : i ∈ o
    · rw [visit_in hm]; exact ho
    · rw [visit_new hm]
      have : ∀ (js o : List Nat), (∀ j ∈ js, S j) → (∀ x ∈ o, S x) → ∀ x ∈ visits kids f js o, S x := by
        intro js
        induction js with
        | nil => intro o _ h; exact h
        | cons j t ih => intro o hj h; exact ih _ (fun x hx => hj x (by simp [hx])) (visit_within hS f j o (hj j (by simp)) h)
      refine this (kids i) (o ++ [i]) (hS i hi) fun x hx => ?_
      rcases List.mem_append.1 hx with hx | hx
      · exact ho x hx
      · simp at hx; rw [hx]; exact hi
/-- the walk under other names -/
theorem visit_map {kids kids' : Nat → List Nat} {φ : Nat → Nat} {S : Nat → Prop} (hS : ∀ x, S x → ∀ y ∈ kids x, S y) (hφ : ∀ x y, S x → S y → φ x = φ y → x = y) (hm : ∀ x, S x → kids' (φ x) = (kids x).map φ) :
    ∀ (f i : Nat) (o : List Nat), S i → (∀ x ∈ o, S x) → visit kids' f (φ i) (o.map φ) = (visit kids f i o).map φ
  | 0, _, _, _, _ => rfl
  | f + 1, i, o, hi, ho => by
    by_cases h : i ∈ o
    · rw [visit_in h, visit_in (List.mem_map.2 ⟨i, h, rfl⟩)]
    · have h' : φ i ∉ o.map φ := fun e => by
        obtain ⟨y, hy, e⟩ := List.mem_map.1 e
        exact h (hφ y i (ho y hy) hi e ▸ hy)
      rw [visit_new h, visit_new h', hm i hi]
      have : ∀ (js o : List Nat), (∀ j ∈ js, S j) → (∀ x ∈ o, S x) → visits kids' f (js.map φ) (o.map φ) = (visits kids f js o).map φ := by
        intro js
        induction js with
        | nil => intro o _ _; rfl
        | cons j t ih =>
          intro o hj h
          rw [List.map_cons, visits_cons, visits_cons, visit_map hS hφ hm f j o (hj j (by simp)) h]
          exact ih _ (fun x hx => hj x (by simp [hx])) (visit_within hS f j o (hj j (by simp)) h)
      have e := this (kids i) (o ++ [i]) (hS i hi) (fun x hx => by
        rcases List.mem_append.1 hx with hx | hx
        · exact ho x hx
        · simp at hx; rw [hx]; exact hi)
      rw [← e]
      simp
/-- the walk from a root -/
def walk (kids : Nat → List Nat) (n root : Nat) : List Nat := visit kids (n + 1) root []
theorem few_nil (n : Nat) : Few n [] := ⟨List.nodup_nil, fun _ h => by simp at h⟩
theorem walk_went {kids : Nat → List Nat} {n root : Nat} (hk : ∀ i, i < n → ∀ j ∈ kids i, j < n) (hr : root < n) : Went kids n [root] [] (walk kids n root) :=
  (visit_went hk (n + 1) root [] hr (few_nil n) (by simp)).1
theorem walk_head {kids : Nat → List Nat} {n root : Nat} (hk : ∀ i, i < n → ∀ j ∈ kids i, j < n) (hr : root < n) : ∃ t, walk kids n root = root :: t := by
  have h : [root] <+: walk kids n root := by
    unfold walk
    rw [visit_new (by simp)]
    have hs : Few n ([] ++ [root]) := (few_nil n).snoc hr (by simp)
    exact (visits_went hk n (kids root) ([] ++ [root]) (hk root hr) hs (by simp)).1.pre
  obtain ⟨t, ht⟩ := h
  exact ⟨t, ht.symm⟩
theorem walk_closed {kids : Nat → List Nat} {n root : Nat} (hk : ∀ i, i < n → ∀ j ∈ kids i, j < n) (hr : root < n) : ∀ x ∈ walk kids n root, ∀ y ∈ kids x, y ∈ walk kids n root :=
  fun x hx y hy => (walk_went hk hr).closed x hx (by simp) y hy
/-- the place of a number among some -/
def idx : List Nat → Nat → Nat
  | [], _ => 0
  | y :: t, x => if y = x then 0 else idx t x + 1
theorem idx_lt : ∀ {l : List Nat} {x : Nat}, x ∈ l → idx l x < l.length ∧ l[idx l x]? = some x
  | [], _, h => by simp at h
  | y :: t, x, h => by
    unfold idx
    by_cases e : y = x
    · rw [if_pos e]; simp [e]
    · rw [if_neg e]
      have hx : x ∈ t := by
        rcases List.mem_cons.1 h with h | h
        · exact absurd h.symm e
        · exact h
      obtain ⟨h1, h2⟩ := idx_lt hx
      exact ⟨by simp; omega, by simpa using h2⟩
theorem idx_inj {l : List Nat} {x y : Nat} (hx : x ∈ l) (hy : y ∈ l) (e : idx l x = idx l y) : x = y := by
  have h1 := (idx_lt hx).2
  have h2 := (idx_lt hy).2
  rw [e, h2] at h1
  exact (Option.some.inj h1).symm
theorem idx_get : ∀ {l : List Nat} {t x : Nat}, l.Nodup → l[t]? = some x → idx l x = t
  | [], _, _, _, h => by simp at h
  | y :: l, 0, x, _, h => by simp at h; unfold idx; rw [if_pos h]
  | y :: l, t + 1, x, hn, h => by
    have hn2 := List.nodup_cons.1 hn
    have h' : l[t]? = some x := by simpa using h
    have hx : x ∈ l := List.mem_of_getElem? h'
    unfold idx
    have hne : ¬ y = x := fun e => hn2.1 (by rw [e]; exact hx)
    rw [if_neg hne, idx_get hn2.2 h']
theorem map_idx {l : List Nat} (h : l.Nodup) : l.map (idx l) = List.range l.length := by
  refine List.ext_getElem (by simp) fun t h1 h2 => ?_
  have ht : t < l.length := by simpa using h1
  simp only [List.getElem_map, List.getElem_range]
  exact idx_get h (List.getElem?_eq_getElem ht)
/-- the walk through the tidy graph comes to places one by one -/
theorem walk_tidy {kids kids' : Nat → List Nat} {n root : Nat} (hk : ∀ i, i < n → ∀ j ∈ kids i, j < n) (hr : root < n)
    (hm : ∀ x, x ∈ walk kids n root → kids' (idx (walk kids n root) x) = (kids x).map (idx (walk kids n root))) :
    walk kids' (walk kids n root).length 0 = List.range (walk kids n root).length := by
  have hW := walk_went hk hr
  obtain ⟨t, ht⟩ := walk_head hk hr
  obtain ⟨l, hl⟩ : ∃ l, walk kids n root = l := ⟨_, rfl⟩
  have hcl := walk_closed hk hr
  rw [hl] at hW ht hcl hm ⊢
  have hroot : root ∈ l := by rw [ht]; simp
  have h0 : idx l root = 0 := by rw [ht]; unfold idx; rw [if_pos rfl]
  have h1 := visit_map (kids := kids) (kids' := kids') (φ := idx l) (S := fun x => x ∈ l) hcl (fun x y hx hy e => idx_inj hx hy e) hm (n + 1) root [] hroot (fun x hx => by simp at hx)
  rw [h0, show visit kids (n + 1) root [] = l from hl, map_idx hW.few.1] at h1
  have hk' : ∀ i, i < l.length → ∀ j ∈ kids' i, j < l.length := fun i hi j hj => by
    have hx : l[i]? = some l[i] := List.getElem?_eq_getElem hi
    have hxm : l[i] ∈ l := List.getElem_mem hi
    have e := hm l[i] hxm
    rw [idx_get hW.few.1 hx] at e
    rw [e] at hj
    obtain ⟨y, hy, rfl⟩ := List.mem_map.1 hj
    exact (idx_lt (hcl _ hxm y hy)).1
  have hlen := few_len n l hW.few
  have hpos : 0 < l.length := by rw [ht]; simp
  have h2 := (visit_went hk' (l.length + 1) 0 [] hpos (few_nil _) (by simp)).2 (n + 1) (by omega)
  unfold walk
  rw [← h2]
  exact h1
/-- where a path leads -/
def at_ (kids : Nat → List Nat) : Nat → List Int → Option Nat
  | i, [] => some i
  | i, p :: r => if 0 ≤ p ∧ p < (kids i).length then at_ kids ((kids i)[p.toNat]!) r else none
theorem at_snoc (kids : Nat → List Nat) (k : Int) : ∀ (l : List Int) (i : Nat), at_ kids i (l ++ [k]) = (at_ kids i l).bind fun a => if 0 ≤ k ∧ k < (kids a).length then some ((kids a)[k.toNat]!) else none
  | [], i => by
    rw [List.nil_append]
    simp only [at_, Option.bind]
  | p :: r, i => by
    rw [List.cons_append]
    unfold at_
    by_cases h : 0 ≤ p ∧ p < (kids i).length
    · rw [if_pos h, if_pos h, at_snoc kids k r]
    · rw [if_neg h, if_neg h]; rfl
theorem get_mem {l : List Nat} {p : Int} (h : 0 ≤ p ∧ p < l.length) : l[p.toNat]! ∈ l := by
  have hp : p.toNat < l.length := by omega
  rw [getElem!_pos l p.toNat hp]
  exact List.getElem_mem hp
theorem at_within {kids : Nat → List Nat} {S : Nat → Prop} (hS : ∀ x, S x → ∀ y ∈ kids x, S y) : ∀ (l : List Int) (i a : Nat), S i → at_ kids i l = some a → S a
  | [], i, a, hi, h => by cases h; exact hi
  | p :: r, i, a, hi, h => by
    unfold at_ at h
    by_cases hp : 0 ≤ p ∧ p < (kids i).length
    · rw [if_pos hp] at h
      exact at_within hS r _ a (hS i hi _ (get_mem hp)) h
    · rw [if_neg hp] at h; cases h
theorem at_map {kids kids' : Nat → List Nat} {φ : Nat → Nat} {S : Nat → Prop} (hS : ∀ x, S x → ∀ y ∈ kids x, S y) (hm : ∀ x, S x → kids' (φ x) = (kids x).map φ) : ∀ (l : List Int) (i : Nat), S i → at_ kids' (φ i) l = (at_ kids i l).map φ
  | [], _, _ => rfl
  | p :: r, i, hi => by
    unfold at_
    rw [hm i hi, List.length_map]
    by_cases hp : 0 ≤ p ∧ p < (kids i).length
    · rw [if_pos hp, if_pos hp]
      have hpl : p.toNat < (kids i).length := by omega
      have e : ((kids i).map φ)[p.toNat]! = φ ((kids i)[p.toNat]!) := by
        rw [getElem!_pos _ p.toNat (by simpa using hpl), getElem!_pos (kids i) p.toNat hpl, List.getElem_map]
      rw [e]
      exact at_map hS hm r _ (hS i hi _ (get_mem hp))
    · rw [if_neg hp, if_neg hp]; rfl
end Dfs

namespace Dfs
theorem visits_nil (kids : Nat → List Nat) (F : Nat) (o : List Nat) : visits kids F [] o = o := rfl
theorem next_in {kids : Nat → List Nat} {F x : Nat} {s o : List Nat} (h : x ∈ o) : visits kids F (x :: s) o = visits kids F s o := by
  rw [visits_cons, visit_in h]
section
variable {kids : Nat → List Nat} {n : Nat} (hk : ∀ i, i < n → ∀ j ∈ kids i, j < n)
include hk
theorem next_new {x : Nat} {s o : List Nat} (hx : x < n) (ho : Few n o) (h : x ∉ o) : visits kids (n + 1) (x :: s) o = visits kids (n + 1) (kids x ++ s) (o ++ [x]) := by
  have hs := ho.snoc hx h
  have hl := few_len n _ hs
  rw [visits_cons, visit_new h, visits_append, (visits_went hk n (kids x) (o ++ [x]) (hk x hx) hs (by simp)).2 (n + 1) (by omega)]
theorem next_at {x : Nat} {s o R : List Nat} (hx : x < n) (hs : ∀ y ∈ s, y < n) (ho : Few n o) (h : x ∉ o) (hR : visits kids (n + 1) (x :: s) o = R) : R[o.length]? = some x := by
  rw [next_new hk hx ho h] at hR
  have hw := (visits_went hk (n + 1) (kids x ++ s) (o ++ [x]) (fun j hj => by
    rcases List.mem_append.1 hj with hj | hj
    · exact hk x hx j hj
    · exact hs j hj) (ho.snoc hx h) (by omega)).1.pre
  rw [hR] at hw
  rw [pre_get hw (by simp)]
  simp
end
/-- how many kids those have that are not come to yet -/
def rest (kids : Nat → List Nat) (o : List Nat) : Nat → Nat
  | 0 => 0
  | n + 1 => rest kids o n + if n ∈ o then 0 else (kids n).length
theorem rest_over {kids : Nat → List Nat} {o : List Nat} {x : Nat} : ∀ n, n ≤ x → rest kids (o ++ [x]) n = rest kids o n
  | 0, _ => rfl
  | n + 1, h => by
    unfold rest
    rw [rest_over n (by omega)]
    have e : n ∈ o ++ [x] ↔ n ∈ o := by
      simp
      intro e; omega
    simp only [e]
theorem rest_snoc {kids : Nat → List Nat} {o : List Nat} {x : Nat} (hx : x ∉ o) : ∀ n, x < n → rest kids (o ++ [x]) n + (kids x).length = rest kids o n
  | 0, h => by omega
  | n + 1, h => by
    unfold rest
    by_cases e : n = x
    · subst e
      rw [rest_over n (Nat.le_refl _), if_pos (by simp), if_neg hx]
      omega
    · have ih := rest_snoc (kids := kids) hx n (by omega)
      have e2 : n ∈ o ++ [x] ↔ n ∈ o := by
        simp
        intro e3; exact absurd e3 e
      simp only [e2]
      omega
theorem rest_le {kids : Nat → List Nat} {o : List Nat} {m : Nat} : ∀ n, (∀ i, i < n → (kids i).length ≤ m) → rest kids o n ≤ n * m
  | 0, _ => by simp [rest]
  | n + 1, hm => by
    unfold rest
    have ih := rest_le (o := o) n fun i hi => hm i (by omega)
    have h := hm n (by omega)
    rw [Nat.succ_mul]
    split <;> omega
end Dfs
