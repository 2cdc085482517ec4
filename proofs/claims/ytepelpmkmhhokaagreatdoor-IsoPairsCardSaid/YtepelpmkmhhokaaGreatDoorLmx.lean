/- Of a right graph: the keys of its nodes, what lies under them, the order of the kids. Conditions: none. Of a right node: its keys rise, each kid lies under its key. Conditions: none. The package's stable sort of pairs is the insertion of their places, one by one. Conditions: none. -/
import Derived.Test.YtepelpmkmhhokaaGreatDoorAcx
set_option maxRecDepth 100000
namespace Go.Proofs.YtepelpmkmhhokaaGreatDoor
open Go.RowKit Go.Shelf
open Scs
def inB (l : List Sc) (x : Sc) : Bool := l.any fun y => decide (y = x)
theorem inB_iff {l : List Sc} {x : Sc} : inB l x = true ↔ x ∈ l := by
  unfold inB
  simp
theorem bool_iff {a b : Bool} (h : a = true ↔ b = true) : a = b := by
  cases a <;> cases b <;> simp_all
theorem bad_none {n : Int} : ∀ {l : List Fn} {s : Nat}, badFrom n l s = none → ∀ f ∈ l, rightF f n = true
  | [], _, _, f, hf => by cases hf
  | g :: r, s, h, f, hf => by
    unfold badFrom at h
    cases hg : rightF g n
    · rw [hg, if_neg (by decide)] at h; cases h
    · rw [hg, if_pos rfl] at h
      rcases List.mem_cons.1 hf with rfl | hf
      · exact hg
      · exact bad_none h f hf
theorem bad_all {n : Int} : ∀ {l : List Fn} {s : Nat}, (∀ f ∈ l, rightF f n = true) → badFrom n l s = none
  | [], _, _ => rfl
  | g :: r, s, h => by
    unfold badFrom
    rw [h g (by simp), if_pos rfl]
    exact bad_all fun f hf => h f (by simp [hf])
theorem nodesB_iff {f : Fn} {n : Int} : nodesB f n = true ↔ ∀ z ∈ f.kids.toList, 0 ≤ z ∧ z < n := by
  unfold nodesB
  rw [Bool.not_eq_true', List.any_eq_false]
  constructor
  · intro h z hz
    have := h z hz
    exact plB_iff.1 (by simpa using this)
  · intro h z hz
    have := plB_iff.2 (h z hz)
    simp [this]
/-- a right map: as many keys as kids, no key twice, the kids are places -/
theorem right_map {f : Fn} {n : Int} (h : rightF f n = true) (hk : f.k = 2) : f.keys.size = f.kids.size ∧ f.keys.toList.Nodup ∧ (∀ z ∈ f.kids.toList, 0 ≤ z ∧ z < n) := by
  unfold rightF at h
  rw [if_neg (by omega), if_neg (by omega), if_pos hk] at h
  unfold mapB at h
  simp only [List.all_cons, List.all_nil, id, Bool.and_true, Bool.and_eq_true, if_pos hk, decide_eq_true_eq] at h
  obtain ⟨_, h1, h2, h3⟩ := h
  refine ⟨h1, ?_, nodesB_iff.1 h3⟩
  unfold keysB at h2
  split at h2
  · cases h2
  · refine Classical.not_not.1 fun hc => ?_
    rw [twice_iff.2 hc] at h2
    cases h2
theorem right_seq {f : Fn} {n : Int} (h : rightF f n = true) (hk : f.k = 1) : f.keys.size = 0 ∧ (∀ z ∈ f.kids.toList, 0 ≤ z ∧ z < n) := by
  unfold rightF at h
  rw [if_neg (by omega), if_pos hk] at h
  unfold seqB at h
  simp only [List.all_cons, List.all_nil, id, Bool.and_true, Bool.and_eq_true, decide_eq_true_eq] at h
  exact ⟨h.2.1, nodesB_iff.1 h.2.2⟩
theorem right_one {f : Fn} {n : Int} (h : rightF f n = true) (hk : f.k = 0) : f.keys.size = 0 ∧ f.kids.size = 0 := by
  unfold rightF at h
  rw [if_pos hk] at h
  unfold oneB at h
  simp only [List.all_cons, List.all_nil, id, Bool.and_true, Bool.and_eq_true, decide_eq_true_eq] at h
  exact h.2
theorem right_kind {f : Fn} {n : Int} (h : rightF f n = true) : f.k = 0 ∨ f.k = 1 ∨ f.k = 2 := by
  unfold rightF at h
  split at h
  · exact .inl ‹_›
  · split at h
    · exact .inr (.inl ‹_›)
    · split at h
      · exact .inr (.inr ‹_›)
      · cases h
theorem right_kids {f : Fn} {n : Int} (h : rightF f n = true) : ∀ z ∈ f.kids.toList, 0 ≤ z ∧ z < n := by
  rcases right_kind h with hk | hk | hk
  · have := (right_one h hk).2
    intro z hz
    rw [Array.eq_empty_of_size_eq_zero this] at hz
    cases hz
  · exact (right_seq h hk).2
  · exact (right_map h hk).2.2
theorem pairsN_map {f : Fn} {n : Int} (h : rightF f n = true) (hk : f.k = 2) : pairsN f = f.keys.size ∧ pairsN f = f.kids.size := by
  have := (right_map h hk).1
  unfold pairsN
  rw [if_pos hk, this, Nat.min_self]
  exact ⟨rfl, rfl⟩
theorem pairsN_no {f : Fn} (hk : f.k ≠ 2) : pairsN f = 0 := if_neg hk
theorem underFrom_some {f : Fn} {x : Sc} {z : Int} : ∀ {n t : Nat}, underFrom f x n t = some z → ∃ s, t ≤ s ∧ s < t + n ∧ pairAt f s = (x, z)
  | 0, t, h => by cases h
  | n + 1, t, h => by
    unfold underFrom at h
    split at h
    · rename_i hx
      injection h with h
      exact ⟨t, Nat.le_refl _, by omega, by rw [← hx, ← h]⟩
    · obtain ⟨s, h1, h2, h3⟩ := underFrom_some h
      exact ⟨s, by omega, by omega, h3⟩
theorem underFrom_none {f : Fn} {x : Sc} : ∀ {n t : Nat}, underFrom f x n t = none → ∀ s, t ≤ s → s < t + n → (pairAt f s).1 ≠ x
  | 0, t, _, s, h1, h2 => by omega
  | n + 1, t, h, s, h1, h2 => by
    unfold underFrom at h
    split at h
    · cases h
    · rename_i hx
      by_cases hs : s = t
      · rw [hs]; exact hx
      · exact underFrom_none h s (by omega) (by omega)
theorem under_some {f : Fn} {x : Sc} {z : Int} (h : underG f x = some z) : ∃ s, s < pairsN f ∧ pairAt f s = (x, z) := by
  obtain ⟨s, _, h2, h3⟩ := underFrom_some h
  exact ⟨s, by omega, h3⟩
theorem under_mem {f : Fn} {x : Sc} {z : Int} (h : underG f x = some z) : x ∈ f.keys.toList ∧ z ∈ f.kids.toList := by
  obtain ⟨s, hs, hp⟩ := under_some h
  unfold pairsN at hs
  split at hs
  · have h1 : s < f.keys.size := by omega
    have h2 : s < f.kids.size := by omega
    have e1 : f.keys[s]! = x := congrArg Prod.fst hp
    have e2 : f.kids[s]! = z := congrArg Prod.snd hp
    rw [← e1, ← e2, getElem!_pos f.keys s h1, getElem!_pos f.kids s h2]
    exact ⟨Array.getElem_mem_toList h1, Array.getElem_mem_toList h2⟩
  · omega
theorem under_isSome {f : Fn} {n : Int} {x : Sc} (h : rightF f n = true) (hk : f.k = 2) : (underG f x).isSome = inB f.keys.toList x := by
  cases hu : underG f x with
  | some z => exact (inB_iff.2 (under_mem hu).1).symm
  | none =>
    refine (Bool.eq_false_iff.2 fun hx => ?_).symm
    replace hx := inB_iff.1 hx
    obtain ⟨s, hs, he⟩ := List.mem_iff_getElem.1 hx
    have hs2 : s < f.keys.size := by simpa using hs
    refine underFrom_none hu s (Nat.zero_le _) (by rw [Nat.zero_add, (pairsN_map h hk).1]; exact hs2) ?_
    show f.keys[s]! = x
    rw [getElem!_pos f.keys s hs2, ← he]
    simp
theorem keysOf_no {f : Fn} (hk : f.k ≠ 2) : keysOf f = [] := by
  unfold keysOf pairedB
  rw [if_neg hk, if_neg (by decide)]
theorem keysOf_map {f : Fn} {n : Int} (h : rightF f n = true) (hk : f.k = 2) : keysOf f = sortSc f.keys.toList := by
  unfold keysOf pairedB
  rw [if_pos hk, if_pos (decide_eq_true (right_map h hk).1)]
/-- a key is found just if it is one of the map's, and what is found is a place -/
theorem finds_node {f : Fn} {n : Int} (h : rightF f n = true) (x : Sc) : (underR (underG f x)).2 = inB (keysOf f) x ∧ ((underR (underG f x)).2 = true ∨ (underR (underG f x)).1 = 0) ∧ (0 < n → 0 ≤ (underR (underG f x)).1 ∧ (underR (underG f x)).1 < n) := by
  by_cases hk : f.k = 2
  · have h1 := under_isSome (x := x) h hk
    have h2 : inB (keysOf f) x = inB f.keys.toList x := by
      rw [keysOf_map h hk]
      exact bool_iff (inB_iff.trans ((sort_perm _).mem_iff.trans inB_iff.symm))
    rw [h2, ← h1]
    cases hu : underG f x with
    | none => exact ⟨rfl, .inr rfl, fun hn => ⟨Int.le_refl _, hn⟩⟩
    | some z => exact ⟨rfl, .inl rfl, fun _ => right_kids h z (under_mem hu).2⟩
  · have hu : underG f x = none := by unfold underG; rw [pairsN_no hk]; rfl
    rw [hu, keysOf_no hk]
    exact ⟨rfl, .inr rfl, fun hn => ⟨Int.le_refl _, hn⟩⟩
theorem node_right {n : Nat} {L : List Fn} (hn : L.length = n) (hb : badFrom n L 0 = none) {i : Int} (hi : plB i n = true) {D : Array Fn} (hD : D.toList = L) : rightF D[i.toNat]! n = true := by
  subst hD
  obtain ⟨h0, h1⟩ := plB_iff.1 hi
  rw [Array.length_toList] at hn
  have hlt : i.toNat < D.size := by omega
  refine bad_none hb _ ?_
  rw [getElem!_pos D _ hlt]
  exact Array.getElem_mem_toList hlt
end Go.Proofs.YtepelpmkmhhokaaGreatDoor

set_option maxRecDepth 100000
namespace Go.Proofs.YtepelpmkmhhokaaGreatDoor
open Go.RowKit Go.Shelf
open Scs
theorem nodup_inj {l : List Sc} (h : l.Nodup) {i j : Nat} (hi : i < l.length) (hj : j < l.length) (e : l[i] = l[j]) : i = j := by
  have h2 := List.pairwise_iff_getElem.1 h
  rcases Nat.lt_trichotomy i j with hc | hc | hc
  · exact absurd e (h2 i j hi hj hc)
  · exact hc
  · exact absurd e.symm (h2 j i hj hi hc)
theorem paired_no {f : Fn} (hk : f.k ≠ 2) : pairedB f = false := by
  unfold pairedB
  rw [if_neg hk]
theorem sortedP_perm (f : Fn) : (sortedP f).Perm (pairsL f (pairsN f)) := by
  have := (insP_perm (pairsL f (pairsN f)).toArray).2
  simpa [sortedP] using this
theorem sortedP_pairwise (f : Fn) : (sortedP f).Pairwise fun a b => leSc a.1 b.1 = true := by
  have h := (Go.Sort.insertionSort_holds (lt := ltOf cmpP) swoP (pairsL f (pairsN f)).toArray 0 (pairsL f (pairsN f)).toArray.size (Nat.zero_le _) (Nat.le_refl _)).2
  have hs := (insP_perm (pairsL f (pairsN f)).toArray).1
  rw [List.pairwise_iff_getElem]
  intro i j hi hj hij
  unfold sortedP at hi hj ⊢
  rw [Array.length_toList] at hi hj
  have h1 := h i j (Nat.zero_le _) hij (by rw [← hs]; exact hj)
  have e : ∀ k (hk : k < (insP (pairsL f (pairsN f)).toArray).size), (Go.Sort.insertionSort (ltOf cmpP) (pairsL f (pairsN f)).toArray 0 (pairsL f (pairsN f)).toArray.size)[k]! = (insP (pairsL f (pairsN f)).toArray)[k] := fun k hk => getElem!_pos (insP (pairsL f (pairsN f)).toArray) k hk
  rw [e i hi, e j hj] at h1
  rw [Array.getElem_toList, Array.getElem_toList]
  have h2 : ltSc ((insP (pairsL f (pairsN f)).toArray)[j]).1 ((insP (pairsL f (pairsN f)).toArray)[i]).1 = false := by rw [← ltOf_cmp]; exact h1
  unfold leSc
  rw [h2]
  rfl
theorem pairsL_keys {f : Fn} (t : Nat) (h : t ≤ f.keys.size) : (pairsL f t).map (·.1) = f.keys.toList.take t := by
  refine List.ext_getElem (by simp [pairsL]; omega) fun i h1 h2 => ?_
  have hi : i < f.keys.size := by simp at h2; omega
  simp [pairsL, getElem!_pos f.keys i hi]
theorem sorted_keys {f : Fn} {n : Int} (h : rightF f n = true) (hk : f.k = 2) : (sortedP f).map (·.1) = keysOf f := by
  rw [keysOf_map h hk]
  refine sort_unique ?_ (List.pairwise_map.2 (sortedP_pairwise f))
  have hp := (sortedP_perm f).map (·.1)
  rw [pairsL_keys _ (by rw [(pairsN_map h hk).1]; exact Nat.le_refl _), (pairsN_map h hk).1, ← Array.length_toList, List.take_length] at hp
  exact hp
theorem under_pair {f : Fn} {n : Int} (h : rightF f n = true) (hk : f.k = 2) {x : Sc} {z : Int} (hm : (x, z) ∈ sortedP f) : underG f x = some z := by
  have hm2 := (sortedP_perm f).mem_iff.1 hm
  unfold pairsL at hm2
  obtain ⟨s, hs, hp⟩ := List.mem_map.1 hm2
  rw [List.mem_range] at hs
  have hx : f.keys[s]! = x := congrArg Prod.fst hp
  have hz : f.kids[s]! = z := congrArg Prod.snd hp
  have hsk : s < f.keys.size := by rw [← (pairsN_map h hk).1]; exact hs
  have hin : x ∈ f.keys.toList := by rw [← hx, getElem!_pos f.keys s hsk]; exact Array.getElem_mem_toList hsk
  have hsome := under_isSome (x := x) h hk
  rw [inB_iff.2 hin] at hsome
  obtain ⟨z', hz'⟩ := Option.isSome_iff_exists.1 hsome
  obtain ⟨s', hs', hp'⟩ := under_some hz'
  have hx' : f.keys[s']! = x := congrArg Prod.fst hp'
  have hzz : f.kids[s']! = z' := congrArg Prod.snd hp'
  have hsk' : s' < f.keys.size := by rw [← (pairsN_map h hk).1]; exact hs'
  have hss : s = s' := by
    rw [getElem!_pos f.keys s hsk] at hx
    rw [getElem!_pos f.keys s' hsk'] at hx'
    have hnd := (right_map h hk).2.1
    exact nodup_inj hnd (by simpa using hsk) (by simpa using hsk') (by simp [hx, hx'])
  subst hss
  rw [hz', ← hzz, hz]
theorem kidsOf_map {f : Fn} {n : Int} (h : rightF f n = true) (hk : f.k = 2) : kidsOf f = (sortedP f).map (·.2) := by
  unfold kidsOf pairedB
  rw [if_pos hk, if_pos (decide_eq_true (right_map h hk).1)]
  rfl
theorem kidsOf_seq {f : Fn} (hk : f.k = 1) : kidsOf f = f.kids.toList := by
  unfold kidsOf
  rw [paired_no (by omega), if_neg (by decide), if_pos hk]
theorem kidsOf_one {f : Fn} (hk : f.k = 0) : kidsOf f = [] := by
  unfold kidsOf
  rw [paired_no (by omega), if_neg (by decide), if_neg (by omega)]
theorem kidsOf_mem {f : Fn} {n : Int} (h : rightF f n = true) : ∀ z ∈ kidsOf f, 0 ≤ z ∧ z < n := by
  intro z hz
  rcases right_kind h with hk | hk | hk
  · rw [kidsOf_one hk] at hz; cases hz
  · rw [kidsOf_seq hk] at hz; exact right_kids h z hz
  · rw [kidsOf_map h hk] at hz
    obtain ⟨p, hp, rfl⟩ := List.mem_map.1 hz
    exact right_kids h _ (under_mem (under_pair h hk (x := p.1) (z := p.2) hp)).2
theorem kidsOf_len {f : Fn} {n : Int} (h : rightF f n = true) : (kidsOf f).length = f.kids.size := by
  rcases right_kind h with hk | hk | hk
  · rw [kidsOf_one hk, (right_one h hk).2]; rfl
  · rw [kidsOf_seq hk, Array.length_toList]
  · rw [kidsOf_map h hk, List.length_map, sortedP_len, (pairsN_map h hk).2]
theorem keysOf_len {f : Fn} {n : Int} (h : rightF f n = true) (hk : f.k = 2) : (keysOf f).length = (kidsOf f).length := by
  rw [← sorted_keys h hk, kidsOf_map h hk, List.length_map, List.length_map]
theorem keysOf_rise {f : Fn} {n : Int} (h : rightF f n = true) {a b : Nat} (hab : a < b) (hb : b < (keysOf f).length) : cmpSc (keysOf f)[a]! (keysOf f)[b]! < 0 := by
  have hk : f.k = 2 := by
    refine Classical.byContradiction fun hc => ?_
    rw [keysOf_no hc] at hb
    exact absurd hb (Nat.not_lt_zero _)
  have hs := keysOf_map h hk
  have hnd : (keysOf f).Nodup := by rw [hs]; exact (sort_perm _).nodup_iff.2 (right_map h hk).2.1
  have hpw : (keysOf f).Pairwise fun a b => leSc a b = true := by rw [hs]; exact sort_pairwise _
  have ha : a < (keysOf f).length := by omega
  have h1 := List.pairwise_iff_getElem.1 hpw a b ha hb hab
  rw [getElem!_pos _ a ha, getElem!_pos _ b hb]
  have h2 : (keysOf f)[a] ≠ (keysOf f)[b] := fun e => by
    have := nodup_inj hnd ha hb e
    omega
  unfold leSc at h1
  rw [Bool.not_eq_true'] at h1
  have h3 : ¬ 0 < cmpSc (keysOf f)[a] (keysOf f)[b] := fun c => by rw [cmp_pos.1 c] at h1; cases h1
  have h4 : cmpSc (keysOf f)[a] (keysOf f)[b] ≠ 0 := fun c => h2 (cmp_zero.1 c)
  omega
/-- under its key number t lies the kid number t -/
theorem keysOf_kid {f : Fn} {n : Int} (h : rightF f n = true) {t : Nat} (ht : t < (keysOf f).length) : t < (kidsOf f).length ∧ underG f (keysOf f)[t]! = some (kidsOf f)[t]! := by
  have hk : f.k = 2 := by
    refine Classical.byContradiction fun hc => ?_
    rw [keysOf_no hc] at ht
    exact absurd ht (Nat.not_lt_zero _)
  have h2 := keysOf_len h hk
  refine ⟨by omega, under_pair h hk ?_⟩
  have hl : t < (sortedP f).length := by rw [← sorted_keys h hk, List.length_map] at ht; exact ht
  have e1 : (keysOf f)[t]! = ((sortedP f)[t]).1 := by rw [getElem!_pos _ t ht]; simp [← sorted_keys h hk]
  have e2 : (kidsOf f)[t]! = ((sortedP f)[t]).2 := by rw [getElem!_pos _ t (by omega)]; simp [kidsOf_map h hk]
  rw [e1, e2]
  exact List.getElem_mem hl
end Go.Proofs.YtepelpmkmhhokaaGreatDoor

set_option maxRecDepth 100000
namespace Go.Proofs.YtepelpmkmhhokaaGreatDoor
open Go.RowKit Go.Shelf
open Scs
open Go.Sort (SWO swp insInner insOuter insertionSort)
section
variable {α β : Type}
/-- put in ahead of the first that is behind it -/
def insB (p : α → α → Bool) (x : α) : List α → List α
  | [] => [x]
  | y :: t => if p x y = true then x :: y :: t else y :: insB p x t
def insBs (p : α → α → Bool) (l : List α) : List α := l.foldl (fun o x => insB p x o) []
theorem insB_snoc {p : α → α → Bool} (hS : SWO p) (x y : α) : ∀ l : List α, (l ++ [y]).Pairwise (fun a b => p b a = false) → insB p x (l ++ [y]) = if p x y = true then insB p x l ++ [y] else l ++ [y] ++ [x]
  | [], _ => by
    rw [List.nil_append]
    unfold insB
    by_cases h : p x y = true
    · rw [if_pos h, if_pos h]; rfl
    · rw [if_neg h, if_neg h]; rfl
  | z :: t, hs => by
    rw [List.cons_append] at hs ⊢
    have hs2 := List.pairwise_cons.1 hs
    have hyz : p y z = false := hs2.1 y (by simp)
    have ih := insB_snoc hS x y t hs2.2
    unfold insB
    by_cases h : p x z = true
    · have hxy : p x y = true := by
        cases hc : p x y with
        | true => rfl
        | false => rw [hS.ntrans x y z hc hyz] at h; cases h
      rw [if_pos h, if_pos h, if_pos hxy]
      rfl
    · rw [if_neg h, if_neg h, ih]
      by_cases hxy : p x y = true
      · rw [if_pos hxy, if_pos hxy]; rfl
      · rw [if_neg hxy, if_neg hxy]; rfl
theorem insB_perm (p : α → α → Bool) (x : α) : ∀ l, (insB p x l).Perm (x :: l)
  | [] => .refl _
  | y :: t => by
    unfold insB
    by_cases h : p x y = true
    · rw [if_pos h]
    · rw [if_neg h]
      exact ((insB_perm p x t).cons y).trans (List.Perm.swap x y t)
theorem insB_len (p : α → α → Bool) (x : α) (l : List α) : (insB p x l).length = l.length + 1 := (insB_perm p x l).length_eq
theorem insB_sorted {p : α → α → Bool} (hS : SWO p) (x : α) : ∀ l, l.Pairwise (fun a b => p b a = false) → (insB p x l).Pairwise (fun a b => p b a = false)
  | [], _ => by simp [insB]
  | y :: t, hs => by
    have hs2 := List.pairwise_cons.1 hs
    unfold insB
    by_cases h : p x y = true
    · rw [if_pos h]
      have hyx : p y x = false := by
        cases hc : p y x with
        | false => rfl
        | true => have := hS.trans x y x h hc; rw [hS.irrefl] at this; cases this
      refine List.pairwise_cons.2 ⟨fun z hz => ?_, hs⟩
      rcases List.mem_cons.1 hz with rfl | hz
      · exact hyx
      · exact hS.ntrans z y x (hs2.1 z hz) hyx
    · rw [if_neg h]
      refine List.pairwise_cons.2 ⟨fun z hz => ?_, insB_sorted hS x t hs2.2⟩
      rcases List.mem_cons.1 ((insB_perm p x t).mem_iff.1 hz) with rfl | hz
      · simpa using h
      · exact hs2.1 z hz
variable [Inhabited α]
theorem swp_list (l r : List α) (y x : α) : (swp (l ++ y :: x :: r).toArray (l.length + 1) l.length).toList = l ++ x :: y :: r := by
  have e1 : (l ++ y :: x :: r).toArray[l.length]! = y := by simp
  have e2 : (l ++ y :: x :: r).toArray[l.length + 1]! = x := by simp
  unfold swp
  rw [e1, e2]
  simp
theorem insInner_list {p : α → α → Bool} (hS : SWO p) : ∀ (n : Nat) (l r : List α) (x : α), l.length = n → l.Pairwise (fun a b => p b a = false) → (insInner p 0 n (l ++ x :: r).toArray).toList = insB p x l ++ r
  | 0, l, r, x, hn, _ => by
    obtain rfl := List.length_eq_zero_iff.1 hn
    unfold insInner
    simp [insB]
  | n + 1, l, r, x, hn, hs => by
    rcases List.eq_nil_or_concat l with rfl | ⟨t, y, rfl⟩
    · simp at hn
    · rw [List.concat_eq_append] at hn hs ⊢
      have hl : t.length = n := by simp at hn; exact hn
      have e1 : (t ++ [y] ++ x :: r).toArray[n]! = y := by rw [← hl]; simp
      have e2 : (t ++ [y] ++ x :: r).toArray[n + 1]! = x := by rw [← hl]; simp
      unfold insInner
      rw [e1, e2, insB_snoc hS x y t hs]
      by_cases h : p x y = true
      · rw [if_pos (by simp [h]), if_pos h]
        have hw := swp_list t r y x
        have hk : (t ++ [y] ++ x :: r).toArray = (t ++ y :: x :: r).toArray := by simp
        have hq : swp (t ++ y :: x :: r).toArray (n + 1) n = (t ++ x :: y :: r).toArray := by rw [← Array.toList_inj, ← hl, hw]
        rw [hk, hq, insInner_list hS n t (y :: r) x hl (List.pairwise_append.1 hs).1]
        simp
      · rw [if_neg (by simp [h]), if_neg h]
        simp
theorem insOuter_list {p : α → α → Bool} (hS : SWO p) : ∀ (r l : List α) (n : Nat), n = l.length + r.length → l.Pairwise (fun a b => p b a = false) → (insOuter p 0 n l.length (l ++ r).toArray).toList = r.foldl (fun o x => insB p x o) l
  | [], l, n, hn, _ => by
    rw [insOuter, if_neg (by simp at hn; omega)]
    simp
  | x :: r, l, n, hn, hs => by
    rw [List.length_cons] at hn
    rw [insOuter, if_pos (by omega)]
    have h1 := insInner_list hS l.length l r x rfl hs
    have h2 : insInner p 0 l.length (l ++ x :: r).toArray = (insB p x l ++ r).toArray := by rw [← Array.toList_inj, h1]
    have h3 := insOuter_list hS r (insB p x l) n (by rw [insB_len]; omega) (insB_sorted hS x l hs)
    rw [insB_len] at h3
    rw [h2, h3, List.foldl_cons]
theorem insertion_list {p : α → α → Bool} (hS : SWO p) (l : List α) : (insertionSort p l.toArray 0 l.toArray.size).toList = insBs p l := by
  unfold insertionSort insBs
  match l with
  | [] => rw [insOuter, if_neg (by simp)]; rfl
  | x :: r =>
    have h := insOuter_list hS r [x] (x :: r).toArray.size (by simp; omega) (by simp)
    exact h
omit [Inhabited α] in
theorem insB_map (f : β → α) (p : α → α → Bool) (x : β) : ∀ l : List β, (insB (fun a b => p (f a) (f b)) x l).map f = insB p (f x) (l.map f)
  | [] => rfl
  | y :: t => by
    unfold insB
    rw [List.map_cons]
    by_cases h : p (f x) (f y) = true
    · rw [if_pos h]; simp [h]
    · rw [if_neg h, List.map_cons, insB_map f p x t]; simp [h]
omit [Inhabited α] in
theorem insBs_map (f : β → α) (p : α → α → Bool) (l : List β) : (insBs (fun a b => p (f a) (f b)) l).map f = insBs p (l.map f) := by
  have : ∀ (l o : List β), (l.foldl (fun o x => insB (fun a b => p (f a) (f b)) x o) o).map f = (l.map f).foldl (fun o x => insB p x o) (o.map f) := by
    intro l
    induction l with
    | nil => intro o; rfl
    | cons x t ih => intro o; rw [List.foldl_cons, ih, List.map_cons, List.foldl_cons, insB_map]
  exact this l []
omit [Inhabited α] in
theorem insBs_perm (p : α → α → Bool) (l : List α) : (insBs p l).Perm l := by
  have : ∀ (l o : List α), (l.foldl (fun o x => insB p x o) o).Perm (o ++ l) := by
    intro l
    induction l with
    | nil => intro o; simp
    | cons x t ih =>
      intro o
      rw [List.foldl_cons]
      exact (ih (insB p x o)).trans ((((insB_perm p x o).append_right t)).trans (by simpa using (List.perm_middle (a := x) (l₁ := o) (l₂ := t)).symm))
  simpa [insBs] using this l []
omit [Inhabited α] in
theorem insBs_snoc (p : α → α → Bool) (l : List α) (x : α) : insBs p (l ++ [x]) = insB p x (insBs p l) := by simp [insBs]
/-- the reference's round: what is gathered, and whether it is put in -/
def insT (p : α → α → Bool) (x : α) (q : List α × Bool) (y : α) : List α × Bool := if q.2 = false ∧ p x y = true then (q.1 ++ [x] ++ [y], true) else (q.1 ++ [y], q.2)
def insE (x : α) (r : List α × Bool) : List α := if r.2 = true then r.1 else r.1 ++ [x]
def insJ (p : α → α → Bool) (x : α) (L : List α) (j : Nat) : List α × Bool := (L.take j).foldl (insT p x) ([], false)
omit [Inhabited α] in
theorem insE_true (p : α → α → Bool) (x : α) : ∀ (L acc : List α), insE x (L.foldl (insT p x) (acc, true)) = acc ++ L
  | [], acc => by simp [insE]
  | y :: t, acc => by
    rw [List.foldl_cons, show insT p x (acc, true) y = (acc ++ [y], true) by simp [insT], insE_true p x t]
    simp
omit [Inhabited α] in
theorem insE_false (p : α → α → Bool) (x : α) : ∀ (L acc : List α), insE x (L.foldl (insT p x) (acc, false)) = acc ++ insB p x L
  | [], acc => by simp [insE, insB]
  | y :: t, acc => by
    rw [List.foldl_cons]
    unfold insB
    by_cases h : p x y = true
    · rw [show insT p x (acc, false) y = (acc ++ [x] ++ [y], true) by simp [insT, h], insE_true, if_pos h]
      simp
    · rw [show insT p x (acc, false) y = (acc ++ [y], false) by simp [insT, h], insE_false p x t, if_neg h]
      simp
omit [Inhabited α] in
theorem insJ_len (p : α → α → Bool) (x : α) (L : List α) : insE x (insJ p x L L.length) = insB p x L := by
  unfold insJ
  rw [List.take_length, insE_false]
  rfl
theorem insJ_succ (p : α → α → Bool) (x : α) (L : List α) (j : Nat) (hj : j < L.length) : insJ p x L (j + 1) = insT p x (insJ p x L j) L[j]! := by
  unfold insJ
  rw [List.take_add_one, List.getElem?_eq_getElem hj, List.foldl_append, getElem!_pos L j hj]
  rfl
theorem insJ_size (p : α → α → Bool) (x : α) (L : List α) : ∀ j, j ≤ L.length → (insJ p x L j).1.length ≤ j + 1 ∧ ((insJ p x L j).2 = false → (insJ p x L j).1.length = j)
  | 0, _ => by simp [insJ]
  | j + 1, hj => by
    obtain ⟨h1, h2⟩ := insJ_size p x L j (by omega)
    rw [insJ_succ p x L j (by omega)]
    unfold insT
    by_cases h : (insJ p x L j).2 = false ∧ p x L[j]! = true
    · rw [if_pos h]
      have := h2 h.1
      simp [this]
    · rw [if_neg h]
      refine ⟨by simp; omega, fun hf => ?_⟩
      have := h2 hf
      simp [this]
omit [Inhabited α] in
theorem insT_n {p : α → α → Bool} {x y : α} {A : List α} (h : p x y = false) : insT p x (A, false) y = (A ++ [y], false) := by simp [insT, h]
omit [Inhabited α] in
theorem insT_y {p : α → α → Bool} {x y : α} {A : List α} (h : p x y = true) : insT p x (A, false) y = (A ++ [x] ++ [y], true) := by simp [insT, h]
end
/-- which of two places has the key that is ahead -/
def pKey (f : Fn) (a b : Nat) : Bool := ltOf cmpSc f.keys[a]! f.keys[b]!
/-- the places of the first keys, in their order -/
def orderN (f : Fn) (n : Nat) : List Nat := insBs (pKey f) (List.range n)
theorem orderN_perm (f : Fn) (n : Nat) : (orderN f n).Perm (List.range n) := insBs_perm _ _
theorem orderN_len (f : Fn) (n : Nat) : (orderN f n).length = n := by rw [(orderN_perm f n).length_eq, List.length_range]
theorem orderN_lt (f : Fn) (n : Nat) : ∀ i ∈ orderN f n, i < n := fun _ hi => List.mem_range.1 ((orderN_perm f n).mem_iff.1 hi)
theorem orderN_succ (f : Fn) (n : Nat) : orderN f (n + 1) = insB (pKey f) n (orderN f n) := by unfold orderN; rw [List.range_succ, insBs_snoc]
theorem orderN_pairs (f : Fn) : (orderN f (pairsN f)).map (pairAt f) = sortedP f := by
  have h := insBs_map (pairAt f) (ltOf cmpP) (List.range (pairsN f))
  have h2 := insertion_list (p := ltOf cmpP) swoP (pairsL f (pairsN f))
  unfold sortedP insP
  rw [h2]
  exact h
theorem orderN_kids (f : Fn) : (orderN f (pairsN f)).map (fun i => f.kids[i]!) = sortedKids f := by
  unfold sortedKids
  rw [← orderN_pairs, List.map_map]
  rfl
theorem paired_n {f : Fn} (h : pairedB f = true) : f.k = 2 ∧ f.keys.size = f.kids.size ∧ pairsN f = f.keys.size := by
  unfold pairedB at h
  split at h
  · rename_i hk
    have h2 := of_decide_eq_true h
    refine ⟨hk, h2, ?_⟩
    unfold pairsN
    rw [if_pos hk]
    omega
  · cases h
theorem orderN_keys {f : Fn} (h : pairedB f = true) : (orderN f f.keys.size).map (fun i => f.keys[i]!) = keysOf f := by
  obtain ⟨_, _, h3⟩ := paired_n h
  have e : (orderN f f.keys.size).map (fun i => f.keys[i]!) = (sortedP f).map (·.1) := by
    rw [← orderN_pairs, h3, List.map_map]
    rfl
  rw [e]
  unfold keysOf
  rw [if_pos h]
  refine sort_unique ?_ (List.pairwise_map.2 (sortedP_pairwise f))
  have hp := (sortedP_perm f).map (·.1)
  rw [pairsL_keys _ (by rw [h3]; exact Nat.le_refl _), h3, ← Array.length_toList, List.take_length] at hp
  exact hp
theorem orderN_kids' {f : Fn} (h : pairedB f = true) : (orderN f f.keys.size).map (fun i => f.kids[i]!) = kidsOf f := by
  obtain ⟨_, _, h3⟩ := paired_n h
  rw [← h3, orderN_kids]
  unfold kidsOf
  rw [if_pos h]
end Go.Proofs.YtepelpmkmhhokaaGreatDoor
