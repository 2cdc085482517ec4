/- What a graph's tidy one is: its nodes are right, their keys and kids stand in order, its walk comes to places one by one. Conditions: none; nothing of the program is run here. -/
import Derived.Test.YtadmhlebkaiblaaGreatDoorLmx
import Derived.Test.YtadmhlebkaiblaaGreatDoorWdx
set_option maxRecDepth 100000
namespace Go.Proofs.YtadmhlebkaiblaaGreatDoor
open Go.RowKit Go.Shelf
open Scs Dfs
/-- what a right node's scalar is -/
theorem right_x {f : Fn} {n : Int} (h : rightF f n = true) : (f.k = 0 ∧ rightS f.x = true) ∨ ((f.k = 1 ∨ f.k = 2) ∧ f.x = nullS) := by
  rcases right_kind h with hk | hk | hk
  · refine .inl ⟨hk, ?_⟩
    unfold rightF at h
    rw [if_pos hk] at h
    unfold oneB at h
    simp only [List.all_cons, List.all_nil, id, Bool.and_eq_true, Bool.and_true] at h
    exact h.1
  · refine .inr ⟨.inl hk, ?_⟩
    unfold rightF at h
    rw [if_neg (by omega), if_pos hk] at h
    unfold seqB at h
    simp only [List.all_cons, List.all_nil, id, Bool.and_eq_true, Bool.and_true] at h
    exact of_decide_eq_true h.1
  · refine .inr ⟨.inr hk, ?_⟩
    unfold rightF at h
    rw [if_neg (by omega), if_neg (by omega), if_pos hk] at h
    unfold mapB at h
    simp only [List.all_cons, List.all_nil, id, Bool.and_eq_true, Bool.and_true] at h
    exact of_decide_eq_true h.1
theorem right_scalars {f : Fn} {n : Int} (h : rightF f n = true) (hk : f.k = 2) : ∀ x ∈ f.keys.toList, rightS x = true := by
  intro x hx
  unfold rightF at h
  rw [hk] at h
  have h2 : mapB f n = true := by simpa using h
  have hkb : keysB f = true := by
    unfold mapB at h2
    simp only [List.all_cons, List.all_nil, id, Bool.and_eq_true, Bool.and_true] at h2
    exact h2.2.2.1
  unfold keysB at hkb
  cases ha : (f.keys.toList.any fun x => !rightS x)
  · rw [List.any_eq_false] at ha
    have := ha x hx
    simpa using this
  · rw [ha, if_pos rfl] at hkb
    cases hkb
theorem one_right {f : Fn} {n : Int} (hk : f.k = 0) (hx : rightS f.x = true) (h1 : f.keys.size = 0) (h2 : f.kids.size = 0) : rightF f n = true := by
  unfold rightF oneB
  rw [if_pos hk, hx, decide_eq_true h1, decide_eq_true h2]
  rfl
theorem seq_right {f : Fn} {n : Int} (hk : f.k = 1) (hx : f.x = nullS) (h1 : f.keys.size = 0) (h2 : ∀ z ∈ f.kids.toList, 0 ≤ z ∧ z < n) : rightF f n = true := by
  unfold rightF seqB
  rw [if_neg (by omega), if_pos hk, decide_eq_true hx, decide_eq_true h1, nodesB_iff.2 h2]
  rfl
theorem map_right {f : Fn} {n : Int} (hk : f.k = 2) (hx : f.x = nullS) (h1 : f.keys.size = f.kids.size) (h2 : ∀ z ∈ f.kids.toList, 0 ≤ z ∧ z < n) (h3 : ∀ x ∈ f.keys.toList, rightS x = true) (h4 : f.keys.toList.Nodup) : rightF f n = true := by
  have ha : (f.keys.toList.any fun x => !rightS x) = false := by
    rw [List.any_eq_false]
    intro x hx
    simp [h3 x hx]
  have hkb : keysB f = true := by
    unfold keysB
    rw [ha, if_neg (by decide), twice_nodup h4]
    rfl
  unfold rightF mapB
  rw [if_neg (by omega), if_neg (by omega), if_pos hk, decide_eq_true hx, if_pos hk, decide_eq_true h1, hkb, nodesB_iff.2 h2]
  rfl
theorem keysOf_nodup {f : Fn} {n : Int} (h : rightF f n = true) : (keysOf f).Nodup := by
  by_cases hk : f.k = 2
  · rw [keysOf_map h hk]
    exact (sort_perm _).nodup_iff.2 (right_map h hk).2.1
  · rw [keysOf_no hk]; exact List.nodup_nil
/-- what stands in order is put in order as it stands -/
theorem insB_last {α : Type} (p : α → α → Bool) (x : α) : ∀ l : List α, (∀ y ∈ l, p x y = false) → insB p x l = l ++ [x]
  | [], _ => rfl
  | y :: t, h => by
    unfold insB
    rw [if_neg (by rw [h y (by simp)]; decide), insB_last p x t (fun z hz => h z (by simp [hz]))]
    rfl
theorem insBs_range (p : Nat → Nat → Bool) : ∀ n, (∀ a b, a < b → b < n → p b a = false) → insBs p (List.range n) = List.range n
  | 0, _ => rfl
  | n + 1, h => by
    rw [List.range_succ, insBs_snoc, insBs_range p n (fun a b hab hb => h a b hab (by omega))]
    exact insB_last p n _ fun y hy => h y n (List.mem_range.1 hy) (by omega)
/-- what the tidy graph has for a node, the walk being l -/
structure TidyF (f F : Fn) (l : List Nat) : Prop where
  k : F.k = f.k
  x : F.x = f.x
  keys : F.keys.toList = keysOf f
  kids : F.kids.toList = (kidsOf f).map fun z => ((idx l z.toNat : Nat) : Int)
theorem TidyF.order {f F : Fn} {l : List Nat} {n : Int} (h : TidyF f F l) (hR : rightF f n = true) : orderN F F.keys.size = List.range F.keys.size := by
  refine insBs_range _ _ fun a b hab hb => ?_
  have hb2 : b < (keysOf f).length := by rw [← h.keys, Array.length_toList]; exact hb
  have hr := keysOf_rise hR hab hb2
  have e : ∀ t, t < F.keys.size → F.keys[t]! = (keysOf f)[t]! := fun t ht => by
    have ht2 : t < (keysOf f).length := by rw [← h.keys, Array.length_toList]; exact ht
    rw [getElem!_pos F.keys t ht, getElem!_pos (keysOf f) t ht2]
    simp only [← h.keys, Array.getElem_toList]
  unfold pKey ltOf
  rw [e a (by omega), e b hb]
  have := cmp_swap (keysOf f)[b]! (keysOf f)[a]!
  exact decide_eq_false (by omega)
theorem TidyF.sizes {f F : Fn} {l : List Nat} {n : Int} (h : TidyF f F l) (hR : rightF f n = true) : F.kids.size = f.kids.size ∧ (f.k = 2 → F.keys.size = F.kids.size) ∧ (f.k ≠ 2 → F.keys.size = 0) := by
  have h1 : F.kids.size = f.kids.size := by rw [← Array.length_toList, h.kids, List.length_map, kidsOf_len hR]
  have h2 : F.keys.size = (keysOf f).length := by rw [← Array.length_toList, h.keys]
  refine ⟨h1, fun hk => ?_, fun hk => ?_⟩
  · rw [h2, h1, keysOf_len hR hk, kidsOf_len hR]
  · rw [h2, keysOf_no hk]; rfl
theorem TidyF.right {f F : Fn} {l : List Nat} {n : Int} (h : TidyF f F l) (hR : rightF f n = true) (hl : ∀ z ∈ kidsOf f, z.toNat ∈ l) : rightF F l.length = true := by
  obtain ⟨s1, s2, s3⟩ := h.sizes hR
  have hkids : ∀ z ∈ F.kids.toList, 0 ≤ z ∧ z < (l.length : Int) := by
    intro z hz
    rw [h.kids] at hz
    obtain ⟨y, hy, rfl⟩ := List.mem_map.1 hz
    have := (idx_lt (hl y hy)).1
    omega
  rcases right_x hR with ⟨hk, hx⟩ | ⟨hk | hk, hx⟩
  · exact one_right (h.k.trans hk) (by rw [h.x]; exact hx) (s3 (by omega)) (by rw [s1]; exact (right_one hR hk).2)
  · exact seq_right (h.k.trans hk) (h.x.trans hx) (s3 (by omega)) hkids
  · refine map_right (h.k.trans hk) (h.x.trans hx) (s2 hk) hkids (fun x hx => ?_) ?_
    · rw [h.keys, keysOf_map hR hk] at hx
      exact right_scalars hR hk x ((sort_perm _).mem_iff.1 hx)
    · rw [h.keys]; exact keysOf_nodup hR
theorem TidyF.paired {f F : Fn} {l : List Nat} {n : Int} (h : TidyF f F l) (hR : rightF f n = true) (hk : f.k = 2) : pairedB F = true := by
  unfold pairedB
  rw [if_pos (h.k.trans hk)]
  exact decide_eq_true ((h.sizes hR).2.1 hk)
theorem map_range {α : Type} [Inhabited α] (a : Array α) (n : Nat) (hn : a.size = n) : (List.range n).map (fun i => a[i]!) = a.toList := by
  subst hn
  refine List.ext_getElem (by simp) fun i h1 h2 => ?_
  have hi : i < a.size := by simpa using h1
  simp [getElem!_pos a i hi]
theorem TidyF.keysOf {f F : Fn} {l : List Nat} {n : Int} (h : TidyF f F l) (hR : rightF f n = true) : keysOf F = F.keys.toList := by
  by_cases hk : f.k = 2
  · rw [← orderN_keys (h.paired hR hk), h.order hR]
    exact map_range _ _ rfl
  · rw [keysOf_no (by rw [h.k]; exact hk), h.keys, keysOf_no hk]
theorem TidyF.kidsOf {f F : Fn} {l : List Nat} {n : Int} (h : TidyF f F l) (hR : rightF f n = true) : kidsOf F = F.kids.toList := by
  by_cases hk : f.k = 2
  · rw [← orderN_kids' (h.paired hR hk), h.order hR]
    exact map_range _ _ ((h.sizes hR).2.1 hk).symm
  · by_cases hk1 : f.k = 1
    · exact kidsOf_seq (h.k.trans hk1)
    · have hk0 : f.k = 0 := by rcases right_kind hR with h | h | h <;> omega
      rw [kidsOf_one (h.k.trans hk0), h.kids, kidsOf_one hk0]
      rfl
/-- a node's kids, as places -/
def KN (L : Array Fn) (i : Nat) : List Nat := (kidsOf L[i]!).map Int.toNat
theorem right_at {L : Array Fn} (hb : badFrom L.size L.toList 0 = none) {i : Nat} (hi : i < L.size) : rightF L[i]! L.size = true := by
  have := bad_none hb L[i]! (by rw [getElem!_pos L i hi]; exact Array.getElem_mem_toList hi)
  exact this
theorem KN_lt {L : Array Fn} (hb : badFrom L.size L.toList 0 = none) : ∀ i, i < L.size → ∀ j ∈ KN L i, j < L.size := by
  intro i hi j hj
  obtain ⟨z, hz, rfl⟩ := List.mem_map.1 hj
  have := kidsOf_mem (right_at hb hi) z hz
  omega
/-- the graph's walk -/
def wk (L : Array Fn) (root : Nat) : List Nat := walk (KN L) L.size root
theorem wk_lt {L : Array Fn} (hb : badFrom L.size L.toList 0 = none) {root : Nat} (hr : root < L.size) : ∀ x ∈ wk L root, x < L.size := (walk_went (KN_lt hb) hr).few.2
theorem wk_closed {L : Array Fn} (hb : badFrom L.size L.toList 0 = none) {root : Nat} (hr : root < L.size) : ∀ x ∈ wk L root, ∀ z ∈ kidsOf L[x]!, z.toNat ∈ wk L root :=
  fun x hx z hz => walk_closed (KN_lt hb) hr x hx z.toNat (List.mem_map.2 ⟨z, hz, rfl⟩)
theorem kidsOf_perm {f : Fn} {n : Int} (h : rightF f n = true) : (kidsOf f).Perm f.kids.toList := by
  rcases right_kind h with hk | hk | hk
  · have h2 := (right_one h hk).2
    rw [kidsOf_one hk, (List.length_eq_zero_iff.1 (by rw [Array.length_toList]; exact h2) : f.kids.toList = [])]
  · rw [kidsOf_seq hk]
  · rw [kidsOf_map h hk]
    have h1 := (sortedP_perm f).map (·.2)
    have h2 : (pairsL f (pairsN f)).map (·.2) = f.kids.toList := by
      have hs := (pairsN_map h hk).2
      have e : (pairsL f (pairsN f)).map (·.2) = (List.range (pairsN f)).map (fun i => f.kids[i]!) := by
        unfold pairsL
        rw [List.map_map]
        rfl
      rw [e]
      refine List.ext_getElem (by simp [hs]) fun i h1 h2 => ?_
      have hi : i < f.kids.size := by simpa using h2
      simp [getElem!_pos f.kids i hi]
    rwa [h2] at h1
/-- each node but the root is a kid of one that was come to before -/
theorem wk_from {L : Array Fn} (hb : badFrom L.size L.toList 0 = none) {root : Nat} (hr : root < L.size) {t x : Nat} (ht : 0 < t) (hx : (wk L root)[t]? = some x) : ∃ s k, s < t ∧ (wk L root)[s]? = some k ∧ x ∈ KN L k := by
  have hW := walk_went (KN_lt hb) hr
  rcases hW.from_ t x (Nat.zero_le _) hx with h | h
  · exfalso
    simp at h
    subst h
    obtain ⟨u, hu⟩ := walk_head (KN_lt hb) hr
    have hn := hW.few.1
    have hx' : (walk (KN L) L.size x)[t]? = some x := hx
    rw [hu] at hx' hn
    have h1 := idx_get hn hx'
    have h2 : idx (x :: u) x = 0 := by unfold idx; rw [if_pos rfl]
    omega
  · exact h
/-- what is walked to from a node that is walked to is walked to -/
theorem wk_less {L : Array Fn} (hb : badFrom L.size L.toList 0 = none) {root i : Nat} (hr : root < L.size) (hi : i ∈ wk L root) : ∀ y ∈ wk L i, y ∈ wk L root :=
  visit_within (S := fun x => x ∈ wk L root) (walk_closed (KN_lt hb) hr) (L.size + 1) i [] hi (fun _ h => by simp at h)
theorem wk_mem0 {L : Array Fn} (hb : badFrom L.size L.toList 0 = none) {root : Nat} (hr : root < L.size) : (wk L root)[0]? = some root := by
  obtain ⟨t, ht⟩ := walk_head (KN_lt hb) hr
  unfold wk
  rw [ht]
  rfl
/-- what is tidy of a graph, the walk being l -/
structure TidyG (L T : Array Fn) (l : List Nat) : Prop where
  size : T.size = l.length
  node : ∀ t, t < l.length → TidyF L[l[t]!]! T[t]! l
section
variable {L T : Array Fn} {root : Nat} (hb : badFrom L.size L.toList 0 = none) (hr : root < L.size) (hT : TidyG L T (wk L root))
include hb hr hT
theorem TidyG.at {t : Nat} (ht : t < T.size) : ∃ x, x ∈ wk L root ∧ idx (wk L root) x = t ∧ (wk L root)[t]! = x ∧ rightF L[x]! L.size = true ∧ TidyF L[x]! T[t]! (wk L root) := by
  have ht2 : t < (wk L root).length := by rw [← hT.size]; exact ht
  have hg : (wk L root)[t]? = some (wk L root)[t] := List.getElem?_eq_getElem ht2
  have hm : (wk L root)[t] ∈ wk L root := List.getElem_mem ht2
  have hn := hT.node t ht2
  rw [getElem!_pos (wk L root) t ht2] at hn
  exact ⟨(wk L root)[t], hm, idx_get (walk_went (KN_lt hb) hr).few.1 hg, getElem!_pos _ _ _, right_at hb (wk_lt hb hr _ hm), hn⟩
theorem TidyG.of_mem {x : Nat} (hx : x ∈ wk L root) : idx (wk L root) x < T.size ∧ rightF L[x]! L.size = true ∧ TidyF L[x]! T[idx (wk L root) x]! (wk L root) := by
  obtain ⟨h1, h2⟩ := idx_lt hx
  have hn := hT.node _ h1
  rw [getElem!_pos (wk L root) _ h1, (List.getElem?_eq_some_iff.1 h2).2] at hn
  exact ⟨by rw [hT.size]; exact h1, right_at hb (wk_lt hb hr _ hx), hn⟩
theorem TidyG.len : T.size ≤ L.size ∧ 0 < T.size := by
  obtain ⟨t, ht⟩ := walk_head (KN_lt hb) hr
  refine ⟨by rw [hT.size]; exact few_len _ _ (walk_went (KN_lt hb) hr).few, ?_⟩
  rw [hT.size]
  unfold wk
  rw [ht]
  simp
theorem TidyG.bad : badFrom T.size T.toList 0 = none := by
  refine bad_all fun f hf => ?_
  obtain ⟨t, ht, rfl⟩ := List.getElem_of_mem hf
  rw [Array.length_toList] at ht
  obtain ⟨x, hx, _, _, hR, hF⟩ := hT.at hb hr ht
  have h := hF.right hR (wk_closed hb hr x hx)
  rw [← hT.size, getElem!_pos T t ht] at h
  simpa using h
theorem TidyG.check (h2 : L.size ≤ 200) : checkG 0 T.toList = (0, 0) := by
  obtain ⟨h1, h3⟩ := hT.len hb hr
  have hbd := hT.bad hb hr
  unfold checkG
  rw [Array.length_toList, if_neg (by omega), plB_iff.2 ⟨by omega, by omega⟩, if_pos rfl, hbd]
theorem TidyG.kn {x : Nat} (hx : x ∈ wk L root) : KN T (idx (wk L root) x) = (KN L x).map (idx (wk L root)) := by
  obtain ⟨_, hR, hF⟩ := hT.of_mem hb hr hx
  unfold KN
  rw [hF.kidsOf hR, hF.kids, List.map_map, List.map_map]
  rfl
theorem TidyG.walk : wk T 0 = List.range T.size := by
  have h := walk_tidy (kids := KN L) (kids' := KN T) (KN_lt hb) hr fun x hx => hT.kn hb hr hx
  unfold wk
  rw [hT.size]
  exact h
omit hT in
theorem wk_root : idx (wk L root) root = 0 := by
  obtain ⟨t, ht⟩ := walk_head (KN_lt hb) hr
  unfold wk
  rw [ht]
  unfold idx
  rw [if_pos rfl]
omit hT in
theorem wk_mem : root ∈ wk L root := by
  obtain ⟨t, ht⟩ := walk_head (KN_lt hb) hr
  unfold wk
  rw [ht]
  simp
/-- a path leads in the tidy graph to the new place of the node to which it leads in the graph -/
theorem TidyG.path (l : List Int) : at_ (KN T) 0 l = (at_ (KN L) root l).map (idx (wk L root)) := by
  have h := at_map (kids := KN L) (kids' := KN T) (φ := idx (wk L root)) (S := fun x => x ∈ wk L root) (walk_closed (KN_lt hb) hr) (fun x hx => hT.kn hb hr hx) l root (wk_mem hb hr)
  rw [wk_root hb hr] at h
  exact h
end
theorem idx_range {m z : Nat} (h : z < m) : idx (List.range m) z = z := idx_get List.nodup_range (by rw [List.getElem?_range h])
theorem sameF_iff {f g : Fn} : sameF f g = true ↔ f.k = g.k ∧ f.x = g.x ∧ f.keys = g.keys ∧ f.kids = g.kids := by
  unfold sameF
  by_cases h1 : f.k = g.k
  · by_cases h2 : f.x = g.x
    · by_cases h3 : f.keys = g.keys
      · rw [if_pos h1, if_pos h2, if_pos h3]; simp [h1, h2, h3]
      · rw [if_pos h1, if_pos h2, if_neg h3]; simp [h3]
    · rw [if_pos h1, if_neg h2]; simp [h2]
  · rw [if_neg h1]; simp [h1]
/-- a tidy graph is its own tidy one -/
theorem TidyG.again {L T T' : Array Fn} {root : Nat} (hb : badFrom L.size L.toList 0 = none) (hr : root < L.size) (hT : TidyG L T (wk L root)) (hT' : TidyG T T' (wk T 0)) : sameNs T T' = true := by
  have hw := hT.walk hb hr
  have hs : T'.size = T.size := by rw [hT'.size, hw, List.length_range]
  unfold sameNs
  refine decide_eq_true ⟨hs.symm, fun t ht => sameF_iff.2 ?_⟩
  obtain ⟨x, hx, _, _, hR, hF⟩ := hT.at hb hr ht
  have hF' := hT'.node t (by rw [hw, List.length_range]; exact ht)
  rw [hw] at hF'
  have ht2 : t < (List.range T.size).length := by simpa using ht
  rw [getElem!_pos (List.range T.size) t ht2, List.getElem_range] at hF'
  refine ⟨hF'.k.symm, hF'.x.symm, ?_, ?_⟩
  · rw [← Array.toList_inj, hF'.keys, hF.keysOf hR]
  · rw [← Array.toList_inj, hF'.kids, hF.kidsOf hR]
    have hRT := hF.right hR (wk_closed hb hr x hx)
    rw [← hT.size] at hRT
    have : (T[t]!.kids.toList.map fun z => ((idx (List.range T.size) z.toNat : Nat) : Int)) = T[t]!.kids.toList.map id := by
      refine List.map_congr_left fun z hz => ?_
      have hz2 := right_kids hRT z hz
      rw [idx_range (by omega)]
      simp; omega
    rw [this, List.map_id]
end Go.Proofs.YtadmhlebkaiblaaGreatDoor
