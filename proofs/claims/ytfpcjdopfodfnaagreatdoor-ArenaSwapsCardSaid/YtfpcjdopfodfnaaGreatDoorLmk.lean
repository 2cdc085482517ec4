/- Of a right node: its keys rise, each kid lies under its key. Conditions: none. -/
import Derived.Test.YtfpcjdopfodfnaaGreatDoorLma
set_option maxRecDepth 100000
namespace Go.Proofs.YtfpcjdopfodfnaaGreatDoor
open Go.RowKit Go.Shelf
open Scs
theorem nodup_inj {l : List Sc} (h : l.Nodup) {i j : Nat} (hi : i < l.length) (hj : j < l.length) (e : l[i] = l[j]) : i = j := by
  have h2 := List.pairwise_iff_getElem.1 h
  rcases Nat.lt_trichotomy i j with hc | hc | hc
  · exact absurd e (h2 i j hi hj hc)
  · exact hc
  · exact absurd e.symm (h2 j i hj hi hc)
theorem paired_no {f : Fn} (hk : f.k ≠ 2) : pairedB f = false := by
  unfold pairedB
  rw [if_neg hk]
theorem sortedP_perm (f : Fn) : (sortedP f).Perm (pairsL f (pairsN f)) := by
  have := (insP_perm (pairsL f (pairsN f)).toArray).2
  simpa [sortedP] using this
theorem sortedP_pairwise (f : Fn) : (sortedP f).Pairwise fun a b => leSc a.1 b.1 = true := by
  have h := (Go.Sort.insertionSort_holds (lt := ltOf cmpP) swoP (pairsL f (pairsN f)).toArray 0 (pairsL f (pairsN f)).toArray.size (Nat.zero_le _) (Nat.le_refl _)).2
  have hs := (insP_perm (pairsL f (pairsN f)).toArray).1
  rw [List.pairwise_iff_getElem]
  intro i j hi hj hij
  unfold sortedP at hi hj ⊢
  rw [Array.length_toList] at hi hj
  have h1 := h i j (Nat.zero_le _) hij (by rw [← hs]; exact hj)
  have e : ∀ k (hk : k < (insP (pairsL f (pairsN f)).toArray).size), (Go.Sort.insertionSort (ltOf cmpP) (pairsL f (pairsN f)).toArray 0 (pairsL f (pairsN f)).toArray.size)[k]! = (insP (pairsL f (pairsN f)).toArray)[k] := fun k hk => getElem!_pos (insP (pairsL f (pairsN f)).toArray) k hk
  rw [e i hi, e j hj] at h1
  rw [Array.getElem_toList, Array.getElem_toList]
  have h2 : ltSc ((insP (pairsL f (pairsN f)).toArray)[j]).1 ((insP (pairsL f (pairsN f)).toArray)[i]).1 = false := by rw [← ltOf_cmp]; exact h1
  unfold leSc
  rw [h2]
  rfl
theorem pairsL_keys {f : Fn} (t : Nat) (h : t ≤ f.keys.size) : (pairsL f t).map (·.1) = f.keys.toList.take t := by
  refine List.ext_getElem (by simp [pairsL]; omega) fun i h1 h2 => ?_
  have hi : i < f.keys.size := by simp at h2; omega
  simp [pairsL, getElem!_pos f.keys i hi]
theorem sorted_keys {f : Fn} {n : Int} (h : rightF f n = true) (hk : f.k = 2) : (sortedP f).map (·.1) = keysOf f := by
  rw [keysOf_map h hk]
  refine sort_unique ?_ (List.pairwise_map.2 (sortedP_pairwise f))
  have hp := (sortedP_perm f).map (·.1)
  rw [pairsL_keys _ (by rw [(pairsN_map h hk).1]; exact Nat.le_refl _), (pairsN_map h hk).1, ← Array.length_toList, List.take_length] at hp
  exact hp
theorem under_pair {f : Fn} {n : Int} (h : rightF f n = true) (hk : f.k = 2) {x : Sc} {z : Int} (hm : (x, z) ∈ sortedP f) : underG f x = some z := by
  have hm2 := (sortedP_perm f).mem_iff.1 hm
  unfold pairsL at hm2
  obtain ⟨s, hs, hp⟩ := List.mem_map.1 hm2
  rw [List.mem_range] at hs
  have hx : f.keys[s]! = x := congrArg Prod.fst hp
  have hz : f.kids[s]! = z := congrArg Prod.snd hp
  have hsk : s < f.keys.size := by rw [← (pairsN_map h hk).1]; exact hs
  have hin : x ∈ f.keys.toList := by rw [← hx, getElem!_pos f.keys s hsk]; exact Array.getElem_mem_toList hsk
  have hsome := under_isSome (x := x) h hk
  rw [inB_iff.2 hin] at hsome
  obtain ⟨z', hz'⟩ := Option.isSome_iff_exists.1 hsome
  obtain ⟨s', hs', hp'⟩ := under_some hz'
  have hx' : f.keys[s']! = x := congrArg Prod.fst hp'
  have hzz : f.kids[s']! = z' := congrArg Prod.snd hp'
  have hsk' : s' < f.keys.size := by rw [← (pairsN_map h hk).1]; exact hs'
  have hss : s = s' := by
    rw [getElem!_pos f.keys s hsk] at hx
    rw [getElem!_pos f.keys s' hsk'] at hx'
    have hnd := (right_map h hk).2.1
    exact nodup_inj hnd (by simpa using hsk) (by simpa using hsk') (by simp [hx, hx'])
  subst hss
  rw [hz', ← hzz, hz]
theorem kidsOf_map {f : Fn} {n : Int} (h : rightF f n = true) (hk : f.k = 2) : kidsOf f = (sortedP f).map (·.2) := by
  unfold kidsOf pairedB
  rw [if_pos hk, if_pos (decide_eq_true (right_map h hk).1)]
  rfl
theorem kidsOf_seq {f : Fn} (hk : f.k = 1) : kidsOf f = f.kids.toList := by
  unfold kidsOf
  rw [paired_no (by omega), if_neg (by decide), if_pos hk]
theorem kidsOf_one {f : Fn} (hk : f.k = 0) : kidsOf f = [] := by
  unfold kidsOf
  rw [paired_no (by omega), if_neg (by decide), if_neg (by omega)]
theorem kidsOf_mem {f : Fn} {n : Int} (h : rightF f n = true) : ∀ z ∈ kidsOf f, 0 ≤ z ∧ z < n := by
  intro z hz
  rcases right_kind h with hk | hk | hk
  · rw [kidsOf_one hk] at hz; cases hz
  · rw [kidsOf_seq hk] at hz; exact right_kids h z hz
  · rw [kidsOf_map h hk] at hz
    obtain ⟨p, hp, rfl⟩ := List.mem_map.1 hz
    exact right_kids h _ (under_mem (under_pair h hk (x := p.1) (z := p.2) hp)).2
theorem kidsOf_len {f : Fn} {n : Int} (h : rightF f n = true) : (kidsOf f).length = f.kids.size := by
  rcases right_kind h with hk | hk | hk
  · rw [kidsOf_one hk, (right_one h hk).2]; rfl
  · rw [kidsOf_seq hk, Array.length_toList]
  · rw [kidsOf_map h hk, List.length_map, sortedP_len, (pairsN_map h hk).2]
theorem keysOf_len {f : Fn} {n : Int} (h : rightF f n = true) (hk : f.k = 2) : (keysOf f).length = (kidsOf f).length := by
  rw [← sorted_keys h hk, kidsOf_map h hk, List.length_map, List.length_map]
theorem keysOf_rise {f : Fn} {n : Int} (h : rightF f n = true) {a b : Nat} (hab : a < b) (hb : b < (keysOf f).length) : cmpSc (keysOf f)[a]! (keysOf f)[b]! < 0 := by
  have hk : f.k = 2 := by
    refine Classical.byContradiction fun hc => ?_
    rw [keysOf_no hc] at hb
    exact absurd hb (Nat.not_lt_zero _)
  have hs := keysOf_map h hk
  have hnd : (keysOf f).Nodup := by rw [hs]; exact (sort_perm _).nodup_iff.2 (right_map h hk).2.1
  have hpw : (keysOf f).Pairwise fun a b => leSc a b = true := by rw [hs]; exact sort_pairwise _
  have ha : a < (keysOf f).length := by omega
  have h1 := List.pairwise_iff_getElem.1 hpw a b ha hb hab
  rw [getElem!_pos _ a ha, getElem!_pos _ b hb]
  have h2 : (keysOf f)[a] ≠ (keysOf f)[b] := fun e => by
    have := nodup_inj hnd ha hb e
    omega
  unfold leSc at h1
  rw [Bool.not_eq_true'] at h1
  have h3 : ¬ 0 < cmpSc (keysOf f)[a] (keysOf f)[b] := fun c => by rw [cmp_pos.1 c] at h1; cases h1
  have h4 : cmpSc (keysOf f)[a] (keysOf f)[b] ≠ 0 := fun c => h2 (cmp_zero.1 c)
  omega
/-- under its key number t lies the kid number t -/
theorem keysOf_kid {f : Fn} {n : Int} (h : rightF f n = true) {t : Nat} (ht : t < (keysOf f).length) : t < (kidsOf f).length ∧ underG f (keysOf f)[t]! = some (kidsOf f)[t]! := by
  have hk : f.k = 2 := by
    refine Classical.byContradiction fun hc => ?_
    rw [keysOf_no hc] at ht
    exact absurd ht (Nat.not_lt_zero _)
  have h2 := keysOf_len h hk
  refine ⟨by omega, under_pair h hk ?_⟩
  have hl : t < (sortedP f).length := by rw [← sorted_keys h hk, List.length_map] at ht; exact ht
  have e1 : (keysOf f)[t]! = ((sortedP f)[t]).1 := by rw [getElem!_pos _ t ht]; simp [← sorted_keys h hk]
  have e2 : (kidsOf f)[t]! = ((sortedP f)[t]).2 := by rw [getElem!_pos _ t (by omega)]; simp [kidsOf_map h hk]
  rw [e1, e2]
  exact List.getElem_mem hl
end Go.Proofs.YtfpcjdopfodfnaaGreatDoor
