/- Of a right graph: the keys of its nodes, what lies under them, the order of the kids. Conditions: none. -/
import Derived.Test.YtfpcjdopfodfnaaGreatDoorLro
set_option maxRecDepth 100000
namespace Go.Proofs.YtfpcjdopfodfnaaGreatDoor
open Go.RowKit Go.Shelf
open Scs
def inB (l : List Sc) (x : Sc) : Bool := l.any fun y => decide (y = x)
theorem inB_iff {l : List Sc} {x : Sc} : inB l x = true ↔ x ∈ l := by
  unfold inB
  simp
theorem bool_iff {a b : Bool} (h : a = true ↔ b = true) : a = b := by
  cases a <;> cases b <;> simp_all
theorem bad_none {n : Int} : ∀ {l : List Fn} {s : Nat}, badFrom n l s = none → ∀ f ∈ l, rightF f n = true
  | [], _, _, f, hf => by cases hf
  | g :: r, s, h, f, hf => by
    unfold badFrom at h
    cases hg : rightF g n
    · rw [hg, if_neg (by decide)] at h; cases h
    · rw [hg, if_pos rfl] at h
      rcases List.mem_cons.1 hf with rfl | hf
      · exact hg
      · exact bad_none h f hf
theorem bad_all {n : Int} : ∀ {l : List Fn} {s : Nat}, (∀ f ∈ l, rightF f n = true) → badFrom n l s = none
  | [], _, _ => rfl
  | g :: r, s, h => by
    unfold badFrom
    rw [h g (by simp), if_pos rfl]
    exact bad_all fun f hf => h f (by simp [hf])
theorem nodesB_iff {f : Fn} {n : Int} : nodesB f n = true ↔ ∀ z ∈ f.kids.toList, 0 ≤ z ∧ z < n := by
  unfold nodesB
  rw [Bool.not_eq_true', List.any_eq_false]
  constructor
  · intro h z hz
    have := h z hz
    exact plB_iff.1 (by simpa using this)
  · intro h z hz
    have := plB_iff.2 (h z hz)
    simp [this]
/-- a right map: as many keys as kids, no key twice, the kids are places -/
theorem right_map {f : Fn} {n : Int} (h : rightF f n = true) (hk : f.k = 2) : f.keys.size = f.kids.size ∧ f.keys.toList.Nodup ∧ (∀ z ∈ f.kids.toList, 0 ≤ z ∧ z < n) := by
  unfold rightF at h
  rw [if_neg (by omega), if_neg (by omega), if_pos hk] at h
  unfold mapB at h
  simp only [List.all_cons, List.all_nil, id, Bool.and_true, Bool.and_eq_true, if_pos hk, decide_eq_true_eq] at h
  obtain ⟨_, h1, h2, h3⟩ := h
  refine ⟨h1, ?_, nodesB_iff.1 h3⟩
  unfold keysB at h2
  split at h2
  · cases h2
  · refine Classical.not_not.1 fun hc => ?_
    rw [twice_iff.2 hc] at h2
    cases h2
theorem right_seq {f : Fn} {n : Int} (h : rightF f n = true) (hk : f.k = 1) : f.keys.size = 0 ∧ (∀ z ∈ f.kids.toList, 0 ≤ z ∧ z < n) := by
  unfold rightF at h
  rw [if_neg (by omega), if_pos hk] at h
  unfold seqB at h
  simp only [List.all_cons, List.all_nil, id, Bool.and_true, Bool.and_eq_true, decide_eq_true_eq] at h
  exact ⟨h.2.1, nodesB_iff.1 h.2.2⟩
theorem right_one {f : Fn} {n : Int} (h : rightF f n = true) (hk : f.k = 0) : f.keys.size = 0 ∧ f.kids.size = 0 := by
  unfold rightF at h
  rw [if_pos hk] at h
  unfold oneB at h
  simp only [List.all_cons, List.all_nil, id, Bool.and_true, Bool.and_eq_true, decide_eq_true_eq] at h
  exact h.2
theorem right_kind {f : Fn} {n : Int} (h : rightF f n = true) : f.k = 0 ∨ f.k = 1 ∨ f.k = 2 := by
  unfold rightF at h
  split at h
  · exact .inl ‹_›
  · split at h
    · exact .inr (.inl ‹_›)
    · split at h
      · exact .inr (.inr ‹_›)
      · cases h
theorem right_kids {f : Fn} {n : Int} (h : rightF f n = true) : ∀ z ∈ f.kids.toList, 0 ≤ z ∧ z < n := by
  rcases right_kind h with hk | hk | hk
  · have := (right_one h hk).2
    intro z hz
    rw [Array.eq_empty_of_size_eq_zero this] at hz
    cases hz
  · exact (right_seq h hk).2
  · exact (right_map h hk).2.2
theorem pairsN_map {f : Fn} {n : Int} (h : rightF f n = true) (hk : f.k = 2) : pairsN f = f.keys.size ∧ pairsN f = f.kids.size := by
  have := (right_map h hk).1
  unfold pairsN
  rw [if_pos hk, this, Nat.min_self]
  exact ⟨rfl, rfl⟩
theorem pairsN_no {f : Fn} (hk : f.k ≠ 2) : pairsN f = 0 := if_neg hk
theorem underFrom_some {f : Fn} {x : Sc} {z : Int} : ∀ {n t : Nat}, underFrom f x n t = some z → ∃ s, t ≤ s ∧ s < t + n ∧ pairAt f s = (x, z)
  | 0, t, h => by cases h
  | n + 1, t, h => by
    unfold underFrom at h
    split at h
    · rename_i hx
      injection h with h
      exact ⟨t, Nat.le_refl _, by omega, by rw [← hx, ← h]⟩
    · obtain ⟨s, h1, h2, h3⟩ := underFrom_some h
      exact ⟨s, by omega, by omega, h3⟩
theorem underFrom_none {f : Fn} {x : Sc} : ∀ {n t : Nat}, underFrom f x n t = none → ∀ s, t ≤ s → s < t + n → (pairAt f s).1 ≠ x
  | 0, t, _, s, h1, h2 => by omega
  | n + 1, t, h, s, h1, h2 => by
    unfold underFrom at h
    split at h
    · cases h
    · rename_i hx
      by_cases hs : s = t
      · rw [hs]; exact hx
      · exact underFrom_none h s (by omega) (by omega)
theorem under_some {f : Fn} {x : Sc} {z : Int} (h : underG f x = some z) : ∃ s, s < pairsN f ∧ pairAt f s = (x, z) := by
  obtain ⟨s, _, h2, h3⟩ := underFrom_some h
  exact ⟨s, by omega, h3⟩
theorem under_mem {f : Fn} {x : Sc} {z : Int} (h : underG f x = some z) : x ∈ f.keys.toList ∧ z ∈ f.kids.toList := by
  obtain ⟨s, hs, hp⟩ := under_some h
  unfold pairsN at hs
  split at hs
  · have h1 : s < f.keys.size := by omega
    have h2 : s < f.kids.size := by omega
    have e1 : f.keys[s]! = x := congrArg Prod.fst hp
    have e2 : f.kids[s]! = z := congrArg Prod.snd hp
    rw [← e1, ← e2, getElem!_pos f.keys s h1, getElem!_pos f.kids s h2]
    exact ⟨Array.getElem_mem_toList h1, Array.getElem_mem_toList h2⟩
  · omega
theorem under_isSome {f : Fn} {n : Int} {x : Sc} (h : rightF f n = true) (hk : f.k = 2) : (underG f x).isSome = inB f.keys.toList x := by
  cases hu : underG f x with
  | some z => exact (inB_iff.2 (under_mem hu).1).symm
  | none =>
    refine (Bool.eq_false_iff.2 fun hx => ?_).symm
    replace hx := inB_iff.1 hx
    obtain ⟨s, hs, he⟩ := List.mem_iff_getElem.1 hx
    have hs2 : s < f.keys.size := by simpa using hs
    refine underFrom_none hu s (Nat.zero_le _) (by rw [Nat.zero_add, (pairsN_map h hk).1]; exact hs2) ?_
    show f.keys[s]! = x
    rw [getElem!_pos f.keys s hs2, ← he]
    simp
theorem keysOf_no {f : Fn} (hk : f.k ≠ 2) : keysOf f = [] := by
  unfold keysOf pairedB
  rw [if_neg hk, if_neg (by decide)]
theorem keysOf_map {f : Fn} {n : Int} (h : rightF f n = true) (hk : f.k = 2) : keysOf f = sortSc f.keys.toList := by
  unfold keysOf pairedB
  rw [if_pos hk, if_pos (decide_eq_true (right_map h hk).1)]
/-- a key is found just if it is one of the map's, and what is found is a place -/
theorem finds_node {f : Fn} {n : Int} (h : rightF f n = true) (x : Sc) : (underR (underG f x)).2 = inB (keysOf f) x ∧ ((underR (underG f x)).2 = true ∨ (underR (underG f x)).1 = 0) ∧ (0 < n → 0 ≤ (underR (underG f x)).1 ∧ (underR (underG f x)).1 < n) := by
  by_cases hk : f.k = 2
  · have h1 := under_isSome (x := x) h hk
    have h2 : inB (keysOf f) x = inB f.keys.toList x := by
      rw [keysOf_map h hk]
      exact bool_iff (inB_iff.trans ((sort_perm _).mem_iff.trans inB_iff.symm))
    rw [h2, ← h1]
    cases hu : underG f x with
    | none => exact ⟨rfl, .inr rfl, fun hn => ⟨Int.le_refl _, hn⟩⟩
    | some z => exact ⟨rfl, .inl rfl, fun _ => right_kids h z (under_mem hu).2⟩
  · have hu : underG f x = none := by unfold underG; rw [pairsN_no hk]; rfl
    rw [hu, keysOf_no hk]
    exact ⟨rfl, .inr rfl, fun hn => ⟨Int.le_refl _, hn⟩⟩
theorem node_right {n : Nat} {L : List Fn} (hn : L.length = n) (hb : badFrom n L 0 = none) {i : Int} (hi : plB i n = true) {D : Array Fn} (hD : D.toList = L) : rightF D[i.toNat]! n = true := by
  subst hD
  obtain ⟨h0, h1⟩ := plB_iff.1 hi
  rw [Array.length_toList] at hn
  have hlt : i.toNat < D.size := by omega
  refine bad_none hb _ ?_
  rw [getElem!_pos D _ hlt]
  exact Array.getElem_mem_toList hlt
theorem finds_graph {n : Nat} {D : Array Fn} (hn : D.size = n) (hb : badFrom n D.toList 0 = none) (h0 : 0 < n) (i : Int) (x : Sc) :
    (findG D i x).2 = inB (keysG D i).1 x ∧ ((findG D i x).2 = true ∨ (findG D i x).1 = 0) ∧ 0 ≤ (findG D i x).1 ∧ (findG D i x).1 < n := by
  unfold findG keysG
  rw [hn]
  cases hi : plB i n
  · exact ⟨rfl, .inr rfl, Int.le_refl _, by simpa using h0⟩
  · rw [if_pos rfl, if_pos rfl]
    obtain ⟨a, b, c⟩ := finds_node (node_right (by rw [Array.length_toList]; exact hn) hb hi rfl) x
    exact ⟨a, b, c (by omega)⟩
end Go.Proofs.YtfpcjdopfodfnaaGreatDoor
