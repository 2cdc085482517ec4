/- The reference tells where a path leads. Conditions: the graph and the path lie. The reference tells a graph's tidy one. Conditions: the graph lies. The reference tells whether a graph is tidy. Conditions: the graph lies. -/
import Derived.Test.YtepelpmkmhhokaaGreatDoorRix
import Derived.Test.YtepelpmkmhhokaaGreatDoorAcx
import Derived.Test.YtepelpmkmhhokaaGreatDoorLmx
set_option maxRecDepth 100000
namespace Go.Proofs.YtepelpmkmhhokaaGreatDoor
open Go.RowKit Go.Shelf
open Scs Dfs
/-- where a path leads, and whether it leads anywhere -/
def atR : Option Nat → Int × Bool
  | some a => ((a : Int), true)
  | none => (0, false)
def atG (root : Int) (L : Array Fn) (l : List Int) : Int × Bool := if (checkG root L.toList).2 = 0 then atR (at_ (KN L) root.toNat l) else (0, false)
theorem at_step (kids : Nat → List Nat) (a : Nat) (P : Array Int) (t : Nat) (ht : t < P.size) :
    at_ kids a (P.toList.drop t) = if 0 ≤ P[t]! ∧ P[t]! < (kids a).length then at_ kids ((kids a)[P[t]!.toNat]!) (P.toList.drop (t + 1)) else none := by
  rw [List.drop_eq_getElem_cons (by rw [Array.length_toList]; exact ht)]
  have e : P.toList[t]'(by rw [Array.length_toList]; exact ht) = P[t]! := by rw [Array.getElem_toList, getElem!_pos P t ht]
  rw [e]
  rfl
end Go.Proofs.YtepelpmkmhhokaaGreatDoor

set_option maxRecDepth 100000
namespace Go.Proofs.YtepelpmkmhhokaaGreatDoor
open Go.RowKit Go.Shelf
open Scs Dfs
open Go.Sort (HoldsK)
/-- a node whose keys and kids lie in rows of their own -/
structure KP (b : Nat) (W : World) (f : Fn) : Prop where
  ks : W.ownsRow b 48 3 (.slice f.pk f.keys.size f.ck) f.keys.size (flatS f.keys.toList)
  ds : W.ownsRow b 3 1 (.slice f.pd f.kids.size f.cd) f.kids.size (ints f.kids.toList)
structure GP (b : Nat) (W : World) (v : Value) (L : List Fn) : Prop where
  row : W.ownsRow b 51 6 v L.length (flatF L)
  nodes : ∀ f ∈ L, KP b W f
theorem KP.keep {b : Nat} {W W' : World} {f : Fn} (h : KP b W f) (hk : ∀ g, b ≤ g → g < W.heap.size → W'.heap[g]? = W.heap[g]?) : KP b W' f :=
  ⟨own_keepG h.ks fun g hv => hk g (own_lt h.ks g hv).1 (own_lt h.ks g hv).2, own_keepG h.ds fun g hv => hk g (own_lt h.ds g hv).1 (own_lt h.ds g hv).2⟩
theorem GP.keep {b : Nat} {W W' : World} {v : Value} {L : List Fn} (h : GP b W v L) (hk : ∀ g, b ≤ g → g < W.heap.size → W'.heap[g]? = W.heap[g]?) : GP b W' v L :=
  ⟨own_keepG h.row fun g hv => hk g (own_lt h.row g hv).1 (own_lt h.row g hv).2, fun f hf => (h.nodes f hf).keep hk⟩
theorem GP.below {b : Nat} {W W' : World} {v : Value} {L : List Fn} (h : GP b W v L) (hb : Below W.heap.size W W') : GP b W' v L := h.keep fun g _ hg => hb.block g hg
theorem GP.nil (b : Nat) (W : World) : GP b W (.slice none 0 0) [] := ⟨World.ownsRow_nil _ _ _ _, fun f hf => by simp at hf⟩
/-- what it takes for such nodes to lie as a graph -/
theorem GP.gl {b : Nat} {W : World} {q : Option Addr} {n c : Nat} {L : List Fn} (h : GP b W (.slice q n c) L) (hn : L.length = n) (h2 : n ≤ 1000000)
    (hs : ∀ f ∈ L, f.x.2.2.size ≤ 1000000 ∧ f.keys.size ≤ 1000000 ∧ f.kids.size ≤ 1000000 ∧ ∀ t, t < f.keys.size → f.keys[t]!.2.2.size ≤ 1000000) : Gl W q L.toArray := by
  subst hn
  refine ⟨by rw [List.size_toArray]; exact h2, fun t ht => ?_, ?_⟩
  · have ht2 : t < L.length := by simpa using ht
    have e : L.toArray[t]! = L[t] := by rw [getElem!_pos L.toArray t ht]; simp
    rw [e]
    obtain ⟨k1, k2⟩ := h.nodes _ (List.getElem_mem ht2)
    obtain ⟨s1, s2, s3, s4⟩ := hs _ (List.getElem_mem ht2)
    refine ⟨s1, ?_, ?_⟩
    · obtain ⟨p, c', hv, hsl⟩ := sl_ownK k1 (by rw [Array.length_toList]) s2 (fun t ht => by simpa using s4 t (by simpa using ht))
      have hp : L[t].pk = p := by injection hv
      rw [hp]
      simpa using hsl
    · obtain ⟨p, c', hv, hil⟩ := il_own k2 (by rw [Array.length_toList]) s3
      have hp : L[t].pd = p := by injection hv
      rw [hp]
      simpa using hil
  · rcases h.row with ⟨_, ⟨h1, h2⟩ | ⟨g, c', cur, hv, hbg, hg, hr⟩⟩
    · exact .inl (by simpa using h2)
    · have hp : q = some ⟨g, 0, none⟩ := by injection hv
      refine .inr ⟨g, 0, hp, (Array.getElem?_eq_some_iff.1 hg).1, ?_⟩
      have h3 := h.row
      rw [hp] at h3
      exact holds_rowF (d := L.toArray) h3 (by simp)
theorem own_shape {W : World} {b T k n : Nat} {v : Value} {xs : List Value} (h : W.ownsRow b T k v n xs) : ∃ p c, v = .slice p n c := by
  rcases h with ⟨_, ⟨h1, h2⟩ | ⟨g, c', cur, hv, _⟩⟩
  · exact ⟨none, 0, by rw [h1, h2]⟩
  · exact ⟨_, _, hv⟩
theorem gl_nil (w : World) (p : Option Addr) : Gl w p #[] := ⟨by decide, fun t ht => absurd ht (Nat.not_lt_zero _), .inl rfl⟩
/-- what a tidy node's texts and rows measure -/
theorem tidy_small {L : Array Fn} {w : World} {p : Option Addr} (hg : Gl w p L) {x : Nat} (hx : x < L.size) {F : Fn} {l : List Nat} (h : TidyF L[x]! F l) :
    F.x.2.2.size ≤ 1000000 ∧ F.keys.size ≤ 1000000 ∧ F.kids.size ≤ 1000000 ∧ ∀ t, t < F.keys.size → F.keys[t]!.2.2.size ≤ 1000000 := by
  obtain ⟨k1, k2⟩ := keysG_small L (x : Int) w p hg
  have k3 := kidsG_len L (x : Int) w p hg
  rw [keys_yes hx] at k1 k2
  rw [kids_yes hx] at k3
  simp only at k1 k2 k3
  rw [← h.keys] at k1 k2
  refine ⟨by rw [h.x]; exact (hg.nodes x hx).xs, by rw [← Array.length_toList]; exact k1, by rw [← Array.length_toList, h.kids, List.length_map]; exact k3, fun t ht => ?_⟩
  have := k2 t (by rw [Array.length_toList]; exact ht)
  simpa using this
end Go.Proofs.YtepelpmkmhhokaaGreatDoor

set_option maxRecDepth 100000
namespace Go.Proofs.YtepelpmkmhhokaaGreatDoor
open Go.RowKit Go.Shelf
open Scs Dfs
/-- a tidy node, wherever it lies -/
def tidyFn (f : Fn) (l : List Nat) : Fn := ⟨f.k, f.x, none, 0, (keysOf f).toArray, none, 0, ((kidsOf f).map fun z => ((idx l z.toNat : Nat) : Int)).toArray⟩
def tidyT (L : Array Fn) (l : List Nat) : Array Fn := (l.map fun x => tidyFn L[x]! l).toArray
theorem tidyFn_is (f : Fn) (l : List Nat) : TidyF f (tidyFn f l) l := ⟨rfl, rfl, by simp [tidyFn], by simp [tidyFn]⟩
theorem tidyT_is (L : Array Fn) (l : List Nat) : TidyG L (tidyT L l) l := by
  refine ⟨by simp [tidyT], fun t ht => ?_⟩
  have e : (tidyT L l)[t]! = tidyFn L[l[t]!]! l := by
    unfold tidyT
    rw [getElem!_pos _ t (by simpa using ht), getElem!_pos l t ht]
    simp
  rw [e]
  exact tidyFn_is _ _
theorem TidyF.same {f F F' : Fn} {l : List Nat} (h : TidyF f F l) (h' : TidyF f F' l) : sameF F F' = true :=
  sameF_iff.2 ⟨h.k.trans h'.k.symm, h.x.trans h'.x.symm, by rw [← Array.toList_inj, h.keys, h'.keys], by rw [← Array.toList_inj, h.kids, h'.kids]⟩
theorem sameF_congr {a b b' : Fn} (h : sameF b b' = true) : sameF a b = sameF a b' := by
  obtain ⟨h1, h2, h3, h4⟩ := sameF_iff.1 h
  unfold sameF
  rw [h1, h2, h3, h4]
theorem TidyG.sameNs {L A T T' : Array Fn} {l : List Nat} (h : TidyG L T l) (h' : TidyG L T' l) : sameNs A T = sameNs A T' := by
  unfold Go.Proofs.YtepelpmkmhhokaaGreatDoor.sameNs
  have hs : T.size = T'.size := h.size.trans h'.size.symm
  rw [Bool.eq_iff_iff, decide_eq_true_iff, decide_eq_true_iff, hs]
  refine and_congr_right fun ha => ?_
  refine forall_congr' fun j => forall_congr' fun hj => ?_
  have hjl : j < l.length := by rw [← h'.size, ← ha]; exact hj
  rw [sameF_congr ((h.node j hjl).same (h'.node j hjl))]
/-- is a graph tidy? -/
def isTidyB (root : Int) (L : Array Fn) : Bool := if (checkG root L.toList).2 = 0 then sameG root 0 L (tidyT L (wk L root.toNat)) else false
end Go.Proofs.YtepelpmkmhhokaaGreatDoor
