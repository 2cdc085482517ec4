/- Of a right map, with its keys and kids the other way round: it is right, and tells the same keys and kids; a node of a graph of its own is replaced; what is told lies in new rows. Conditions: none. -/
import Derived.Test.YtfpcjdopfodfnaaGreatDoorLmk
set_option maxRecDepth 100000
namespace Go.Proofs.YtfpcjdopfodfnaaGreatDoor
open Go.RowKit Go.Shelf
open Scs
/-- the other way round -/
structure Turned (f g : Fn) : Prop where
  kind : g.k = f.k
  value : g.x = f.x
  keys : g.keys.toList = f.keys.toList.reverse
  kids : g.kids.toList = f.kids.toList.reverse
theorem Turned.sizes {f g : Fn} (h : Turned f g) : g.keys.size = f.keys.size ∧ g.kids.size = f.kids.size := by
  have h1 := congrArg List.length h.keys
  have h2 := congrArg List.length h.kids
  rw [List.length_reverse, Array.length_toList, Array.length_toList] at h1 h2
  exact ⟨h1, h2⟩
theorem any_reverse (l : List Sc) (p : Sc → Bool) : l.reverse.any p = l.any p := by
  refine bool_iff ?_
  rw [List.any_eq_true, List.any_eq_true]
  exact ⟨fun ⟨x, hx, h⟩ => ⟨x, List.mem_reverse.1 hx, h⟩, fun ⟨x, hx, h⟩ => ⟨x, List.mem_reverse.2 hx, h⟩⟩
theorem twice_reverse (l : List Sc) : twiceB l.reverse = twiceB l :=
  bool_iff (twice_iff.trans ((not_congr (List.reverse_perm l).nodup_iff).trans twice_iff.symm))
theorem Turned.right {f g : Fn} {n : Int} (h : Turned f g) (hR : rightF f n = true) (hk : f.k = 2) : rightF g n = true := by
  have hkg : g.k = 2 := by rw [h.kind, hk]
  have hn : nodesB g n = true := nodesB_iff.2 fun z hz => (right_map hR hk).2.2 z (by rw [h.kids] at hz; exact List.mem_reverse.1 hz)
  have hs := (right_map hR hk).1
  obtain ⟨s1, s2⟩ := h.sizes
  unfold rightF at hR ⊢
  rw [if_neg (by omega), if_neg (by omega), if_pos hk] at hR
  rw [if_neg (by omega), if_neg (by omega), if_pos hkg]
  unfold mapB at hR ⊢
  simp only [List.all_cons, List.all_nil, id, Bool.and_true, Bool.and_eq_true, decide_eq_true_eq, if_pos hk] at hR
  have hkb : keysB g = true := by
    have := hR.2.2.1
    unfold keysB at this ⊢
    rw [h.keys, any_reverse, twice_reverse]
    exact this
  simp only [List.all_cons, List.all_nil, id, Bool.and_true, Bool.and_eq_true, decide_eq_true_eq, if_pos hkg, hkb, hn, and_true]
  exact ⟨by rw [h.value]; exact hR.1, by rw [s1, s2, hs]⟩
theorem Turned.keysOf {f g : Fn} {n : Int} (h : Turned f g) (hR : rightF f n = true) (hk : f.k = 2) : keysOf g = keysOf f := by
  rw [keysOf_map (h.right hR hk) (by rw [h.kind, hk]), keysOf_map hR hk, h.keys]
  exact sort_congr (List.reverse_perm _)
theorem under_at {f : Fn} {n : Int} (h : rightF f n = true) (hk : f.k = 2) {s : Nat} (hs : s < pairsN f) : underG f (pairAt f s).1 = some (pairAt f s).2 :=
  under_pair h hk ((sortedP_perm f).mem_iff.2 (List.mem_map.2 ⟨s, List.mem_range.2 hs, rfl⟩))
theorem Turned.under {f g : Fn} {n : Int} (h : Turned f g) (hR : rightF f n = true) (hk : f.k = 2) {x : Sc} {z : Int} (hz : underG g x = some z) : underG f x = some z := by
  obtain ⟨s, hs, hp⟩ := under_some hz
  have hRg := h.right hR hk
  have hkg : g.k = 2 := by rw [h.kind, hk]
  obtain ⟨s1, s2⟩ := h.sizes
  have hsk : s < g.keys.size := by rw [← (pairsN_map hRg hkg).1]; exact hs
  have hsd : s < g.kids.size := by rw [← (pairsN_map hRg hkg).2]; exact hs
  have hf : f.keys.size - 1 - s < pairsN f := by rw [(pairsN_map hR hk).1]; omega
  have hkd := (right_map hR hk).1
  have hat := under_at hR hk hf
  have e1 : f.keys[f.keys.size - 1 - s]! = x := by
    have h1 : g.keys[s]! = x := congrArg Prod.fst hp
    rw [← h1, getElem!_pos g.keys s hsk, getElem!_pos f.keys _ (by omega)]
    have : g.keys.toList[s]'(by simpa using hsk) = f.keys.toList.reverse[s]'(by simp; omega) := by simp [h.keys]
    rw [List.getElem_reverse] at this
    simpa using this.symm
  have e2 : f.kids[f.keys.size - 1 - s]! = z := by
    have h1 : g.kids[s]! = z := congrArg Prod.snd hp
    rw [← h1, getElem!_pos g.kids s hsd, getElem!_pos f.kids _ (by omega)]
    have : g.kids.toList[s]'(by simpa using hsd) = f.kids.toList.reverse[s]'(by simp; omega) := by simp [h.kids]
    rw [List.getElem_reverse] at this
    simpa [hkd] using this.symm
  rw [show (pairAt f (f.keys.size - 1 - s)).1 = x from e1, show (pairAt f (f.keys.size - 1 - s)).2 = z from e2] at hat
  exact hat
theorem Turned.kidsOf {f g : Fn} {n : Int} (h : Turned f g) (hR : rightF f n = true) (hk : f.k = 2) : kidsOf g = kidsOf f := by
  have hRg := h.right hR hk
  have hkg : g.k = 2 := by rw [h.kind, hk]
  have hl : (Go.Proofs.YtfpcjdopfodfnaaGreatDoor.kidsOf g).length = (Go.Proofs.YtfpcjdopfodfnaaGreatDoor.kidsOf f).length := by rw [kidsOf_len hRg, kidsOf_len hR, h.sizes.2]
  refine List.ext_getElem hl fun t h1 h2 => ?_
  have hf := keysOf_kid hR (t := t) (by rw [keysOf_len hR hk]; exact h2)
  have hg := keysOf_kid hRg (t := t) (by rw [keysOf_len hRg hkg]; exact h1)
  have hu := h.under hR hk hg.2
  rw [h.keysOf hR hk, hf.2] at hu
  injection hu with hu
  rw [getElem!_pos _ t h2, getElem!_pos _ t h1] at hu
  exact hu.symm
theorem GO.keep {b : Nat} {W W' : World} {v : Value} {L : List Fn} (h : GO b W v L) (hk : ∀ g, b ≤ g → g < W.heap.size → W'.heap[g]? = W.heap[g]?) : GO b W' v L :=
  ⟨own_keepG h.row fun g hv => hk g (own_lt h.row g hv).1 (own_lt h.row g hv).2, fun f hf => (h.nodes f hf).keep (fun g hv => hk g (own_lt (h.nodes f hf).ks g hv).1 (own_lt (h.nodes f hf).ks g hv).2) (fun g hv => hk g (own_lt (h.nodes f hf).ds g hv).1 (own_lt (h.nodes f hf).ds g hv).2)⟩
/-- the world behind a store of a node -/
def putF (W : World) (g o : Nat) (f : Fn) : World :=
  (((((W.setCell ⟨g, o, none⟩ (.int .i64 f.k)).setCell ⟨g, o + 1, none⟩ (.int .i64 f.x.1)).setCell ⟨g, o + 2, none⟩ (.int .i64 f.x.2.1)).setCell ⟨g, o + 3, none⟩ (.string f.x.2.2)).setCell ⟨g, o + 4, none⟩ (.slice f.pk f.keys.size f.ck)).setCell ⟨g, o + 5, none⟩ (.slice f.pd f.kids.size f.cd)
theorem putF_grown (W : World) (g o : Nat) (f : Fn) : W.grownBy (putF W g o f) (some g) :=
  gB_setCell (gB_setCell (gB_setCell (gB_setCell (gB_setCell (gB_setCell (gB_refl _ _) _ _) _ _) _ _) _ _) _ _) _ _
def put6 (cs : Array Value) (o : Nat) (f : Fn) : Array Value :=
  (((((cs.setIfInBounds o (.int .i64 f.k)).setIfInBounds (o + 1) (.int .i64 f.x.1)).setIfInBounds (o + 2) (.int .i64 f.x.2.1)).setIfInBounds (o + 3) (.string f.x.2.2)).setIfInBounds (o + 4) (.slice f.pk f.keys.size f.ck)).setIfInBounds (o + 5) (.slice f.pd f.kids.size f.cd)
theorem putF_heap {W : World} {g o : Nat} {cs : Array Value} {T : TypeId} (f : Fn) (h : W.heap[g]? = some (.cells cs T (0, 0))) : (putF W g o f).heap[g]? = some (.cells (put6 cs o f) T (0, 0)) :=
  heap_setCell_same _ g _ _ T _ (heap_setCell_same _ g _ _ T _ (heap_setCell_same _ g _ _ T _ (heap_setCell_same _ g _ _ T _ (heap_setCell_same _ g _ _ T _ (heap_setCell_same _ g _ _ T _ h)))))
theorem put6_size (cs : Array Value) (o : Nat) (f : Fn) : (put6 cs o f).size = cs.size := by simp [put6]
theorem put6_get (cs : Array Value) (o : Nat) (f : Fn) (j : Nat) (hj : j < cs.size) : (put6 cs o f)[j]? = if o ≤ j ∧ j < o + 6 then (encF f)[j - o]? else cs[j]? := by
  unfold put6
  simp only [Array.getElem?_setIfInBounds, Array.size_setIfInBounds]
  by_cases h0 : o = j
  · subst h0; simp [encF, hj]
  by_cases h1 : o + 1 = j
  · subst h1; simp [encF, hj]
  by_cases h2 : o + 2 = j
  · subst h2; simp [encF, hj]
  by_cases h3 : o + 3 = j
  · subst h3; simp [encF, hj]
  by_cases h4 : o + 4 = j
  · subst h4; simp [encF, hj]
  by_cases h5 : o + 5 = j
  · subst h5; simp [encF, hj]
  rw [if_neg h5, if_neg h4, if_neg h3, if_neg h2, if_neg h1, if_neg h0, if_neg (by omega)]
theorem flatF_set {L : List Fn} {t : Nat} (ht : t < L.length) (f : Fn) (j : Nat) (hj : j < L.length * 6) : (flatF (L.set t f))[j]? = if t * 6 ≤ j ∧ j < t * 6 + 6 then (encF f)[j - t * 6]? else (flatF L)[j]? := by
  rw [flatF_get (L.set t f) j (by rw [List.length_set]; exact hj), flatF_get L j hj]
  by_cases h : t * 6 ≤ j ∧ j < t * 6 + 6
  · rw [if_pos h]
    have e : j / 6 = t := by omega
    have e2 : j % 6 = j - t * 6 := by omega
    have hl : j - t * 6 < (encF f).length := by show j - t * 6 < 6; omega
    have e3 : (L.set t f)[t]! = f := by rw [getElem!_pos _ t (by rw [List.length_set]; exact ht)]; simp
    rw [e, e2, e3, List.getElem?_eq_getElem hl, getElem!_pos (encF f) (j - t * 6) hl]
  · rw [if_neg h]
    have e : t ≠ j / 6 := by omega
    have hd : j / 6 < L.length := by omega
    have e3 : (L.set t f)[j / 6]! = L[j / 6]! := by
      rw [getElem!_pos _ (j / 6) (by rw [List.length_set]; exact hd), getElem!_pos L (j / 6) hd, List.getElem_set_ne e]
    rw [e3]
theorem GO.store {b : Nat} {W : World} {g n c : Nat} {L : List Fn} (h : GO b W (.slice (some ⟨g, 0, none⟩) n c) L) (hn : L.length = n) {t : Nat} (ht : t < n) {f : Fn} (hf : KO b W f) : GO b (putF W g (t * 6) f) (.slice (some ⟨g, 0, none⟩) n c) (L.set t f) := by
  have hg6 := putF_grown W g (t * 6) f
  have hrow := h.row
  have keep : ∀ x : Fn, KO b W x → KO b (putF W g (t * 6) f) x := fun x hx =>
    hx.keep (fun g' hv => hg6.block g' (own_lt hx.ks g' hv).2 (fun e => own_ne h.row hx.ks (by decide) (g := g) rfl hv (by injection e with e; exact e.symm)))
      (fun g' hv => hg6.block g' (own_lt hx.ds g' hv).2 (fun e => own_ne h.row hx.ds (by decide) (g := g) rfl hv (by injection e with e; exact e.symm)))
  refine ⟨?_, fun x hx => ?_⟩
  · rw [List.length_set]
    rcases hrow with ⟨h0, ⟨h1, _⟩ | ⟨g', cap, cur, hv, hbg, hgr, hnc, hmx, hsz, htk⟩⟩
    · cases h1
    · obtain rfl : g = g' := by injection hv with h1 _ _; injection h1 with h1; injection h1
      refine ⟨by rw [flatF_len, List.length_set], .inr ⟨g, cap, put6 cur (t * 6) f, hv, hbg, putF_heap f hgr, hnc, hmx, by rw [put6_size]; exact hsz, ?_⟩⟩
      refine List.ext_getElem? fun j => ?_
      by_cases hj : j < L.length * 6
      · have hjc : j < cur.size := by rw [hsz]; omega
        rw [List.getElem?_take_of_lt hj, Array.getElem?_toList, put6_get cur (t * 6) f j hjc, flatF_set (by omega) f j hj, ← htk, List.getElem?_take_of_lt hj]
        simp only [Array.getElem?_toList]
      · rw [List.getElem?_eq_none (by rw [List.length_take]; omega), List.getElem?_eq_none (by rw [flatF_len, List.length_set]; omega)]
  · rcases List.mem_or_eq_of_mem_set hx with h1 | rfl
    · exact keep x (h.nodes x h1)
    · exact keep x hf
theorem swap_graph {L : List Fn} {n t : Nat} {f G : Fn} {root : Int} (hL : L.length = n) (ht : t < n) (hb : badFrom n L 0 = none) (h2 : n ≤ 200) (hp : plB root n = true) (hf : L.toArray[t]! = f) (hk : f.k = 2) (hT : Turned f G) :
    checkG root (L.set t G).toArray.toList = (0, 0) ∧ kidsG (L.set t G).toArray t = (kidsOf f, 0) ∧ keysG (L.set t G).toArray t = (keysOf f, 0) := by
  have hR : rightF f n = true := by
    refine bad_none hb f ?_
    rw [← hf, getElem!_pos L.toArray t (by rw [List.size_toArray]; omega)]
    simp
  have hsz : (L.set t G).toArray.size = n := by rw [List.size_toArray, List.length_set, hL]
  have hG : (L.set t G).toArray[t]! = G := by
    rw [getElem!_pos _ t (by rw [hsz]; exact ht)]
    simp
  have hpt : plB (t : Int) n = true := plB_iff.2 ⟨by omega, by omega⟩
  refine ⟨?_, ?_, ?_⟩
  · have hlen : (L.set t G).toArray.toList.length = n := by rw [Array.length_toList]; exact hsz
    unfold checkG
    rw [hlen, if_neg (by omega), hp, if_pos rfl]
    have : badFrom (n : Int) (L.set t G).toArray.toList 0 = none := bad_all fun x hx => by
      rcases List.mem_or_eq_of_mem_set (by simpa using hx) with h1 | rfl
      · exact bad_none hb x h1
      · exact hT.right hR hk
    rw [this]
  · unfold kidsG
    rw [hsz, hpt, if_pos rfl, Int.toNat_natCast, hG, hT.kidsOf hR hk]
  · unfold keysG
    rw [hsz, hpt, if_pos rfl, Int.toNat_natCast, hG, hT.keysOf hR hk]
theorem turned_own {b b8 : Nat} {W : World} {f G : Fn} {q2 q3 : Option Addr} {c2 c3 : Nat} (hk2 : W.ownsRow (b8 + 1) 26 3 (.slice q2 f.keys.size c2) f.keys.size (flatS (f.keys.toList.reverse.take f.keys.size)))
    (hd2 : W.ownsRow (b8 + 1) 3 1 (.slice q3 f.keys.size c3) f.keys.size (ints (f.kids.toList.reverse.take f.keys.size))) (hb : b ≤ b8 + 1) (hT : Turned f G) (hsz : f.keys.size = f.kids.size) (hf : KO b W f)
    (g0 : G.pk = q2) (g1 : G.ck = c2) (g2 : G.pd = q3) (g3 : G.cd = c3) : KO b W G := by
  obtain ⟨s1, s2⟩ := hT.sizes
  rw [List.take_of_length_le (by simp)] at hk2
  rw [List.take_of_length_le (by simp [hsz])] at hd2
  refine ⟨?_, ?_, by rw [s1]; exact hf.k12, by rw [s2]; exact hf.d12, by rw [hT.value]; exact hf.xs, fun x hx => hf.kx x (by rw [hT.keys] at hx; exact List.mem_reverse.1 hx)⟩
  · rw [g0, g1, s1, hT.keys]
    exact own_low hk2 hb
  · rw [g2, g3, s2, hT.kids, ← hsz]
    exact own_low hd2 hb
open Go.Sort (HoldsK)
def New (b : Nat) (q : Option Addr) (n : Nat) : Prop := n = 0 ∨ ∃ g o, q = some ⟨g, o, none⟩ ∧ b ≤ g
theorem New.low {b b' : Nat} {q : Option Addr} {n : Nat} (h : New b q n) (hb : b' ≤ b) : New b' q n := by
  rcases h with h | ⟨g, o, h1, h2⟩
  · exact .inl h
  · exact .inr ⟨g, o, h1, Nat.le_trans hb h2⟩
theorem own_new {W : World} {b T k n c : Nat} {p : Option Addr} {xs : List Value} (h : W.ownsRow b T k (.slice p n c) n xs) : New b p n := by
  rcases h with ⟨_, ⟨_, h2⟩ | ⟨g, c', cur, hv, hbg, _⟩⟩
  · exact .inl h2
  · injection hv with h
    exact .inr ⟨g, 0, h, hbg⟩
theorem clone_new (p : Option Addr) (l : Array Int) (c : Nat) (w : World) (hl : Il w p l) :
    Calls Tryz.prog 46 #[.slice p l.size c] w fun e w' => ∃ q c', e = .returned (.slice q l.size c') ∧ Il w' q l ∧ New w.heap.size q l.size ∧ Below w.heap.size w w' := by
  cases p with
  | none =>
    rcases hl.lies with h0 | ⟨blk, off, h1, _⟩
    · rw [h0]
      refine (clone_none c w).mono ?_
      rintro e w' ⟨rfl, rfl⟩
      exact ⟨none, 0, rfl, hl, .inl rfl, Below.refl _ _⟩
    · cases h1
  | some a =>
    have h := clone_some a l.toList c w (by rw [Array.length_toList]; exact hl.small) (fun i hi => by
      rw [Array.length_toList] at hi
      obtain ⟨blk, off, h1, _, h2⟩ := hl.at i hi
      injection h1 with h1
      subst h1
      rw [show l.toList[i]! = l[i]! by simp [getElem!_def]]
      rw [Go.WideShapes.add_plain]
      exact h2)
    rw [Array.length_toList] at h
    refine h.mono ?_
    rintro e w' ⟨v, rfl, ho, hb⟩
    obtain ⟨q, c', rfl, hq⟩ := il_own ho (by rw [Array.length_toList]) hl.small
    exact ⟨q, c', rfl, by simpa using hq, own_new ho, hb⟩
set_option maxHeartbeats 4000000 in
theorem places_new (f : Fn) (n : Int) (w : World) (hg : Nl w f) (h12 : f.keys.size ≤ 12) :
    Calls Tryz.prog 30 #[vV f n] w fun e w' => ∃ q c, e = .returned (.slice q (kidsOf f).length c) ∧ Il w' q (kidsOf f).toArray ∧ New w.heap.size q (kidsOf f).length ∧ Below w.heap.size w w' := by
  have HP := Lib.hid fun w => paired_any f n w
  have HN := Lib.hid hg
  have hb1 : ∀ o : Obj, Below w.heap.size w (w.alloc o) := fun o => (Below.refl _ w).alloc (Nat.le_refl _) _
  have HB1 := Lib.hid hb1
  have HBK := Lib.hid fun w h => byKeys_any f n w h h12
  have HCL := Lib.hid fun w h => clone_new f.pd f.kids f.cd w h
  unfold vV at HP HBK ⊢
  clear hg hb1
  cases hpb : pairedB f
  · rw [hpb] at HP
    by_cases hk : f.k = 1
    · have hko : kidsOf f = f.kids.toList := by unfold kidsOf; rw [hpb, if_neg (by decide), if_pos hk]
      have hke : (f.k == 1) = true := by simp [hk]
      rw [hko, Array.length_toList]
      clear hpb hko h12
      obtain ⟨k, hk2⟩ : ∃ k, f.k = k := ⟨_, rfl⟩
      rw [hk2] at HP HBK hk hke ⊢
      subst hk
      go_enter Tryz.func30, Tryz.ntmps30
      go_wp2_with fail
      refine (HP.out _).mono ?_
      rintro e w5 ⟨rfl, hb5⟩
      have hx5 := (hb5.block w.heap.size (by simp)).trans (heap_alloc_new w _)
      obtain ⟨q0, q1, q2, q3, q4, q5, q6⟩ := cell7 hx5
      have HB5 := Lib.hid ((HB1.out _).trans (hb5.mono (by simp)))
      clear hb5 hx5 hk2
      go_wp2_with fail
      refine (HCL.out _ (HN.out.ds.below HB5.out)).mono ?_
      rintro e w6 ⟨q, c, rfl, hq, hnw, hb6⟩
      have HNW := Lib.hid (hnw.low HB5.out.size)
      clear hnw
      have HB6 := Lib.hid (HB5.out.trans (hb6.mono HB5.out.size))
      have HQ := Lib.hid hq
      clear hb6 hq q0 q1 q2 q3 q4 q5 q6
      go_wp2_with fail
      go_ret
      exact ⟨q, c, rfl, HQ.out, HNW.out, HB6.out⟩
    · have hko : kidsOf f = [] := by unfold kidsOf; rw [hpb, if_neg (by decide), if_neg hk]
      have hke : (f.k == 1) = false := beq_eq_false_iff_ne.2 hk
      rw [hko]
      clear hpb hko h12
      go_enter Tryz.func30, Tryz.ntmps30
      go_wp2_with fail
      refine (HP.out _).mono ?_
      rintro e w5 ⟨rfl, hb5⟩
      have hx5 := (hb5.block w.heap.size (by simp)).trans (heap_alloc_new w _)
      obtain ⟨q0, q1, q2, q3, q4, q5, q6⟩ := cell7 hx5
      have HB5 := Lib.hid ((HB1.out _).trans (hb5.mono (by simp)))
      clear hb5 hx5
      go_wp2_with fail
      go_ret
      exact ⟨none, 0, rfl, Il.nil _ _, .inl rfl, HB5.out⟩
  · rw [hpb] at HP
    have hko : kidsOf f = sortedKids f := by unfold kidsOf; rw [hpb, if_pos rfl]
    have hsl := sortedKids_len f
    have hpn : pairsN f ≤ 1000000 := by unfold pairsN; split <;> omega
    rw [hko]
    rw [hsl]
    have HSL := Lib.hid hsl
    have HPN := Lib.hid hpn
    clear hpb hko h12 hsl hpn
    go_enter Tryz.func30, Tryz.ntmps30
    go_wp2_with fail
    refine (HP.out _).mono ?_
    rintro e w5 ⟨rfl, hb5⟩
    have hx5 := (hb5.block w.heap.size (by simp)).trans (heap_alloc_new w _)
    obtain ⟨q0, q1, q2, q3, q4, q5, q6⟩ := cell7 hx5
    have HB5 := Lib.hid ((HB1.out _).trans (hb5.mono (by simp)))
    clear hb5 hx5
    go_wp2_with fail
    refine (HBK.out _ (HN.out.below HB5.out)).mono ?_
    rintro e w6 ⟨v, rfl, ho, hb6⟩
    obtain ⟨q, c, rfl, hq⟩ := il_own ho HSL.out.symm HPN.out
    have HNW := Lib.hid ((own_new ho).low HB5.out.size)
    have HB6 := Lib.hid (HB5.out.trans (hb6.mono HB5.out.size))
    have HQ := Lib.hid hq
    clear hb6 hq ho q0 q1 q2 q3 q4 q5 q6
    go_wp2_with fail
    go_ret
    exact ⟨q, c, rfl, HQ.out, HNW.out, HB6.out⟩
set_option maxHeartbeats 4000000 in
theorem Kids_new (root : Int) (L : Array Fn) (p : Option Addr) (cap : Nat) (i : Int) (w : World) (E : Env w) (hg : Gl w p L) (h12 : ∀ t, t < L.size → L[t]!.keys.size ≤ 12) :
    Calls Tryz.prog 14 #[.agg #[.int .i64 root, .slice p L.size cap], .int .i64 i] w fun e w' => ∃ q c, e = .returned (.tuple #[.slice q (kidsG L i).1.length c, .int .i64 (kidsG L i).2]) ∧ Il w' q (kidsG L i).1.toArray ∧ New w.heap.size q (kidsG L i).1.length ∧ Below w.heap.size w w' := by
  have hb1 : ∀ o : Obj, Below w.heap.size w (w.alloc o) := fun o => (Below.refl _ w).alloc (Nat.le_refl _) _
  cases hi : plB i L.size
  · have hk : kidsG L i = ([], 2) := by unfold kidsG; rw [hi]; rfl
    rw [hk]
    have HV := Lib.hid fun w => viewAt_no root L p cap i w hi
    have HE := Lib.hid E
    clear hi hk hg E hb1
    go_enter Tryz.func14, Tryz.ntmps14
    go_wp2_with fail
    refine (HV.out _).mono ?_
    rintro e w5 ⟨⟨why, rfl⟩, hb5⟩
    have HB5 := Lib.hid (((Below.refl _ w).alloc (Nat.le_refl _) _).trans (hb5.mono (by simp)))
    clear hb5
    unfold faultV
    go_wp2_with fail
    refine (told_fault 0 2 why _ (HE.out.below (HB5.out.alloc HB5.out.size _))).mono ?_
    rintro e w6 ⟨rfl, hb6⟩
    have HB6 := Lib.hid ((HB5.out.alloc HB5.out.size _).trans (hb6.mono (by have := HB5.out.size; simp; omega)))
    clear hb6
    go_wp2_with fail
    go_ret2
    exact ⟨_, _, rfl, Il.nil _ _, .inl rfl, HB6.out⟩
  · obtain ⟨t, rfl, ht⟩ := noPlace hi
    have hk : kidsG L t = (kidsOf L[t]!, 0) := by unfold kidsG; rw [hi]; rfl
    rw [hk]
    have hv := fun w hg => viewAt_yes root L p cap t w hg ht
    have hnl := hg.nodes t ht
    have h12' := h12 t ht
    obtain ⟨f, hf⟩ : ∃ f, L[t]! = f := ⟨_, rfl⟩
    rw [hf] at hv hnl h12' ⊢
    have HV := Lib.hid fun o => hv (w.alloc o) (hg.below (hb1 o))
    have HN := Lib.hid hnl
    have HP := Lib.hid fun w h => places_new f L.size w h h12'
    obtain ⟨n, hn⟩ : ∃ f, L.size = f := ⟨_, rfl⟩
    unfold vV at HV HP
    rw [hn] at HV HP ⊢
    clear hi hk hg E hb1 hv hnl hf hn ht h12 h12'
    go_enter Tryz.func14, Tryz.ntmps14
    go_wp2_with fail
    refine (HV.out _).mono ?_
    rintro e w5 ⟨rfl, hb5⟩
    have HB5 := Lib.hid (((Below.refl _ w).alloc (Nat.le_refl _) _).trans (hb5.mono (by simp)))
    clear hb5
    go_wp2_with fail
    refine (HP.out _ (HN.out.below (HB5.out.alloc HB5.out.size _))).mono ?_
    rintro e w6 ⟨q, c, rfl, hq, hnw, hb6⟩
    have HNW := Lib.hid (hnw.low (show w.heap.size ≤ _ by have := HB5.out.size; simp; omega))
    clear hnw
    have HB6 := Lib.hid ((HB5.out.alloc HB5.out.size _).trans (hb6.mono (by have := HB5.out.size; simp; omega)))
    have HQ := Lib.hid hq
    clear hb6 hq
    go_wp2_with fail
    go_ret2
    exact ⟨q, c, rfl, HQ.out, HNW.out, HB6.out⟩
theorem Sort34_new (d : Array Sc) (p : Option Addr) (cap n : Nat) (hn : d.size = n) (w : World) (hs : Sl w p d) :
    Calls Tryz.prog 34 #[.slice p n cap] w fun e w' => ∃ q c, e = .returned (.slice q n c) ∧ Sl w' q (sortSc d.toList).toArray ∧ New w.heap.size q n ∧ Below w.heap.size w w' := by
  subst hn
  refine (Sort_any d p cap w hs).mono ?_
  rintro e w' ⟨g, c, rfl, hgb, hg, hh, hb⟩
  have hl : (sortSc d.toList).length = d.size := by rw [sort_length, Array.length_toList]
  exact ⟨_, _, rfl, ⟨by rw [List.size_toArray, hl]; exact hs.small, fun t ht => short_mem' hs.short (fun _ hx => (sort_perm _).mem_iff.1 hx) t (by simpa using ht), .inr ⟨g, 0, rfl, hg, hh⟩⟩, .inr ⟨g, 0, rfl, hgb⟩, hb⟩
set_option maxHeartbeats 4000000 in
theorem Keys_new (root : Int) (L : Array Fn) (p : Option Addr) (cap : Nat) (i : Int) (w : World) (E : Env w) (hg : Gl w p L) :
    Calls Tryz.prog 16 #[.agg #[.int .i64 root, .slice p L.size cap], .int .i64 i] w fun e w' => ∃ q c, e = .returned (.tuple #[.slice q (keysG L i).1.length c, .int .i64 (keysG L i).2]) ∧ Sl w' q (keysG L i).1.toArray ∧ New w.heap.size q (keysG L i).1.length ∧ Below w.heap.size w w' := by
  have hb1 : ∀ o : Obj, Below w.heap.size w (w.alloc o) := fun o => (Below.refl _ w).alloc (Nat.le_refl _) _
  cases hi : plB i L.size
  · have hk : keysG L i = ([], 2) := by unfold keysG; rw [hi]; rfl
    rw [hk]
    have HV := Lib.hid fun w => viewAt_no root L p cap i w hi
    have HE := Lib.hid E
    clear hi hk hg E hb1
    go_enter Tryz.func16, Tryz.ntmps16
    go_wp2_with fail
    refine (HV.out _).mono ?_
    rintro e w5 ⟨⟨why, rfl⟩, hb5⟩
    have HB5 := Lib.hid (((Below.refl _ w).alloc (Nat.le_refl _) _).trans (hb5.mono (by simp)))
    clear hb5
    unfold faultV
    go_wp2_with fail
    refine (told_fault 0 2 why _ (HE.out.below (HB5.out.alloc HB5.out.size _))).mono ?_
    rintro e w6 ⟨rfl, hb6⟩
    have HB6 := Lib.hid ((HB5.out.alloc HB5.out.size _).trans (hb6.mono (by have := HB5.out.size; simp; omega)))
    clear hb6
    go_wp2_with fail
    go_ret2
    exact ⟨_, _, rfl, Sl.nil _ _, .inl rfl, HB6.out⟩
  · obtain ⟨t, rfl, ht⟩ := noPlace hi
    have hk : keysG L t = (keysOf L[t]!, 0) := by unfold keysG; rw [hi]; rfl
    rw [hk]
    have hv := fun w hg => viewAt_yes root L p cap t w hg ht
    have hnl := hg.nodes t ht
    obtain ⟨f, hf⟩ : ∃ f, L[t]! = f := ⟨_, rfl⟩
    rw [hf] at hv hnl ⊢
    have HV := Lib.hid fun o => hv (w.alloc o) (hg.below (hb1 o))
    have HN := Lib.hid hnl
    have HP := Lib.hid fun w => paired_any f L.size w
    have HK := Lib.hid fun w h => Sort34_new f.keys f.pk f.ck _ rfl w h
    unfold keysOf
    obtain ⟨n, hn⟩ : ∃ f, L.size = f := ⟨_, rfl⟩
    unfold vV at HV HP
    rw [hn] at HV HP ⊢
    clear hi hk hg E hb1 hv hnl hf hn ht
    cases hpb : pairedB f
    · rw [if_neg (by decide)]
      rw [hpb] at HP
      clear hpb
      go_enter Tryz.func16, Tryz.ntmps16
      go_wp2_with fail
      refine (HV.out _).mono ?_
      rintro e w5 ⟨rfl, hb5⟩
      have HB5 := Lib.hid (((Below.refl _ w).alloc (Nat.le_refl _) _).trans (hb5.mono (by simp)))
      clear hb5
      go_wp2_with fail
      refine (HP.out _).mono ?_
      rintro e w6 ⟨rfl, hb6⟩
      have HB6 := Lib.hid ((HB5.out.alloc HB5.out.size _).trans (hb6.mono (by have := HB5.out.size; simp; omega)))
      clear hb6
      go_wp2_with fail
      go_ret2
      exact ⟨_, _, rfl, Sl.nil _ _, .inl rfl, HB6.out⟩
    · rw [if_pos rfl]
      rw [hpb] at HP
      clear hpb
      go_enter Tryz.func16, Tryz.ntmps16
      go_wp2_with fail
      refine (HV.out _).mono ?_
      rintro e w5 ⟨rfl, hb5⟩
      have HB5 := Lib.hid (((Below.refl _ w).alloc (Nat.le_refl _) _).trans (hb5.mono (by simp)))
      clear hb5
      go_wp2_with fail
      refine (HP.out _).mono ?_
      rintro e w6 ⟨rfl, hb6⟩
      have hx6 := vrow (heap_alloc_new w5 _) hb6
      have HB6 := Lib.hid ((HB5.out.alloc HB5.out.size _).trans (hb6.mono (by have := HB5.out.size; simp; omega)))
      have c4 : w6.cell? ⟨w5.heap.size, 4, none⟩ = some (.slice f.pk f.keys.size f.ck) := cell_of_row _ _ 4 _ _ _ hx6
      clear hb6 hx6
      go_wp2_with fail
      refine (HK.out _ (HN.out.ks.below HB6.out)).mono ?_
      rintro e w7 ⟨q, c, rfl, hs, hnw, hb7⟩
      have HNW := Lib.hid (hnw.low HB6.out.size)
      clear hnw
      have HB7 := Lib.hid (HB6.out.trans (hb7.mono HB6.out.size))
      have HS := Lib.hid hs
      clear hb7 hs c4
      go_wp2_with fail
      go_ret2
      exact ⟨q, c, by rw [sort_length, Array.length_toList]; rfl, HS.out, by rw [sort_length, Array.length_toList]; exact HNW.out, HB7.out⟩
end Go.Proofs.YtfpcjdopfodfnaaGreatDoor
