/- What is told of kids lies in a row that is new, with room for all. Conditions: the graph lies. A side tells a node with its keys so that they rise, and keeps it for the next time. Conditions: the graph lies, the place is one of its nodes. Two right graphs side by side: what is known of both, and how that grows. Conditions: both graphs lie. -/
import Derived.Test.YtepelpmkmhhokaaGreatDoorAkk
import Derived.Test.YtepelpmkmhhokaaGreatDoorKbx
set_option maxRecDepth 100000
namespace Go.Proofs.YtepelpmkmhhokaaGreatDoor
open Go.RowKit Go.Shelf
open Scs
open Go.Sort (HoldsK)
/-- a row of numbers lies in a block of numbers -/
def Tag (A : World) (q : Option Addr) (n : Nat) : Prop := n = 0 ∨ ∃ g o cs, q = some ⟨g, o, none⟩ ∧ A.heap[g]? = some (.cells cs 3 (0, 0))
theorem Tag.nil (A : World) (q : Option Addr) : Tag A q 0 := .inl rfl
theorem own_tag {W : World} {b k n c : Nat} {p : Option Addr} {xs : List Value} (h : W.ownsRow b 3 k (.slice p n c) n xs) : Tag W p n := by
  rcases h with ⟨_, ⟨h1, h2⟩ | ⟨g, c', cur, hv, _, hg, _⟩⟩
  · exact .inl h2
  · injection hv with hq _ _
    exact .inr ⟨g, 0, cur, hq, hg⟩
theorem own_cap {W : World} {b T k n c : Nat} {p : Option Addr} {xs : List Value} (h : W.ownsRow b T k (.slice p n c) n xs) : n ≤ c := by
  rcases h with ⟨_, ⟨h1, h2⟩ | ⟨g, c', cur, hv, _, _, hnc, _⟩⟩
  · omega
  · injection hv with _ _ hc
    omega
theorem clone_newc (p : Option Addr) (l : Array Int) (c : Nat) (w : World) (hl : Il w p l) :
    Calls Tryz.prog 89 #[.slice p l.size c] w fun e w' => ∃ q c', e = .returned (.slice q l.size c') ∧ Il w' q l ∧ New w.heap.size q l.size ∧ Below w.heap.size w w' ∧ l.size ≤ c' ∧ Tag w' q l.size := by
  cases p with
  | none =>
    rcases hl.lies with h0 | ⟨blk, off, h1, _⟩
    · rw [h0]
      refine (clone_none c w).mono ?_
      rintro e w' ⟨rfl, rfl⟩
      exact ⟨none, 0, rfl, hl, .inl rfl, Below.refl _ _, by omega, .inl rfl⟩
    · cases h1
  | some a =>
    have h := clone_some a l.toList c w (by rw [Array.length_toList]; exact hl.small) (fun i hi => by
      rw [Array.length_toList] at hi
      obtain ⟨blk, off, h1, _, h2⟩ := hl.at i hi
      injection h1 with h1
      subst h1
      rw [show l.toList[i]! = l[i]! by simp [getElem!_def]]
      rw [Go.WideShapes.add_plain]
      exact h2)
    rw [Array.length_toList] at h
    refine h.mono ?_
    rintro e w' ⟨v, rfl, ho, hb⟩
    obtain ⟨q, c', rfl, hq⟩ := il_own ho (by rw [Array.length_toList]) hl.small
    exact ⟨q, c', rfl, by simpa using hq, own_new ho, hb, by simpa using own_cap ho, by simpa using own_tag ho⟩
set_option maxHeartbeats 4000000 in
theorem places_newc (f : Fn) (n : Int) (w : World) (hg : Nl w f) (h12 : f.keys.size ≤ 12) :
    Calls Tryz.prog 78 #[vV f n] w fun e w' => ∃ q c, e = .returned (.slice q (kidsOf f).length c) ∧ Il w' q (kidsOf f).toArray ∧ New w.heap.size q (kidsOf f).length ∧ Below w.heap.size w w' ∧ (kidsOf f).length ≤ c ∧ Tag w' q (kidsOf f).length := by
  have HP := Lib.hid fun w => paired_any f n w
  have HN := Lib.hid hg
  have hb1 : ∀ o : Obj, Below w.heap.size w (w.alloc o) := fun o => (Below.refl _ w).alloc (Nat.le_refl _) _
  have HB1 := Lib.hid hb1
  have HBK := Lib.hid fun w h => byKeys_any f n w h h12
  have HCL := Lib.hid fun w h => clone_newc f.pd f.kids f.cd w h
  unfold vV at HP HBK ⊢
  clear hg hb1
  cases hpb : pairedB f
  · rw [hpb] at HP
    by_cases hk : f.k = 1
    · have hko : kidsOf f = f.kids.toList := by unfold kidsOf; rw [hpb, if_neg (by decide), if_pos hk]
      have hke : (f.k == 1) = true := by simp [hk]
      rw [hko, Array.length_toList]
      clear hpb hko h12
      obtain ⟨k, hk2⟩ : ∃ k, f.k = k := ⟨_, rfl⟩
      rw [hk2] at HP HBK hk hke ⊢
      subst hk
      go_enter Tryz.func78, Tryz.ntmps78
      go_wp2_with fail
      refine (HP.out _).mono ?_
      rintro e w5 ⟨rfl, hb5⟩
      have hx5 := (hb5.block w.heap.size (by simp)).trans (heap_alloc_new w _)
      obtain ⟨q0, q1, q2, q3, q4, q5, q6⟩ := cell7 hx5
      have HB5 := Lib.hid ((HB1.out _).trans (hb5.mono (by simp)))
      clear hb5 hx5 hk2
      go_wp2_with fail
      refine (HCL.out _ (HN.out.ds.below HB5.out)).mono ?_
      rintro e w6 ⟨q, c, rfl, hq, hnw, hb6, hcap⟩
      have HCAP := Lib.hid hcap
      clear hcap
      have HNW := Lib.hid (hnw.low HB5.out.size)
      clear hnw
      have HB6 := Lib.hid (HB5.out.trans (hb6.mono HB5.out.size))
      have HQ := Lib.hid hq
      clear hb6 hq q0 q1 q2 q3 q4 q5 q6
      go_wp2_with fail
      go_ret
      exact ⟨q, c, rfl, HQ.out, HNW.out, HB6.out, HCAP.out.1, HCAP.out.2⟩
    · have hko : kidsOf f = [] := by unfold kidsOf; rw [hpb, if_neg (by decide), if_neg hk]
      have hke : (f.k == 1) = false := beq_eq_false_iff_ne.2 hk
      rw [hko]
      clear hpb hko h12
      go_enter Tryz.func78, Tryz.ntmps78
      go_wp2_with fail
      refine (HP.out _).mono ?_
      rintro e w5 ⟨rfl, hb5⟩
      have hx5 := (hb5.block w.heap.size (by simp)).trans (heap_alloc_new w _)
      obtain ⟨q0, q1, q2, q3, q4, q5, q6⟩ := cell7 hx5
      have HB5 := Lib.hid ((HB1.out _).trans (hb5.mono (by simp)))
      clear hb5 hx5
      go_wp2_with fail
      go_ret
      exact ⟨none, 0, rfl, Il.nil _ _, .inl rfl, HB5.out, Nat.le_refl _, .inl rfl⟩
  · rw [hpb] at HP
    have hko : kidsOf f = sortedKids f := by unfold kidsOf; rw [hpb, if_pos rfl]
    have hsl := sortedKids_len f
    have hpn : pairsN f ≤ 1000000 := by unfold pairsN; split <;> omega
    rw [hko]
    rw [hsl]
    have HSL := Lib.hid hsl
    have HPN := Lib.hid hpn
    clear hpb hko h12 hsl hpn
    go_enter Tryz.func78, Tryz.ntmps78
    go_wp2_with fail
    refine (HP.out _).mono ?_
    rintro e w5 ⟨rfl, hb5⟩
    have hx5 := (hb5.block w.heap.size (by simp)).trans (heap_alloc_new w _)
    obtain ⟨q0, q1, q2, q3, q4, q5, q6⟩ := cell7 hx5
    have HB5 := Lib.hid ((HB1.out _).trans (hb5.mono (by simp)))
    clear hb5 hx5
    go_wp2_with fail
    refine (HBK.out _ (HN.out.below HB5.out)).mono ?_
    rintro e w6 ⟨v, rfl, ho, hb6⟩
    obtain ⟨q, c, rfl, hq⟩ := il_own ho HSL.out.symm HPN.out
    have HNW := Lib.hid ((own_new ho).low HB5.out.size)
    have HCAP := Lib.hid (show _ ∧ _ from ⟨own_cap ho, own_tag ho⟩)
    have HB6 := Lib.hid (HB5.out.trans (hb6.mono HB5.out.size))
    have HQ := Lib.hid hq
    clear hb6 hq ho q0 q1 q2 q3 q4 q5 q6
    go_wp2_with fail
    go_ret
    exact ⟨q, c, rfl, HQ.out, HNW.out, HB6.out, HCAP.out.1, HCAP.out.2⟩
set_option maxHeartbeats 4000000 in
theorem Kids_newc (root : Int) (L : Array Fn) (p : Option Addr) (cap : Nat) (i : Int) (w : World) (E : Env w) (hg : Gl w p L) (h12 : ∀ t, t < L.size → L[t]!.keys.size ≤ 12) :
    Calls Tryz.prog 66 #[.agg #[.int .i64 root, .slice p L.size cap], .int .i64 i] w fun e w' => ∃ q c, e = .returned (.tuple #[.slice q (kidsG L i).1.length c, .int .i64 (kidsG L i).2]) ∧ Il w' q (kidsG L i).1.toArray ∧ New w.heap.size q (kidsG L i).1.length ∧ Below w.heap.size w w' ∧ (kidsG L i).1.length ≤ c ∧ Tag w' q (kidsG L i).1.length := by
  have hb1 : ∀ o : Obj, Below w.heap.size w (w.alloc o) := fun o => (Below.refl _ w).alloc (Nat.le_refl _) _
  cases hi : plB i L.size
  · have hk : kidsG L i = ([], 2) := by unfold kidsG; rw [hi]; rfl
    rw [hk]
    have HV := Lib.hid fun w => viewAt_no root L p cap i w hi
    have HE := Lib.hid E
    clear hi hk hg E hb1
    go_enter Tryz.func66, Tryz.ntmps66
    go_wp2_with fail
    refine (HV.out _).mono ?_
    rintro e w5 ⟨⟨why, rfl⟩, hb5⟩
    have HB5 := Lib.hid (((Below.refl _ w).alloc (Nat.le_refl _) _).trans (hb5.mono (by simp)))
    clear hb5
    unfold faultV
    go_wp2_with fail
    refine (told_fault 0 2 why _ (HE.out.below (HB5.out.alloc HB5.out.size _))).mono ?_
    rintro e w6 ⟨rfl, hb6⟩
    have HB6 := Lib.hid ((HB5.out.alloc HB5.out.size _).trans (hb6.mono (by have := HB5.out.size; simp; omega)))
    clear hb6
    go_wp2_with fail
    go_ret2
    exact ⟨_, _, rfl, Il.nil _ _, .inl rfl, HB6.out, Nat.zero_le _, .inl rfl⟩
  · obtain ⟨t, rfl, ht⟩ := noPlace hi
    have hk : kidsG L t = (kidsOf L[t]!, 0) := by unfold kidsG; rw [hi]; rfl
    rw [hk]
    have hv := fun w hg => viewAt_yes root L p cap t w hg ht
    have hnl := hg.nodes t ht
    have h12' := h12 t ht
    obtain ⟨f, hf⟩ : ∃ f, L[t]! = f := ⟨_, rfl⟩
    rw [hf] at hv hnl h12' ⊢
    have HV := Lib.hid fun o => hv (w.alloc o) (hg.below (hb1 o))
    have HN := Lib.hid hnl
    have HP := Lib.hid fun w h => places_newc f L.size w h h12'
    obtain ⟨n, hn⟩ : ∃ f, L.size = f := ⟨_, rfl⟩
    unfold vV at HV HP
    rw [hn] at HV HP ⊢
    clear hi hk hg E hb1 hv hnl hf hn ht h12 h12'
    go_enter Tryz.func66, Tryz.ntmps66
    go_wp2_with fail
    refine (HV.out _).mono ?_
    rintro e w5 ⟨rfl, hb5⟩
    have HB5 := Lib.hid (((Below.refl _ w).alloc (Nat.le_refl _) _).trans (hb5.mono (by simp)))
    clear hb5
    go_wp2_with fail
    refine (HP.out _ (HN.out.below (HB5.out.alloc HB5.out.size _))).mono ?_
    rintro e w6 ⟨q, c, rfl, hq, hnw, hb6, hcap⟩
    have HCAP := Lib.hid hcap
    clear hcap
    have HNW := Lib.hid (hnw.low (show w.heap.size ≤ _ by have := HB5.out.size; simp; omega))
    clear hnw
    have HB6 := Lib.hid ((HB5.out.alloc HB5.out.size _).trans (hb6.mono (by have := HB5.out.size; simp; omega)))
    have HQ := Lib.hid hq
    clear hb6 hq
    go_wp2_with fail
    go_ret2
    exact ⟨q, c, rfl, HQ.out, HNW.out, HB6.out, HCAP.out.1, HCAP.out.2⟩
end Go.Proofs.YtepelpmkmhhokaaGreatDoor

set_option maxRecDepth 100000
namespace Go.Proofs.YtepelpmkmhhokaaGreatDoor
open Go.RowKit Go.Shelf
open Scs
open Go.Sort (HoldsK)
/-- a node as a value, with these keys and kids -/
def ndV (f : Fn) (qk : Option Addr) (nk ck : Nat) (qd : Option Addr) (nd cd : Nat) : Value := .agg #[.int .i64 f.k, .int .i64 f.x.1, .int .i64 f.x.2.1, .string f.x.2.2, .slice qk nk ck, .slice qd nd cd]
/-- a value is the node, its keys rising -/
structure Nv (A : World) (Q : Nat → Prop) (f : Fn) (qk : Option Addr) (qd : Option Addr) (cd : Nat) : Prop where
  ks : Sl A qk (keysOf f).toArray
  kq : InO Q qk (keysOf f).length
  ds : Il A qd (kidsOf f).toArray
  dq : InO Q qd (kidsOf f).length
  cap : (kidsOf f).length ≤ cd
  tag : Tag A qd (kidsOf f).length
theorem Sl.keepO {w w' : World} {q : Option Addr} {l : Array Sc} {O : Nat → Prop} (h : Sl w q l) (ho : InO O q l.size) (hz : w.heap.size ≤ w'.heap.size) (hk : ∀ k, O k → k < w.heap.size → w'.heap[k]? = w.heap[k]?) : Sl w' q l := by
  refine ⟨h.small, h.short, ?_⟩
  rcases h.lies with h0 | ⟨blk, off, hp, hbl, hc⟩
  · exact .inl h0
  · rcases ho with h0 | ⟨g, o, hq, hO⟩
    · exact .inl h0
    · rw [hp] at hq
      injection hq with hq
      injection hq with e1 e2 _
      subst e1
      exact .inr ⟨blk, off, hp, by omega, HoldsK_of hc (hk blk hO hbl)⟩
theorem Sl.in_heap {w : World} {q : Option Addr} {l : Array Sc} (h : Sl w q l) : InO (fun k => k < w.heap.size) q l.size := by
  rcases h.lies with h0 | ⟨blk, off, hp, hbl, _⟩
  · exact .inl h0
  · exact .inr ⟨blk, off, hp, hbl⟩
theorem Il.in_heap {w : World} {q : Option Addr} {l : Array Int} (h : Il w q l) : InO (fun k => k < w.heap.size) q l.size := by
  rcases h.lies with h0 | ⟨blk, off, hp, hbl, _⟩
  · exact .inl h0
  · exact .inr ⟨blk, off, hp, hbl⟩
theorem Tag.keepO {A B : World} {q : Option Addr} {l : List Int} {Q : Nat → Prop} (h : Tag A q l.length) (_hl : InO (fun k => k < A.heap.size) q l.toArray.size) (ho : InO Q q l.length) (hk : ∀ k, Q k → k < A.heap.size → B.heap[k]? = A.heap[k]?) : Tag B q l.length := by
  rcases h with h | ⟨g, o, cs, h1, h2⟩
  · exact .inl h
  · rcases ho with h0 | ⟨g', o', e, hq⟩
    · exact .inl h0
    · rw [h1] at e
      injection e with e
      injection e with e1 _ _
      subst e1
      exact .inr ⟨g, o, cs, h1, (hk g hq (Array.getElem?_eq_some_iff.1 h2).1).trans h2⟩
theorem Nv.keep {A B : World} {Q : Nat → Prop} {f : Fn} {qk qd : Option Addr} {cd : Nat} (h : Nv A Q f qk qd cd) (hz : A.heap.size ≤ B.heap.size) (hk : ∀ k, Q k → k < A.heap.size → B.heap[k]? = A.heap[k]?) : Nv B Q f qk qd cd :=
  ⟨h.ks.keepO (by simpa using h.kq) hz hk, h.kq, h.ds.keepO (by simpa using h.dq) hz hk, h.dq, h.cap, h.tag.keepO h.ds.in_heap h.dq hk⟩
theorem Nv.mono {A : World} {Q Q' : Nat → Prop} {f : Fn} {qk qd : Option Addr} {cd : Nat} (h : Nv A Q f qk qd cd) (hQ : ∀ k, Q k → Q' k) : Nv A Q' f qk qd cd := ⟨h.ks, h.kq.mono hQ, h.ds, h.dq.mono hQ, h.cap, h.tag⟩
/-- what a side knows -/
structure Ks (L : Array Fn) (K : Nat) (M : List (Int × Value)) (Q : Nat → Prop) (A : World) : Prop where
  has : HasM A K M
  tells : ∀ x v, findI x M = some v → 0 ≤ x ∧ x < L.size ∧ ∃ qk ck qd cd, v = ndV L[x.toNat]! qk (keysOf L[x.toNat]!).length ck qd (kidsOf L[x.toNat]!).length cd ∧ Nv A Q L[x.toNat]! qk qd cd
theorem Ks.keep {L : Array Fn} {K : Nat} {M : List (Int × Value)} {Q : Nat → Prop} {A B : World} (h : Ks L K M Q A) (hz : A.heap.size ≤ B.heap.size) (hK : B.heap[K]? = A.heap[K]?) (hk : ∀ k, Q k → k < A.heap.size → B.heap[k]? = A.heap[k]?) : Ks L K M Q B :=
  ⟨h.has.keep hK, fun x v e => by
    obtain ⟨h1, h2, qk, ck, qd, cd, h3, h4⟩ := h.tells x v e
    exact ⟨h1, h2, qk, ck, qd, cd, h3, h4.keep hz hk⟩⟩
theorem Ks.mono {L : Array Fn} {K : Nat} {M : List (Int × Value)} {Q Q' : Nat → Prop} {A : World} (h : Ks L K M Q A) (hQ : ∀ k, Q k → Q' k) : Ks L K M Q' A :=
  ⟨h.has, fun x v e => by
    obtain ⟨h1, h2, qk, ck, qd, cd, h3, h4⟩ := h.tells x v e
    exact ⟨h1, h2, qk, ck, qd, cd, h3, h4.mono hQ⟩⟩
theorem Ks.below {L : Array Fn} {K : Nat} {M : List (Int × Value)} {Q : Nat → Prop} {A B : World} (h : Ks L K M Q A) (hb : Below A.heap.size A B) : Ks L K M Q B :=
  h.keep hb.size (hb.block K (Array.getElem?_eq_some_iff.1 h.has).1) fun k _ hk => hb.block k hk
theorem findI_append {x : Int} {v : Value} {M : List (Int × Value)} (h : findI x M = some v) (N : List (Int × Value)) : findI x (M ++ N) = some v := by
  induction M with
  | nil => cases h
  | cons y t ih =>
    rw [List.cons_append]
    unfold findI at h ⊢
    by_cases e : x = y.1
    · rw [if_pos e] at h ⊢; exact h
    · rw [if_neg e] at h ⊢; exact ih h
theorem Sl.no_map {w : World} {g o : Nat} {l : Array Sc} (h : Sl w (some ⟨g, o, none⟩) l) (h0 : 0 < l.size) {es : Array MapEntry} {c : Nat} : w.heap[g]? ≠ some (.map es c) := by
  intro e
  rcases h.lies with hz | ⟨blk, off, hp, _, hc⟩
  · omega
  · injection hp with hp
    injection hp with e1 e2 _
    subst e1
    have := (Sl.cells hc 0 h0).1
    rw [World.cell?, e] at this
    cases this
/-- the rows are no map -/
theorem Ks.off {L : Array Fn} {K : Nat} {M : List (Int × Value)} {Q : Nat → Prop} {A : World} (h : Ks L K M Q A) : Ks L K M (fun k => Q k ∧ k ≠ K) A :=
  ⟨h.has, fun x v e => by
    obtain ⟨h1, h2, qk, ck, qd, cd, h3, h4⟩ := h.tells x v e
    refine ⟨h1, h2, qk, ck, qd, cd, h3, h4.ks, ?_, h4.ds, ?_, h4.cap, h4.tag⟩
    · rcases h4.kq with h5 | ⟨g, o, rfl, hO⟩
      · exact .inl h5
      · by_cases h0 : (keysOf L[x.toNat]!).length = 0
        · exact .inl h0
        · exact .inr ⟨g, o, rfl, hO, fun e => h4.ks.no_map (by simp; omega) (by rw [e]; exact h.has)⟩
    · rcases h4.dq with h5 | ⟨g, o, rfl, hO⟩
      · exact .inl h5
      · by_cases h0 : (kidsOf L[x.toNat]!).length = 0
        · exact .inl h0
        · exact .inr ⟨g, o, rfl, hO, fun e => h4.ds.no_map (by simp; omega) (by rw [e]; exact h.has)⟩⟩
theorem Nv.lt {A : World} {Q : Nat → Prop} {f : Fn} {qk qd : Option Addr} {cd : Nat} (h : Nv A Q f qk qd cd) : Nv A (fun k => Q k ∧ k < A.heap.size) f qk qd cd := by
  refine ⟨h.ks, ?_, h.ds, ?_, h.cap, h.tag⟩
  · rcases h.kq with h0 | ⟨g, o, rfl, hq⟩
    · exact .inl h0
    · rcases h.ks.in_heap with h0 | ⟨g', o', e, hg'⟩
      · exact .inl (by simpa using h0)
      · injection e with e
        injection e with e1 _ _
        subst e1
        exact .inr ⟨_, o, rfl, hq, hg'⟩
  · rcases h.dq with h0 | ⟨g, o, rfl, hq⟩
    · exact .inl h0
    · rcases h.ds.in_heap with h0 | ⟨g', o', e, hg'⟩
      · exact .inl (by simpa using h0)
      · injection e with e
        injection e with e1 _ _
        subst e1
        exact .inr ⟨_, o, rfl, hq, hg'⟩
theorem new_in {b n n' : Nat} {q : Option Addr} (h : New b q n) (hn : n' = n) : InO (fun k => b ≤ k) q n' := by rw [hn]; exact h
theorem in_size {b n n' c s s' : Nat} {Q : Nat → Prop} {q : Option Addr} (h : New b q n) (hs : InO (fun k => k < s) q n') (hn : n' = n) (hc : c ≤ b) (hss : s ≤ s') : InO (fun k => Q k ∨ (c ≤ k ∧ k < s')) q n := by
  rcases h with h | ⟨g, o, rfl, hg⟩
  · exact .inl h
  · rcases hs with h0 | ⟨g', o', e, hg'⟩
    · exact .inl (by omega)
    · injection e with e
      injection e with e1 _ _
      subst e1
      exact .inr ⟨_, o, rfl, .inr ⟨by omega, by omega⟩⟩
theorem zero51 (w : World) : (zeroValue 51).run Tryz.prog w = .ok (.agg #[.int .i64 0, .int .i64 0, .int .i64 0, .string ⟨#[]⟩, .slice none 0 0, .slice none 0 0]) w := by kernel_rfl
/-- a row of six cells: what they hold, and that they may be turned -/
structure Row6 (W : World) (B : Nat) (x0 x1 x2 x3 x4 x5 : Value) : Prop where
  c0 : W.cell? ⟨B, 0, none⟩ = some x0
  c1 : W.cell? ⟨B, 1, none⟩ = some x1
  c2 : W.cell? ⟨B, 2, none⟩ = some x2
  c3 : W.cell? ⟨B, 3, none⟩ = some x3
  c4 : W.cell? ⟨B, 4, none⟩ = some x4
  c5 : W.cell? ⟨B, 5, none⟩ = some x5
  f0 : W.frozen? ⟨B, 0, none⟩ = false
  f1 : W.frozen? ⟨B, 1, none⟩ = false
  f2 : W.frozen? ⟨B, 2, none⟩ = false
  f3 : W.frozen? ⟨B, 3, none⟩ = false
  f4 : W.frozen? ⟨B, 4, none⟩ = false
  f5 : W.frozen? ⟨B, 5, none⟩ = false
theorem row6 {W : World} {B T : Nat} {x0 x1 x2 x3 x4 x5 : Value} (h : W.heap[B]? = some (.cells #[x0, x1, x2, x3, x4, x5] T (0, 0))) : Row6 W B x0 x1 x2 x3 x4 x5 :=
  ⟨cell_of_row _ _ 0 _ _ _ h, cell_of_row _ _ 1 _ _ _ h, cell_of_row _ _ 2 _ _ _ h, cell_of_row _ _ 3 _ _ _ h, cell_of_row _ _ 4 _ _ _ h, cell_of_row _ _ 5 _ _ _ h, frozen_of_row _ _ 0 _ _ h, frozen_of_row _ _ 1 _ _ h, frozen_of_row _ _ 2 _ _ h, frozen_of_row _ _ 3 _ _ h, frozen_of_row _ _ 4 _ _ h, frozen_of_row _ _ 5 _ _ h⟩
theorem set6 (w : World) (B T : Nat) {x0 x1 x2 x3 x4 x5 : Value} (v0 v1 v2 v3 v4 v5 : Value) (h : w.heap[B]? = some (.cells #[x0, x1, x2, x3, x4, x5] T (0, 0))) :
    ∃ W, ((((((w.setCell ⟨B, 0, none⟩ v0).setCell ⟨B, 1, none⟩ v1).setCell ⟨B, 2, none⟩ v2).setCell ⟨B, 3, none⟩ v3).setCell ⟨B, 4, none⟩ v4).setCell ⟨B, 5, none⟩ v5) = W ∧ W.heap[B]? = some (.cells #[v0, v1, v2, v3, v4, v5] T (0, 0)) ∧ w.grownBy W (some B) ∧ W.heap.size = w.heap.size := by
  refine ⟨_, rfl, ?_, gB_setCell (gB_setCell (gB_setCell (gB_setCell (gB_setCell (gB_setCell (gB_refl _ _) _ _) _ _) _ _) _ _) _ _) _ _, by simp⟩
  exact heap_setCell_same _ _ 5 _ _ _ (heap_setCell_same _ _ 4 _ _ _ (heap_setCell_same _ _ 3 _ _ _ (heap_setCell_same _ _ 2 _ _ _ (heap_setCell_same _ _ 1 _ _ _ (heap_setCell_same _ _ 0 _ _ _ h)))))
set_option maxHeartbeats 8000000 in
/-- a node that is known -/
theorem node_known (root : Int) (_L : Array Fn) (m : Nat) (p : Option Addr) (cap K x : Nat) (M : List (Int × Value)) (a0 a1 a2 : Int) (s : ByteArray) (qk : Option Addr) (nk ck : Nat) (qd : Option Addr) (nd cd : Nat) (w : World) (hK : HasM w K M) (hf : findI (x : Int) M = some (.agg #[.int .i64 a0, .int .i64 a1, .int .i64 a2, .string s, .slice qk nk ck, .slice qd nd cd])) :
    Calls Tryz.prog 43 #[.agg #[.int .i64 root, .slice p m cap, .map (some K)], .int .i64 x] w fun e w' => e = .returned (.agg #[.int .i64 a0, .int .i64 a1, .int .i64 a2, .string s, .slice qk nk ck, .slice qd nd cd]) ∧ Below w.heap.size w w' := by
  obtain ⟨W, hW, hz, hb, hr0, hr1⟩ := at2 w (.cells #[.int .i64 root, .slice p m cap, .map (some K)] 55) (.cells #[.int .i64 0, .int .i64 0, .int .i64 0, .string ⟨#[]⟩, .slice none 0 0, .slice none 0 0] 51)
  have hKl : K < w.heap.size := (Array.getElem?_eq_some_iff.1 hK).1
  have hKW : HasM W K M := hK.keep (hb.block K hKl)
  obtain ⟨c0, c1, c2⟩ := cell3 hr0
  have hlook := look_int2 Tryz.underlying53 W K (x : Int) M (zero51 W) hKW
  rw [hf] at hlook
  simp only [Option.getD, Option.isSome] at hlook
  have HW := Lib.hid hW
  have HZ := Lib.hid hz
  have HB := Lib.hid hb
  have HR1 := Lib.hid hr1
  clear hW hz hb hr0 hr1 hKW hK hf
  go_enter Tryz.func43, Tryz.ntmps43
  go_upto_region 1 with fail
  rw [HW.out]
  go_upto_region 2 with fail
  obtain ⟨W3, hW3, hz3, hb3, hr3⟩ := at1 W (.cells #[.int .i64 a0, .int .i64 a1, .int .i64 a2, .string s, .slice qk nk ck, .slice qd nd cd] 51)
  have h1 := HR1.out
  have hz := HZ.out
  have hr13 := (hb3.block (w.heap.size + 1) (by omega)).trans h1
  have r3 := row6 hr3
  have r1 := row6 hr13
  obtain ⟨d0, d1, d2, d3, d4, d5, _, _, _, _, _, _⟩ := r3
  obtain ⟨b0, b1, b2, b3, b4, b5, g0, g1, g2, g3, g4, g5⟩ := r1
  have s9 := set6 W3 (w.heap.size + 1) 51 (.int .i64 a0) (.int .i64 a1) (.int .i64 a2) (.string s) (.slice qk nk ck) (.slice qd nd cd) hr13
  have S9 := Lib.hid s9
  have HB3 := Lib.hid (HB.out.trans (hb3.mono HB.out.size))
  rw [hW3]
  clear h1 hr13 hr3 hW3 hb3 s9 c0 c1 c2 hlook hz3 hz
  go_wp2_with fail
  obtain ⟨W9, h9, hr9, hg9, hz9⟩ := S9.out
  rw [h9]
  have r9 := row6 hr9
  refine bodyPost_ret (v := .agg #[.int .i64 a0, .int .i64 a1, .int .i64 a2, .string s, .slice qk nk ck, .slice qd nd cd]) (by simp [results, Tryz.results43, go_sem, r9.c0, r9.c1, r9.c2, r9.c3, r9.c4, r9.c5]) rfl ?_
  exact ⟨rfl, HB3.out.trans (below_of_grown hg9 (by omega) HB3.out.size)⟩
set_option maxHeartbeats 16000000 in
/-- a node that is not known yet -/
theorem node_new (root : Int) (L : Array Fn) (m : Nat) (p : Option Addr) (cap K x : Nat) (M : List (Int × Value)) (Q : Nat → Prop) (w : World) (hm : L.size = m) (E : Env w) (hg : Gl w p L) (h12 : ∀ t, t < L.size → L[t]!.keys.size ≤ 12) (hx : x < L.size) (hK : Ks L K M Q w) (hf : findI (x : Int) M = none) :
    Calls Tryz.prog 43 #[.agg #[.int .i64 root, .slice p m cap, .map (some K)], .int .i64 x] w fun e w' => ∃ qk ck qd cd, e = .returned (ndV L[x]! qk (keysOf L[x]!).length ck qd (kidsOf L[x]!).length cd) ∧
      Ks L K (M ++ [((x : Int), ndV L[x]! qk (keysOf L[x]!).length ck qd (kidsOf L[x]!).length cd)]) (fun k => Q k ∨ (w.heap.size ≤ k ∧ k < w'.heap.size)) w' ∧ Grw (fun k => k = K) w w' := by
  obtain ⟨W, hW, hz, hb, hr0, hr1⟩ := at2 w (.cells #[.int .i64 root, .slice p m cap, .map (some K)] 55) (.cells #[.int .i64 0, .int .i64 0, .int .i64 0, .string ⟨#[]⟩, .slice none 0 0, .slice none 0 0] 51)
  have hKl : K < w.heap.size := (Array.getElem?_eq_some_iff.1 hK.has).1
  have hKW : Ks L K M Q W := hK.keep hb.size (hb.block K hKl) fun k _ hk => hb.block k hk
  obtain ⟨c0, c1, c2⟩ := cell3 hr0
  have hlook := look_int2 Tryz.underlying53 W K (x : Int) M (zero51 W) hKW.has
  rw [hf] at hlook
  simp only [Option.getD, Option.isSome] at hlook
  have hKEY := fun W' (hb : Below w.heap.size w W') => Keys_new root L p cap x W' (E.below hb) (hg.below hb)
  have hKID := fun W' (hb : Below w.heap.size w W') => Kids_newc root L p cap x W' (E.below hb) (hg.below hb) h12
  have hkg : keysG L (x : Int) = (keysOf L[x]!, 0) := by
    unfold keysG
    rw [show plB (x : Int) L.size = true from plB_iff.2 ⟨by omega, by omega⟩]
    rfl
  rw [kids_yes hx, hm] at hKID
  rw [hkg, hm] at hKEY
  obtain ⟨blk, off, rfl, hbl, e0, e1, e2, e3, e4, e5⟩ := (hg.below hb).at x hx
  have hxi : (x : Int) < (m : Int) := by omega
  have hxi0 : (0 : Int) ≤ (x : Int) := by omega
  have hsm := hg.small
  rw [hm] at hsm
  obtain ⟨f, hF⟩ : ∃ f, L[x]! = f := ⟨_, rfl⟩
  rw [hF] at hKEY hKID e0 e1 e2 e3 e4 e5 ⊢
  simp only at hKEY hKID
  obtain ⟨ks, hks⟩ : ∃ ks, keysOf f = ks := ⟨_, rfl⟩
  obtain ⟨ds, hds⟩ : ∃ ks, kidsOf f = ks := ⟨_, rfl⟩
  rw [hks] at hKEY ⊢
  rw [hds] at hKID ⊢
  obtain ⟨nk, hnk⟩ : ∃ n, ks.length = n := ⟨_, rfl⟩
  obtain ⟨nd, hnd⟩ : ∃ n, ds.length = n := ⟨_, rfl⟩
  rw [hnk] at hKEY ⊢
  rw [hnd] at hKID ⊢
  unfold ndV
  have HKW := Lib.hid fun W' (hb : Below w.heap.size w W') => hK.below hb
  have HKEY := Lib.hid hKEY
  have HKID := Lib.hid hKID
  have HW := Lib.hid hW
  have HZ := Lib.hid hz
  have HB := Lib.hid hb
  have HR0 := Lib.hid hr0
  have HR1 := Lib.hid hr1
  have HX := Lib.hid hx
  have HFF := Lib.hid hF
  have HKS := Lib.hid hks
  have HDS := Lib.hid hds
  have HNK := Lib.hid hnk
  have HND := Lib.hid hnd
  have HM := Lib.hid hm
  have HKL := Lib.hid hKl
  have HF := Lib.hid hf
  clear hKEY hKID hKW hb hr0 hr1 hg E hK h12 hW hz hx hF hks hds hnk hnd hm hKl hf hkg hbl
  go_enter Tryz.func43, Tryz.ntmps43
  go_upto_region 1 with fail
  rw [HW.out]
  go_upto_region 2 with fail
  obtain ⟨W3, hW3, hz3, hb3, hr3⟩ := at1 W (.cells #[.int .i64 0, .int .i64 0, .int .i64 0, .string ⟨#[]⟩, .slice none 0 0, .slice none 0 0] 51)
  have hz := HZ.out
  have hr03 := (hb3.block w.heap.size (by omega)).trans HR0.out
  have hr13 := (hb3.block (w.heap.size + 1) (by omega)).trans HR1.out
  obtain ⟨c0', c1', c2'⟩ := cell3 hr03
  have lift3 : ∀ o v, W.cell? ⟨blk, o, none⟩ = some v → W3.cell? ⟨blk, o, none⟩ = some v := fun o v h => (hb3.cell (p := ⟨blk, o, none⟩) (World.block_lt_of_cell? W ⟨blk, o, none⟩ (by rw [h]))).trans h
  have e0' := lift3 _ _ e0
  have e1' := lift3 _ _ e1
  have e2' := lift3 _ _ e2
  have e3' := lift3 _ _ e3
  have e4' := lift3 _ _ e4
  have e5' := lift3 _ _ e5
  obtain ⟨d0, d1, d2, d3, d4, d5, g0, g1, g2, g3, g4, g5⟩ := row6 hr3
  have s4 := set6 W3 W.heap.size 51 (.int .i64 f.k) (.int .i64 f.x.1) (.int .i64 f.x.2.1) (.string f.x.2.2) (.slice f.pk f.keys.size f.ck) (.slice f.pd f.kids.size f.cd) hr3
  have S4 := Lib.hid s4
  have HB3 := Lib.hid (HB.out.trans (hb3.mono HB.out.size))
  have HR03 := Lib.hid hr03
  have HR13 := Lib.hid hr13
  have HZ3 := Lib.hid hz3
  rw [hW3]
  clear c0 c1 c2 hlook e0 e1 e2 e3 e4 e5 lift3 hr03 hr13 hW3 hz3 hb3 hr3 s4 hz
  go_upto_region 4 with fail
  obtain ⟨W4, h4, hr4, hg4, hz4⟩ := S4.out
  rw [h4]
  have hz := HZ.out
  have hz3 := HZ3.out
  have hr04 := (hg4.block w.heap.size (by omega) (by simp; omega)).trans HR03.out
  have hr14 := (hg4.block (w.heap.size + 1) (by omega) (by simp; omega)).trans HR13.out
  obtain ⟨a0, a1, a2⟩ := cell3 hr04
  have hbw4 : Below w.heap.size w W4 := HB3.out.trans (below_of_grown hg4 (by omega) HB3.out.size)
  have HB4 := Lib.hid hbw4
  have HR04 := Lib.hid hr04
  have HR14 := Lib.hid hr14
  have HR4 := Lib.hid hr4
  have HZ4 := Lib.hid hz4
  have HKEY4 := Lib.hid (HKEY.out W4 hbw4)
  clear c0' c1' c2' e0' e1' e2' e3' e4' e5' d0 d1 d2 d3 d4 d5 g0 g1 g2 g3 g4 g5 hz hz3 hr04 hr14 hr4 hg4 hz4 hbw4 h4
  go_wp2_with fail
  refine HKEY4.out.mono ?_
  rintro e W5 ⟨qk, ck, rfl, hsl, hnk, hb5⟩
  have hz := HZ.out
  have hz4 := HZ4.out
  have hz3 := HZ3.out
  have hr5 := (hb5.block W.heap.size (by omega)).trans HR4.out
  have hr05 := (hb5.block w.heap.size (by omega)).trans HR04.out
  have hr15 := (hb5.block (w.heap.size + 1) (by omega)).trans HR14.out
  have k5 := (row6 hr5).c4
  have g5 := (row6 hr5).f4
  have h6 := heap_setCell_same W5 W.heap.size 4 _ _ (.slice qk nk ck) hr5
  have HSL := Lib.hid hsl
  have HNW := Lib.hid hnk
  have HB5 := Lib.hid (HB4.out.trans (hb5.mono HB4.out.size))
  have HZ5 := Lib.hid hb5.size
  have HR05 := Lib.hid hr05
  have HR15 := Lib.hid hr15
  have H6 := Lib.hid h6
  clear hsl hnk hb5 hr5 hr05 hr15 h6 a0 a1 a2 hz hz4 hz3
  go_upto_region 5 with fail
  obtain ⟨W6, hW6⟩ : ∃ W6, W5.setCell ⟨W.heap.size, 4, none⟩ (.slice qk nk ck) = W6 := ⟨_, rfl⟩
  have h6 := H6.out
  rw [hW6] at h6 ⊢
  have hg6 : W5.grownBy W6 (some W.heap.size) := by rw [← hW6]; exact gB_setCell (gB_refl _ _) _ _
  have hz6 : W6.heap.size = W5.heap.size := by rw [← hW6]; simp
  have hz := HZ.out
  have hz5 := HZ5.out
  have hz4 := HZ4.out
  have hz3 := HZ3.out
  have hr06 := (hg6.block w.heap.size (by omega) (by simp; omega)).trans HR05.out
  have hr16 := (hg6.block (w.heap.size + 1) (by omega) (by simp; omega)).trans HR15.out
  obtain ⟨a0, a1, a2⟩ := cell3 hr06
  have hbw6 : Below w.heap.size w W6 := HB5.out.trans (below_of_grown hg6 (by omega) HB5.out.size)
  have hsl6 : Sl W6 qk ks.toArray := HSL.out.keepO (O := fun k => W4.heap.size ≤ k) (new_in HNW.out (by simpa using HNK.out)) (by omega) fun k hk hkl => hg6.block k hkl (by simp; omega)
  have HSL6 := Lib.hid hsl6
  have HB6 := Lib.hid hbw6
  have HR06 := Lib.hid hr06
  have HR16 := Lib.hid hr16
  have HR6 := Lib.hid h6
  have HZ6 := Lib.hid hz6
  have HKID6 := Lib.hid (HKID.out W6 hbw6)
  clear hr06 hr16 h6 hg6 hz6 hbw6 hsl6 hz hz3 hz4 hz5 k5 g5 hW6
  go_wp2_with fail
  refine HKID6.out.mono ?_
  rintro e W7 ⟨qd, cd, rfl, hdl, hnd, hb7, hcap⟩
  have HCAP := Lib.hid hcap
  clear hcap
  have hz := HZ.out
  have hz5 := HZ5.out
  have hz4 := HZ4.out
  have hz3 := HZ3.out
  have hz6 := HZ6.out
  have hr7 := (hb7.block W.heap.size (by omega)).trans HR6.out
  have hr07 := (hb7.block w.heap.size (by omega)).trans HR06.out
  have hr17 := (hb7.block (w.heap.size + 1) (by omega)).trans HR16.out
  have k5 := (row6 hr7).c5
  have g5 := (row6 hr7).f5
  have h8 := heap_setCell_same W7 W.heap.size 5 _ _ (.slice qd nd cd) hr7
  have HDL := Lib.hid hdl
  have HNW2 := Lib.hid hnd
  have HSL7 := Lib.hid (HSL6.out.below hb7)
  have HB7 := Lib.hid (HB6.out.trans (hb7.mono HB6.out.size))
  have HZ7 := Lib.hid hb7.size
  have HR07 := Lib.hid hr07
  have HR17 := Lib.hid hr17
  have H8 := Lib.hid h8
  clear hdl hnd hb7 hr7 hr07 hr17 h8 a0 a1 a2 hz hz4 hz3 hz5 hz6
  go_upto_region 6 with fail
  obtain ⟨W8, hW8⟩ : ∃ W8, W7.setCell ⟨W.heap.size, 5, none⟩ (.slice qd nd cd) = W8 := ⟨_, rfl⟩
  have h8 := H8.out
  rw [hW8] at h8 ⊢
  have hg8 : W7.grownBy W8 (some W.heap.size) := by rw [← hW8]; exact gB_setCell (gB_refl _ _) _ _
  have hz8 : W8.heap.size = W7.heap.size := by rw [← hW8]; simp
  have hz := HZ.out
  have hz5 := HZ5.out
  have hz4 := HZ4.out
  have hz3 := HZ3.out
  have hz6 := HZ6.out
  have hz7 := HZ7.out
  have hkl := HKL.out
  have hr08 := (hg8.block w.heap.size (by omega) (by simp; omega)).trans HR07.out
  have hr18 := (hg8.block (w.heap.size + 1) (by omega) (by simp; omega)).trans HR17.out
  obtain ⟨a0, a1, a2⟩ := cell3 hr08
  have hbw8 : Below w.heap.size w W8 := HB7.out.trans (below_of_grown hg8 (by omega) HB7.out.size)
  have hsl8 : Sl W8 qk ks.toArray := HSL7.out.keepO (O := fun k => W4.heap.size ≤ k) (new_in HNW.out (by simpa using HNK.out)) (by omega) fun k hk hkl => hg8.block k hkl (by simp; omega)
  have hdl8 : Il W8 qd ds.toArray := HDL.out.keepO (O := fun k => W6.heap.size ≤ k) (new_in HNW2.out (by simpa using HND.out)) (by omega) fun k hk hkl => hg8.block k hkl (by simp; omega)
  obtain ⟨d0, d1, d2, d3, d4, d5, _, _, _, _, _, _⟩ := row6 h8
  have hks8 := HKW.out W8 hbw8
  obtain ⟨nv, hnv⟩ : ∃ nv : Value, .agg #[.int .i64 f.k, .int .i64 f.x.1, .int .i64 f.x.2.1, .string f.x.2.2, .slice qk nk ck, .slice qd nd cd] = nv := ⟨_, rfl⟩
  have hput := put_int Tryz.underlying53 W8 K (x : Int) nv M hks8.has HF.out
  have hhas := hks8.has.put ((x : Int), nv)
  obtain ⟨W9, hW9⟩ : ∃ W9, W8.putObj K (.map (entI (M ++ [((x : Int), nv)]) 0).toArray (M ++ [((x : Int), nv)]).length) = W9 := ⟨_, rfl⟩
  rw [hW9] at hput hhas
  have hg9 : W8.grownBy W9 (some K) := by rw [← hW9]; exact Seqo.turn W8 _ _
  have hz9 : W9.heap.size = W8.heap.size := by rw [← hW9]; simp
  have h9 := (hg9.block W.heap.size (by omega) (by simp; omega)).trans h8
  have hr19 := (hg9.block (w.heap.size + 1) (by omega) (by simp; omega)).trans hr18
  obtain ⟨b0, b1, b2, b3, b4, b5, _, _, _, _, _, _⟩ := row6 h9
  obtain ⟨r0, r1, r2, r3, r4, r5, g0, g1, g2, g3, g4, g6⟩ := row6 hr19
  have s10 := set6 W9 (w.heap.size + 1) 51 (.int .i64 f.k) (.int .i64 f.x.1) (.int .i64 f.x.2.1) (.string f.x.2.2) (.slice qk nk ck) (.slice qd nd cd) hr19
  have S10 := Lib.hid s10
  have HSL8 := Lib.hid hsl8
  have HDL8 := Lib.hid hdl8
  have HB8 := Lib.hid hbw8
  have HKS8 := Lib.hid hks8
  have HHAS := Lib.hid hhas
  have HG9 := Lib.hid hg9
  have HZ8 := Lib.hid hz8
  have HG8 := Lib.hid hg8
  have HZ9 := Lib.hid hz9
  have HNV := Lib.hid hnv
  rw [← hnv] at hput
  clear hr08 hr18 h8 hg8 hz8 hbw8 hsl8 hdl8 hz hz3 hz4 hz5 hz6 hz7 k5 g5 hW8 hW9 hhas hg9 hz9 hr19 h9 s10 hks8 hkl hnv
  go_upto_region 7 with fail
  go_wp2_with fail
  obtain ⟨W10, h10, hr10, hg10, hz10⟩ := S10.out
  rw [h10]
  have r9 := row6 hr10
  refine bodyPost_ret (v := .agg #[.int .i64 f.k, .int .i64 f.x.1, .int .i64 f.x.2.1, .string f.x.2.2, .slice qk nk ck, .slice qd nd cd]) (by simp [results, Tryz.results43, go_sem, r9.c0, r9.c1, r9.c2, r9.c3, r9.c4, r9.c5]) rfl ?_
  have hz := HZ.out
  have hz3 := HZ3.out
  have hz4 := HZ4.out
  have hz5 := HZ5.out
  have hz6 := HZ6.out
  have hz7 := HZ7.out
  have hz8 := HZ8.out
  have hz9 := HZ9.out
  have hkl := HKL.out
  have hgz : ∀ k, k < W8.heap.size → k ≠ K → k ≠ w.heap.size + 1 → W10.heap[k]? = W8.heap[k]? := fun k hk h1 h2 => (hg10.block k (by omega) (by simpa using h2)).trans (HG9.out.block k hk (by simpa using h1))
  have hks8 := HKS8.out
  have hlow : ∀ g, W4.heap.size ≤ g → g ≠ K ∧ g ≠ w.heap.size + 1 := fun g hg => ⟨by omega, by omega⟩
  have hnvQ : Nv W10 (fun k => Q k ∨ (w.heap.size ≤ k ∧ k < W10.heap.size)) f qk qd cd := by
    refine ⟨?_, ?_, ?_, ?_, by rw [HDS.out, HND.out]; exact HCAP.out.1, ?_⟩
    rotate_left 4
    · rw [HDS.out, HND.out]
      have t7 := HCAP.out.2
      rcases t7 with t7 | ⟨g, o, cs, t1, t2⟩
      · exact .inl t7
      · rcases HNW2.out with h0 | ⟨g', o', e, hg'⟩
        · exact .inl h0
        · rw [t1] at e
          injection e with e
          injection e with e1 _ _
          subst e1
          have hgl := (Array.getElem?_eq_some_iff.1 t2).1
          refine .inr ⟨g, o, cs, t1, ?_⟩
          exact (hgz g (by omega) (by omega) (by omega)).trans ((HG8.out.block g hgl (by simp; omega)).trans t2)
    · rw [HKS.out]
      exact HSL8.out.keepO (new_in HNW.out (by simpa using HNK.out)) (by omega) fun k hk hkl => hgz k hkl (hlow k hk).1 (hlow k hk).2
    · rw [HKS.out, HNK.out]
      exact in_size HNW.out HSL8.out.in_heap (by simp [HNK.out]) (by omega) (by omega)
    · rw [HDS.out]
      exact HDL8.out.keepO (new_in HNW2.out (by simpa using HND.out)) (by omega) fun k hk hkl => hgz k hkl (hlow k (by omega)).1 (hlow k (by omega)).2
    · rw [HDS.out, HND.out]
      exact in_size HNW2.out HDL8.out.in_heap (by simp [HND.out]) (by omega) (by omega)
  refine ⟨qk, ck, qd, cd, rfl, ⟨?_, fun y v hy => ?_⟩, ?_⟩
  · rw [HNV.out]
    exact HHAS.out.keep (hg10.block K (by omega) (by simp; omega))
  · rw [HNV.out, findI_snoc] at hy
    cases hfy : findI y M with
    | some v' =>
      rw [hfy] at hy
      simp only [Option.some.injEq] at hy
      subst hy
      obtain ⟨a1, a2, qk', ck', qd', cd', a3, a4⟩ := (HKW.out w (Below.refl _ w)).off.tells y v' hfy
      refine ⟨a1, a2, qk', ck', qd', cd', a3, (a4.keep (B := W10) (by omega) fun k hk hkl => ?_).mono fun k h => .inl h.1⟩
      exact (hgz k (by omega) hk.2 (by omega)).trans (HB8.out.block k hkl)
    | none =>
      rw [hfy] at hy
      simp only at hy
      by_cases hyx : y = (x : Int)
      · rw [if_pos hyx] at hy
        injection hy with hy
        subst hyx
        have hx2 := HX.out
        have hm2 := HM.out
        rw [show ((x : Int)).toNat = x from rfl, HFF.out]
        refine ⟨by omega, by omega, qk, ck, qd, cd, ?_, hnvQ⟩
        rw [← hy, ← HNV.out, HKS.out, HDS.out, HNK.out, HND.out]
        rfl
      · rw [if_neg hyx] at hy; cases hy
  · exact ⟨hg10.os.trans (HG9.out.os.trans HB8.out.os), hg10.tape.trans (HG9.out.tape.trans HB8.out.tape), hg10.output.trans (HG9.out.output.trans HB8.out.output), by have := HB8.out.size; omega, fun k hk hne => (hgz k (by omega) hne (by omega)).trans (HB8.out.block k hk)⟩
end Go.Proofs.YtepelpmkmhhokaaGreatDoor

set_option maxRecDepth 100000
namespace Go.Proofs.YtepelpmkmhhokaaGreatDoor
open Go.RowKit Go.Shelf
open Scs
/-- where the rest of a row lies, the first one off -/
def tl (g o c : Nat) : Addr := if c = 1 then ⟨g, o, none⟩ else ⟨g, o + 1, none⟩
/-- two graphs that lay before their sides were made -/
structure Vw (w0 : World) (D E : Array Fn) (ma mb : Nat) (pa pb : Option Addr) (Ka Kb : Nat) : Prop where
  hma : D.size = ma
  hmb : E.size = mb
  env : Env w0
  gla : Gl w0 pa D
  glb : Gl w0 pb E
  k12a : ∀ t, t < D.size → D[t]!.keys.size ≤ 12
  k12b : ∀ t, t < E.size → E[t]!.keys.size ≤ 12
  newA : w0.heap.size ≤ Ka
  newB : w0.heap.size ≤ Kb
  ne : Ka ≠ Kb
/-- what is known of both, in rows that are none of O's -/
structure Vs (w0 : World) (D E : Array Fn) (Ka Kb : Nat) (O : Nat → Prop) (W : World) : Prop where
  low : Below w0.heap.size w0 W
  ka : ∃ M, Ks D Ka M (fun k => ¬ O k) W
  kb : ∃ N, Ks E Kb N (fun k => ¬ O k) W
/-- more is known -/
structure Ch (Ka Kb : Nat) (W W' : World) : Prop where
  grw : Grw (fun k => k = Ka ∨ k = Kb) W W'
  upA : ∀ M, HasM W Ka M → ∃ N, HasM W' Ka (M ++ N)
  upB : ∀ M, HasM W Kb M → ∃ N, HasM W' Kb (M ++ N)
theorem Ch.refl (Ka Kb : Nat) (W : World) : Ch Ka Kb W W := ⟨Grw.refl _ _, fun M h => ⟨[], by simpa using h⟩, fun M h => ⟨[], by simpa using h⟩⟩
theorem Ch.trans {Ka Kb : Nat} {A B C : World} (h : Ch Ka Kb A B) (k : Ch Ka Kb B C) : Ch Ka Kb A C :=
  ⟨h.grw.trans k.grw, fun M hM => by
    obtain ⟨N, hN⟩ := h.upA M hM
    obtain ⟨N', hN'⟩ := k.upA _ hN
    exact ⟨N ++ N', by simpa using hN'⟩, fun M hM => by
    obtain ⟨N, hN⟩ := h.upB M hM
    obtain ⟨N', hN'⟩ := k.upB _ hN
    exact ⟨N ++ N', by simpa using hN'⟩⟩
theorem HasM.lt {w : World} {b : Nat} {L : List (Int × Value)} (h : HasM w b L) : b < w.heap.size := (Array.getElem?_eq_some_iff.1 h).1
theorem Ch.of_keep {Ka Kb : Nat} {A B : World} (h : Grw (fun k => k = Ka ∨ k = Kb) A B) (ha : Ka < A.heap.size → B.heap[Ka]? = A.heap[Ka]?) (hb : Kb < A.heap.size → B.heap[Kb]? = A.heap[Kb]?) : Ch Ka Kb A B :=
  ⟨h, fun M hM => ⟨[], by simpa using hM.keep (ha hM.lt)⟩, fun M hM => ⟨[], by simpa using hM.keep (hb hM.lt)⟩⟩
theorem Ch.of_below {Ka Kb : Nat} {A B : World} (h : Below A.heap.size A B) : Ch Ka Kb A B := Ch.of_keep (Grw.of_below h) (fun hl => h.block _ hl) fun hl => h.block _ hl
theorem Ch.alloc {Ka Kb : Nat} {A B : World} (h : Ch Ka Kb A B) (o : Obj) : Ch Ka Kb A (B.alloc o) := h.trans (Ch.of_below ((Below.refl _ B).alloc (Nat.le_refl _) o))
theorem Ch.drew {Ka Kb : Nat} {A B : World} (h : Ch Ka Kb A B) : Ch Ka Kb A B.drew := h.trans (Ch.of_below (Below.refl _ B).drew)
theorem HasM.one {w : World} {b : Nat} {L L' : List (Int × Value)} (h : HasM w b L) (h' : HasM w b L') : (entI L 0).toArray = (entI L' 0).toArray := by
  unfold HasM at h h'
  rw [h] at h'
  injection h' with h'
  injection h' with h' _
/-- a node is known as a value -/
def Kv (K : Nat) (i : Nat) (v : Value) (W : World) : Prop := ∃ M, HasM W K M ∧ findI (i : Int) M = some v
theorem Kv.upA {Ka Kb i : Nat} {v : Value} {A B : World} (h : Kv Ka i v A) (k : Ch Ka Kb A B) : Kv Ka i v B := by
  obtain ⟨M, h1, h2⟩ := h
  obtain ⟨N, hN⟩ := k.upA M h1
  exact ⟨_, hN, findI_append h2 N⟩
theorem Kv.upB {Ka Kb i : Nat} {v : Value} {A B : World} (h : Kv Kb i v A) (k : Ch Ka Kb A B) : Kv Kb i v B := by
  obtain ⟨M, h1, h2⟩ := h
  obtain ⟨N, hN⟩ := k.upB M h1
  exact ⟨_, hN, findI_append h2 N⟩
/-- the rows are in no map -/
theorem Ks.offs {L : Array Fn} {K K' : Nat} {M M' : List (Int × Value)} {Q : Nat → Prop} {A : World} (h : Ks L K M Q A) (h' : HasM A K' M') : Ks L K M (fun k => Q k ∧ k ≠ K') A :=
  ⟨h.has, fun x v e => by
    obtain ⟨h1, h2, qk, ck, qd, cd, h3, h4⟩ := h.tells x v e
    refine ⟨h1, h2, qk, ck, qd, cd, h3, h4.ks, ?_, h4.ds, ?_, h4.cap, h4.tag⟩
    · rcases h4.kq with h5 | ⟨g, o, rfl, hO⟩
      · exact .inl h5
      · by_cases h0 : (keysOf L[x.toNat]!).length = 0
        · exact .inl h0
        · exact .inr ⟨g, o, rfl, hO, fun e => h4.ks.no_map (by simp; omega) (by rw [e]; exact h')⟩
    · rcases h4.dq with h5 | ⟨g, o, rfl, hO⟩
      · exact .inl h5
      · by_cases h0 : (kidsOf L[x.toNat]!).length = 0
        · exact .inl h0
        · exact .inr ⟨g, o, rfl, hO, fun e => h4.ds.no_map (by simp; omega) (by rw [e]; exact h')⟩⟩
/-- what is known stays, where no row and neither map is turned -/
theorem Vs.keep {w0 : World} {D E : Array Fn} {Ka Kb : Nat} {O O' : Nat → Prop} {A B : World} (h : Vs w0 D E Ka Kb O A) (hb : Below w0.heap.size w0 B) (hz : A.heap.size ≤ B.heap.size) (ha : B.heap[Ka]? = A.heap[Ka]?) (hk : B.heap[Kb]? = A.heap[Kb]?) (hO : ∀ k, ¬ O k → k < A.heap.size → B.heap[k]? = A.heap[k]?) (hO' : ∀ k, O' k → O k ∨ A.heap.size ≤ k) : Vs w0 D E Ka Kb O' B := by
  obtain ⟨M, hM⟩ := h.ka
  obtain ⟨N, hN⟩ := h.kb
  refine ⟨hb, ⟨M, hM.has.keep ha, fun x v e => ?_⟩, ⟨N, hN.has.keep hk, fun x v e => ?_⟩⟩
  · obtain ⟨h1, h2, qk, ck, qd, cd, h3, h4⟩ := hM.tells x v e
    refine ⟨h1, h2, qk, ck, qd, cd, h3, (h4.lt.keep hz fun k hk hl => hO k hk.1 hl).mono fun k hk hk' => ?_⟩
    rcases hO' k hk' with h | h
    · exact hk.1 h
    · omega
  · obtain ⟨h1, h2, qk, ck, qd, cd, h3, h4⟩ := hN.tells x v e
    refine ⟨h1, h2, qk, ck, qd, cd, h3, (h4.lt.keep hz fun k hk hl => hO k hk.1 hl).mono fun k hk hk' => ?_⟩
    rcases hO' k hk' with h | h
    · exact hk.1 h
    · omega
theorem Vs.below {w0 : World} {D E : Array Fn} {Ka Kb : Nat} {O : Nat → Prop} {A B : World} (h : Vs w0 D E Ka Kb O A) (hb : Below A.heap.size A B) : Vs w0 D E Ka Kb O B := by
  obtain ⟨M, hM⟩ := h.ka
  obtain ⟨N, hN⟩ := h.kb
  exact h.keep (h.low.trans (hb.mono h.low.size)) hb.size (hb.block _ hM.has.lt) (hb.block _ hN.has.lt) (fun k _ hk => hb.block k hk) fun k hk => .inl hk
end Go.Proofs.YtepelpmkmhhokaaGreatDoor
