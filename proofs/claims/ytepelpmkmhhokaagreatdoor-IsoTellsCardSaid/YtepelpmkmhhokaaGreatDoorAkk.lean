/- A map's keys are told in their order. Conditions: the surroundings; the graph lies. A node's kids are told. Conditions: the surroundings; the graph lies, at most twelve keys each. What is told of kids and keys lies in rows that are new. Conditions: the graph lies. -/
import Derived.Test.YtepelpmkmhhokaaGreatDoorAtx
import Derived.Test.YtepelpmkmhhokaaGreatDoorSfs
import Derived.Test.YtepelpmkmhhokaaGreatDoorAix
set_option maxRecDepth 100000
namespace Go.Proofs.YtepelpmkmhhokaaGreatDoor
open Go.RowKit Go.Shelf
open Scs Seqo
open Go.Sort (HoldsK)
theorem short_mem' {d : Array Sc} {b : Nat} (hz : ∀ t, t < d.size → d[t]!.2.2.size ≤ b) {l : List Sc} (hl : ∀ x ∈ l, x ∈ d.toList) : ∀ t, t < l.length → l.toArray[t]!.2.2.size ≤ b := fun t ht => by
  have hm : l.toArray[t]! ∈ l := by
    rw [getElem!_pos l.toArray t (by simpa using ht)]
    simp
  obtain ⟨j, hj, e⟩ := List.getElem_of_mem (hl _ hm)
  rw [Array.length_toList] at hj
  have := hz j hj
  rw [getElem!_pos d j hj] at this
  rw [← e]
  simpa using this
theorem Sort34 (d : Array Sc) (p : Option Addr) (cap n : Nat) (hn : d.size = n) (w : World) (hs : Sl w p d) :
    Calls Tryz.prog 77 #[.slice p n cap] w fun e w' => ∃ q c, e = .returned (.slice q n c) ∧ Sl w' q (sortSc d.toList).toArray ∧ Below w.heap.size w w' := by
  subst hn
  refine (Sort_any d p cap w hs).mono ?_
  rintro e w' ⟨g, c, rfl, _, hg, hh, hb⟩
  have hl : (sortSc d.toList).length = d.size := by rw [sort_length, Array.length_toList]
  exact ⟨_, _, rfl, ⟨by rw [List.size_toArray, hl]; exact hs.small, fun t ht => short_mem' hs.short (fun _ hx => (sort_perm _).mem_iff.1 hx) t (by simpa using ht), .inr ⟨g, 0, rfl, hg, hh⟩⟩, hb⟩
def pairedB (f : Fn) : Bool := if f.k = 2 then decide (f.keys.size = f.kids.size) else false
def keysOf (f : Fn) : List Sc := if pairedB f = true then sortSc f.keys.toList else []
def keysG (L : Array Fn) (i : Int) : List Sc × Int := if plB i L.size = true then (keysOf L[i.toNat]!, 0) else ([], 2)
theorem Sl.nil (w : World) (p : Option Addr) : Sl w p #[] := ⟨by decide, fun t ht => absurd ht (Nat.not_lt_zero _), .inl rfl⟩
theorem paired_any (f : Fn) (n : Int) (w : World) : Calls Tryz.prog 76 #[vV f n] w fun e w' => e = .returned (.bool (pairedB f)) ∧ Below w.heap.size w w' := isPaired_any _ _ _ _ _ _ _ _ _ _ _ w
theorem vrow {w w' : World} {b : Nat} {f : Fn} {n : Int} (h : w.heap[b]? = some (.cells #[.int .i64 f.k, .int .i64 f.x.1, .int .i64 f.x.2.1, .string f.x.2.2, .slice f.pk f.keys.size f.ck, .slice f.pd f.kids.size f.cd, .int .i64 n] 151 (0, 0))) (hb : Below w.heap.size w w') :
    w'.heap[b]? = some (.cells #[.int .i64 f.k, .int .i64 f.x.1, .int .i64 f.x.2.1, .string f.x.2.2, .slice f.pk f.keys.size f.ck, .slice f.pd f.kids.size f.cd, .int .i64 n] 151 (0, 0)) := (hb.block b (Array.getElem?_eq_some_iff.1 h).1).trans h
set_option maxHeartbeats 4000000 in
theorem Keys_any (root : Int) (L : Array Fn) (p : Option Addr) (cap : Nat) (i : Int) (w : World) (E : Env w) (hg : Gl w p L) :
    Calls Tryz.prog 65 #[.agg #[.int .i64 root, .slice p L.size cap], .int .i64 i] w fun e w' => ∃ q c, e = .returned (.tuple #[.slice q (keysG L i).1.length c, .int .i64 (keysG L i).2]) ∧ Sl w' q (keysG L i).1.toArray ∧ Below w.heap.size w w' := by
  have hb1 : ∀ o : Obj, Below w.heap.size w (w.alloc o) := fun o => (Below.refl _ w).alloc (Nat.le_refl _) _
  cases hi : plB i L.size
  · have hk : keysG L i = ([], 2) := by unfold keysG; rw [hi]; rfl
    rw [hk]
    have HV := Lib.hid fun w => viewAt_no root L p cap i w hi
    have HE := Lib.hid E
    clear hi hk hg E hb1
    go_enter Tryz.func65, Tryz.ntmps65
    go_wp2_with fail
    refine (HV.out _).mono ?_
    rintro e w5 ⟨⟨why, rfl⟩, hb5⟩
    have HB5 := Lib.hid (((Below.refl _ w).alloc (Nat.le_refl _) _).trans (hb5.mono (by simp)))
    clear hb5
    unfold faultV
    go_wp2_with fail
    refine (told_fault 0 2 why _ (HE.out.below (HB5.out.alloc HB5.out.size _))).mono ?_
    rintro e w6 ⟨rfl, hb6⟩
    have HB6 := Lib.hid ((HB5.out.alloc HB5.out.size _).trans (hb6.mono (by have := HB5.out.size; simp; omega)))
    clear hb6
    go_wp2_with fail
    go_ret2
    exact ⟨_, _, rfl, Sl.nil _ _, HB6.out⟩
  · obtain ⟨t, rfl, ht⟩ := noPlace hi
    have hk : keysG L t = (keysOf L[t]!, 0) := by unfold keysG; rw [hi]; rfl
    rw [hk]
    have hv := fun w hg => viewAt_yes root L p cap t w hg ht
    have hnl := hg.nodes t ht
    obtain ⟨f, hf⟩ : ∃ f, L[t]! = f := ⟨_, rfl⟩
    rw [hf] at hv hnl ⊢
    have HV := Lib.hid fun o => hv (w.alloc o) (hg.below (hb1 o))
    have HN := Lib.hid hnl
    have HP := Lib.hid fun w => paired_any f L.size w
    have HK := Lib.hid fun w h => Sort34 f.keys f.pk f.ck _ rfl w h
    unfold keysOf
    obtain ⟨n, hn⟩ : ∃ f, L.size = f := ⟨_, rfl⟩
    unfold vV at HV HP
    rw [hn] at HV HP ⊢
    clear hi hk hg E hb1 hv hnl hf hn ht
    cases hpb : pairedB f
    · rw [if_neg (by decide)]
      rw [hpb] at HP
      clear hpb
      go_enter Tryz.func65, Tryz.ntmps65
      go_wp2_with fail
      refine (HV.out _).mono ?_
      rintro e w5 ⟨rfl, hb5⟩
      have HB5 := Lib.hid (((Below.refl _ w).alloc (Nat.le_refl _) _).trans (hb5.mono (by simp)))
      clear hb5
      go_wp2_with fail
      refine (HP.out _).mono ?_
      rintro e w6 ⟨rfl, hb6⟩
      have HB6 := Lib.hid ((HB5.out.alloc HB5.out.size _).trans (hb6.mono (by have := HB5.out.size; simp; omega)))
      clear hb6
      go_wp2_with fail
      go_ret2
      exact ⟨_, _, rfl, Sl.nil _ _, HB6.out⟩
    · rw [if_pos rfl]
      rw [hpb] at HP
      clear hpb
      go_enter Tryz.func65, Tryz.ntmps65
      go_wp2_with fail
      refine (HV.out _).mono ?_
      rintro e w5 ⟨rfl, hb5⟩
      have HB5 := Lib.hid (((Below.refl _ w).alloc (Nat.le_refl _) _).trans (hb5.mono (by simp)))
      clear hb5
      go_wp2_with fail
      refine (HP.out _).mono ?_
      rintro e w6 ⟨rfl, hb6⟩
      have hx6 := vrow (heap_alloc_new w5 _) hb6
      have HB6 := Lib.hid ((HB5.out.alloc HB5.out.size _).trans (hb6.mono (by have := HB5.out.size; simp; omega)))
      have c4 : w6.cell? ⟨w5.heap.size, 4, none⟩ = some (.slice f.pk f.keys.size f.ck) := cell_of_row _ _ 4 _ _ _ hx6
      clear hb6 hx6
      go_wp2_with fail
      refine (HK.out _ (HN.out.ks.below HB6.out)).mono ?_
      rintro e w7 ⟨q, c, rfl, hs, hb7⟩
      have HB7 := Lib.hid (HB6.out.trans (hb7.mono HB6.out.size))
      have HS := Lib.hid hs
      clear hb7 hs c4
      go_wp2_with fail
      go_ret2
      exact ⟨q, c, by rw [sort_length, Array.length_toList]; rfl, HS.out, HB7.out⟩
end Go.Proofs.YtepelpmkmhhokaaGreatDoor

set_option maxRecDepth 100000
namespace Go.Proofs.YtepelpmkmhhokaaGreatDoor
open Go.RowKit Go.Shelf
open Scs
set_option maxHeartbeats 1000000 in
theorem clone_none (c : Nat) (w : World) : Calls Tryz.prog 89 #[.slice none 0 c] w fun e w' => e = .returned (.slice none 0 0) ∧ w' = w := by
  have he : ∀ w : World, (binOp .eql 41 (.slice none 0 c) (.slice none 0 0)).run Tryz.prog w = .ok (.bool true) w := fun _ => by kernel_rfl
  go_enter Tryz.func89, Tryz.ntmps89
  go_wp2_with fail
  go_ret
  exact ⟨rfl, rfl⟩
set_option maxHeartbeats 2000000 in
theorem clone_some (a : Addr) (l : List Int) (c : Nat) (w : World) (hn : l.length ≤ 1000000) (hc : ∀ i, i < l.length → w.cell? (a.add i) = some (.int .i64 l[i]!)) :
    Calls Tryz.prog 89 #[.slice (some a) l.length c] w fun e w' => ∃ v, e = .returned v ∧ w'.ownsRow w.heap.size 3 1 v l.length (ints l) ∧ Below w.heap.size w w' := by
  obtain ⟨i0, hi, hz0, hz1, hz2⟩ := info_parts info3
  have hnews : ∀ j u, (ints l)[j]? = some u → (w.alloc (.cells #[] 3)).cell? (a.add j) = some u := fun j u hu => by
    unfold ints at hu
    rw [List.getElem?_map] at hu
    by_cases hj : j < l.length
    · rw [List.getElem?_eq_getElem hj] at hu
      have h1 := hc j hj
      rw [List.getElem!_eq_getElem?_getD, List.getElem?_eq_getElem hj] at h1
      have h2 : w.cell? (a.add j) = some u := by rw [h1]; simpa using hu
      have hb : (a.add j).block < w.heap.size := World.block_lt_of_cell? w (a.add j) (by rw [h2])
      exact (World.cell?_alloc_lt w _ (a.add j) hb).trans h2
    · rw [List.getElem?_eq_none (by omega)] at hu
      cases hu
  have hone : ∀ u ∈ ints l, u.oneCell' = true := fun u hu => by
    unfold ints at hu
    obtain ⟨z, _, rfl⟩ := List.mem_map.1 hu
    rfl
  have hlen : (ints l).length = l.length * 1 := by unfold ints; rw [List.length_map, Nat.mul_one]
  have HN := Lib.hid hnews
  have HO := Lib.hid hone
  have HL := Lib.hid hlen
  obtain ⟨m, hm⟩ : ∃ m, l.length = m := ⟨_, rfl⟩
  rw [hm] at hn HL ⊢
  clear hnews hone hlen hc hm
  have he : ∀ w : World, (binOp .eql 41 (.slice (some a) m c) (.slice none 0 0)).run Tryz.prog w = .ok (.bool false) w := fun _ => by kernel_rfl
  go_enter Tryz.func89, Tryz.ntmps89
  go_wp2_with (first
    | (at_builtin
       refine wpList_append_own_at _ rfl _ _ 41 rfl w.heap.size 3 i0 (.int .i64 0) 1 8 Tryz.underlying41 hi hz0 hz1 hz2 rfl (by decide) (.slice (some ⟨w.heap.size, 0, none⟩) 0 0) 0 [] rfl ⟨rfl, .inr ⟨w.heap.size, 0, _, rfl, Nat.le_refl _, heap_alloc_new w _, Nat.le_refl _, by unfold maxLen; omega, rfl, rfl⟩⟩ a m c (ints l) rfl HL.out HN.out HO.out (by unfold maxLen; omega) (by omega) (by simp) ?_
       intro v7 w7 hown7 hgr7 _ _
       have HOW7 := Lib.hid hown7
       have HGR7 := Lib.hid hgr7
       clear hown7 hgr7))
  go_ret
  refine ⟨_, rfl, by simpa using HOW7.out, ?_⟩
  exact ((Below.refl _ w).alloc (Nat.le_refl _) _).grown HGR7.out (by simp) fun q hq => by simp [Value.ownBlock] at hq; omega
theorem clone_ints (p : Option Addr) (l : Array Int) (c : Nat) (w : World) (hl : Il w p l) :
    Calls Tryz.prog 89 #[.slice p l.size c] w fun e w' => ∃ q c', e = .returned (.slice q l.size c') ∧ Il w' q l ∧ Below w.heap.size w w' := by
  cases p with
  | none =>
    rcases hl.lies with h0 | ⟨blk, off, h1, _⟩
    · rw [h0]
      refine (clone_none c w).mono ?_
      rintro e w' ⟨rfl, rfl⟩
      exact ⟨none, 0, rfl, hl, Below.refl _ _⟩
    · cases h1
  | some a =>
    have h := clone_some a l.toList c w (by rw [Array.length_toList]; exact hl.small) (fun i hi => by
      rw [Array.length_toList] at hi
      obtain ⟨blk, off, h1, _, h2⟩ := hl.at i hi
      injection h1 with h1
      subst h1
      rw [show l.toList[i]! = l[i]! by simp [getElem!_def]]
      rw [Go.WideShapes.add_plain]
      exact h2)
    rw [Array.length_toList] at h
    refine h.mono ?_
    rintro e w' ⟨v, rfl, ho, hb⟩
    obtain ⟨q, c', rfl, hq⟩ := il_own ho (by rw [Array.length_toList]) hl.small
    exact ⟨q, c', rfl, by simpa using hq, hb⟩
def kidsOf (f : Fn) : List Int := if pairedB f = true then sortedKids f else if f.k = 1 then f.kids.toList else []
def kidsG (L : Array Fn) (i : Int) : List Int × Int := if plB i L.size = true then (kidsOf L[i.toNat]!, 0) else ([], 2)
theorem Il.nil (w : World) (p : Option Addr) : Il w p #[] := ⟨by decide, .inl rfl⟩
theorem sortedKids_len (f : Fn) : (sortedKids f).length = pairsN f := by unfold sortedKids; rw [List.length_map, sortedP_len]
set_option maxHeartbeats 4000000 in
theorem places_any (f : Fn) (n : Int) (w : World) (hg : Nl w f) (h12 : f.keys.size ≤ 12) :
    Calls Tryz.prog 78 #[vV f n] w fun e w' => ∃ q c, e = .returned (.slice q (kidsOf f).length c) ∧ Il w' q (kidsOf f).toArray ∧ Below w.heap.size w w' := by
  have HP := Lib.hid fun w => paired_any f n w
  have HN := Lib.hid hg
  have hb1 : ∀ o : Obj, Below w.heap.size w (w.alloc o) := fun o => (Below.refl _ w).alloc (Nat.le_refl _) _
  have HB1 := Lib.hid hb1
  have HBK := Lib.hid fun w h => byKeys_any f n w h h12
  have HCL := Lib.hid fun w h => clone_ints f.pd f.kids f.cd w h
  unfold vV at HP HBK ⊢
  clear hg hb1
  cases hpb : pairedB f
  · rw [hpb] at HP
    by_cases hk : f.k = 1
    · have hko : kidsOf f = f.kids.toList := by unfold kidsOf; rw [hpb, if_neg (by decide), if_pos hk]
      have hke : (f.k == 1) = true := by simp [hk]
      rw [hko, Array.length_toList]
      clear hpb hko h12
      obtain ⟨k, hk2⟩ : ∃ k, f.k = k := ⟨_, rfl⟩
      rw [hk2] at HP HBK hk hke ⊢
      subst hk
      go_enter Tryz.func78, Tryz.ntmps78
      go_wp2_with fail
      refine (HP.out _).mono ?_
      rintro e w5 ⟨rfl, hb5⟩
      have hx5 := (hb5.block w.heap.size (by simp)).trans (heap_alloc_new w _)
      obtain ⟨q0, q1, q2, q3, q4, q5, q6⟩ := cell7 hx5
      have HB5 := Lib.hid ((HB1.out _).trans (hb5.mono (by simp)))
      clear hb5 hx5 hk2
      go_wp2_with fail
      refine (HCL.out _ (HN.out.ds.below HB5.out)).mono ?_
      rintro e w6 ⟨q, c, rfl, hq, hb6⟩
      have HB6 := Lib.hid (HB5.out.trans (hb6.mono HB5.out.size))
      have HQ := Lib.hid hq
      clear hb6 hq q0 q1 q2 q3 q4 q5 q6
      go_wp2_with fail
      go_ret
      exact ⟨q, c, rfl, HQ.out, HB6.out⟩
    · have hko : kidsOf f = [] := by unfold kidsOf; rw [hpb, if_neg (by decide), if_neg hk]
      have hke : (f.k == 1) = false := beq_eq_false_iff_ne.2 hk
      rw [hko]
      clear hpb hko h12
      go_enter Tryz.func78, Tryz.ntmps78
      go_wp2_with fail
      refine (HP.out _).mono ?_
      rintro e w5 ⟨rfl, hb5⟩
      have hx5 := (hb5.block w.heap.size (by simp)).trans (heap_alloc_new w _)
      obtain ⟨q0, q1, q2, q3, q4, q5, q6⟩ := cell7 hx5
      have HB5 := Lib.hid ((HB1.out _).trans (hb5.mono (by simp)))
      clear hb5 hx5
      go_wp2_with fail
      go_ret
      exact ⟨none, 0, rfl, Il.nil _ _, HB5.out⟩
  · rw [hpb] at HP
    have hko : kidsOf f = sortedKids f := by unfold kidsOf; rw [hpb, if_pos rfl]
    have hsl := sortedKids_len f
    have hpn : pairsN f ≤ 1000000 := by unfold pairsN; split <;> omega
    rw [hko]
    rw [hsl]
    have HSL := Lib.hid hsl
    have HPN := Lib.hid hpn
    clear hpb hko h12 hsl hpn
    go_enter Tryz.func78, Tryz.ntmps78
    go_wp2_with fail
    refine (HP.out _).mono ?_
    rintro e w5 ⟨rfl, hb5⟩
    have hx5 := (hb5.block w.heap.size (by simp)).trans (heap_alloc_new w _)
    obtain ⟨q0, q1, q2, q3, q4, q5, q6⟩ := cell7 hx5
    have HB5 := Lib.hid ((HB1.out _).trans (hb5.mono (by simp)))
    clear hb5 hx5
    go_wp2_with fail
    refine (HBK.out _ (HN.out.below HB5.out)).mono ?_
    rintro e w6 ⟨v, rfl, ho, hb6⟩
    obtain ⟨q, c, rfl, hq⟩ := il_own ho HSL.out.symm HPN.out
    have HB6 := Lib.hid (HB5.out.trans (hb6.mono HB5.out.size))
    have HQ := Lib.hid hq
    clear hb6 hq ho q0 q1 q2 q3 q4 q5 q6
    go_wp2_with fail
    go_ret
    exact ⟨q, c, rfl, HQ.out, HB6.out⟩
set_option maxHeartbeats 4000000 in
theorem Kids_any (root : Int) (L : Array Fn) (p : Option Addr) (cap : Nat) (i : Int) (w : World) (E : Env w) (hg : Gl w p L) (h12 : ∀ t, t < L.size → L[t]!.keys.size ≤ 12) :
    Calls Tryz.prog 66 #[.agg #[.int .i64 root, .slice p L.size cap], .int .i64 i] w fun e w' => ∃ q c, e = .returned (.tuple #[.slice q (kidsG L i).1.length c, .int .i64 (kidsG L i).2]) ∧ Il w' q (kidsG L i).1.toArray ∧ Below w.heap.size w w' := by
  have hb1 : ∀ o : Obj, Below w.heap.size w (w.alloc o) := fun o => (Below.refl _ w).alloc (Nat.le_refl _) _
  cases hi : plB i L.size
  · have hk : kidsG L i = ([], 2) := by unfold kidsG; rw [hi]; rfl
    rw [hk]
    have HV := Lib.hid fun w => viewAt_no root L p cap i w hi
    have HE := Lib.hid E
    clear hi hk hg E hb1
    go_enter Tryz.func66, Tryz.ntmps66
    go_wp2_with fail
    refine (HV.out _).mono ?_
    rintro e w5 ⟨⟨why, rfl⟩, hb5⟩
    have HB5 := Lib.hid (((Below.refl _ w).alloc (Nat.le_refl _) _).trans (hb5.mono (by simp)))
    clear hb5
    unfold faultV
    go_wp2_with fail
    refine (told_fault 0 2 why _ (HE.out.below (HB5.out.alloc HB5.out.size _))).mono ?_
    rintro e w6 ⟨rfl, hb6⟩
    have HB6 := Lib.hid ((HB5.out.alloc HB5.out.size _).trans (hb6.mono (by have := HB5.out.size; simp; omega)))
    clear hb6
    go_wp2_with fail
    go_ret2
    exact ⟨_, _, rfl, Il.nil _ _, HB6.out⟩
  · obtain ⟨t, rfl, ht⟩ := noPlace hi
    have hk : kidsG L t = (kidsOf L[t]!, 0) := by unfold kidsG; rw [hi]; rfl
    rw [hk]
    have hv := fun w hg => viewAt_yes root L p cap t w hg ht
    have hnl := hg.nodes t ht
    have h12' := h12 t ht
    obtain ⟨f, hf⟩ : ∃ f, L[t]! = f := ⟨_, rfl⟩
    rw [hf] at hv hnl h12' ⊢
    have HV := Lib.hid fun o => hv (w.alloc o) (hg.below (hb1 o))
    have HN := Lib.hid hnl
    have HP := Lib.hid fun w h => places_any f L.size w h h12'
    obtain ⟨n, hn⟩ : ∃ f, L.size = f := ⟨_, rfl⟩
    unfold vV at HV HP
    rw [hn] at HV HP ⊢
    clear hi hk hg E hb1 hv hnl hf hn ht h12 h12'
    go_enter Tryz.func66, Tryz.ntmps66
    go_wp2_with fail
    refine (HV.out _).mono ?_
    rintro e w5 ⟨rfl, hb5⟩
    have HB5 := Lib.hid (((Below.refl _ w).alloc (Nat.le_refl _) _).trans (hb5.mono (by simp)))
    clear hb5
    go_wp2_with fail
    refine (HP.out _ (HN.out.below (HB5.out.alloc HB5.out.size _))).mono ?_
    rintro e w6 ⟨q, c, rfl, hq, hb6⟩
    have HB6 := Lib.hid ((HB5.out.alloc HB5.out.size _).trans (hb6.mono (by have := HB5.out.size; simp; omega)))
    have HQ := Lib.hid hq
    clear hb6 hq
    go_wp2_with fail
    go_ret2
    exact ⟨q, c, rfl, HQ.out, HB6.out⟩
end Go.Proofs.YtepelpmkmhhokaaGreatDoor

set_option maxRecDepth 100000
namespace Go.Proofs.YtepelpmkmhhokaaGreatDoor
open Go.RowKit Go.Shelf
open Scs
open Go.Sort (HoldsK)
def New (b : Nat) (q : Option Addr) (n : Nat) : Prop := n = 0 ∨ ∃ g o, q = some ⟨g, o, none⟩ ∧ b ≤ g
theorem New.low {b b' : Nat} {q : Option Addr} {n : Nat} (h : New b q n) (hb : b' ≤ b) : New b' q n := by
  rcases h with h | ⟨g, o, h1, h2⟩
  · exact .inl h
  · exact .inr ⟨g, o, h1, Nat.le_trans hb h2⟩
theorem own_new {W : World} {b T k n c : Nat} {p : Option Addr} {xs : List Value} (h : W.ownsRow b T k (.slice p n c) n xs) : New b p n := by
  rcases h with ⟨_, ⟨_, h2⟩ | ⟨g, c', cur, hv, hbg, _⟩⟩
  · exact .inl h2
  · injection hv with h
    exact .inr ⟨g, 0, h, hbg⟩
theorem clone_new (p : Option Addr) (l : Array Int) (c : Nat) (w : World) (hl : Il w p l) :
    Calls Tryz.prog 89 #[.slice p l.size c] w fun e w' => ∃ q c', e = .returned (.slice q l.size c') ∧ Il w' q l ∧ New w.heap.size q l.size ∧ Below w.heap.size w w' := by
  cases p with
  | none =>
    rcases hl.lies with h0 | ⟨blk, off, h1, _⟩
    · rw [h0]
      refine (clone_none c w).mono ?_
      rintro e w' ⟨rfl, rfl⟩
      exact ⟨none, 0, rfl, hl, .inl rfl, Below.refl _ _⟩
    · cases h1
  | some a =>
    have h := clone_some a l.toList c w (by rw [Array.length_toList]; exact hl.small) (fun i hi => by
      rw [Array.length_toList] at hi
      obtain ⟨blk, off, h1, _, h2⟩ := hl.at i hi
      injection h1 with h1
      subst h1
      rw [show l.toList[i]! = l[i]! by simp [getElem!_def]]
      rw [Go.WideShapes.add_plain]
      exact h2)
    rw [Array.length_toList] at h
    refine h.mono ?_
    rintro e w' ⟨v, rfl, ho, hb⟩
    obtain ⟨q, c', rfl, hq⟩ := il_own ho (by rw [Array.length_toList]) hl.small
    exact ⟨q, c', rfl, by simpa using hq, own_new ho, hb⟩
set_option maxHeartbeats 4000000 in
theorem places_new (f : Fn) (n : Int) (w : World) (hg : Nl w f) (h12 : f.keys.size ≤ 12) :
    Calls Tryz.prog 78 #[vV f n] w fun e w' => ∃ q c, e = .returned (.slice q (kidsOf f).length c) ∧ Il w' q (kidsOf f).toArray ∧ New w.heap.size q (kidsOf f).length ∧ Below w.heap.size w w' := by
  have HP := Lib.hid fun w => paired_any f n w
  have HN := Lib.hid hg
  have hb1 : ∀ o : Obj, Below w.heap.size w (w.alloc o) := fun o => (Below.refl _ w).alloc (Nat.le_refl _) _
  have HB1 := Lib.hid hb1
  have HBK := Lib.hid fun w h => byKeys_any f n w h h12
  have HCL := Lib.hid fun w h => clone_new f.pd f.kids f.cd w h
  unfold vV at HP HBK ⊢
  clear hg hb1
  cases hpb : pairedB f
  · rw [hpb] at HP
    by_cases hk : f.k = 1
    · have hko : kidsOf f = f.kids.toList := by unfold kidsOf; rw [hpb, if_neg (by decide), if_pos hk]
      have hke : (f.k == 1) = true := by simp [hk]
      rw [hko, Array.length_toList]
      clear hpb hko h12
      obtain ⟨k, hk2⟩ : ∃ k, f.k = k := ⟨_, rfl⟩
      rw [hk2] at HP HBK hk hke ⊢
      subst hk
      go_enter Tryz.func78, Tryz.ntmps78
      go_wp2_with fail
      refine (HP.out _).mono ?_
      rintro e w5 ⟨rfl, hb5⟩
      have hx5 := (hb5.block w.heap.size (by simp)).trans (heap_alloc_new w _)
      obtain ⟨q0, q1, q2, q3, q4, q5, q6⟩ := cell7 hx5
      have HB5 := Lib.hid ((HB1.out _).trans (hb5.mono (by simp)))
      clear hb5 hx5 hk2
      go_wp2_with fail
      refine (HCL.out _ (HN.out.ds.below HB5.out)).mono ?_
      rintro e w6 ⟨q, c, rfl, hq, hnw, hb6⟩
      have HNW := Lib.hid (hnw.low HB5.out.size)
      clear hnw
      have HB6 := Lib.hid (HB5.out.trans (hb6.mono HB5.out.size))
      have HQ := Lib.hid hq
      clear hb6 hq q0 q1 q2 q3 q4 q5 q6
      go_wp2_with fail
      go_ret
      exact ⟨q, c, rfl, HQ.out, HNW.out, HB6.out⟩
    · have hko : kidsOf f = [] := by unfold kidsOf; rw [hpb, if_neg (by decide), if_neg hk]
      have hke : (f.k == 1) = false := beq_eq_false_iff_ne.2 hk
      rw [hko]
      clear hpb hko h12
      go_enter Tryz.func78, Tryz.ntmps78
      go_wp2_with fail
      refine (HP.out _).mono ?_
      rintro e w5 ⟨rfl, hb5⟩
      have hx5 := (hb5.block w.heap.size (by simp)).trans (heap_alloc_new w _)
      obtain ⟨q0, q1, q2, q3, q4, q5, q6⟩ := cell7 hx5
      have HB5 := Lib.hid ((HB1.out _).trans (hb5.mono (by simp)))
      clear hb5 hx5
      go_wp2_with fail
      go_ret
      exact ⟨none, 0, rfl, Il.nil _ _, .inl rfl, HB5.out⟩
  · rw [hpb] at HP
    have hko : kidsOf f = sortedKids f := by unfold kidsOf; rw [hpb, if_pos rfl]
    have hsl := sortedKids_len f
    have hpn : pairsN f ≤ 1000000 := by unfold pairsN; split <;> omega
    rw [hko]
    rw [hsl]
    have HSL := Lib.hid hsl
    have HPN := Lib.hid hpn
    clear hpb hko h12 hsl hpn
    go_enter Tryz.func78, Tryz.ntmps78
    go_wp2_with fail
    refine (HP.out _).mono ?_
    rintro e w5 ⟨rfl, hb5⟩
    have hx5 := (hb5.block w.heap.size (by simp)).trans (heap_alloc_new w _)
    obtain ⟨q0, q1, q2, q3, q4, q5, q6⟩ := cell7 hx5
    have HB5 := Lib.hid ((HB1.out _).trans (hb5.mono (by simp)))
    clear hb5 hx5
    go_wp2_with fail
    refine (HBK.out _ (HN.out.below HB5.out)).mono ?_
    rintro e w6 ⟨v, rfl, ho, hb6⟩
    obtain ⟨q, c, rfl, hq⟩ := il_own ho HSL.out.symm HPN.out
    have HNW := Lib.hid ((own_new ho).low HB5.out.size)
    have HB6 := Lib.hid (HB5.out.trans (hb6.mono HB5.out.size))
    have HQ := Lib.hid hq
    clear hb6 hq ho q0 q1 q2 q3 q4 q5 q6
    go_wp2_with fail
    go_ret
    exact ⟨q, c, rfl, HQ.out, HNW.out, HB6.out⟩
set_option maxHeartbeats 4000000 in
theorem Kids_new (root : Int) (L : Array Fn) (p : Option Addr) (cap : Nat) (i : Int) (w : World) (E : Env w) (hg : Gl w p L) (h12 : ∀ t, t < L.size → L[t]!.keys.size ≤ 12) :
    Calls Tryz.prog 66 #[.agg #[.int .i64 root, .slice p L.size cap], .int .i64 i] w fun e w' => ∃ q c, e = .returned (.tuple #[.slice q (kidsG L i).1.length c, .int .i64 (kidsG L i).2]) ∧ Il w' q (kidsG L i).1.toArray ∧ New w.heap.size q (kidsG L i).1.length ∧ Below w.heap.size w w' := by
  have hb1 : ∀ o : Obj, Below w.heap.size w (w.alloc o) := fun o => (Below.refl _ w).alloc (Nat.le_refl _) _
  cases hi : plB i L.size
  · have hk : kidsG L i = ([], 2) := by unfold kidsG; rw [hi]; rfl
    rw [hk]
    have HV := Lib.hid fun w => viewAt_no root L p cap i w hi
    have HE := Lib.hid E
    clear hi hk hg E hb1
    go_enter Tryz.func66, Tryz.ntmps66
    go_wp2_with fail
    refine (HV.out _).mono ?_
    rintro e w5 ⟨⟨why, rfl⟩, hb5⟩
    have HB5 := Lib.hid (((Below.refl _ w).alloc (Nat.le_refl _) _).trans (hb5.mono (by simp)))
    clear hb5
    unfold faultV
    go_wp2_with fail
    refine (told_fault 0 2 why _ (HE.out.below (HB5.out.alloc HB5.out.size _))).mono ?_
    rintro e w6 ⟨rfl, hb6⟩
    have HB6 := Lib.hid ((HB5.out.alloc HB5.out.size _).trans (hb6.mono (by have := HB5.out.size; simp; omega)))
    clear hb6
    go_wp2_with fail
    go_ret2
    exact ⟨_, _, rfl, Il.nil _ _, .inl rfl, HB6.out⟩
  · obtain ⟨t, rfl, ht⟩ := noPlace hi
    have hk : kidsG L t = (kidsOf L[t]!, 0) := by unfold kidsG; rw [hi]; rfl
    rw [hk]
    have hv := fun w hg => viewAt_yes root L p cap t w hg ht
    have hnl := hg.nodes t ht
    have h12' := h12 t ht
    obtain ⟨f, hf⟩ : ∃ f, L[t]! = f := ⟨_, rfl⟩
    rw [hf] at hv hnl h12' ⊢
    have HV := Lib.hid fun o => hv (w.alloc o) (hg.below (hb1 o))
    have HN := Lib.hid hnl
    have HP := Lib.hid fun w h => places_new f L.size w h h12'
    obtain ⟨n, hn⟩ : ∃ f, L.size = f := ⟨_, rfl⟩
    unfold vV at HV HP
    rw [hn] at HV HP ⊢
    clear hi hk hg E hb1 hv hnl hf hn ht h12 h12'
    go_enter Tryz.func66, Tryz.ntmps66
    go_wp2_with fail
    refine (HV.out _).mono ?_
    rintro e w5 ⟨rfl, hb5⟩
    have HB5 := Lib.hid (((Below.refl _ w).alloc (Nat.le_refl _) _).trans (hb5.mono (by simp)))
    clear hb5
    go_wp2_with fail
    refine (HP.out _ (HN.out.below (HB5.out.alloc HB5.out.size _))).mono ?_
    rintro e w6 ⟨q, c, rfl, hq, hnw, hb6⟩
    have HNW := Lib.hid (hnw.low (show w.heap.size ≤ _ by have := HB5.out.size; simp; omega))
    clear hnw
    have HB6 := Lib.hid ((HB5.out.alloc HB5.out.size _).trans (hb6.mono (by have := HB5.out.size; simp; omega)))
    have HQ := Lib.hid hq
    clear hb6 hq
    go_wp2_with fail
    go_ret2
    exact ⟨q, c, rfl, HQ.out, HNW.out, HB6.out⟩
theorem Sort34_new (d : Array Sc) (p : Option Addr) (cap n : Nat) (hn : d.size = n) (w : World) (hs : Sl w p d) :
    Calls Tryz.prog 77 #[.slice p n cap] w fun e w' => ∃ q c, e = .returned (.slice q n c) ∧ Sl w' q (sortSc d.toList).toArray ∧ New w.heap.size q n ∧ Below w.heap.size w w' := by
  subst hn
  refine (Sort_any d p cap w hs).mono ?_
  rintro e w' ⟨g, c, rfl, hgb, hg, hh, hb⟩
  have hl : (sortSc d.toList).length = d.size := by rw [sort_length, Array.length_toList]
  exact ⟨_, _, rfl, ⟨by rw [List.size_toArray, hl]; exact hs.small, fun t ht => short_mem' hs.short (fun _ hx => (sort_perm _).mem_iff.1 hx) t (by simpa using ht), .inr ⟨g, 0, rfl, hg, hh⟩⟩, .inr ⟨g, 0, rfl, hgb⟩, hb⟩
set_option maxHeartbeats 4000000 in
theorem Keys_new (root : Int) (L : Array Fn) (p : Option Addr) (cap : Nat) (i : Int) (w : World) (E : Env w) (hg : Gl w p L) :
    Calls Tryz.prog 65 #[.agg #[.int .i64 root, .slice p L.size cap], .int .i64 i] w fun e w' => ∃ q c, e = .returned (.tuple #[.slice q (keysG L i).1.length c, .int .i64 (keysG L i).2]) ∧ Sl w' q (keysG L i).1.toArray ∧ New w.heap.size q (keysG L i).1.length ∧ Below w.heap.size w w' := by
  have hb1 : ∀ o : Obj, Below w.heap.size w (w.alloc o) := fun o => (Below.refl _ w).alloc (Nat.le_refl _) _
  cases hi : plB i L.size
  · have hk : keysG L i = ([], 2) := by unfold keysG; rw [hi]; rfl
    rw [hk]
    have HV := Lib.hid fun w => viewAt_no root L p cap i w hi
    have HE := Lib.hid E
    clear hi hk hg E hb1
    go_enter Tryz.func65, Tryz.ntmps65
    go_wp2_with fail
    refine (HV.out _).mono ?_
    rintro e w5 ⟨⟨why, rfl⟩, hb5⟩
    have HB5 := Lib.hid (((Below.refl _ w).alloc (Nat.le_refl _) _).trans (hb5.mono (by simp)))
    clear hb5
    unfold faultV
    go_wp2_with fail
    refine (told_fault 0 2 why _ (HE.out.below (HB5.out.alloc HB5.out.size _))).mono ?_
    rintro e w6 ⟨rfl, hb6⟩
    have HB6 := Lib.hid ((HB5.out.alloc HB5.out.size _).trans (hb6.mono (by have := HB5.out.size; simp; omega)))
    clear hb6
    go_wp2_with fail
    go_ret2
    exact ⟨_, _, rfl, Sl.nil _ _, .inl rfl, HB6.out⟩
  · obtain ⟨t, rfl, ht⟩ := noPlace hi
    have hk : keysG L t = (keysOf L[t]!, 0) := by unfold keysG; rw [hi]; rfl
    rw [hk]
    have hv := fun w hg => viewAt_yes root L p cap t w hg ht
    have hnl := hg.nodes t ht
    obtain ⟨f, hf⟩ : ∃ f, L[t]! = f := ⟨_, rfl⟩
    rw [hf] at hv hnl ⊢
    have HV := Lib.hid fun o => hv (w.alloc o) (hg.below (hb1 o))
    have HN := Lib.hid hnl
    have HP := Lib.hid fun w => paired_any f L.size w
    have HK := Lib.hid fun w h => Sort34_new f.keys f.pk f.ck _ rfl w h
    unfold keysOf
    obtain ⟨n, hn⟩ : ∃ f, L.size = f := ⟨_, rfl⟩
    unfold vV at HV HP
    rw [hn] at HV HP ⊢
    clear hi hk hg E hb1 hv hnl hf hn ht
    cases hpb : pairedB f
    · rw [if_neg (by decide)]
      rw [hpb] at HP
      clear hpb
      go_enter Tryz.func65, Tryz.ntmps65
      go_wp2_with fail
      refine (HV.out _).mono ?_
      rintro e w5 ⟨rfl, hb5⟩
      have HB5 := Lib.hid (((Below.refl _ w).alloc (Nat.le_refl _) _).trans (hb5.mono (by simp)))
      clear hb5
      go_wp2_with fail
      refine (HP.out _).mono ?_
      rintro e w6 ⟨rfl, hb6⟩
      have HB6 := Lib.hid ((HB5.out.alloc HB5.out.size _).trans (hb6.mono (by have := HB5.out.size; simp; omega)))
      clear hb6
      go_wp2_with fail
      go_ret2
      exact ⟨_, _, rfl, Sl.nil _ _, .inl rfl, HB6.out⟩
    · rw [if_pos rfl]
      rw [hpb] at HP
      clear hpb
      go_enter Tryz.func65, Tryz.ntmps65
      go_wp2_with fail
      refine (HV.out _).mono ?_
      rintro e w5 ⟨rfl, hb5⟩
      have HB5 := Lib.hid (((Below.refl _ w).alloc (Nat.le_refl _) _).trans (hb5.mono (by simp)))
      clear hb5
      go_wp2_with fail
      refine (HP.out _).mono ?_
      rintro e w6 ⟨rfl, hb6⟩
      have hx6 := vrow (heap_alloc_new w5 _) hb6
      have HB6 := Lib.hid ((HB5.out.alloc HB5.out.size _).trans (hb6.mono (by have := HB5.out.size; simp; omega)))
      have c4 : w6.cell? ⟨w5.heap.size, 4, none⟩ = some (.slice f.pk f.keys.size f.ck) := cell_of_row _ _ 4 _ _ _ hx6
      clear hb6 hx6
      go_wp2_with fail
      refine (HK.out _ (HN.out.ks.below HB6.out)).mono ?_
      rintro e w7 ⟨q, c, rfl, hs, hnw, hb7⟩
      have HNW := Lib.hid (hnw.low HB6.out.size)
      clear hnw
      have HB7 := Lib.hid (HB6.out.trans (hb7.mono HB6.out.size))
      have HS := Lib.hid hs
      clear hb7 hs c4
      go_wp2_with fail
      go_ret2
      exact ⟨q, c, by rw [sort_length, Array.length_toList]; rfl, HS.out, by rw [sort_length, Array.length_toList]; exact HNW.out, HB7.out⟩
end Go.Proofs.YtepelpmkmhhokaaGreatDoor
