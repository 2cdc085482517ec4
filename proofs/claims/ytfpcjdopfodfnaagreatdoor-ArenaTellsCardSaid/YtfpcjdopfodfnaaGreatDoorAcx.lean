/- What the statements cut lies as a graph; a graph that comes in is some nodes. Conditions: none. A right graph is right with each of its nodes as its root, and with no other number: the walk of the law. Conditions: the contracts of what is called. -/
import Derived.Test.YtfpcjdopfodfnaaGreatDoorAcu
set_option maxRecDepth 100000
namespace Go.Proofs.YtfpcjdopfodfnaaGreatDoor
open Go.RowKit Go.Shelf
open Scs
open Go.Sort (HoldsK)
theorem flatF_len : ∀ L : List Fn, (flatF L).length = L.length * 6
  | [] => rfl
  | x :: t => by
    have := flatF_len t
    unfold flatF at this ⊢
    rw [List.flatMap_cons, List.length_append, this, List.length_cons]
    show 6 + _ = _
    omega
theorem flatF_get : ∀ (L : List Fn) (j : Nat), j < L.length * 6 → (flatF L)[j]? = some ((encF L[j / 6]!)[j % 6]!)
  | [], j, h => by simp at h
  | x :: t, j, h => by
    by_cases hj : j < 6
    · have e1 : j / 6 = 0 := by omega
      have e2 : j % 6 = j := by omega
      rw [e1, e2]
      have hl : (flatF (x :: t))[j]? = (encF x)[j]? := by
        unfold flatF
        rw [List.flatMap_cons, List.getElem?_append_left (by show j < 6; exact hj)]
      rw [hl]
      show (encF x)[j]? = some ((encF x)[j]!)
      have hlen : j < (encF x).length := hj
      rw [List.getElem?_eq_getElem hlen, List.getElem!_eq_getElem?_getD, List.getElem?_eq_getElem hlen]
      rfl
    · have e1 : j / 6 = (j - 6) / 6 + 1 := by omega
      have e2 : j % 6 = (j - 6) % 6 := by omega
      have ih := flatF_get t (j - 6) (by simp at h; omega)
      rw [e1, e2]
      have hl : (flatF (x :: t))[j]? = (flatF t)[j - 6]? := by
        unfold flatF
        rw [List.flatMap_cons, List.getElem?_append_right (by show 6 ≤ j; omega)]
        rfl
      rw [hl, ih]
      rfl
theorem holds_rowF {W : World} {g n : Nat} {d : Array Fn} {c : Nat} {b : Nat} (h : W.ownsRow b 47 6 (.slice (some ⟨g, 0, none⟩) n c) n (flatF d.toList)) (hn : n = d.size) : HoldsK encF 6 W g 0 d := by
  subst hn
  rcases h with ⟨_, ⟨h1, _⟩ | ⟨g', c', cur, hv, _, hg, hnc, _, hcs, htake⟩⟩
  · cases h1
  · obtain rfl : g = g' := by injection hv with h _ _; injection h with h; injection h
    refine holdsK_of_row hg fun j hj => ?_
    have h1 := flatF_get d.toList j (by rw [Array.length_toList]; exact hj)
    rw [← htake, List.getElem?_take_of_lt hj, Array.getElem?_toList] at h1
    rw [h1]
    simp [getElem!_def]
theorem KO.nl {b : Nat} {W : World} {f : Fn} (h : KO b W f) : Nl W f := by
  refine ⟨by have := h.xs; omega, ?_, ?_⟩
  · have hsh : ∀ t, t < f.keys.size → f.keys[t]!.2.2.size ≤ 1000000 := fun t ht => by
      have h1 := h.kx f.keys[t]! (by rw [getElem!_pos f.keys t ht]; exact Array.getElem_mem_toList ht)
      omega
    have hks := h.ks
    refine ⟨by have := h.k12; omega, hsh, ?_⟩
    rcases hks with ⟨_, ⟨h1, h2⟩ | ⟨g, c', cur, hv, hbg, hg, hr⟩⟩
    · exact .inl h2
    · have hp : f.pk = some ⟨g, 0, none⟩ := by injection hv
      refine .inr ⟨g, 0, hp, (Array.getElem?_eq_some_iff.1 hg).1, ?_⟩
      have h3 := h.ks
      rw [hp] at h3
      exact holds_row h3 rfl
  · have hds := h.ds
    obtain ⟨p, c, hv, hil⟩ := il_own hds (by rw [Array.length_toList]) (by have := h.d12; omega)
    have hp : f.pd = p := by injection hv
    rw [hp]
    simpa using hil
/-- what is cut lies as a graph, with at most twelve keys each -/
theorem GO.gl {b : Nat} {W : World} {q : Option Addr} {n c : Nat} {L : List Fn} (h : GO b W (.slice q n c) L) (hn : L.length = n) (h2 : n ≤ 201) : Gl W q L.toArray := by
  subst hn
  refine ⟨by rw [List.size_toArray]; omega, fun t ht => ?_, ?_⟩
  · have ht2 : t < L.length := by simpa using ht
    have : L.toArray[t]! = L[t] := by rw [getElem!_pos L.toArray t ht]; simp
    rw [this]
    exact (h.nodes _ (List.getElem_mem ht2)).nl
  · rcases h.row with ⟨_, ⟨h1, h2⟩ | ⟨g, c', cur, hv, hbg, hg, hr⟩⟩
    · exact .inl (by simpa using h2)
    · have hp : q = some ⟨g, 0, none⟩ := by injection hv
      refine .inr ⟨g, 0, hp, (Array.getElem?_eq_some_iff.1 hg).1, ?_⟩
      have h3 := h.row
      rw [hp] at h3
      exact holds_rowF (d := L.toArray) h3 (by simp)
theorem GO.k12 {b : Nat} {W : World} {v : Value} {L : List Fn} (h : GO b W v L) : ∀ t, t < L.toArray.size → L.toArray[t]!.keys.size ≤ 12 := fun t ht => by
  have ht2 : t < L.length := by simpa using ht
  have : L.toArray[t]! = L[t] := by rw [getElem!_pos L.toArray t ht]; simp
  rw [this]
  exact (h.nodes _ (List.getElem_mem ht2)).k12
end Go.Proofs.YtfpcjdopfodfnaaGreatDoor

set_option maxRecDepth 100000
namespace Go.Proofs.YtfpcjdopfodfnaaGreatDoor
open Go.RowKit Go.Shelf
open Scs
theorem GlR.below {w w' : World} {p : Option Addr} {L : Array Fn} (h : GlR w p L) (hb : Below w.heap.size w w') : GlR w' p L := fun t ht => by
  obtain ⟨blk, off, h0, h1, c0, c1, c2, c3, c4, c5, hk, hd⟩ := h t ht
  refine ⟨blk, off, h0, Nat.lt_of_lt_of_le h1 hb.size, (hb.cell (p := ⟨blk, _, none⟩) h1).trans c0, (hb.cell (p := ⟨blk, _, none⟩) h1).trans c1, (hb.cell (p := ⟨blk, _, none⟩) h1).trans c2, (hb.cell (p := ⟨blk, _, none⟩) h1).trans c3, (hb.cell (p := ⟨blk, _, none⟩) h1).trans c4, (hb.cell (p := ⟨blk, _, none⟩) h1).trans c5, fun i hi => ?_, fun i hi => ?_⟩
  · obtain ⟨b2, o2, e0, e1, d0, d1, d2⟩ := hk i hi
    exact ⟨b2, o2, e0, Nat.lt_of_lt_of_le e1 hb.size, (hb.cell (p := ⟨b2, _, none⟩) e1).trans d0, (hb.cell (p := ⟨b2, _, none⟩) e1).trans d1, (hb.cell (p := ⟨b2, _, none⟩) e1).trans d2⟩
  · obtain ⟨b2, o2, e0, e1, d0⟩ := hd i hi
    exact ⟨b2, o2, e0, Nat.lt_of_lt_of_le e1 hb.size, (hb.cell (p := ⟨b2, _, none⟩) e1).trans d0⟩
theorem GO.keepB {b : Nat} {W W' : World} {v : Value} {L : List Fn} {B : Nat} (h : GO b W v L) (hg : W.grownBy W' (some B)) (hB : B < b) : GO b W' v L :=
  ⟨own_keepG h.row fun g hv => hg.block g (own_lt h.row g hv).2 (by have := (own_lt h.row g hv).1; simp; omega), fun f hf => (h.nodes f hf).keep (fun g hv => hg.block g (own_lt (h.nodes f hf).ks g hv).2 (by have := (own_lt (h.nodes f hf).ks g hv).1; simp; omega)) (fun g hv => hg.block g (own_lt (h.nodes f hf).ds g hv).2 (by have := (own_lt (h.nodes f hf).ds g hv).1; simp; omega))⟩
theorem check_ok {r : Int} {L : List Fn} (h : (checkG r L).2 = 0) : L.length ≤ 200 ∧ badFrom L.length L 0 = none ∧ plB r L.length = true := by
  unfold checkG at h
  by_cases h2 : 200 < L.length
  · rw [if_pos h2] at h; cases h
  · rw [if_neg h2] at h
    cases hp : plB r L.length
    · rw [hp, if_neg (by decide)] at h; cases h
    · rw [hp, if_pos rfl] at h
      cases hb : badFrom L.length L 0 with
      | none => exact ⟨by omega, rfl, rfl⟩
      | some t => rw [hb] at h; cases h
theorem check_root {L : List Fn} (h1 : L.length ≤ 200) (h2 : badFrom L.length L 0 = none) (s : Int) : checkG s L = if plB s L.length = true then (0, 0) else (-1, 70) := by
  unfold checkG
  rw [if_neg (by omega), h2]
set_option maxHeartbeats 8000000 in
theorem walkArenaRoots (root : Int) (L : Array Fn) (p : Option Addr) (cap : Nat) (s : Int) (w : World) (E : Env w) (hL : GlR w p L) :
    Calls Tryz.prog 8 #[.agg #[.int .i64 root, .slice p L.size cap], .int .i64 s] w fun e w' => e = .returned (.bool true) ∧ Below w.heap.size w w' := by
  have HEE := Lib.hid E
  obtain ⟨v0, hv0⟩ : ∃ v, (w.alloc (.cells #[.int .i64 root, .slice p L.size cap] 24)) = v := ⟨_, rfl⟩
  have hb0 : Below w.heap.size w v0 := by rw [← hv0]; exact ((Below.refl _ w).alloc (Nat.le_refl _) _)
  have r0 : v0.heap[w.heap.size]? = some (.cells #[.int .i64 root, .slice p L.size cap] 24) := by
    rw [← hv0]
    have h := heap_alloc_new w (.cells #[.int .i64 root, .slice p L.size cap] 24)
    exact h
  have HE0 := Lib.hid (E.below hb0)
  have HL0 := Lib.hid (hL.below hb0)
  have HB0 := Lib.hid hb0
  have R0_0 := Lib.hid r0
  have HV0 := Lib.hid hv0
  clear hv0 hb0 E hL r0
  go_enter Tryz.func8, Tryz.ntmps8
  go_wp2_with fail
  rw [HV0.out]
  refine (shown_any _ HE0.out).mono ?_
  rintro e v1 ⟨rfl, hb⟩
  have R1_0 := Lib.hid ((hb.block _ (Array.getElem?_eq_some_iff.1 R0_0.out).1).trans R0_0.out)
  have HE1 := Lib.hid (HE0.out.below hb)
  have HL1 := Lib.hid (HL0.out.below hb)
  have HB1 := Lib.hid (HB0.out.trans (hb.mono HB0.out.size))
  clear hb
  have c0 := cell_of_row _ _ 0 _ _ _ R1_0.out
  have c1 := cell_of_row _ _ 1 _ _ _ R1_0.out
  go_wp2_with fail
  refine (Cut07_any root L p cap v1 HL1.out).mono ?_
  rintro e v2 ⟨q, n, c, rfl, ⟨L', hn, h201, hgo⟩, hb⟩
  clear c0 c1
  have R2_0 := Lib.hid ((hb.block _ (Array.getElem?_eq_some_iff.1 R1_0.out).1).trans R1_0.out)
  have HE2 := Lib.hid (HE1.out.below hb)
  have HB2 := Lib.hid (HB1.out.trans (hb.mono HB1.out.size))
  have HN := Lib.hid hn
  have HGO2 := Lib.hid hgo
  have hs1 := HB1.out.size
  have HB12 := Lib.hid hb
  clear hb hn hgo
  have c0 := cell_of_row _ _ 0 _ _ _ R2_0.out
  have c1 := cell_of_row _ _ 1 _ _ _ R2_0.out
  have f0 := frozen_of_row _ _ 0 _ _ R2_0.out
  have f1 := frozen_of_row _ _ 1 _ _ R2_0.out
  go_upto_region 3 with fail
  obtain ⟨v3, hv3⟩ : ∃ v, ((v2.setCell ⟨w.heap.size, 0, none⟩ (.int .i64 root)).setCell ⟨w.heap.size, 1, none⟩ (.slice q n c)) = v := ⟨_, rfl⟩
  rw [hv3]
  have r3 := heap_setCell_same _ (w.heap.size) 1 _ _ (.slice q n c) (heap_setCell_same v2 (w.heap.size) 0 _ _ (.int .i64 root) R2_0.out)
  rw [hv3] at r3
  have g3 : v2.grownBy v3 (some (w.heap.size)) := by rw [← hv3]; exact gB_setCell (gB_setCell (gB_refl _ _) _ _) _ _
  have hB1 : w.heap.size < v1.heap.size := (Array.getElem?_eq_some_iff.1 R1_0.out).1
  have HGO3 : Hid (GO v1.heap.size v3 (.slice q n c) L') := Lib.hid (GO.keepB HGO2.out g3 hB1)
  have HGL := Lib.hid (HGO3.out.gl HN.out h201)
  have HK := Lib.hid HGO3.out.k12
  have hDn : L'.toArray.size = n := by rw [List.size_toArray]; exact HN.out
  have HLT := Lib.hid (show L'.toArray.toList = L' by simp)
  obtain ⟨D, hD⟩ : ∃ D, L'.toArray = D := ⟨_, rfl⟩
  rw [hD] at HGL HK hDn HLT
  have hbs : Below w.heap.size v2 v3 := below_of_grown g3 (by omega) HB2.out.size
  have R3_0 := Lib.hid r3
  have HB3 := Lib.hid (HB2.out.trans hbs)
  have HE3 := Lib.hid (HEE.out.below HB3.out)
  have HDN := Lib.hid hDn
  have HD := Lib.hid hD
  have H201 := Lib.hid h201
  clear c0 c1 f0 f1 hv3 r3 g3 hB1 hbs hs1 hDn hD h201
  have c0 := cell_of_row _ _ 0 _ _ _ R3_0.out
  have c1 := cell_of_row _ _ 1 _ _ _ R3_0.out
  have HCK := Lib.hid fun r W E G => Check_any r D q c W E G
  rw [HDN.out] at HCK
  obtain ⟨r1, hr1⟩ : ∃ r, checkG root D.toList = r := ⟨_, rfl⟩
  obtain ⟨r2, hr2⟩ : ∃ r, checkG s D.toList = r := ⟨_, rfl⟩
  have hk1 := HCK.out root v3 HE3.out HGL.out
  rw [hr1] at hk1
  have HK1 := Lib.hid hk1
  clear hk1
  go_wp2_with fail
  refine (HK1.out).mono ?_
  rintro e v4 ⟨rfl, hb⟩
  clear c0 c1
  have R4_0 := Lib.hid ((hb.block _ (Array.getElem?_eq_some_iff.1 R3_0.out).1).trans R3_0.out)
  have HE4 := Lib.hid (HE3.out.below hb)
  have HB4 := Lib.hid (HB3.out.trans (hb.mono HB3.out.size))
  have HGL4 := Lib.hid (HGL.out.below hb)
  clear hb
  have c0 := cell_of_row _ _ 0 _ _ _ R4_0.out
  have c1 := cell_of_row _ _ 1 _ _ _ R4_0.out
  have hk2 := HCK.out s v4 HE4.out HGL4.out
  rw [hr2] at hk2
  have HK2 := Lib.hid hk2
  clear hk2
  go_wp2_with fail
  refine (HK2.out).mono ?_
  rintro e v5 ⟨rfl, hb⟩
  clear c0 c1
  have R5_0 := Lib.hid ((hb.block _ (Array.getElem?_eq_some_iff.1 R4_0.out).1).trans R4_0.out)
  have HE5 := Lib.hid (HE4.out.below hb)
  have HB5 := Lib.hid (HB4.out.trans (hb.mono HB4.out.size))
  have HGL5 := Lib.hid (HGL4.out.below hb)
  clear hb
  have c0 := cell_of_row _ _ 0 _ _ _ R5_0.out
  have c1 := cell_of_row _ _ 1 _ _ _ R5_0.out
  have HR1 := Lib.hid hr1
  have HR2 := Lib.hid hr2
  obtain ⟨a1, e1⟩ := r1
  obtain ⟨a2, e2⟩ := r2
  clear hr1 hr2
  by_cases he : e1 = 0
  · subst he
    obtain ⟨k1, k2, k3⟩ := check_ok (r := root) (L := D.toList) (by rw [HR1.out])
    have hr := check_root k1 k2 s
    rw [HR2.out, Array.length_toList, HDN.out] at hr
    clear k1 k2 k3
    by_cases h0 : s < 0
    · have hp : plB s n = false := by
        cases hq : plB s n
        · rfl
        · have := plB_iff.1 hq; omega
      rw [hp] at hr
      simp only [Bool.false_eq_true, if_false, Prod.mk.injEq] at hr
      obtain ⟨rfl, rfl⟩ := hr
      clear hp
      go_wp2_with fail
      go_ret
      exact ⟨rfl, HB5.out⟩
    · by_cases h1 : s < (n : Int)
      · have hp : plB s n = true := plB_iff.2 ⟨by omega, h1⟩
        rw [hp] at hr
        simp only [if_true, Prod.mk.injEq] at hr
        obtain ⟨rfl, rfl⟩ := hr
        clear hp
        go_wp2_with fail
        go_ret
        exact ⟨rfl, HB5.out⟩
      · have hp : plB s n = false := by
          cases hq : plB s n
          · rfl
          · have := plB_iff.1 hq; omega
        rw [hp] at hr
        simp only [Bool.false_eq_true, if_false, Prod.mk.injEq] at hr
        obtain ⟨rfl, rfl⟩ := hr
        clear hp
        go_wp2_with fail
        go_ret
        exact ⟨rfl, HB5.out⟩
  · have hne : (e1 != 0) = true := by simp [he]
    go_wp2_with fail
    go_ret
    exact ⟨rfl, HB5.out⟩
end Go.Proofs.YtfpcjdopfodfnaaGreatDoor
