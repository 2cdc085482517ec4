/- A walker tells a node's keys so that they rise, and whether they stand so. Conditions: the graph is right and lies. A walker tells a node's tidy one, in rows of its own. Conditions: the graph is right and lies, and the places are known. A walker tells a graph's tidy one. Conditions: the graph is right and lies. A graph's tidy one is told by the package as the document tells it. Conditions: the graph lies. -/
import Derived.Test.YtepelpmkmhhokaaGreatDoorWpx
import Derived.Deep.RegionHeld3
import Derived.Test.YtepelpmkmhhokaaGreatDoorClx
import Derived.Laws.CopyOwn
import Derived.Laws.MakeOwn
import Derived.Deep.RegionWith
import Derived.Test.YtepelpmkmhhokaaGreatDoorPat
import Derived.Deep.AppendLies
import Derived.Deep.RegionLaw
set_option maxRecDepth 100000
namespace Go.Proofs.YtepelpmkmhhokaaGreatDoor
open Go.RowKit Go.Shelf
open Scs Dfs
theorem keys75_any {w0 : World} {L : Array Fn} {r m : Nat} {p : Option Addr} {cap K : Nat} (H : Wkr w0 L r m p cap K) (x : Nat) (hx : x < L.size) (w : World) (hb : Below w0.heap.size w0 w) :
    Calls Tryz.prog 72 #[.agg #[.int .i64 r, .slice p m cap, .map (some K)], .int .i64 x] w fun e w' => ∃ q c, e = .returned (.slice q (keysOf L[x]!).length c) ∧ Sl w' q (keysOf L[x]!).toArray ∧ New w.heap.size q (keysOf L[x]!).length ∧ Below w.heap.size w w' := by
  obtain ⟨W, hW, hz, hbW, hr0⟩ := at1 w (.cells #[.int .i64 r, .slice p m cap, .map (some K)] 78)
  obtain ⟨q0, q1, q2⟩ := cell3 hr0
  have hbb := hb.trans (hbW.mono hb.size)
  have hC := Keys_new (r : Int) L p cap (x : Int) W (H.env.below hbb) (H.gl.below hbb)
  rw [keys_yes hx, H.hm] at hC
  simp only at hC
  obtain ⟨ks, hks⟩ : ∃ ks, keysOf L[x]! = ks := ⟨_, rfl⟩
  rw [hks] at hC ⊢
  obtain ⟨n, hn⟩ : ∃ n, ks.length = n := ⟨_, rfl⟩
  rw [hn] at hC ⊢
  have HC := Lib.hid hC
  have HW := Lib.hid hW
  have HB := Lib.hid hbW
  have HZ := Lib.hid hz
  clear hC hW hb hbW hr0 hbb hx hks hn H hz
  go_enter Tryz.func72, Tryz.ntmps72
  go_upto_region 1 with fail
  rw [HW.out]
  go_wp2_with fail
  refine HC.out.mono ?_
  rintro e w5 ⟨q, c, rfl, hs, hnw, hb5⟩
  have hz := HZ.out
  have HS := Lib.hid hs
  have HNW := Lib.hid hnw
  have HB5 := Lib.hid (HB.out.trans (hb5.mono (by omega)))
  clear hs hnw hb5 q0 q1 q2
  go_wp2_with fail
  go_ret
  exact ⟨q, c, rfl, HS.out, HNW.out.low (by omega), HB5.out⟩
end Go.Proofs.YtepelpmkmhhokaaGreatDoor

set_option maxRecDepth 100000
namespace Go.Proofs.YtepelpmkmhhokaaGreatDoor
open Go.RowKit Go.Shelf
open Scs Dfs
open Go.Sort (HoldsK)
theorem Sl.keepO {w w' : World} {q : Option Addr} {l : Array Sc} {O : Nat → Prop} (h : Sl w q l) (ho : InO O q l.size) (hz : w.heap.size ≤ w'.heap.size) (hk : ∀ k, O k → k < w.heap.size → w'.heap[k]? = w.heap[k]?) : Sl w' q l := by
  refine ⟨h.small, h.short, ?_⟩
  rcases h.lies with h0 | ⟨blk, off, hp, hbl, hH⟩
  · exact .inl h0
  · rcases ho with h0 | ⟨g, o, hq, hO⟩
    · exact .inl h0
    · rw [hp] at hq
      injection hq with hq
      injection hq with e1 e2 _
      subst e1
      exact .inr ⟨blk, off, hp, by omega, HoldsK_of hH (hk blk hO hbl)⟩
/-- a row's block lies -/
theorem Sl.inO {w : World} {q : Option Addr} {l : Array Sc} {b : Nat} (h : Sl w q l) (hn : New b q l.size) : InO (fun k => b ≤ k ∧ k < w.heap.size) q l.size := by
  rcases hn with h0 | ⟨g, o, rfl, hb⟩
  · exact .inl h0
  · rcases h.lies with h0 | ⟨blk, off, hp, hbl, _⟩
    · exact .inl h0
    · injection hp with hp
      injection hp with e1 _ _
      subst e1
      exact .inr ⟨_, o, rfl, hb, hbl⟩
/-- numbers are copied into a row that has as many -/
theorem copy_ints (W : World) (g n c : Nat) (q : Option Addr) (l : List Int) (cur : Array Value) (hl : l.length = n) (hg : W.heap[g]? = some (.cells cur 3 (0, 0))) (hc : cur.size = n) (hn : n ≤ 1000000) (hil : Il W q l.toArray) :
    ∃ W', (Builtin.copy_ #[41, 41] 3 #[.slice (some ⟨g, 0, none⟩) n n, .slice q n c]).run Tryz.prog W = .ok (.int .i64 n) W' ∧ W'.heap[g]? = some (.cells (ints l).toArray 3 (0, 0)) ∧ W.grownBy W' (some g) := by
  have hsz : (Tryz.prog.info? 3).map (·.size) = some 1 := by kernel_rfl
  have hgi : goInt (n : Int) = .int .i64 n := by unfold goInt; go_num
  by_cases h0 : n = 0
  · subst h0
    have hl0 : l = [] := List.eq_nil_of_length_eq_zero hl
    have hcur : cur = #[] := Array.size_eq_zero_iff.1 hc
    refine ⟨W, ?_, by rw [hg, hl0, hcur]; rfl, World.grownBy.refl W _⟩
    have h := run_copy_none (P := Tryz.prog) W 41 41 3 3 (some ⟨g, 0, none⟩) q 0 0 0 c Tryz.underlying41 hsz rfl
    rw [h]
    rfl
  · obtain ⟨blk, off, rfl, hbl, hcell⟩ : ∃ blk off, q = some ⟨blk, off, none⟩ ∧ blk < W.heap.size ∧ ∀ i, i < l.length → W.cell? ⟨blk, off + i, none⟩ = some (.int .i64 l.toArray[i]!) := by
      rcases hil.lies with h | ⟨blk, off, h1, h2, h3⟩
      · rw [List.size_toArray] at h; omega
      · exact ⟨blk, off, h1, h2, fun i hi => h3 i (by simpa using hi)⟩
    have hil2 : (ints l).length = n := by simp [ints, hl]
    have h := run_copy_row (P := Tryz.prog) W 41 41 3 3 g 0 n n ⟨blk, off, none⟩ n c cur 3 (ints l) Tryz.underlying41 hsz hg (by rw [hil2]; exact (Nat.min_self n).symm) (fun j u hu => by
      unfold ints at hu
      rw [List.getElem?_map] at hu
      by_cases hj : j < l.length
      · rw [List.getElem?_eq_getElem hj] at hu
        rw [Go.WideShapes.add_plain]
        refine (hcell j hj).trans ?_
        rw [getElem!_pos l.toArray j (by simpa using hj)]
        simpa using hu
      · rw [List.getElem?_eq_none (by omega)] at hu
        cases hu) (by omega) (fun u hu => by
      unfold ints at hu
      obtain ⟨z, _, rfl⟩ := List.mem_map.1 hu
      rfl)
    rw [hil2, hgi] at h
    have hlt := (Array.getElem?_eq_some_iff.1 hg).1
    have hd : cur.toList.drop (0 + n) = [] := by rw [List.drop_eq_nil_iff, Array.length_toList]; omega
    refine ⟨_, h, ?_, ⟨rfl, rfl, rfl, by simp [World.setRow], fun k hk hne => setRow_other W g k _ (fun e => hne (by rw [e]))⟩⟩
    rw [hd]
    simp [World.setRow, Array.getElem?_modify, hg]
theorem Kn.lt {L : Array Fn} {K : Nat} {M : List (Int × Value)} {O : Nat → Prop} {A : World} (h : Kn L K M O A) : Kn L K M (fun k => O k ∧ k < A.heap.size) A :=
  ⟨h.has, fun x v e => by
    obtain ⟨h1, h2, q, c, h3, h4, h5⟩ := h.tells x v e
    refine ⟨h1, h2, q, c, h3, h4, ?_⟩
    rcases h5 with h5 | ⟨g, o, rfl, hO⟩
    · exact .inl h5
    · by_cases h0 : (kidsOf L[x.toNat]!).length = 0
      · exact .inl h0
      · obtain ⟨blk, off, hp, hbl, _⟩ := h4.at 0 (by simp; omega)
        injection hp with hp
        injection hp with e1 _ _
        exact .inr ⟨g, o, rfl, hO, by omega⟩⟩
theorem Grw.keepAll {O : Nat → Prop} {a b : World} (h : Grw O a b) {k : Nat} {o : Obj} (hk : a.heap[k]? = some o) (hO : ¬ O k) : b.heap[k]? = some o := (h.block k (Array.getElem?_eq_some_iff.1 hk).1 hO).trans hk
/-- where the walk has moved each node, as the map has it -/
def mvL (l : List Nat) (t : Nat) : List (Int × Value) := (List.range t).map fun i : Nat => (((l[i]! : Nat) : Int), Value.int .i64 (i : Int))
theorem mvL_succ (l : List Nat) (t : Nat) : mvL l (t + 1) = mvL l t ++ [(((l[t]! : Nat) : Int), Value.int .i64 (t : Int))] := by simp [mvL, List.range_succ]
theorem mvL_in {l : List Nat} (hn : l.Nodup) : ∀ t, t ≤ l.length → ∀ x, (x ∈ l.take t → findI (x : Int) (mvL l t) = some (.int .i64 (idx l x))) ∧ (x ∉ l.take t → findI (x : Int) (mvL l t) = none)
  | 0, _, x => ⟨fun h => by simp at h, fun _ => rfl⟩
  | t + 1, ht, x => by
    obtain ⟨h1, h2⟩ := mvL_in hn t (by omega) x
    have htl : t < l.length := by omega
    have hget : l[t]? = some l[t] := List.getElem?_eq_getElem htl
    have htk : l.take (t + 1) = l.take t ++ [l[t]] := List.take_succ_eq_append_getElem htl
    rw [mvL_succ, findI_snoc, htk, getElem!_pos l t htl]
    by_cases hx : x ∈ l.take t
    · rw [h1 hx]
      exact ⟨fun _ => rfl, fun h => absurd (List.mem_append_left _ hx) h⟩
    · rw [h2 hx]
      simp only
      by_cases he : x = l[t]
      · subst he
        refine ⟨fun _ => ?_, fun h => absurd (List.mem_append_right _ (by simp)) h⟩
        rw [if_pos rfl, idx_get hn hget]
      · have : ¬ ((x : Int) = ((l[t] : Nat) : Int)) := by omega
        rw [if_neg this]
        refine ⟨fun h => ?_, fun _ => rfl⟩
        rcases List.mem_append.1 h with h | h
        · exact absurd h hx
        · simp at h; exact absurd h he
set_option maxHeartbeats 16000000 in
theorem copied_any {w0 : World} {L : Array Fn} {r m : Nat} {p : Option Addr} {cap K : Nat} (H : Wkr w0 L r m p cap K) (x Mv : Nat) (hx : x ∈ wk L r) (w : World) (hb : Below w0.heap.size w0 w) (M : List (Int × Value)) (O : Nat → Prop) (hK : Kn L K M O w) (hMv : HasM w Mv (mvL (wk L r) (wk L r).length)) (hMK : Mv ≠ K) :
    Calls Tryz.prog 51 #[.agg #[.int .i64 r, .slice p m cap, .map (some K)], .int .i64 x, .map (some Mv)] w fun e w' => ∃ (F : Fn),
      e = .returned (.agg #[.int .i64 F.k, .int .i64 F.x.1, .int .i64 F.x.2.1, .string F.x.2.2, .slice F.pk F.keys.size F.ck, .slice F.pd F.kids.size F.cd]) ∧ TidyF L[x]! F (wk L r) ∧ Nl w' F ∧
      InO (fun k => w.heap.size ≤ k ∧ k < w'.heap.size) F.pk F.keys.size ∧ InO (fun k => w.heap.size ≤ k ∧ k < w'.heap.size) F.pd F.kids.size ∧ Grw (fun k => k = K) w w' ∧ ∃ (M' : List (Int × Value)) (O' : Nat → Prop), Kn L K M' O' w' ∧ (∀ k, O' k → O k ∨ (w.heap.size ≤ k ∧ k < w'.heap.size)) := by
  have hxl : x < L.size := wk_lt H.bad H.root x hx
  obtain ⟨W, hW, hz, hbW, hr0, hr1⟩ := at2 w (.cells #[.int .i64 r, .slice p m cap, .map (some K)] 78) (.cells #[.int .i64 0, .int .i64 0, .int .i64 0, .string ⟨#[]⟩, .slice none 0 0, .slice none 0 0] 51)
  obtain ⟨q0, q1, q2⟩ := cell3 hr0
  have hbb := hb.trans (hbW.mono hb.size)
  have hg := H.gl.below hbb
  have hxm : (x : Int) < (m : Int) := by have := H.hm; omega
  obtain ⟨blk, off, rfl, hbl, c0, c1, c2, c3, c4, c5⟩ := hg.at x hxl
  have hnx := hg.nodes x hxl
  have HF0 := Lib.hid (rfl : L[x]! = L[x]!)
  obtain ⟨f, hf⟩ : ∃ f, L[x]! = f := ⟨_, rfl⟩
  rw [hf] at c0 c1 c2 c3 c4 c5 hnx ⊢
  obtain ⟨k, ⟨x1, x2, xs⟩, pk, ck, keys, pd, cd, kids⟩ := f
  simp only at c0 c1 c2 c3 c4 c5
  obtain ⟨nk, hnk⟩ : ∃ n, keys.size = n := ⟨_, rfl⟩
  obtain ⟨nd, hnd⟩ : ∃ n, kids.size = n := ⟨_, rfl⟩
  rw [hnk] at c4
  rw [hnd] at c5
  have HH := Lib.hid H
  have HW := Lib.hid hW
  have HZ := Lib.hid hz
  have HBW := Lib.hid hbW
  have HR0 := Lib.hid hr0
  have HR1 := Lib.hid hr1
  have HB := Lib.hid hb
  have HBB := Lib.hid hbb
  have HK := Lib.hid hK
  have HMV := Lib.hid hMv
  have HX := Lib.hid hx
  have HXL := Lib.hid hxl
  have HNX := Lib.hid hnx
  have HFX := Lib.hid hf
  have hxss := hnx.xs
  have hdss := hnx.ds.small
  simp only at hxss hdss
  rw [hnd] at hdss
  have HND := Lib.hid hnd
  clear hW hz hbW hr0 hr1 hb hbb hK hMv hx hxl hnx hf hg H HF0
  go_enter Tryz.func51, Tryz.ntmps51
  go_upto_region 1 with fail
  rw [HW.out]
  go_upto_region 2 with fail
  obtain ⟨W2, hW2, hz2, hb2, hr2⟩ := at1 W (.cells #[.int .i64 k, .int .i64 x1, .int .i64 x2, .string xs, .slice pk nk ck, .slice pd nd cd] 51)
  rw [hW2]
  have d3 := cell_of_row _ _ 3 _ _ _ hr2
  have HW2 := Lib.hid hW2
  have HZ2 := Lib.hid hz2
  have HB2 := Lib.hid hb2
  have HR2 := Lib.hid hr2
  clear hW2 hz2 hb2 hr2 q0 q1 q2 c0 c1 c2 c3 c4 c5
  go_wp2_with fail
  refine (clone_any xs (by omega) W2).mono ?_
  rintro e w3 ⟨rfl, hb3⟩
  have hz := HZ.out
  have hz2 := HZ2.out
  have hz3 := hb3.size
  have r3 := (hb3.block W.heap.size (by omega)).trans HR2.out
  have f3 := frozen_of_row _ _ 3 _ _ r3
  have e3 := cell_of_row _ _ 3 _ _ _ r3
  have HB3 := Lib.hid hb3
  have R3 := Lib.hid r3
  have HZ3 := Lib.hid hz3
  clear hb3 r3 hz hz2 hz3 d3
  go_upto_region 3 with fail
  obtain ⟨W3, hW3⟩ : ∃ W3, w3.setCell ⟨W.heap.size, 3, none⟩ (.string xs) = W3 := ⟨_, rfl⟩
  rw [hW3]
  have hr3 := heap_setCell_same w3 W.heap.size 3 _ _ (.string xs) R3.out
  rw [hW3] at hr3
  have hg3 : w3.grownBy W3 (some W.heap.size) := by rw [← hW3]; exact gB_setCell (gB_refl _ _) _ _
  have hz := HZ.out
  have hz2 := HZ2.out
  have hz3 := HZ3.out
  have hz3' := hg3.size
  have hbW3 : Below W.heap.size W W3 := (HB2.out.trans (HB3.out.mono (by omega))).trans (below_of_grown hg3 (Nat.le_refl _) (by omega))
  obtain ⟨q0, q1, q2⟩ := cell3 ((hbW3.block w.heap.size (by omega)).trans HR0.out)
  have hK75 := keys75_any HH.out x HXL.out W3 (HBB.out.trans (hbW3.mono HBB.out.size))
  have hFx := HFX.out
  rw [hFx] at hK75
  obtain ⟨ks, hks⟩ : ∃ ks, keysOf ⟨k, (x1, x2, xs), pk, ck, keys, pd, cd, kids⟩ = ks := ⟨_, rfl⟩
  rw [hks] at hK75
  obtain ⟨nk4, hnk4⟩ : ∃ n, ks.length = n := ⟨_, rfl⟩
  rw [hnk4] at hK75
  have HK75 := Lib.hid hK75
  have HKS := Lib.hid hks
  have HNK4 := Lib.hid hnk4
  have HBW3 := Lib.hid hbW3
  have HR3 := Lib.hid hr3
  clear hW3 hr3 hg3 hz hz2 hz3 hz3' hbW3 hK75 hFx hks hnk4 f3 e3
  go_wp2_with fail
  refine HK75.out.mono ?_
  rintro e w4 ⟨q4, c4, rfl, hsl4, hnw4, hb4⟩
  obtain ⟨i0, hi, hz0, hz1, hz2i⟩ := info_parts info3
  have hz := HZ.out
  have hz2 := HZ2.out
  have hzW3 := HBW3.out.size
  have hz4 := hb4.size
  have r4 := (hb4.block W.heap.size (by have := (Array.getElem?_eq_some_iff.1 HR3.out).1; omega)).trans HR3.out
  have f4 := frozen_of_row _ _ 4 _ _ r4
  have e4 := cell_of_row _ _ 4 _ _ _ r4
  have hNW3 := (Array.getElem?_eq_some_iff.1 HR3.out).1
  have HB4 := Lib.hid hb4
  have R4 := Lib.hid r4
  have HSL4 := Lib.hid hsl4
  have HNW4 := Lib.hid hnw4
  have HNN := Lib.hid hNW3
  clear hb4 r4 hsl4 hnw4 hz hz2 hzW3 hz4 q0 q1 q2 hNW3
  go_upto_region 4 with fail
  obtain ⟨W4, hW4⟩ : ∃ W4, w4.setCell ⟨W.heap.size, 4, none⟩ (.slice q4 nk4 c4) = W4 := ⟨_, rfl⟩
  rw [hW4]
  have hr4 := heap_setCell_same w4 W.heap.size 4 _ _ (.slice q4 nk4 c4) R4.out
  rw [hW4] at hr4
  have hg4 : w4.grownBy W4 (some W.heap.size) := by rw [← hW4]; exact gB_setCell (gB_refl _ _) _ _
  have hmk := run_make (P := Tryz.prog) W4 41 3 i0 (.int .i64 0) Tryz.underlying41 hi hz0 .i64 .i64 nd nd (by omega) (by omega) (by rw [hz2i]; omega) (by omega)
  simp only [Int.toNat_natCast] at hmk
  rw [hz1] at hmk
  obtain ⟨W5, hW5, hz5, hb5, hr5⟩ := at1 W4 (.cells (madeCells (Value.int .i64 0).cells (nd * 1)) 3)
  rw [hW5] at hmk
  have d5 := cell_of_row _ _ 5 _ _ _ hr4
  have hN4 := (Array.getElem?_eq_some_iff.1 hr4).1
  have hrN5 := (hb5.block W.heap.size hN4).trans hr4
  have e5 := cell_of_row _ _ 5 _ _ _ hrN5
  have f5 := frozen_of_row _ _ 5 _ _ hrN5
  have HG4 := Lib.hid hg4
  have HB5 := Lib.hid hb5
  have HR5 := Lib.hid hr5
  have HRN5 := Lib.hid hrN5
  have HZ5 := Lib.hid hz5
  clear hW4 hr4 hg4 hW5 hz5 hb5 hr5 hN4 hrN5 e4 f4 hi hz0 hz1 hz2i
  go_upto_region 5 with fail
  obtain ⟨W6, hW6⟩ : ∃ W6, W5.setCell ⟨W.heap.size, 5, none⟩ (.slice (some ⟨W4.heap.size, 0, none⟩) nd nd) = W6 := ⟨_, rfl⟩
  rw [hW6]
  have hr6 := heap_setCell_same W5 W.heap.size 5 _ _ (.slice (some ⟨W4.heap.size, 0, none⟩) nd nd) HRN5.out
  rw [hW6] at hr6
  have hg6 : W5.grownBy W6 (some W.heap.size) := by rw [← hW6]; exact gB_setCell (gB_refl _ _) _ _
  have hz := HZ.out
  have hz2 := HZ2.out
  have hz4 := HB4.out.size
  have hz4' := HG4.out.size
  have hz5 := HZ5.out
  have hz6 := hg6.size
  have hN3 := HNN.out
  have hb36 : Below W.heap.size W W6 := (HBW3.out.trans ((HB4.out.mono (by omega)).trans ((below_of_grown HG4.out (Nat.le_refl _) (by omega)).trans ((HB5.out.mono (by omega)).trans (below_of_grown hg6 (Nat.le_refl _) (by omega))))))
  have hb6 : Below w.heap.size w W6 := HBW.out.trans (hb36.mono (by omega))
  have hrow6 : W6.heap[W4.heap.size]? = some (.cells (madeCells (Value.int .i64 0).cells (nd * 1)) 3 (0, 0)) := (hg6.block _ (by omega) (by simp; omega)).trans HR5.out
  have hnks : ks.toArray.size = nk4 := by simpa using HNK4.out
  have hsl6 : Sl W6 q4 ks.toArray := by
    have hio := HSL4.out.inO (b := W3.heap.size) (by rw [hnks]; exact HNW4.out)
    have s1 := HSL4.out.keepO hio hz4' fun k hk hkl => HG4.out.block k hkl (by simp; omega)
    have s2 := s1.keepO (hio) HB5.out.size fun k hk hkl => HB5.out.block k hkl
    exact s2.keepO hio hz6 fun k hk hkl => hg6.block k hkl (by simp; omega)
  have hio6 : InO (fun k => W3.heap.size ≤ k ∧ k < W4.heap.size) q4 nk4 := by
    have hio := HSL4.out.inO (b := W3.heap.size) (by rw [hnks]; exact HNW4.out)
    rw [hnks] at hio
    exact hio.mono fun k hk => by omega
  have hbd : Below w0.heap.size w0 W6.drew := (HB.out.trans (hb6.mono HB.out.size)).drew
  have hKl := (Array.getElem?_eq_some_iff.1 HK.out.has).1
  have hkn6 : Kn L K M (fun k => O k ∧ k < w.heap.size) W6.drew := HK.out.lt.keep hb6.size (hb6.block K hKl) fun k hk _ => hb6.block k hk.2
  have hkd := kids_any (r : Int) L m (some ⟨blk, off, none⟩) cap K x M _ W6.drew HH.out.hm (HH.out.env.below hbd) (HH.out.gl.below hbd) HH.out.k12 HXL.out hkn6
  have hFx := HFX.out
  have hklen := kidsOf_len (right_at HH.out.bad HXL.out)
  rw [hFx] at hkd hklen
  obtain ⟨kd, hkd2⟩ : ∃ kd, kidsOf ⟨k, (x1, x2, xs), pk, ck, keys, pd, cd, kids⟩ = kd := ⟨_, rfl⟩
  rw [hkd2] at hkd hklen
  have hkl2 : kd.length = nd := hklen.trans HND.out
  rw [hkl2] at hkd
  have HKD := Lib.hid hkd
  have HKDE := Lib.hid hkd2
  have HKL2 := Lib.hid hkl2
  have HR6 := Lib.hid hr6
  have HROW6 := Lib.hid hrow6
  have HSL6 := Lib.hid hsl6
  have HIO6 := Lib.hid hio6
  have HB6 := Lib.hid hb6
  have HB36 := Lib.hid hb36
  have HZW := Lib.hid (show W.heap.size < W4.heap.size ∧ W4.heap.size < W6.heap.size by omega)
  obtain ⟨u0, u1, u2⟩ := cell3 ((hb36.block w.heap.size (by omega)).trans HR0.out)
  have u5 := cell_of_row _ _ 5 _ _ _ hr6
  have hWK : W4.heap.size ≠ K := by omega
  have hNK : W.heap.size ≠ K := by omega
  have u5l : W.heap.size < W6.heap.size := by omega
  clear hnks hW6 hr6 hg6 hz hz2 hz4 hz4' hz5 hz6 hN3 hb36 hb6 hrow6 hsl6 hio6 hbd hKl hkn6 hkd hFx hklen hkd2 hkl2 d5 e5 f5 hmk
  go_cut [31] from 31 to 36 (fun _ wx => ∃ M6 O6, wx.heap[W.heap.size]? = some (.cells #[.int .i64 k, .int .i64 x1, .int .i64 x2, .string xs, .slice q4 nk4 c4, .slice (some ⟨W4.heap.size, 0, none⟩) nd nd] 51 (0, 0)) ∧ wx.heap[W4.heap.size]? = some (.cells (ints kd).toArray 3 (0, 0)) ∧ Kn L K M6 O6 wx ∧ (∀ k, O6 k → (O k ∧ k < w.heap.size) ∨ (W6.heap.size ≤ k ∧ k < wx.heap.size)) ∧ Grw (fun k => k = K ∨ k = W4.heap.size) W6 wx)
  case first =>
    go_region_with (first
      | ((with_reducible refine HKD.out.mono ?_); rintro e wq ⟨q6, c6, M6, rfl, hil6, hio6, hkn6, hg6⟩
         have u5q : wq.cell? ⟨W.heap.size, 5, none⟩ = some (.slice (some ⟨W4.heap.size, 0, none⟩) nd nd) := (World.cell?_of_block (hg6.block W.heap.size u5l hNK)).trans u5
         obtain ⟨Wc, hcp, hrow7, hgc⟩ := copy_ints wq W4.heap.size nd c6 q6 kd _ HKL2.out (hg6.keepAll HROW6.out hWK) (by simp [madeCells]) hdss hil6
         have HIL6 := Lib.hid hil6
         have HKN6 := Lib.hid hkn6
         have HG6 := Lib.hid hg6
         have HROW7 := Lib.hid hrow7
         have HGC := Lib.hid hgc
         clear hil6 hio6 hkn6 hg6 hrow7 hgc))
    all_goals
      go_wp2
      go_meet
      have hzq := HG6.out.size
      have hzc := HGC.out.size
      rw [World.size_drew] at hzq
      have hKq := (Array.getElem?_eq_some_iff.1 HKN6.out.has).1
      have hzz := HZW.out
      have hzw := HBW.out.size
      refine ⟨M6, _, (HGC.out.block W.heap.size (by omega) (by simp; omega)).trans (HG6.out.keepAll HR6.out hNK), HROW7.out, HKN6.out.keep hzc (HGC.out.block K hKq (by simp; omega)) (fun k' hk' hkl => HGC.out.block k' hkl ?_), fun k' hk' => ?_, ⟨HGC.out.os.trans HG6.out.os, HGC.out.tape.trans HG6.out.tape, HGC.out.output.trans HG6.out.output, by omega, fun k' hk' hne => (HGC.out.block k' (by omega) (by simp; intro e; exact hne (.inr e))).trans (HG6.out.block k' hk' fun e => hne (.inl e))⟩⟩
      · rcases hk' with ⟨_, h⟩ | ⟨h, _⟩
        · simp; omega
        · rw [World.size_drew] at h
          simp; omega
      · rcases hk' with h | ⟨h1, h2⟩
        · exact .inl h
        · rw [World.size_drew] at h1
          exact .inr (by omega)
  case rest =>
    obtain ⟨M6, O6, hrN, hrg, hkn, hO6, hgr⟩ := hcut
    have hMl := (Array.getElem?_eq_some_iff.1 HMV.out).1
    have hzz := HZW.out
    have hzw := HBW.out.size
    have hzc := hgr.size
    have hmv : HasM wc Mv (mvL (wk L r) (wk L r).length) := (HMV.out.keep (HB6.out.block Mv hMl)).keep (hgr.block Mv (by omega) (by omega))
    have hcl := wk_closed HH.out.bad HH.out.root x HX.out
    have hFx := HFX.out
    rw [hFx, HKDE.out] at hcl
    have hnod : (wk L r).Nodup := (walk_went (KN_lt HH.out.bad) HH.out.root).few.1
    have hpos : ∀ z ∈ kd, 0 ≤ z := fun z hz => by
      have h := kidsOf_mem (right_at HH.out.bad HXL.out) z (by rw [hFx, HKDE.out]; exact hz)
      exact h.1
    have u5c := cell_of_row _ _ 5 _ _ _ hrN
    obtain ⟨l, hl⟩ : ∃ l, wk L r = l := ⟨_, rfl⟩
    rw [hl] at hmv hcl hnod
    have HLE := Lib.hid hl
    have HHN := Lib.hid hrN
    have HHG := Lib.hid hrg
    have HHK := Lib.hid hkn
    have HHO := Lib.hid hO6
    have HHR := Lib.hid hgr
    have HHM := Lib.hid hmv
    have HCL := Lib.hid hcl
    have HPO := Lib.hid hpos
    have HNOD := Lib.hid hnod
    clear hrN hrg hkn hO6 hgr hmv hcl hpos hl hFx hMl hzz hzw hzc u0 u1 u2 u5 hnod
    go_wp2_with fail
    go_loopw [8, 9, 40] (fun _ _ i wr => ∃ t : Nat, t ≤ nd ∧ i = .int .i64 t ∧ wr.heap[W4.heap.size]? = some (.cells (ints ((kd.take t).map (fun z => ((idx l z.toNat : Nat) : Int)) ++ kd.drop t)).toArray 3 (0, 0)) ∧ Grw (fun k => k = W4.heap.size) wc wr) (fun _ _ i _ => nd - (intOf i).toNat)
    case atStart => exact ⟨0, by omega, rfl, by simpa using HHG.out, Grw.refl _ _⟩
    case round =>
      obtain ⟨t, ht, rfl, hrow, hgw⟩ := hrel
      have HROW := Lib.hid hrow
      have HGW := Lib.hid hgw
      have hzz := HZW.out
      have hzc := HHR.out.size
      have hrNw := hgw.keepAll HHN.out (by omega)
      have u5w := cell_of_row _ _ 5 _ _ _ hrNw
      by_cases hlt : t < nd
      · have i1 : (t : Int) < (nd : Int) := by omega
        have htk : t < kd.length := by have := HKL2.out; omega
        obtain ⟨y, hy⟩ : ∃ y : Nat, kd[t] = (y : Int) := ⟨kd[t].toNat, by have := HPO.out _ (List.getElem_mem htk); omega⟩
        have hyl : y ∈ l := by
          have := HCL.out _ (List.getElem_mem htk)
          rw [hy] at this
          exact this
        have hcut : (kd.take t).map (fun z => ((idx l z.toNat : Nat) : Int)) ++ kd.drop t = (kd.take t).map (fun z => ((idx l z.toNat : Nat) : Int)) ++ (y : Int) :: kd.drop (t + 1) := by
          rw [List.drop_eq_getElem_cons htk, hy]
        have hlen : ((kd.take t).map (fun z => ((idx l z.toNat : Nat) : Int))).length = t := by
          rw [List.length_map, List.length_take]; omega
        rw [hcut] at hrow
        have v1 : wr.cell? ⟨W4.heap.size, t, none⟩ = some (.int .i64 y) := by
          rw [cell_of_row _ _ _ _ _ _ hrow, List.getElem?_toArray]
          unfold ints
          rw [List.map_append, List.getElem?_append_right (by rw [List.length_map, hlen]; exact Nat.le_refl _), List.length_map, hlen, Nat.sub_self]
          rfl
        have g1 : wr.frozen? ⟨W4.heap.size, t, none⟩ = false := frozen_of_row _ _ _ _ _ hrow
        have hMl := (Array.getElem?_eq_some_iff.1 HMV.out).1
        have hmw : HasM wr Mv (mvL l l.length) := HHM.out.keep (hgw.block Mv (by have := (Array.getElem?_eq_some_iff.1 HHM.out).1; omega) (by have := HBW.out.size; omega))
        have hlk := look_int Tryz.underlying72 wr Mv (y : Int) (mvL l l.length) (z := .int .i64 0) (by kernel_rfl) hmw
        rw [(mvL_in HNOD.out l.length (Nat.le_refl _) y).1 (by rw [List.take_length]; exact hyl)] at hlk
        simp only [Option.getD] at hlk
        have HROW2 := Lib.hid hrow
        have HLEN := Lib.hid hlen
        have HY := Lib.hid hy
        clear hrow hgw hrNw hcut hlen hmw hyl hMl hzz hzc
        go_wp2_with fail
        have h9 := heap_setCell_same wr W4.heap.size t _ _ (.int .i64 (idx l y)) HROW2.out
        have hg9 : wr.grownBy (wr.setCell ⟨W4.heap.size, t, none⟩ (.int .i64 (idx l y))) (some W4.heap.size) := gB_setCell (gB_refl _ _) _ _
        go_roundw
        case rel =>
          refine ⟨t + 1, by omega, by go_num, ?_, HGW.out.trans (Grw.of_grown hg9 rfl)⟩
          rw [h9]
          have hset : (ints ((kd.take t).map (fun z => ((idx l z.toNat : Nat) : Int)) ++ (y : Int) :: kd.drop (t + 1))).toArray.setIfInBounds t (.int .i64 ((idx l y : Nat) : Int)) = (ints ((kd.take (t + 1)).map (fun z => ((idx l z.toNat : Nat) : Int)) ++ kd.drop (t + 1))).toArray := by
            have e1 : kd.take (t + 1) = kd.take t ++ [(y : Int)] := by rw [List.take_succ_eq_append_getElem htk, HY.out]
            rw [e1, List.map_append]
            unfold ints
            simp only [List.map_append, List.map_cons, List.map_nil, List.append_assoc, List.cons_append, List.nil_append, Int.toNat_natCast]
            rw [← Array.toList_inj]
            simp only [Array.toList_setIfInBounds]
            rw [List.set_append_right _ _ (by rw [List.length_map, HLEN.out]; exact Nat.le_refl _), List.length_map, HLEN.out, Nat.sub_self]
            rfl
          rw [← hset]
        case measure => simp [intOf]; omega
      · have i1 : ¬ (t : Int) < (nd : Int) := by omega
        obtain rfl : t = nd := by omega
        have hall : kd.take t = kd := List.take_of_length_le (by rw [HKL2.out]; exact Nat.le_refl _)
        have hdn : kd.drop t = [] := by rw [List.drop_eq_nil_iff, HKL2.out]; exact Nat.le_refl _
        have hrow2 := HROW.out
        rw [hall, hdn, List.append_nil] at hrow2
        have v0 := cell_of_row _ _ 0 _ _ _ hrNw
        have v1 := cell_of_row _ _ 1 _ _ _ hrNw
        have v2 := cell_of_row _ _ 2 _ _ _ hrNw
        have v3 := cell_of_row _ _ 3 _ _ _ hrNw
        have v4 := cell_of_row _ _ 4 _ _ _ hrNw
        have hzw := HBW.out.size
        have hz := HZ.out
        have r1 := (hgw.block (w.heap.size + 1) (by omega) (by omega)).trans ((HHR.out.block (w.heap.size + 1) (by omega) (by have := (Array.getElem?_eq_some_iff.1 HK.out.has).1; omega)).trans ((HB36.out.block (w.heap.size + 1) (by omega)).trans HR1.out))
        have t0 := cell_of_row _ _ 0 _ _ _ r1
        have t1 := cell_of_row _ _ 1 _ _ _ r1
        have t2 := cell_of_row _ _ 2 _ _ _ r1
        have t3 := cell_of_row _ _ 3 _ _ _ r1
        have t4 := cell_of_row _ _ 4 _ _ _ r1
        have t5 := cell_of_row _ _ 5 _ _ _ r1
        have g0 := frozen_of_row _ _ 0 _ _ r1
        have g1 := frozen_of_row _ _ 1 _ _ r1
        have g2 := frozen_of_row _ _ 2 _ _ r1
        have g3 := frozen_of_row _ _ 3 _ _ r1
        have g4 := frozen_of_row _ _ 4 _ _ r1
        have g5 := frozen_of_row _ _ 5 _ _ r1
        have R1 := Lib.hid r1
        have HROW3 := Lib.hid hrow2
        clear hrow hgw hrNw hall hdn hrow2 r1 hzz hzc hzw hz HROW
        go_wp2_with fail
        obtain ⟨w9, hw9⟩ : ∃ w9, ((((((wr.setCell ⟨w.heap.size + 1, 0, none⟩ (.int .i64 k)).setCell ⟨w.heap.size + 1, 1, none⟩ (.int .i64 x1)).setCell ⟨w.heap.size + 1, 2, none⟩ (.int .i64 x2)).setCell ⟨w.heap.size + 1, 3, none⟩ (.string xs)).setCell ⟨w.heap.size + 1, 4, none⟩ (.slice q4 nk4 c4)).setCell ⟨w.heap.size + 1, 5, none⟩ (.slice (some ⟨W4.heap.size, 0, none⟩) t t)) = w9 := ⟨_, rfl⟩
        rw [hw9]
        have r9 : w9.heap[w.heap.size + 1]? = some (.cells #[.int .i64 k, .int .i64 x1, .int .i64 x2, .string xs, .slice q4 nk4 c4, .slice (some ⟨W4.heap.size, 0, none⟩) t t] 51 (0, 0)) := by
          rw [← hw9]
          exact heap_setCell_same _ _ 5 _ _ _ (heap_setCell_same _ _ 4 _ _ _ (heap_setCell_same _ _ 3 _ _ _ (heap_setCell_same _ _ 2 _ _ _ (heap_setCell_same _ _ 1 _ _ _ (heap_setCell_same _ _ 0 _ _ _ R1.out)))))
        have g9 : wr.grownBy w9 (some (w.heap.size + 1)) := by rw [← hw9]; exact gB_setCell (gB_setCell (gB_setCell (gB_setCell (gB_setCell (gB_setCell (gB_refl _ _) _ _) _ _) _ _) _ _) _ _) _ _
        have t0 := cell_of_row _ _ 0 _ _ _ r9
        have t1 := cell_of_row _ _ 1 _ _ _ r9
        have t2 := cell_of_row _ _ 2 _ _ _ r9
        have t3 := cell_of_row _ _ 3 _ _ _ r9
        have t4 := cell_of_row _ _ 4 _ _ _ r9
        have t5 := cell_of_row _ _ 5 _ _ _ r9
        refine bodyPost_ret (v := .agg #[.int .i64 k, .int .i64 x1, .int .i64 x2, .string xs, .slice q4 nk4 c4, .slice (some ⟨W4.heap.size, 0, none⟩) t t]) (by simp [results, Tryz.results51, go_sem, t0, t1, t2, t3, t4, t5]) rfl ?_
        have hnks : ks.toArray.size = nk4 := by simpa using HNK4.out
        have hnds : (kd.map (fun z => ((idx l z.toNat : Nat) : Int))).toArray.size = t := by simpa using HKL2.out
        have hz := HZ.out
        have hz2 := HZ2.out
        have hzz := HZW.out
        have hzw := HBW.out.size
        have hzc := HHR.out.size
        have hzr := HGW.out.size
        have hz9 := g9.size
        have hz3 := HBW3.out.size
        have hKl := (Array.getElem?_eq_some_iff.1 HK.out.has).1
        have hN3 := HNN.out
        have hgc9 : Grw (fun k => k = W4.heap.size ∨ k = w.heap.size + 1) wc w9 := (HGW.out.wide fun k' _ e => .inl e).trans (Grw.of_grown g9 (.inr rfl))
        have hg69 : Grw (fun k => k = K ∨ k = W4.heap.size ∨ k = w.heap.size + 1) W6 w9 := (HHR.out.wide fun k' _ e => by rcases e with e | e; exact .inl e; exact .inr (.inl e)).trans (hgc9.wide fun k' _ e => .inr e)
        rw [HLE.out]
        refine ⟨⟨k, (x1, x2, xs), q4, c4, ks.toArray, some ⟨W4.heap.size, 0, none⟩, t, (kd.map (fun z : Int => ((idx l z.toNat : Nat) : Int))).toArray⟩, ?_, ⟨rfl, rfl, ?_, ?_⟩, ⟨hxss, ?_, ?_⟩, ?_, ?_, ?_, M6, O6, ?_, fun k' hk' => ?_⟩
        · simp only [hnks, hnds]
        · simp only
          rw [HKS.out]
        · simp only
          rw [HKDE.out]
        · refine HSL6.out.keepO (by rw [hnks]; exact HIO6.out) hg69.size fun k' hk' hkl => hg69.block k' hkl ?_
          rintro (e | e | e)
          · omega
          · omega
          · omega
        · refine ⟨by rw [hnds]; exact hdss, ?_⟩
          by_cases h0 : t = 0
          · exact .inl (by rw [hnds]; exact h0)
          · have hrow9 := (g9.block W4.heap.size (by omega) (by simp; omega)).trans HROW3.out
            refine .inr ⟨W4.heap.size, 0, rfl, (Array.getElem?_eq_some_iff.1 hrow9).1, fun i hi => ?_⟩
            rw [Nat.zero_add, cell_of_row _ _ _ _ _ _ hrow9, List.getElem?_toArray]
            rw [List.size_toArray] at hi
            unfold ints
            rw [List.getElem?_map, List.getElem?_eq_getElem hi, getElem!_pos (kd.map (fun z => ((idx l z.toNat : Nat) : Int))).toArray i (by simpa using hi)]
            simp
        · simp only
          rw [hnks]
          exact HIO6.out.mono fun k' hk' => by omega
        · exact .inr ⟨W4.heap.size, 0, rfl, by omega, by omega⟩
        · have hb6 := HB6.out
          exact ⟨hg69.os.trans hb6.os, hg69.tape.trans hb6.tape, hg69.output.trans hb6.output, Nat.le_trans hb6.size hg69.size, fun k' hk' hne => (hg69.block k' (by have := hb6.size; omega) (by omega)).trans (hb6.block k' hk')⟩
        · refine HHK.out.keep hgc9.size (hgc9.block K (Array.getElem?_eq_some_iff.1 HHK.out.has).1 (by omega)) fun k' hk' hkl => hgc9.block k' hkl ?_
          rcases HHO.out k' hk' with h | h
          · omega
          · omega
        · rcases HHO.out k' hk' with h | h
          · exact .inl h.1
          · exact .inr (by omega)
end Go.Proofs.YtepelpmkmhhokaaGreatDoor

set_option maxRecDepth 100000
namespace Go.Proofs.YtepelpmkmhhokaaGreatDoor
open Go.RowKit Go.Shelf
open Scs Dfs
open Go.Sort (HoldsK)
theorem gl_of {b : Nat} {W : World} {q : Option Addr} {n c : Nat} {L : List Fn} (h : W.ownsRow b 51 6 (.slice q n c) n (flatF L)) (hn : L.length = n) (h2 : n ≤ 1000000) (hs : ∀ f ∈ L, Nl W f) : Gl W q L.toArray := by
  subst hn
  refine ⟨by rw [List.size_toArray]; exact h2, fun t ht => ?_, ?_⟩
  · have ht2 : t < L.length := by simpa using ht
    have e : L.toArray[t]! = L[t] := by rw [getElem!_pos L.toArray t ht]; simp
    rw [e]
    exact hs _ (List.getElem_mem ht2)
  · rcases h with ⟨ha, ⟨h1, h2⟩ | ⟨g, c', cur, hv, hbg, hg, hr⟩⟩
    · exact .inl (by simpa using h2)
    · have hp : q = some ⟨g, 0, none⟩ := by injection hv
      refine .inr ⟨g, 0, hp, (Array.getElem?_eq_some_iff.1 hg).1, ?_⟩
      subst hp
      exact holds_rowF (d := L.toArray) (b := b) (c := c) ⟨ha, .inr ⟨g, c', cur, hv, hbg, hg, hr⟩⟩ (by simp)
/-- nodes whose rows lie in blocks of a set -/
def NdO (On : Nat → Prop) (W : World) (F : Fn) : Prop := Nl W F ∧ InO On F.pk F.keys.size ∧ InO On F.pd F.kids.size
theorem NdO.keep {On : Nat → Prop} {W W' : World} {F : Fn} (h : NdO On W F) (hz : W.heap.size ≤ W'.heap.size) (hk : ∀ k, On k → k < W.heap.size → W'.heap[k]? = W.heap[k]?) : NdO On W' F :=
  ⟨⟨h.1.xs, h.1.ks.keepO h.2.1 hz hk, h.1.ds.keepO h.2.2 hz hk⟩, h.2⟩
theorem NdO.mono {On On' : Nat → Prop} {W : World} {F : Fn} (h : NdO On W F) (hO : ∀ k, On k → On' k) : NdO On' W F := ⟨h.1, h.2.1.mono hO, h.2.2.mono hO⟩
theorem Il.inK {w : World} {q : Option Addr} {l : Array Int} {n K : Nat} {M : List (Int × Value)} (h : Il w q l) (hn : l.size = n) (hK : HasM w K M) : InO (fun k => k ≠ K ∧ k < w.heap.size) q n := by
  subst hn
  by_cases h0 : l.size = 0
  · exact .inl h0
  · obtain ⟨blk, off, rfl, hb, _⟩ := h.at 0 (by omega)
    exact .inr ⟨blk, off, rfl, fun e => h.no_map (by omega) (by rw [e]; exact hK), hb⟩
/-- what a round of the tidy graph's making finds -/
structure Td (L : Array Fn) (l : List Nat) (K X : Nat) (W9 : World) (t : Nat) (qv : Option Addr) (cv : Nat) (Ts : List Fn) (M : List (Int × Value)) (O On : Nat → Prop) (W : World) : Prop where
  box : W.heap[X]? = some (.cells #[.int .i64 0, .slice qv t cv] 24 (0, 0))
  own : W.ownsRow (X + 1) 51 6 (.slice qv t cv) t (flatF Ts)
  len : Ts.length = t
  tidy : ∀ s, s < t → TidyF L[l[s]!]! Ts[s]! l
  nodes : ∀ F ∈ Ts, NdO On W F
  kn : Kn L K M O W
  off : ∀ k, (On k ∨ O k) → k ≠ X ∧ (Value.slice qv t cv).ownBlock ≠ some k ∧ k < W.heap.size
  offK : ∀ k, On k → X < k
  grw : Grw (fun k => k = K ∨ k = X) W9 W
/-- a graph lies in blocks from b on -/
def GlN (b : Nat) (w : World) (q : Option Addr) (T : Array Fn) : Prop := ∀ W : World, w.heap.size ≤ W.heap.size → (∀ k, b ≤ k → k < w.heap.size → W.heap[k]? = w.heap[k]?) → Gl W q T
theorem GlN.gl {b : Nat} {w : World} {q : Option Addr} {T : Array Fn} (h : GlN b w q T) : Gl w q T := h w (Nat.le_refl _) fun _ _ _ => rfl
set_option maxHeartbeats 16000000 in
theorem tidied_any {w0 : World} {L : Array Fn} {r m : Nat} {p : Option Addr} {cap K : Nat} (H : Wkr w0 L r m p cap K) (w : World) (hb : Below w0.heap.size w0 w) (hZ : HasM w K []) :
    Calls Tryz.prog 32 #[.agg #[.int .i64 r, .slice p m cap, .map (some K)]] w fun e w' => ∃ (T : Array Fn) (q : Option Addr) (c : Nat), e = .returned (.agg #[.int .i64 0, .slice q T.size c]) ∧ GlN w.heap.size w' q T ∧ TidyG L T (wk L r) ∧ Grw (fun k => k = K) w w' := by
  obtain ⟨W2, hW2, hz2, hb2, hr0, hr1⟩ := at2 w (.cells #[.int .i64 r, .slice p m cap, .map (some K)] 78) (.cells #[.int .i64 0, .slice none 0 0] 24)
  obtain ⟨W3, hW3, hz3, hb3, hr2⟩ := at1 W2 (.cells #[.int .i64 r, .slice p m cap, .map (some K)] 78)
  rw [hz2] at hz3 hr2
  have hKl : K < w.heap.size := (Array.getElem?_eq_some_iff.1 hZ).1
  have hbw : Below w.heap.size w W3 := hb2.trans (hb3.mono (by omega))
  have hr0' := (hb3.block w.heap.size (by omega)).trans hr0
  have hr1' := (hb3.block (w.heap.size + 1) (by omega)).trans hr1
  obtain ⟨q0, q1, q2⟩ := cell3 hr0
  have hCL := collect31_any H (w.heap.size + 2) W3 (hb.trans (hbw.mono hb.size)) hr2 (hZ.keep (hbw.block K hKl))
  have hlen : (wk L r).length ≤ 200 := Nat.le_trans (few_len _ _ (walk_went (KN_lt H.bad) H.root).few) H.few
  have hnod : (wk L r).Nodup := (walk_went (KN_lt H.bad) H.root).few.1
  have hcp := fun (x Mv : Nat) (hx : x ∈ wk L r) (W : World) hb M O hK hMv hMK => copied_any H x Mv hx W hb M O hK hMv hMK
  have HH := Lib.hid H
  obtain ⟨l, hl⟩ : ∃ l, wk L r = l := ⟨_, rfl⟩
  rw [hl] at hCL hlen hnod hcp
  obtain ⟨n, hn⟩ : ∃ n, l.length = n := ⟨_, rfl⟩
  rw [hn] at hCL hlen hcp
  have HCL := Lib.hid hCL
  have HCP := Lib.hid hcp
  have HNOD := Lib.hid hnod
  have HN := Lib.hid hn
  have HLE := Lib.hid hl
  have HB := Lib.hid hb
  have HW2 := Lib.hid hW2
  have HW3 := Lib.hid hW3
  have HR0 := Lib.hid hr0'
  have HR1 := Lib.hid hr1'
  have HBW := Lib.hid hbw
  have HNA := Lib.hid fun w => nodes_any r m p cap K w
  clear hCL hcp hnod hn hl hb hW2 hW3 hr0 hr1 hr0' hr1' hr2 hb2 hb3 hZ H hbw
  have hmm := @run_makeMap Tryz.prog
  go_enter Tryz.func32, Tryz.ntmps32
  go_upto_region 1 with fail
  rw [HW2.out]
  go_wp2_with (go_at_call 39; refine (HNA.out _).mono ?_; rintro e w' ⟨rfl, rfl⟩)
  rw [HW3.out]
  refine HCL.out.mono ?_
  rintro e w5 ⟨q5, c5, O5, M5, rfl, ho5, hkn5, hO5, hg5⟩
  have hl5 : n = (natI l).length := by rw [natI_len]; exact HN.out.symm
  obtain ⟨p9, c9, e9, hil5⟩ := il_own ho5 hl5 (by omega)
  obtain rfl : q5 = p9 := by injection e9
  have HIL5 := Lib.hid hil5
  have HKN5 := Lib.hid hkn5.lt
  have HO5 := Lib.hid hO5
  have HG5 := Lib.hid hg5
  clear ho5 hkn5 hO5 hg5 hil5 hl5 e9 q0 q1 q2
  go_upto_region 3 with fail
  obtain ⟨W6, hW6, hz6, hb6, hr6⟩ := at1 w5 (.map #[] 0)
  rw [hW6]
  have hKl5 := (Array.getElem?_eq_some_iff.1 HKN5.out.has).1
  have hz5 := HG5.out.size
  have hg36 : Grw (fun k => k = K) W3 W6 := HG5.out.trans (Grw.of_below hb6)
  have hkn6 : Kn L K M5 (fun k => O5 k ∧ k < w5.heap.size) W6 := HKN5.out.keep hb6.size (hb6.block K hKl5) fun k hk _ => hb6.block k hk.2
  have hm6 : HasM W6 w5.heap.size (mvL l 0) := hr6
  have HW6 := Lib.hid hW6
  have HZ6 := Lib.hid hz6
  have HG36 := Lib.hid hg36
  have HKN6 := Lib.hid hkn6
  have HM6 := Lib.hid hm6
  have HIL6 := Lib.hid (HIL5.out.below hb6)
  have HZ5 := Lib.hid hz5
  clear hW6 hz6 hb6 hr6 hKl5 hg36 hkn6 hm6 hz5 hmm
  go_wp2_with fail
  go_loopw [5, 6, 16] (fun _ _ i wr => ∃ t : Nat, t ≤ n ∧ i = .int .i64 t ∧ HasM wr w5.heap.size (mvL l t) ∧ Grw (fun k => k = w5.heap.size) W6 wr) (fun _ _ i _ => n - (intOf i).toNat)
  case atStart => exact ⟨0, by omega, rfl, HM6.out, Grw.refl _ _⟩
  case round =>
    obtain ⟨t, ht, rfl, hmr, hgr⟩ := hrel
    by_cases hlt : t < n
    · have i1 : (t : Int) < (n : Int) := by omega
      have htl : t < l.length := by rw [HN.out]; exact hlt
      have hil := HIL6.out.keepO (HIL6.out.noK rfl HM6.out) hgr.size fun k hk hkl => hgr.block k hkl hk
      obtain ⟨b1, o1, rfl, hb1, x1⟩ := hil.at t (by rw [List.size_toArray, natI_len]; exact htl)
      rw [natI_get l t htl] at x1
      have hnin : l[t]! ∉ l.take t := by
        have h1 := (List.take_sublist (t + 1) l).nodup HNOD.out
        rw [List.take_succ_eq_append_getElem htl, List.nodup_append] at h1
        rw [getElem!_pos l t htl]
        exact fun hin => h1.2.2 _ hin _ (by simp) rfl
      have hfn := (mvL_in HNOD.out t (Nat.le_of_lt htl) l[t]!).2 hnin
      have hsc := mvL_succ l t
      obtain ⟨z, hzz⟩ : ∃ z : Nat, l[t]! = z := ⟨_, rfl⟩
      rw [hzz] at x1 hfn hsc
      have hput := put_int Tryz.underlying72 wr w5.heap.size (z : Int) (.int .i64 t) (mvL l t) hmr hfn
      have hhas := hmr.put ((z : Int), .int .i64 t)
      rw [← hsc] at hhas
      obtain ⟨w8, hw8⟩ : ∃ w8, wr.putObj w5.heap.size (.map (entI (mvL l t ++ [((z : Int), .int .i64 t)]) 0).toArray (mvL l t ++ [((z : Int), Value.int .i64 t)]).length) = w8 := ⟨_, rfl⟩
      rw [hsc, hw8] at hhas
      rw [hw8] at hput
      rw [← hsc] at hhas
      have hg8 : wr.grownBy w8 (some w5.heap.size) := by rw [← hw8]; exact Seqo.turn wr _ _
      have HHAS := Lib.hid hhas
      have HG8 := Lib.hid (hgr.trans (Grw.of_grown (O := fun k => k = w5.heap.size) hg8 rfl))
      clear hhas hg8 hw8 hsc hfn hnin hil hzz htl hmr hgr
      go_wp2_with fail
      go_roundw
      case rel => exact ⟨t + 1, by omega, by go_num, HHAS.out, HG8.out⟩
      case measure => simp [intOf]; omega
    · have i1 : ¬ (t : Int) < (n : Int) := by omega
      have htn : t = n := by omega
      rw [htn] at hmr
      obtain ⟨W9, hW9, hz9, hb9, hr9⟩ := at1 wr (.cells #[.int .i64 0, .slice none 0 0] 24)
      have hz6 := HZ6.out
      have hzr := hgr.size
      have hmvl := (Array.getElem?_eq_some_iff.1 hmr).1
      have hm9 : HasM W9 w5.heap.size (mvL l n) := hmr.keep (hb9.block _ hmvl)
      have hMK : w5.heap.size ≠ K := by have := HG5.out.size; have := HZ5.out; omega
      have hKl6 := (Array.getElem?_eq_some_iff.1 HKN6.out.has).1
      have hg69 : Grw (fun k => k = w5.heap.size) W6 W9 := hgr.trans (Grw.of_below hb9)
      have hkn9 : Kn L K M5 (fun k => O5 k ∧ k < w5.heap.size) W9 := HKN6.out.keep hg69.size (hg69.block K hKl6 (Ne.symm hMK)) fun k hk hkl => hg69.block k hkl (by omega)
      have hil9 := HIL6.out.keepO (HIL6.out.noK rfl HM6.out) hg69.size fun k hk hkl => hg69.block k hkl hk
      have hb39 : Grw (fun k => k = K) W3 W9 := by
        have h1 := HG36.out
        have h2 := HG5.out.size
        exact ⟨hg69.os.trans h1.os, hg69.tape.trans h1.tape, hg69.output.trans h1.output, Nat.le_trans h1.size hg69.size, fun k hk hne => (hg69.block k (by have := h1.size; omega) (by omega)).trans (h1.block k hk hne)⟩
      have hX : w.heap.size + 3 ≤ wr.heap.size := by have := HG36.out.size; omega
      have hin9 : InO (fun k => k ≠ K ∧ k < wr.heap.size) q5 (natI l).toArray.size := by
        have hk := HKN5.out.has
        exact (HIL5.out.inK rfl hk).mono fun k hk => ⟨hk.1, by omega⟩
      have h5r : w5.heap.size < wr.heap.size := hmvl
      obtain ⟨X, hXe⟩ : ∃ X, wr.heap.size = X := ⟨_, rfl⟩
      rw [hXe] at hr9 hX hin9 hz9 h5r
      have HXE := Lib.hid hXe
      have HW9 := Lib.hid hW9
      have HR9 := Lib.hid hr9
      have HM9 := Lib.hid hm9
      have HKN9 := Lib.hid hkn9
      have HIL9 := Lib.hid hil9
      have HIN9 := Lib.hid hin9
      have HB39 := Lib.hid hb39
      have HZ9 := Lib.hid hz9
      clear hmr hgr hXe hW9 hz9 hb9 hr9 hm9 hkn9 hil9 hin9 hb39 hg69 hKl6 hmvl hz6 hzr
      go_upto_region 10 with fail
      rw [HW9.out, HXE.out]
      obtain ⟨wo, rfl⟩ : ∃ W, W = wr := ⟨wr, rfl⟩
      go_loopw [9, 27] (fun _ i wx => ∃ s : Nat, ∃ qv cv Ts M O On, s ≤ n ∧ i = .int .i64 s ∧ Td L l K X W9 s qv cv Ts M O On wx) (fun _ i _ => n - (intOf i).toNat)
      case atStart =>
        refine ⟨0, none, 0, [], M5, _, fun _ => False, by omega, rfl, HR9.out, World.ownsRow_nil _ _ _ _, rfl, fun s hs => absurd hs (Nat.not_lt_zero _), fun F hF => by simp at hF, HKN9.out, fun k hk => ?_, fun _ h => h.elim, Grw.refl _ _⟩
        rcases hk with h | h
        · exact h.elim
        · have := h.2
          have := HZ9.out
          exact ⟨by omega, by simp [Value.ownBlock], by omega⟩
      case round =>
        obtain ⟨s, qv, cv, Ts, M, O, On, hs, rfl, htd⟩ := hrel
        have hz9 := HZ9.out
        have hgx := htd.grw
        have hr0x := hgx.keepAll (HB39.out.keepAll HR0.out (by omega)) (by omega)
        have HTD := Lib.hid htd
        by_cases hls : s < n
        · have i2 : (s : Int) < (n : Int) := by omega
          have hsl : s < l.length := by rw [HN.out]; exact hls
          have hilx := HIL9.out.keepO HIN9.out hgx.size fun k hk hkl => hgx.block k hkl (by omega)
          obtain ⟨b1, o1, rfl, hb1, x1⟩ := hilx.at s (by rw [List.size_toArray, natI_len]; exact hsl)
          rw [natI_get l s hsl] at x1
          have hxl : l[s]! ∈ l := by rw [getElem!_pos l s hsl]; exact List.getElem_mem hsl
          obtain ⟨x, hx⟩ : ∃ x : Nat, l[s]! = x := ⟨_, rfl⟩
          rw [hx] at x1 hxl
          obtain ⟨q0, q1, q2⟩ := cell3 hr0x
          have v1 := cell_of_row _ _ 1 _ _ _ htd.box
          have hbx : Below w0.heap.size w0 wr.drew := by
            have h1 := HB.out
            have h2 := HBW.out
            have h3 := HB39.out
            have h4 := HH.out.new
            have h6 := h1.size
            have h7 := h2.size
            have h8 := h3.size
            exact ⟨hgx.os.trans (h3.os.trans (h2.os.trans h1.os)), hgx.tape.trans (h3.tape.trans (h2.tape.trans h1.tape)), hgx.output.trans (h3.output.trans (h2.output.trans h1.output)), by have := hgx.size; rw [World.size_drew]; omega, fun k hk => (hgx.block k (by omega) (by omega)).trans ((h3.block k (by omega) (by omega)).trans ((h2.block k (by omega)).trans (h1.block k hk)))⟩
          have hmx : HasM wr.drew w5.heap.size (mvL l n) := hgx.keepAll HM9.out (by omega)
          have hknx : Kn L K M O wr.drew := htd.kn.keep (Nat.le_refl _) rfl fun _ _ _ => rfl
          have hcp := HCP.out x w5.heap.size hxl wr.drew hbx M O hknx hmx hMK
          have HCP2 := Lib.hid hcp
          obtain ⟨iN, hiN, hzN0, hzN1, hzN2⟩ := info_parts info47
          have hn200 : s ≤ 200 := by omega
          have hXK : X ≠ K := by omega
          have hXl := (Array.getElem?_eq_some_iff.1 htd.box).1
          have hog := fun g hg => own_lt htd.own g hg
          have HXX := Lib.hid hx
          clear hbx hmx hknx hcp htd hgx hr0x hilx hxl hx hsl hz9
          go_upto_region 12 with fail
          go_region_law (first
              | (refine step_append_lies _ rfl (.tmp 32) (.tmp 37) 22 rfl (X + 1) 51 iN (.agg #[.int .i64 0, .int .i64 0, .int .i64 0, .string ⟨#[]⟩, .slice none 0 0, .slice none 0 0]) 6 88 Tryz.underlying22 hiN hzN0 hzN1 hzN2 rfl (by decide) (.slice qv s cv) s (flatF Ts) (by simp [Act.eval]) (HOZ.out.alloc _) ⟨wz.heap.size, 0, none⟩ 1 1 (encF F) (by simp [Act.eval]) rfl (World.news_of_block (heap_alloc_new wz _)) (by intro u hu; simp [encF] at hu; rcases hu with rfl | rfl | rfl | rfl | rfl | rfl <;> rfl) (by decide) (by unfold maxLen; omega) (by omega) (by simp; omega) _ rfl ?_
                 intro g8 cap8 w8 hown8 hgr8 hat8 hlt8
                 have x8 := (hgr8.block X (by simp; omega) (fun e => by have := (hog _ e.symm).1; omega)).trans ((Below.heap_alloc wz _ X (by omega)).trans XZ.out)
                 have y8 : w8.cell? ⟨X, 1, none⟩ = some (.slice qv s cv) := cell_of_row _ _ 1 _ _ _ x8
                 have k8 : w8.frozen? ⟨X, 1, none⟩ = false := frozen_of_row _ _ 1 _ _ x8
                 have X8 := Lib.hid x8
                 have HOW8 := Lib.hid hown8
                 have HGR8 := Lib.hid hgr8
                 have HAT8 := Lib.hid hat8
                 clear x8 hown8 hgr8 hat8)
              | (go_simp; refine HCP2.out.mono ?_; rintro e wz ⟨F, rfl, htf, hnl, hio1, hio2, hgz, M', O', hknz, hOz⟩
                 have xz := hgz.keepAll (show (World.drew wr).heap[X]? = _ from HTD.out.box) hXK
                 have vz : wz.cell? ⟨X, 1, none⟩ = some (.slice qv s cv) := cell_of_row _ _ 1 _ _ _ xz
                 have hzs : X < wz.heap.size := (Array.getElem?_eq_some_iff.1 xz).1
                 have XZ := Lib.hid xz
                 have HOZ := Lib.hid (show wz.ownsRow (X + 1) 51 6 (.slice qv s cv) s (flatF Ts) from own_keepG HTD.out.own fun g hg => hgz.block g (hog g hg).2 (by have := (hog g hg).1; omega))
                 have HTF := Lib.hid htf
                 have HNL := Lib.hid hnl
                 have HIO1 := Lib.hid hio1
                 have HIO2 := Lib.hid hio2
                 have HGZ := Lib.hid hgz
                 have HKNZ := Lib.hid hknz
                 have HOZZ := Lib.hid hOz
                 clear xz htf hnl hio1 hio2 hgz hknz hOz))
          all_goals
            go_wp2
            go_roundw
            case rel =>
              obtain ⟨w9, hw9⟩ : ∃ w9, w8.setCell ⟨X, 1, none⟩ (.slice (some ⟨g8, 0, none⟩) (s + 1) cap8) = w9 := ⟨_, rfl⟩
              have h9 := heap_setCell_same w8 X 1 _ _ (.slice (some ⟨g8, 0, none⟩) (s + 1) cap8) X8.out
              have hg9 : w8.grownBy w9 (some X) := by rw [← hw9]; exact gB_setCell (gB_refl _ _) _ _
              rw [hw9] at h9 ⊢
              have hgz := HGZ.out
              have hzz := hgz.size
              rw [World.size_drew] at hzz
              have hz8 := HGR8.out.size
              simp only [World.size_alloc] at hz8
              have hz9 := hg9.size
              have hz99 := HZ9.out
              have hgw := HTD.out.grw.size
              have hKK : ∀ k, k < wz.heap.size → k ≠ X → (Value.slice qv s cv).ownBlock ≠ some k → w9.heap[k]? = wz.heap[k]? := fun k hk h1 h2 =>
                (hg9.block k (by omega) (by simpa using h1)).trans ((HGR8.out.block k (by simp; omega) (fun e => h2 e.symm)).trans (Below.heap_alloc wz _ k hk))
              have hwz : ∀ k, k < wr.heap.size → k ≠ K → wz.heap[k]? = wr.heap[k]? := fun k hk hne => hgz.block k hk hne
              have hoff := HTD.out.off
              have hlenT := HTD.out.len
              refine ⟨s + 1, some ⟨g8, 0, none⟩, cap8, Ts ++ [F], M', fun k => O k ∨ (wr.heap.size ≤ k ∧ k < wz.heap.size), fun k => On k ∨ (wr.heap.size ≤ k ∧ k < wz.heap.size), by omega, by go_num, ⟨h9, ?_, by simp [hlenT], fun t ht => ?_, fun F' hF' => ?_, ?_, fun k hk => ?_, fun k hk => ?_, ?_⟩⟩
              · rw [flatF_snoc]
                exact own_keepG HOW8.out fun g hg => hg9.block g (own_lt HOW8.out g hg).2 (by have := (own_lt HOW8.out g hg).1; simp; omega)
              · by_cases hts : t < s
                · have h1 := HTD.out.tidy t hts
                  have htT : t < Ts.length := by omega
                  rw [getElem!_pos Ts t htT] at h1
                  rw [getElem!_pos (Ts ++ [F]) t (by simp; omega), List.getElem_append_left htT]
                  exact h1
                · obtain rfl : t = s := by omega
                  rw [HXX.out, getElem!_pos (Ts ++ [F]) t (by simp; omega), List.getElem_append_right (by omega)]
                  simp only [hlenT, Nat.sub_self, List.getElem_singleton]
                  exact HTF.out
              · rcases List.mem_append.1 hF' with h | h
                · refine ((HTD.out.nodes F' h).keep (by omega) fun k hk hkl => ?_).mono fun k hk => .inl hk
                  have h1 := hoff k (.inl hk)
                  exact (hKK k (by omega) h1.1 h1.2.1).trans (hwz k hkl (by have := HTD.out.offK k hk; omega))
                · rw [List.mem_singleton.1 h]
                  have hnd : NdO (fun k => wr.heap.size ≤ k ∧ k < wz.heap.size) wz F := ⟨HNL.out, HIO1.out, HIO2.out⟩
                  refine (hnd.keep (by omega) fun k hk hkl => hKK k hkl (by omega) fun e => ?_).mono fun k hk => .inr hk
                  have := (hog k e).2
                  omega
              · refine (HKNZ.out.keep (by omega) (hKK K (by have := (Array.getElem?_eq_some_iff.1 HKNZ.out.has).1; exact this) (by omega) fun e => by have := (hog K e).1; omega) fun k hk hkl => hKK k hkl ?_ fun e => ?_).mono fun k hk => HOZZ.out k hk
                · rcases HOZZ.out k hk with h | ⟨h, _⟩
                  · exact (hoff k (.inr h)).1
                  · rw [World.size_drew] at h
                    omega
                · rcases HOZZ.out k hk with h | ⟨h, _⟩
                  · exact (hoff k (.inr h)).2.1 e
                  · rw [World.size_drew] at h
                    have := (hog k e).2
                    omega
              · have hgg : ∀ k, k < wz.heap.size → (Value.slice qv s cv).ownBlock ≠ some k → (Value.slice (some ⟨g8, 0, none⟩) (s + 1) cap8).ownBlock ≠ some k := fun k hk hne e => by
                  injection e with e
                  rcases HAT8.out with h | h
                  · exact hne (by rw [h]; exact congrArg some e)
                  · rw [World.size_alloc] at h
                    have : g8 = k := e
                    omega
                have hold : ∀ k, (On k ∨ O k) → k ≠ X ∧ (Value.slice (some ⟨g8, 0, none⟩) (s + 1) cap8).ownBlock ≠ some k ∧ k < w9.heap.size := fun k h => by
                  obtain ⟨h1, h2, h3⟩ := hoff k h
                  exact ⟨h1, hgg k (by omega) h2, by omega⟩
                have hnew : wr.heap.size ≤ k ∧ k < wz.heap.size → k ≠ X ∧ (Value.slice (some ⟨g8, 0, none⟩) (s + 1) cap8).ownBlock ≠ some k ∧ k < w9.heap.size := fun h =>
                  ⟨by omega, hgg k h.2 (fun e => by have := (hog k e).2; omega), by omega⟩
                rcases hk with (h | h) | (h | h)
                · exact hold k (.inl h)
                · exact hnew h
                · exact hold k (.inr h)
                · exact hnew h
              · rcases hk with h | h
                · exact HTD.out.offK k h
                · omega
              · have h1 := HTD.out.grw
                exact ⟨hg9.os.trans (HGR8.out.os.trans (hgz.os.trans h1.os)), hg9.tape.trans (HGR8.out.tape.trans (hgz.tape.trans h1.tape)), hg9.output.trans (HGR8.out.output.trans (hgz.output.trans h1.output)), by omega, fun k hk hne => (hKK k (by omega) (fun e => hne (.inr e)) (fun e => by have := (hog k e).1; omega)).trans ((hwz k (by omega) fun e => hne (.inl e)).trans (h1.block k hk hne))⟩
            case measure => simp [intOf]; omega
        · have i2 : ¬ (s : Int) < (n : Int) := by omega
          have hsn : s = n := by omega
          have v0 := cell_of_row _ _ 0 _ _ _ htd.box
          have v1 := cell_of_row _ _ 1 _ _ _ htd.box
          have hw9z := HB39.out.size
          have r1 := hgx.keepAll (HB39.out.keepAll HR1.out (by omega)) (by omega)
          have t0 := cell_of_row _ _ 0 _ _ _ r1
          have t1 := cell_of_row _ _ 1 _ _ _ r1
          have g0 := frozen_of_row _ _ 0 _ _ r1
          have g1 := frozen_of_row _ _ 1 _ _ r1
          have R1 := Lib.hid r1
          have HGX := Lib.hid hgx
          have HSN := Lib.hid hsn
          have hXl := (Array.getElem?_eq_some_iff.1 htd.box).1
          clear htd hgx hr0x r1 hsn
          go_wp2_with fail
          obtain ⟨w9, hw9⟩ : ∃ w9, ((wr.setCell ⟨w.heap.size + 1, 0, none⟩ (.int .i64 0)).setCell ⟨w.heap.size + 1, 1, none⟩ (.slice qv s cv)) = w9 := ⟨_, rfl⟩
          rw [hw9]
          have r9 : w9.heap[w.heap.size + 1]? = some (.cells #[.int .i64 0, .slice qv s cv] 24 (0, 0)) := by
            rw [← hw9]
            exact heap_setCell_same _ _ 1 _ _ _ (heap_setCell_same _ _ 0 _ _ _ R1.out)
          have g9 : wr.grownBy w9 (some (w.heap.size + 1)) := by rw [← hw9]; exact gB_setCell (gB_setCell (gB_refl _ _) _ _) _ _
          have m0 := cell_of_row _ _ 0 _ _ _ r9
          have m1 := cell_of_row _ _ 1 _ _ _ r9
          refine bodyPost_ret (v := .agg #[.int .i64 0, .slice qv s cv]) (by simp [results, Tryz.results32, go_sem, m0, m1]) rfl ?_
          have htd := HTD.out
          have hlenT := htd.len
          have how : w9.ownsRow (X + 1) 51 6 (.slice qv s cv) s (flatF Ts) := own_keepG htd.own fun g hg => g9.block g (own_lt htd.own g hg).2 (by have := (own_lt htd.own g hg).1; simp; omega)
          have hgl : GlN w.heap.size w9 qv Ts.toArray := fun W hW hk => by
            have hk2 : ∀ k, X < k → k < wr.heap.size → W.heap[k]? = wr.heap[k]? := fun k h1 h2 => (hk k (by omega) (by have := g9.size; omega)).trans (g9.block k h2 (by simp; omega))
            exact gl_of (own_keepG htd.own fun g hg => hk2 g (by have := (own_lt htd.own g hg).1; omega) (own_lt htd.own g hg).2) hlenT (by omega) fun F hF => ((htd.nodes F hF).keep (by have := g9.size; omega) fun k hk' hkl => hk2 k (htd.offK k hk') hkl).1
          have hsn := HSN.out
          have hln := HN.out
          have hb1 := HBW.out
          have hb2 := HB39.out
          have hgx := HGX.out
          have hz1 := hb1.size
          refine ⟨Ts.toArray, qv, ⟨cv, by rw [List.size_toArray, hlenT]⟩, hgl, ?_, ⟨g9.os.trans (hgx.os.trans (hb2.os.trans hb1.os)), g9.tape.trans (hgx.tape.trans (hb2.tape.trans hb1.tape)), g9.output.trans (hgx.output.trans (hb2.output.trans hb1.output)), by have := hb2.size; have := hgx.size; have := g9.size; omega, fun k hk hne => (g9.block k (by omega) (by simp; omega)).trans ((hgx.block k (by omega) (by omega)).trans ((hb2.block k (by omega) hne).trans (hb1.block k hk)))⟩⟩
          rw [HLE.out]
          refine ⟨by rw [List.size_toArray, hlenT, hln, hsn], fun t ht => ?_⟩
          have h1 := htd.tidy t (by omega)
          have htT : t < Ts.length := by omega
          rw [getElem!_pos Ts t htT] at h1
          rw [getElem!_pos Ts.toArray t (by simpa using htT)]
          simpa using h1
end Go.Proofs.YtepelpmkmhhokaaGreatDoor

set_option maxRecDepth 100000
namespace Go.Proofs.YtepelpmkmhhokaaGreatDoor
open Go.RowKit Go.Shelf
open Scs Dfs
set_option maxHeartbeats 8000000 in
theorem Tidy15_in (root : Int) (L : Array Fn) (m : Nat) (p : Option Addr) (cap : Nat) (w : World) (hm : L.size = m) (E : Env w) (hg : Gl w p L) (h12 : ∀ t, t < L.size → L[t]!.keys.size ≤ 12) :
    Calls Tryz.prog 17 #[.agg #[.int .i64 root, .slice p m cap]] w fun e w' => ∃ (T : Array Fn) (q : Option Addr) (c : Nat), e = .returned (.tuple #[.agg #[.int .i64 0, .slice q T.size c], .int .i64 (checkG root L.toList).2]) ∧ Gl w' q T ∧
      ((checkG root L.toList).2 = 0 → TidyG L T (wk L root.toNat)) ∧ ((checkG root L.toList).2 ≠ 0 → T = #[]) ∧ Below w.heap.size w w' := by
  obtain ⟨W, hW, hz, hb, hr0, hr1⟩ := at2 w (.cells #[.int .i64 root, .slice p m cap] 24) (.cells #[.int .i64 0, .slice none 0 0] 24)
  have q0 := cell_of_row _ _ 0 _ _ _ hr0
  have q1 := cell_of_row _ _ 1 _ _ _ hr0
  have HW := Lib.hid hW
  have HZ := Lib.hid hz
  have HB := Lib.hid hb
  have HR1 := Lib.hid hr1
  by_cases he : (checkG root L.toList).2 = 0
  · have hC := walkerOf_ok root L m p cap W hm (E.below hb) (hg.below hb) he
    have hrr : root = (root.toNat : Int) := (check_right he).2.1
    have hwk := fun K (hK : w.heap.size ≤ K) => wkr_of (cap := cap) hm E hg h12 he hK
    rw [he]
    obtain ⟨r, hr⟩ : ∃ r : Nat, root.toNat = r := ⟨_, rfl⟩
    rw [hr] at hrr hwk ⊢
    subst hrr
    have hFL := fun K hK w1 hb hz => tidied_any (hwk K hK) w1 hb hz
    have HC := Lib.hid hC
    have HFL := Lib.hid hFL
    clear hC hW hb hr0 hr1 hg E he hm hz hwk hFL h12 hr
    go_enter Tryz.func17, Tryz.ntmps17
    go_upto_region 1 with fail
    rw [HW.out]
    go_wp2_with fail
    refine HC.out.mono ?_
    rintro e w5 ⟨K, rfl, hK, hkm, hb5⟩
    have hz := HZ.out
    have hz5 := hb5.size
    have hKl := (Array.getElem?_eq_some_iff.1 hkm).1
    obtain ⟨w6, hw6, hz6, hb6, hr6⟩ := at1 w5 (.cells #[.int .i64 r, .slice p m cap, .map (some K)] 78)
    have s0 := cell_of_row _ _ 0 _ _ _ hr6
    have s1 := cell_of_row _ _ 1 _ _ _ hr6
    have s2 := cell_of_row _ _ 2 _ _ _ hr6
    have hbw5 : Below w.heap.size w w5 := HB.out.trans (hb5.mono (by omega))
    have hkm6 : HasM w6 K [] := hkm.keep (hb6.block K hKl)
    have hbw6 : Below w.heap.size w w6 := hbw5.trans (hb6.mono (by omega))
    have r16 := (hb6.block (w.heap.size + 1) (by omega)).trans ((hb5.block (w.heap.size + 1) (by omega)).trans HR1.out)
    have HCW := Lib.hid (HFL.out K (by omega) w6 hbw6 hkm6)
    have HW6 := Lib.hid hw6
    have HZ6 := Lib.hid (show w.heap.size + 2 ≤ w6.heap.size by omega)
    have HB6 := Lib.hid hbw6
    have HR6 := Lib.hid r16
    have HKW := Lib.hid (show w.heap.size + 2 ≤ K by omega)
    clear hb5 hz5 hkm hK hb6 hr6 hw6 hbw5 q0 q1 hz hz6 hKl hkm6 hbw6 r16
    go_upto_region 2 with fail
    rw [HW6.out]
    go_wp2_with fail
    refine HCW.out.mono ?_
    rintro e w8 ⟨T, q8, c8, rfl, hgl, htd, hg8⟩
    have hkw := HKW.out
    have r18 := hg8.keepAll HR6.out (by omega)
    have t0 := cell_of_row _ _ 0 _ _ _ r18
    have t1 := cell_of_row _ _ 1 _ _ _ r18
    have g0 := frozen_of_row _ _ 0 _ _ r18
    have g1 := frozen_of_row _ _ 1 _ _ r18
    have HB8 := Lib.hid (HB6.out.trans (hg8.below HB6.out.size fun k hk => by rw [hk]; omega))
    have HGL := Lib.hid hgl
    have HTD := Lib.hid htd
    have R18 := Lib.hid r18
    clear hg8 hgl htd r18 s0 s1 s2 hkw
    go_wp2_with fail
    obtain ⟨w9, hw9⟩ : ∃ w9, ((w8.setCell ⟨w.heap.size + 1, 0, none⟩ (.int .i64 0)).setCell ⟨w.heap.size + 1, 1, none⟩ (.slice q8 T.size c8)) = w9 := ⟨_, rfl⟩
    rw [hw9]
    have r9 : w9.heap[w.heap.size + 1]? = some (.cells #[.int .i64 0, .slice q8 T.size c8] 24 (0, 0)) := by
      rw [← hw9]
      exact heap_setCell_same _ _ 1 _ _ _ (heap_setCell_same _ _ 0 _ _ _ R18.out)
    have g9 : w8.grownBy w9 (some (w.heap.size + 1)) := by rw [← hw9]; exact gB_setCell (gB_setCell (gB_refl _ _) _ _) _ _
    have m0 := cell_of_row _ _ 0 _ _ _ r9
    have m1 := cell_of_row _ _ 1 _ _ _ r9
    refine bodyPost_ret (v := .tuple #[.agg #[.int .i64 0, .slice q8 T.size c8], .int .i64 0]) (by simp [results, Tryz.results17, go_sem, m0, m1]) rfl ?_
    exact ⟨T, q8, c8, rfl, HGL.out w9 g9.size (fun k hk hkl => g9.block k hkl (by have := HZ6.out; simp; omega)), fun _ => HTD.out, fun h => absurd rfl h, HB8.out.trans (below_of_grown g9 (by omega) HB8.out.size)⟩
  · obtain ⟨e0, he0⟩ : ∃ e, (checkG root L.toList).2 = e := ⟨_, rfl⟩
    have hC := walkerOf_bad root L m p cap W hm (E.below hb) (hg.below hb) e0 he0 (by rw [← he0]; exact he)
    rw [he0] at he ⊢
    have hne : (e0 != 0) = true := by simp [he]
    have HC := Lib.hid hC
    have HE := Lib.hid he
    clear hC hW hb hr0 hr1 hg E hm hz he0 he h12
    go_enter Tryz.func17, Tryz.ntmps17
    go_upto_region 1 with fail
    rw [HW.out]
    go_wp2_with fail
    refine HC.out.mono ?_
    rintro e w5 ⟨rfl, hb5⟩
    have hz := HZ.out
    obtain ⟨w6, hw6, hz6, hb6, hr6⟩ := at1 w5 (.cells #[.int .i64 0, .slice none 0 0, .map none] 78)
    have r15 := (hb6.block (w.heap.size + 1) (by have := hb5.size; omega)).trans ((hb5.block (w.heap.size + 1) (by omega)).trans HR1.out)
    have t0 := cell_of_row _ _ 0 _ _ _ r15
    have t1 := cell_of_row _ _ 1 _ _ _ r15
    have g0 := frozen_of_row _ _ 0 _ _ r15
    have g1 := frozen_of_row _ _ 1 _ _ r15
    have HB6 := Lib.hid (HB.out.trans ((hb5.mono (by omega)).trans (hb6.mono (by have := hb5.size; omega))))
    have R15 := Lib.hid r15
    have HW6 := Lib.hid hw6
    clear hb5 q0 q1 hz r15 hw6 hz6 hb6 hr6
    go_upto_region 2 with fail
    rw [HW6.out]
    go_wp2_with fail
    obtain ⟨w9, hw9⟩ : ∃ w9, ((w6.setCell ⟨w.heap.size + 1, 0, none⟩ (.int .i64 0)).setCell ⟨w.heap.size + 1, 1, none⟩ (.slice none 0 0)) = w9 := ⟨_, rfl⟩
    rw [hw9]
    have r9 : w9.heap[w.heap.size + 1]? = some (.cells #[.int .i64 0, .slice none 0 0] 24 (0, 0)) := by
      rw [← hw9]
      exact heap_setCell_same _ _ 1 _ _ _ (heap_setCell_same _ _ 0 _ _ _ R15.out)
    have g9 : w6.grownBy w9 (some (w.heap.size + 1)) := by rw [← hw9]; exact gB_setCell (gB_setCell (gB_refl _ _) _ _) _ _
    have m0 := cell_of_row _ _ 0 _ _ _ r9
    have m1 := cell_of_row _ _ 1 _ _ _ r9
    refine bodyPost_ret (v := .tuple #[.agg #[.int .i64 0, .slice none 0 0], .int .i64 e0]) (by simp [results, Tryz.results17, go_sem, m0, m1]) rfl ?_
    exact ⟨#[], none, 0, rfl, gl_nil _ _, fun h => absurd h HE.out, fun _ => rfl, HB6.out.trans (below_of_grown g9 (by omega) HB6.out.size)⟩
theorem Tidy15_any (root : Int) (L : Array Fn) (p : Option Addr) (cap : Nat) (w : World) (E : Env w) (hg : Gl w p L) (h12 : ∀ t, t < L.size → L[t]!.keys.size ≤ 12) :
    Calls Tryz.prog 17 #[.agg #[.int .i64 root, .slice p L.size cap]] w fun e w' => ∃ (T : Array Fn) (q : Option Addr) (c : Nat), e = .returned (.tuple #[.agg #[.int .i64 0, .slice q T.size c], .int .i64 (checkG root L.toList).2]) ∧ Gl w' q T ∧
      ((checkG root L.toList).2 = 0 → TidyG L T (wk L root.toNat)) ∧ ((checkG root L.toList).2 ≠ 0 → T = #[]) ∧ Below w.heap.size w w' :=
  Tidy15_in root L L.size p cap w rfl E hg h12
end Go.Proofs.YtepelpmkmhhokaaGreatDoor
