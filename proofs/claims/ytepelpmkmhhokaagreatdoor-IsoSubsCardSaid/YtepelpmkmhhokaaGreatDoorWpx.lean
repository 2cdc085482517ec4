/- A walker is made of a right graph alone; the walk tells what is reached. Conditions: the graph lies. The walk of the package tells what the document tells. Conditions: the graph lies. -/
import Derived.Test.YtepelpmkmhhokaaGreatDoorNcx
import Derived.Test.YtepelpmkmhhokaaGreatDoorRsr
set_option maxRecDepth 100000
namespace Go.Proofs.YtepelpmkmhhokaaGreatDoor
open Go.RowKit Go.Shelf
open Scs Dfs
set_option maxHeartbeats 8000000 in
theorem walkerOf_ok (root : Int) (L : Array Fn) (m : Nat) (p : Option Addr) (cap : Nat) (w : World) (hm : L.size = m) (E : Env w) (hg : Gl w p L) (he : (checkG root L.toList).2 = 0) :
    Calls Tryz.prog 31 #[.agg #[.int .i64 root, .slice p m cap]] w fun e w' => ∃ K, e = .returned (.tuple #[.agg #[.int .i64 root, .slice p m cap, .map (some K)], .int .i64 0]) ∧ w.heap.size ≤ K ∧ HasM w' K [] ∧ Below w.heap.size w w' := by
  obtain ⟨W, hW, hz, hb, hr0, hr1⟩ := at2 w (.cells #[.int .i64 root, .slice p m cap] 24) (.cells #[.int .i64 0, .slice none 0 0, .map none] 78)
  have hC := Check_any root L p cap W (E.below hb) (hg.below hb)
  rw [hm] at hC
  obtain ⟨e1, he1⟩ : ∃ e1, (checkG root L.toList).1 = e1 := ⟨_, rfl⟩
  rw [he, he1] at hC
  have q0 := cell_of_row _ _ 0 _ _ _ hr0
  have q1 := cell_of_row _ _ 1 _ _ _ hr0
  have HC := Lib.hid hC
  have HW := Lib.hid hW
  have HZ := Lib.hid hz
  have HB := Lib.hid hb
  have HR0 := Lib.hid hr0
  have HR1 := Lib.hid hr1
  clear hC hW hb hr0 hr1 hg E he he1 hm hz
  have hmm := @run_makeMap Tryz.prog
  go_enter Tryz.func31, Tryz.ntmps31
  go_upto_region 1 with fail
  rw [HW.out]
  go_wp2_with fail
  refine HC.out.mono ?_
  rintro e w5 ⟨rfl, hb5⟩
  have hz := HZ.out
  have hz5 := hb5.size
  have r0 := (hb5.block _ (by omega)).trans HR0.out
  have r1 := (hb5.block _ (by omega)).trans HR1.out
  have q0 := cell_of_row _ _ 0 _ _ _ r0
  have q1 := cell_of_row _ _ 1 _ _ _ r0
  have r6 : (w5.alloc (.map #[] 0)).heap[w.heap.size + 1]? = some (.cells #[.int .i64 0, .slice none 0 0, .map none] 78 (0, 0)) := (Below.heap_alloc _ _ _ (by omega)).trans r1
  have hm6 : (w5.alloc (.map #[] 0)).heap[w5.heap.size]? = some (.map #[] 0) := heap_alloc_new w5 _
  have hb6 : Below w.heap.size w (w5.alloc (.map #[] 0)) := (HB.out.trans (hb5.mono (by omega))).alloc (by omega) _
  have hz6 : (w5.alloc (.map #[] 0)).heap.size = w5.heap.size + 1 := by simp
  have s0 := cell_of_row _ _ 0 _ _ _ r6
  have s1 := cell_of_row _ _ 1 _ _ _ r6
  have s2 := cell_of_row _ _ 2 _ _ _ r6
  have f0 := frozen_of_row _ _ 0 _ _ r6
  have f1 := frozen_of_row _ _ 1 _ _ r6
  have f2 := frozen_of_row _ _ 2 _ _ r6
  have HB6 := Lib.hid hb6
  have R6 := Lib.hid r6
  have HM6 := Lib.hid hm6
  have HZ5 := Lib.hid (show w.heap.size + 2 ≤ w5.heap.size by omega)
  have HZ6 := Lib.hid hz6
  clear hb5 r0 r1 hz hz5 r6 hm6 hb6 hz6
  go_wp2_with fail
  obtain ⟨w9, hw9⟩ : ∃ w9, ((((w5.alloc (.map #[] 0)).setCell ⟨w.heap.size + 1, 0, none⟩ (.int .i64 root)).setCell ⟨w.heap.size + 1, 1, none⟩ (.slice p m cap)).setCell ⟨w.heap.size + 1, 2, none⟩ (.map (some w5.heap.size))) = w9 := ⟨_, rfl⟩
  rw [hw9]
  have r9 : w9.heap[w.heap.size + 1]? = some (.cells #[.int .i64 root, .slice p m cap, .map (some w5.heap.size)] 78 (0, 0)) := by
    rw [← hw9]
    exact heap_setCell_same _ _ 2 _ _ _ (heap_setCell_same _ _ 1 _ _ _ (heap_setCell_same _ _ 0 _ _ _ R6.out))
  have g9 : (w5.alloc (.map #[] 0)).grownBy w9 (some (w.heap.size + 1)) := by rw [← hw9]; exact gB_setCell (gB_setCell (gB_setCell (gB_refl _ _) _ _) _ _) _ _
  have t0 := cell_of_row _ _ 0 _ _ _ r9
  have t1 := cell_of_row _ _ 1 _ _ _ r9
  have t2 := cell_of_row _ _ 2 _ _ _ r9
  have G9 := Lib.hid g9
  clear hw9 r9 g9 s0 s1 s2 f0 f1 f2
  have h5 := HZ5.out
  have h6 := HZ6.out
  refine bodyPost_ret (v := .tuple #[.agg #[.int .i64 root, .slice p m cap, .map (some w5.heap.size)], .int .i64 0]) (by simp [results, Tryz.results31, go_sem, t0, t1, t2]) rfl ?_
  exact ⟨w5.heap.size, rfl, by omega, (G9.out.block _ (by omega) (by simp; omega)).trans HM6.out, HB6.out.trans (below_of_grown G9.out (by omega) (by omega))⟩
set_option maxHeartbeats 8000000 in
theorem walkerOf_bad (root : Int) (L : Array Fn) (m : Nat) (p : Option Addr) (cap : Nat) (w : World) (hm : L.size = m) (E : Env w) (hg : Gl w p L) (e0 : Int) (he : (checkG root L.toList).2 = e0) (h0 : e0 ≠ 0) :
    Calls Tryz.prog 31 #[.agg #[.int .i64 root, .slice p m cap]] w fun e w' => e = .returned (.tuple #[.agg #[.int .i64 0, .slice none 0 0, .map none], .int .i64 e0]) ∧ Below w.heap.size w w' := by
  obtain ⟨W, hW, hz, hb, hr0, hr1⟩ := at2 w (.cells #[.int .i64 root, .slice p m cap] 24) (.cells #[.int .i64 0, .slice none 0 0, .map none] 78)
  have hC := Check_any root L p cap W (E.below hb) (hg.below hb)
  rw [hm] at hC
  obtain ⟨e1, he1⟩ : ∃ e1, (checkG root L.toList).1 = e1 := ⟨_, rfl⟩
  rw [he, he1] at hC
  have q0 := cell_of_row _ _ 0 _ _ _ hr0
  have q1 := cell_of_row _ _ 1 _ _ _ hr0
  have hne : (e0 != 0) = true := by simp [h0]
  have HC := Lib.hid hC
  have HW := Lib.hid hW
  have HZ := Lib.hid hz
  have HB := Lib.hid hb
  have HR0 := Lib.hid hr0
  have HR1 := Lib.hid hr1
  clear hC hW hb hr0 hr1 hg E he he1 hm hz
  go_enter Tryz.func31, Tryz.ntmps31
  go_upto_region 1 with fail
  rw [HW.out]
  go_wp2_with fail
  refine HC.out.mono ?_
  rintro e w5 ⟨rfl, hb5⟩
  have hz := HZ.out
  have hz5 := hb5.size
  have r0 := (hb5.block _ (by omega)).trans HR0.out
  have r1 := (hb5.block _ (by omega)).trans HR1.out
  have s0 := cell_of_row _ _ 0 _ _ _ r1
  have s1 := cell_of_row _ _ 1 _ _ _ r1
  have s2 := cell_of_row _ _ 2 _ _ _ r1
  have f0 := frozen_of_row _ _ 0 _ _ r1
  have f1 := frozen_of_row _ _ 1 _ _ r1
  have f2 := frozen_of_row _ _ 2 _ _ r1
  have HB5 := Lib.hid hb5
  have R1 := Lib.hid r1
  clear hb5 r0 r1 hz hz5
  go_wp2_with fail
  obtain ⟨w9, hw9⟩ : ∃ w9, (((w5.setCell ⟨w.heap.size + 1, 0, none⟩ (.int .i64 0)).setCell ⟨w.heap.size + 1, 1, none⟩ (.slice none 0 0)).setCell ⟨w.heap.size + 1, 2, none⟩ (.map none)) = w9 := ⟨_, rfl⟩
  rw [hw9]
  have r9 : w9.heap[w.heap.size + 1]? = some (.cells #[.int .i64 0, .slice none 0 0, .map none] 78 (0, 0)) := by
    rw [← hw9]
    exact heap_setCell_same _ _ 2 _ _ _ (heap_setCell_same _ _ 1 _ _ _ (heap_setCell_same _ _ 0 _ _ _ R1.out))
  have g9 : w5.grownBy w9 (some (w.heap.size + 1)) := by rw [← hw9]; exact gB_setCell (gB_setCell (gB_setCell (gB_refl _ _) _ _) _ _) _ _
  have t0 := cell_of_row _ _ 0 _ _ _ r9
  have t1 := cell_of_row _ _ 1 _ _ _ r9
  have t2 := cell_of_row _ _ 2 _ _ _ r9
  have G9 := Lib.hid g9
  clear hw9 r9 g9 s0 s1 s2 f0 f1 f2
  have hz := HZ.out
  have hz5 := HB5.out.size
  refine bodyPost_ret (v := .tuple #[.agg #[.int .i64 0, .slice none 0 0, .map none], .int .i64 e0]) (by simp [results, Tryz.results31, go_sem, t0, t1, t2]) rfl ?_
  exact ⟨rfl, (HB.out.trans (HB5.out.mono (by omega))).trans (below_of_grown G9.out (by omega) (by omega))⟩
theorem collect31_any {w0 : World} {L : Array Fn} {r m : Nat} {p : Option Addr} {cap K : Nat} (H : Wkr w0 L r m p cap K) (Bw : Nat) (w : World) (hb : Below w0.heap.size w0 w) (hbx : BoxW Bw r m p cap K w) (hZ : HasM w K []) :
    Calls Tryz.prog 38 #[.func (.func 57) #[] #[.pointer (some ⟨Bw, 0, none⟩)]] w fun e w' => ∃ q c O M, e = .returned (.slice q (wk L r).length c) ∧ w'.ownsRow w.heap.size 3 1 (.slice q (wk L r).length c) (wk L r).length (ints (natI (wk L r))) ∧
      Kn L K M O w' ∧ (∀ k, O k → k = K ∨ w.heap.size ≤ k) ∧ Grw (fun k => k = K) w w' := by
  have HC := Lib.hid (callsIn_wide.1 (collectW_in H Bw w hb hbx hZ))
  clear hb hbx hZ H
  go_enter Tryz.func38, Tryz.ntmps38
  go_wp2_with fail
  refine HC.out.mono ?_
  rintro e w5 ⟨v, O, M, rfl, ho, hk, hO, hg⟩
  obtain ⟨q, c, rfl⟩ := own_shape ho
  have HO := Lib.hid ho
  have HK := Lib.hid hk
  have HOO := Lib.hid hO
  have HG := Lib.hid hg
  clear ho hk hO hg
  go_wp2_with fail
  go_ret
  exact ⟨q, c, O, M, rfl, HO.out, HK.out, HOO.out, HG.out⟩
end Go.Proofs.YtepelpmkmhhokaaGreatDoor

set_option maxRecDepth 100000
namespace Go.Proofs.YtepelpmkmhhokaaGreatDoor
open Go.RowKit Go.Shelf
open Scs Dfs
theorem wkr_of {root : Int} {L : Array Fn} {m : Nat} {p : Option Addr} {cap K : Nat} {w : World} (hm : L.size = m) (E : Env w) (hg : Gl w p L) (h12 : ∀ t, t < L.size → L[t]!.keys.size ≤ 12) (he : (checkG root L.toList).2 = 0) (hK : w.heap.size ≤ K) : Wkr w L root.toNat m p cap K :=
  ⟨hm, E, hg, h12, (check_right he).1, (check_right he).2.2.1, (check_right he).2.2.2, hK⟩
set_option maxHeartbeats 8000000 in
theorem Walk13_in (root : Int) (L : Array Fn) (m : Nat) (p : Option Addr) (cap : Nat) (w : World) (hm : L.size = m) (E : Env w) (hg : Gl w p L) (h12 : ∀ t, t < L.size → L[t]!.keys.size ≤ 12) :
    Calls Tryz.prog 21 #[.agg #[.int .i64 root, .slice p m cap]] w fun e w' => ∃ q c, e = .returned (.tuple #[.slice q (walkG root L).1.length c, .int .i64 (walkG root L).2]) ∧ Il w' q (natI (walkG root L).1).toArray ∧ Below w.heap.size w w' := by
  obtain ⟨W, hW, hz, hb, hr0⟩ := at1 w (.cells #[.int .i64 root, .slice p m cap] 24)
  have q0 := cell_of_row _ _ 0 _ _ _ hr0
  have q1 := cell_of_row _ _ 1 _ _ _ hr0
  have HW := Lib.hid hW
  have HZ := Lib.hid hz
  have HB := Lib.hid hb
  by_cases he : (checkG root L.toList).2 = 0
  · have hwg : walkG root L = (wk L root.toNat, 0) := by unfold walkG; rw [if_pos he]
    have hC := walkerOf_ok root L m p cap W hm (E.below hb) (hg.below hb) he
    have hrr : root = (root.toNat : Int) := (check_right he).2.1
    have hlen : (wk L root.toNat).length ≤ 1000000 := by
      have h1 := few_len _ _ (walk_went (KN_lt (check_right he).1) (check_right he).2.2.1).few
      have h2 := (check_right he).2.2.2
      unfold wk
      omega
    have hwk := fun K (hK : w.heap.size ≤ K) => wkr_of (cap := cap) hm E hg h12 he hK
    rw [hwg]
    obtain ⟨r, hr⟩ : ∃ r : Nat, root.toNat = r := ⟨_, rfl⟩
    rw [hr] at hrr hlen hwk ⊢
    subst hrr
    have hCL := fun K hK Bw w1 => collect31_any (hwk K hK) Bw w1
    simp only at hCL ⊢
    obtain ⟨R, hR⟩ : ∃ R, wk L r = R := ⟨_, rfl⟩
    rw [hR] at hCL hlen ⊢
    obtain ⟨n, hn⟩ : ∃ n, R.length = n := ⟨_, rfl⟩
    rw [hn] at hCL hlen ⊢
    have HC := Lib.hid hC
    have HCL := Lib.hid hCL
    have HN := Lib.hid hn
    have HL := Lib.hid hlen
    clear hC hW hb hr0 hg E he hm hz hwg hwk hCL hR h12 hn hr hlen
    go_enter Tryz.func21, Tryz.ntmps21
    go_upto_region 1 with fail
    rw [HW.out]
    go_wp2_with fail
    refine HC.out.mono ?_
    rintro e w5 ⟨K, rfl, hK, hkm, hb5⟩
    have hz := HZ.out
    have hz5 := hb5.size
    have hKl := (Array.getElem?_eq_some_iff.1 hkm).1
    obtain ⟨w6, hw6, hz6, hb6, hr6⟩ := at1 w5 (.cells #[.int .i64 r, .slice p m cap, .map (some K)] 78)
    obtain ⟨w7, hw7, hz7, hb7, hr7⟩ := at1 w6 (.cells #[.int .i64 r, .slice p m cap, .map (some K)] 78)
    have s0 := cell_of_row _ _ 0 _ _ _ hr6
    have s1 := cell_of_row _ _ 1 _ _ _ hr6
    have s2 := cell_of_row _ _ 2 _ _ _ hr6
    have hbw5 : Below w.heap.size w w5 := HB.out.trans (hb5.mono (by omega))
    have hkm7 : HasM w7 K [] := hkm.keep ((hb7.block K (by omega)).trans (hb6.block K hKl))
    have hbw7 : Below w.heap.size w w7 := hbw5.trans ((hb6.mono (by omega)).trans (hb7.mono (by omega)))
    have HCW := Lib.hid (HCL.out K (by omega) w6.heap.size w7 hbw7 hr7 hkm7)
    have HNA := Lib.hid fun w => nodes_any r m p cap K w
    have HW6 := Lib.hid hw6
    have HW7 := Lib.hid hw7
    have HB7 := Lib.hid hbw7
    have HKW := Lib.hid (show w.heap.size ≤ K by omega)
    clear hb5 hz5 hkm hK hb6 hr6 hw6 hbw5 q0 q1 hz hz6 hKl hkm7 hbw7 hw7 hz7 hb7 hr7
    go_upto_region 2 with fail
    rw [HW6.out]
    go_wp2_with fail
    refine (HNA.out w6).mono ?_
    rintro e w' ⟨rfl, rfl⟩
    go_wp2_with fail
    rw [HW7.out]
    refine HCW.out.mono ?_
    rintro e w8 ⟨q8, c8, O8, M8, rfl, ho8, _, _, hg8⟩
    have hl8 : n = (natI R).length := by rw [natI_len]; exact HN.out.symm
    obtain ⟨p9, c9, e9, hil8⟩ := il_own ho8 hl8 HL.out
    have hb8 := HB7.out.trans (hg8.below HB7.out.size fun k hk => by rw [hk]; exact HKW.out)
    obtain rfl : q8 = p9 := by injection e9
    have HIL := Lib.hid hil8
    have HB8 := Lib.hid hb8
    clear ho8 hg8 hil8 hb8 hl8 e9
    go_wp2_with fail
    refine bodyPost_ret (v := .tuple #[.slice q8 n c8, .int .i64 0]) (by simp [results, Tryz.results21, go_sem]) rfl ?_
    exact ⟨q8, c8, rfl, HIL.out, HB8.out⟩
  · have hwg : walkG root L = ([], (checkG root L.toList).2) := by unfold walkG; rw [if_neg he]
    rw [hwg]
    obtain ⟨e0, he0⟩ : ∃ e, (checkG root L.toList).2 = e := ⟨_, rfl⟩
    have hC := walkerOf_bad root L m p cap W hm (E.below hb) (hg.below hb) e0 he0 (by rw [← he0]; exact he)
    rw [he0] at he ⊢
    have hne : (e0 != 0) = true := by simp [he]
    have HC := Lib.hid hC
    clear hC hW hb hr0 hg E hm hz hwg he0 he h12
    simp only
    go_enter Tryz.func21, Tryz.ntmps21
    go_upto_region 1 with fail
    rw [HW.out]
    go_wp2_with fail
    refine HC.out.mono ?_
    rintro e w5 ⟨rfl, hb5⟩
    have hz := HZ.out
    have HB5 := Lib.hid (HB.out.trans (hb5.mono (by omega)))
    clear hb5 q0 q1 hz
    go_wp2_with fail
    refine bodyPost_ret (v := .tuple #[.slice none 0 0, .int .i64 e0]) (by simp [results, Tryz.results21, go_sem]) rfl ?_
    exact ⟨none, 0, rfl, Il.nil _ _, HB5.out.alloc HB5.out.size _⟩
theorem Walk13_any (root : Int) (L : Array Fn) (p : Option Addr) (cap : Nat) (w : World) (E : Env w) (hg : Gl w p L) (h12 : ∀ t, t < L.size → L[t]!.keys.size ≤ 12) :
    Calls Tryz.prog 21 #[.agg #[.int .i64 root, .slice p L.size cap]] w fun e w' => ∃ q c, e = .returned (.tuple #[.slice q (walkG root L).1.length c, .int .i64 (walkG root L).2]) ∧ Il w' q (natI (walkG root L).1).toArray ∧ Below w.heap.size w w' :=
  Walk13_in root L L.size p cap w rfl E hg h12
end Go.Proofs.YtepelpmkmhhokaaGreatDoor
