/- A graph's tidy one is told by the package as the document tells it. Conditions: the graph lies. The statements' own example holds. Conditions: the surroundings. What the statements of layer 8 ask of the package's functions holds. Conditions: none. -/
import Derived.Test.YtadmhlebkaiblaaGreatDoorTid
import Derived.Test.YtadmhlebkaiblaaGreatDoorPit
import Derived.Test.YtadmhlebkaiblaaGreatDoorPat
import Derived.Test.YtadmhlebkaiblaaGreatDoorAcv
import Derived.Test.YtadmhlebkaiblaaGreatDoorRsr
set_option maxRecDepth 100000
namespace Go.Proofs.YtadmhlebkaiblaaGreatDoor
open Go.RowKit Go.Shelf
open Scs Dfs
set_option maxHeartbeats 8000000 in
theorem Tidy15_in (root : Int) (L : Array Fn) (m : Nat) (p : Option Addr) (cap : Nat) (w : World) (hm : L.size = m) (E : Env w) (hg : Gl w p L) (h12 : ∀ t, t < L.size → L[t]!.keys.size ≤ 12) :
    Calls Tryz.prog 15 #[.agg #[.int .i64 root, .slice p m cap]] w fun e w' => ∃ (T : Array Fn) (q : Option Addr) (c : Nat), e = .returned (.tuple #[.agg #[.int .i64 0, .slice q T.size c], .int .i64 (checkG root L.toList).2]) ∧ Gl w' q T ∧
      ((checkG root L.toList).2 = 0 → TidyG L T (wk L root.toNat)) ∧ ((checkG root L.toList).2 ≠ 0 → T = #[]) ∧ Below w.heap.size w w' := by
  obtain ⟨W, hW, hz, hb, hr0, hr1⟩ := at2 w (.cells #[.int .i64 root, .slice p m cap] 24) (.cells #[.int .i64 0, .slice none 0 0] 24)
  have q0 := cell_of_row _ _ 0 _ _ _ hr0
  have q1 := cell_of_row _ _ 1 _ _ _ hr0
  have HW := Lib.hid hW
  have HZ := Lib.hid hz
  have HB := Lib.hid hb
  have HR1 := Lib.hid hr1
  by_cases he : (checkG root L.toList).2 = 0
  · have hC := walkerOf_ok root L m p cap W hm (E.below hb) (hg.below hb) he
    have hrr : root = (root.toNat : Int) := (check_right he).2.1
    have hwk := fun K (hK : w.heap.size ≤ K) => wkr_of (cap := cap) hm E hg h12 he hK
    rw [he]
    obtain ⟨r, hr⟩ : ∃ r : Nat, root.toNat = r := ⟨_, rfl⟩
    rw [hr] at hrr hwk ⊢
    subst hrr
    have hFL := fun K hK w1 hb hz => tidied_any (hwk K hK) w1 hb hz
    have HC := Lib.hid hC
    have HFL := Lib.hid hFL
    clear hC hW hb hr0 hr1 hg E he hm hz hwk hFL h12 hr
    go_enter Tryz.func15, Tryz.ntmps15
    go_upto_region 1 with fail
    rw [HW.out]
    go_wp2_with fail
    refine HC.out.mono ?_
    rintro e w5 ⟨K, rfl, hK, hkm, hb5⟩
    have hz := HZ.out
    have hz5 := hb5.size
    have hKl := (Array.getElem?_eq_some_iff.1 hkm).1
    obtain ⟨w6, hw6, hz6, hb6, hr6⟩ := at1 w5 (.cells #[.int .i64 r, .slice p m cap, .map (some K)] 57)
    have s0 := cell_of_row _ _ 0 _ _ _ hr6
    have s1 := cell_of_row _ _ 1 _ _ _ hr6
    have s2 := cell_of_row _ _ 2 _ _ _ hr6
    have hbw5 : Below w.heap.size w w5 := HB.out.trans (hb5.mono (by omega))
    have hkm6 : HasM w6 K [] := hkm.keep (hb6.block K hKl)
    have hbw6 : Below w.heap.size w w6 := hbw5.trans (hb6.mono (by omega))
    have r16 := (hb6.block (w.heap.size + 1) (by omega)).trans ((hb5.block (w.heap.size + 1) (by omega)).trans HR1.out)
    have HCW := Lib.hid (HFL.out K (by omega) w6 hbw6 hkm6)
    have HW6 := Lib.hid hw6
    have HZ6 := Lib.hid (show w.heap.size + 2 ≤ w6.heap.size by omega)
    have HB6 := Lib.hid hbw6
    have HR6 := Lib.hid r16
    have HKW := Lib.hid (show w.heap.size + 2 ≤ K by omega)
    clear hb5 hz5 hkm hK hb6 hr6 hw6 hbw5 q0 q1 hz hz6 hKl hkm6 hbw6 r16
    go_upto_region 2 with fail
    rw [HW6.out]
    go_wp2_with fail
    refine HCW.out.mono ?_
    rintro e w8 ⟨T, q8, c8, rfl, hgl, htd, hg8⟩
    have hkw := HKW.out
    have r18 := hg8.keepAll HR6.out (by omega)
    have t0 := cell_of_row _ _ 0 _ _ _ r18
    have t1 := cell_of_row _ _ 1 _ _ _ r18
    have g0 := frozen_of_row _ _ 0 _ _ r18
    have g1 := frozen_of_row _ _ 1 _ _ r18
    have HB8 := Lib.hid (HB6.out.trans (hg8.below HB6.out.size fun k hk => by rw [hk]; omega))
    have HGL := Lib.hid hgl
    have HTD := Lib.hid htd
    have R18 := Lib.hid r18
    clear hg8 hgl htd r18 s0 s1 s2 hkw
    go_wp2_with fail
    obtain ⟨w9, hw9⟩ : ∃ w9, ((w8.setCell ⟨w.heap.size + 1, 0, none⟩ (.int .i64 0)).setCell ⟨w.heap.size + 1, 1, none⟩ (.slice q8 T.size c8)) = w9 := ⟨_, rfl⟩
    rw [hw9]
    have r9 : w9.heap[w.heap.size + 1]? = some (.cells #[.int .i64 0, .slice q8 T.size c8] 24 (0, 0)) := by
      rw [← hw9]
      exact heap_setCell_same _ _ 1 _ _ _ (heap_setCell_same _ _ 0 _ _ _ R18.out)
    have g9 : w8.grownBy w9 (some (w.heap.size + 1)) := by rw [← hw9]; exact gB_setCell (gB_setCell (gB_refl _ _) _ _) _ _
    have m0 := cell_of_row _ _ 0 _ _ _ r9
    have m1 := cell_of_row _ _ 1 _ _ _ r9
    refine bodyPost_ret (v := .tuple #[.agg #[.int .i64 0, .slice q8 T.size c8], .int .i64 0]) (by simp [results, Tryz.results15, go_sem, m0, m1]) rfl ?_
    exact ⟨T, q8, c8, rfl, HGL.out w9 g9.size (fun k hk hkl => g9.block k hkl (by have := HZ6.out; simp; omega)), fun _ => HTD.out, fun h => absurd rfl h, HB8.out.trans (below_of_grown g9 (by omega) HB8.out.size)⟩
  · obtain ⟨e0, he0⟩ : ∃ e, (checkG root L.toList).2 = e := ⟨_, rfl⟩
    have hC := walkerOf_bad root L m p cap W hm (E.below hb) (hg.below hb) e0 he0 (by rw [← he0]; exact he)
    rw [he0] at he ⊢
    have hne : (e0 != 0) = true := by simp [he]
    have HC := Lib.hid hC
    have HE := Lib.hid he
    clear hC hW hb hr0 hr1 hg E hm hz he0 he h12
    go_enter Tryz.func15, Tryz.ntmps15
    go_upto_region 1 with fail
    rw [HW.out]
    go_wp2_with fail
    refine HC.out.mono ?_
    rintro e w5 ⟨rfl, hb5⟩
    have hz := HZ.out
    obtain ⟨w6, hw6, hz6, hb6, hr6⟩ := at1 w5 (.cells #[.int .i64 0, .slice none 0 0, .map none] 57)
    have r15 := (hb6.block (w.heap.size + 1) (by have := hb5.size; omega)).trans ((hb5.block (w.heap.size + 1) (by omega)).trans HR1.out)
    have t0 := cell_of_row _ _ 0 _ _ _ r15
    have t1 := cell_of_row _ _ 1 _ _ _ r15
    have g0 := frozen_of_row _ _ 0 _ _ r15
    have g1 := frozen_of_row _ _ 1 _ _ r15
    have HB6 := Lib.hid (HB.out.trans ((hb5.mono (by omega)).trans (hb6.mono (by have := hb5.size; omega))))
    have R15 := Lib.hid r15
    have HW6 := Lib.hid hw6
    clear hb5 q0 q1 hz r15 hw6 hz6 hb6 hr6
    go_upto_region 2 with fail
    rw [HW6.out]
    go_wp2_with fail
    obtain ⟨w9, hw9⟩ : ∃ w9, ((w6.setCell ⟨w.heap.size + 1, 0, none⟩ (.int .i64 0)).setCell ⟨w.heap.size + 1, 1, none⟩ (.slice none 0 0)) = w9 := ⟨_, rfl⟩
    rw [hw9]
    have r9 : w9.heap[w.heap.size + 1]? = some (.cells #[.int .i64 0, .slice none 0 0] 24 (0, 0)) := by
      rw [← hw9]
      exact heap_setCell_same _ _ 1 _ _ _ (heap_setCell_same _ _ 0 _ _ _ R15.out)
    have g9 : w6.grownBy w9 (some (w.heap.size + 1)) := by rw [← hw9]; exact gB_setCell (gB_setCell (gB_refl _ _) _ _) _ _
    have m0 := cell_of_row _ _ 0 _ _ _ r9
    have m1 := cell_of_row _ _ 1 _ _ _ r9
    refine bodyPost_ret (v := .tuple #[.agg #[.int .i64 0, .slice none 0 0], .int .i64 e0]) (by simp [results, Tryz.results15, go_sem, m0, m1]) rfl ?_
    exact ⟨#[], none, 0, rfl, gl_nil _ _, fun h => absurd h HE.out, fun _ => rfl, HB6.out.trans (below_of_grown g9 (by omega) HB6.out.size)⟩
theorem Tidy15_any (root : Int) (L : Array Fn) (p : Option Addr) (cap : Nat) (w : World) (E : Env w) (hg : Gl w p L) (h12 : ∀ t, t < L.size → L[t]!.keys.size ≤ 12) :
    Calls Tryz.prog 15 #[.agg #[.int .i64 root, .slice p L.size cap]] w fun e w' => ∃ (T : Array Fn) (q : Option Addr) (c : Nat), e = .returned (.tuple #[.agg #[.int .i64 0, .slice q T.size c], .int .i64 (checkG root L.toList).2]) ∧ Gl w' q T ∧
      ((checkG root L.toList).2 = 0 → TidyG L T (wk L root.toNat)) ∧ ((checkG root L.toList).2 ≠ 0 → T = #[]) ∧ Below w.heap.size w w' :=
  Tidy15_in root L L.size p cap w rfl E hg h12
end Go.Proofs.YtadmhlebkaiblaaGreatDoor

set_option maxRecDepth 100000
namespace Go.Proofs.YtadmhlebkaiblaaGreatDoor
open Go.RowKit Go.Shelf
open Scs Dfs
open Go.Sort (HoldsK)
abbrev z0 : Fn := { k := 0, x := nullS, pk := none, ck := 0, keys := #[], pd := none, cd := 0, kids := #[] }
abbrev z2 (pd : Option Addr) : Fn := { k := 1, x := nullS, pk := none, ck := 0, keys := #[], pd := pd, cd := 2, kids := #[0, 2] }
theorem xwalk (pd : Option Addr) : walkG 2 #[z0, z0, z2 pd] = ([2, 0], 0) := by kernel_rfl
theorem xchk (pd : Option Addr) : (checkG 2 (#[z0, z0, z2 pd] : Array Fn).toList).2 = 0 := by kernel_rfl
theorem xat (pd : Option Addr) : atG 2 #[z0, z0, z2 pd] [1, 1, 0] = (0, true) := by kernel_rfl
theorem xat2 (pd : Option Addr) : atG 2 #[z0, z0, z2 pd] [2] = (0, false) := by kernel_rfl
theorem xtidy (pd : Option Addr) : isTidyB 2 #[z0, z0, z2 pd] = false := by kernel_rfl
theorem xwk (pd : Option Addr) : wk #[z0, z0, z2 pd] 2 = [2, 0] := by kernel_rfl
theorem xkids (pd : Option Addr) : kidsOf (#[z0, z0, z2 pd] : Array Fn)[2]! = [0, 2] := by kernel_rfl
/-- a tidy graph is tidy -/
theorem TidyG.isTidy {L T : Array Fn} {root : Nat} (hb : badFrom L.size L.toList 0 = none) (hr : root < L.size) (h2 : L.size ≤ 200) (hT : TidyG L T (wk L root)) : isTidyB 0 T = true := by
  have hck := hT.check hb hr h2
  have hbT := hT.bad hb hr
  have hlen := (hT.len hb hr).2
  have hw := hT.walk hb hr
  rw [isTidyB_iff (by rw [hck])]
  rw [show ((0 : Int)).toNat = 0 from rfl, hw]
  refine ⟨by rw [List.length_range], fun t ht => ?_⟩
  have ht2 : t < T.size := by simpa using ht
  refine ⟨by rw [getElem!_pos _ t ht, List.getElem_range], ?_⟩
  obtain ⟨x, _, _, _, hR, hF⟩ := hT.at hb hr ht2
  unfold riseB
  exact decide_eq_true (hF.keysOf hR).symm
/-- its nodes have few keys, as the graph's -/
theorem TidyG.few {L T : Array Fn} {root : Nat} (hb : badFrom L.size L.toList 0 = none) (hr : root < L.size) (h12 : ∀ t, t < L.size → L[t]!.keys.size ≤ 12) (hT : TidyG L T (wk L root)) : ∀ t, t < T.size → T[t]!.keys.size ≤ 12 := fun t ht => by
  obtain ⟨x, hx, _, _, hR, hF⟩ := hT.at hb hr ht
  have hxl := wk_lt hb hr x hx
  have h1 := h12 x hxl
  rw [← Array.length_toList, hF.keys]
  by_cases hk : L[x]!.k = 2
  · have h2 := keysOf_len hR hk
    have h3 := (right_map hR hk).1
    have h4 := kidsOf_len hR
    omega
  · rw [keysOf_no hk]; exact Nat.zero_le _
theorem graph3 (W : World) (B : Nat) (hz : B + 1 < W.heap.size)
    (h0 : W.heap[B]? = some (.cells #[.int .i64 0, .int .i64 2] 3 (0, 0)))
    (h1 : W.heap[B + 1]? = some (.cells #[.int .i64 0, .int .i64 0, .int .i64 0, .string ⟨#[]⟩, .slice none 0 0, .slice none 0 0, .int .i64 0, .int .i64 0, .int .i64 0, .string ⟨#[]⟩, .slice none 0 0, .slice none 0 0, .int .i64 1, .int .i64 0, .int .i64 0, .string ⟨#[]⟩, .slice none 0 0, .slice (some ⟨B, 0, none⟩) 2 2] 48 (0, 0))) :
    Gl W (some ⟨B + 1, 0, none⟩) #[z0, z0, z2 (some ⟨B, 0, none⟩)] := by
  refine ⟨by simp, fun t ht => ?_, .inr ⟨_, 0, rfl, hz, holdsK_of_row h1 fun j hj => ?_⟩⟩
  · have ht2 : t < 3 := ht
    obtain rfl | rfl | rfl : t = 0 ∨ t = 1 ∨ t = 2 := by omega
    · exact ⟨of_decide_eq_true (by kernel_rfl), Sl.nil _ _, Il.nil _ _⟩
    · exact ⟨of_decide_eq_true (by kernel_rfl), Sl.nil _ _, Il.nil _ _⟩
    · refine ⟨of_decide_eq_true (by kernel_rfl), Sl.nil _ _, ⟨of_decide_eq_true (by kernel_rfl), .inr ⟨_, 0, rfl, by omega, fun j hj => ?_⟩⟩⟩
      have hj2 : j < 2 := hj
      rw [cell_of_row _ _ _ _ _ _ h0, Nat.zero_add]
      obtain rfl | rfl : j = 0 ∨ j = 1 := by omega
      · rfl
      · rfl
  · have hj2 : j < 18 := hj
    rcases (by omega : j < 12 ∨ (12 ≤ j ∧ j < 18)) with h | h
    · obtain rfl | rfl | rfl | rfl | rfl | rfl | rfl | rfl | rfl | rfl | rfl | rfl := lt12 h <;> rfl
    · obtain rfl | rfl | rfl | rfl | rfl | rfl : j = 12 ∨ j = 13 ∨ j = 14 ∨ j = 15 ∨ j = 16 ∨ j = 17 := by omega
      all_goals rfl
/-- numbers in a row that was just laid -/
theorem il_row (W : World) (b : Nat) (l : List Int) (hl : l.length ≤ 1000000) (h : W.heap[b]? = some (.cells (ints l).toArray 3 (0, 0))) : Il W (some ⟨b, 0, none⟩) l.toArray :=
  ⟨by simpa using hl, .inr ⟨b, 0, rfl, (Array.getElem?_eq_some_iff.1 h).1, fun i hi => by
    rw [Nat.zero_add, cell_of_row _ _ _ _ _ _ h, List.getElem?_toArray]
    rw [List.size_toArray] at hi
    unfold ints
    rw [List.getElem?_map, List.getElem?_eq_getElem hi, getElem!_pos l.toArray i (by simpa using hi)]
    simp⟩⟩
set_option maxHeartbeats 16000000 in
theorem shown10_any (w : World) (E : Env w) : Calls Tryz.prog 10 #[] w fun e w' => e = .returned (.bool true) ∧ Below w.heap.size w w' := by
  obtain ⟨v0, hW, hz, hb, h0, h1, h2⟩ := at3o w (.cells #[.int .i64 0, .int .i64 2] 3) (.cells #[.int .i64 0, .int .i64 0, .int .i64 0, .string ⟨#[]⟩, .slice none 0 0, .slice none 0 0, .int .i64 0, .int .i64 0, .int .i64 0, .string ⟨#[]⟩, .slice none 0 0, .slice none 0 0, .int .i64 1, .int .i64 0, .int .i64 0, .string ⟨#[]⟩, .slice none 0 0, .slice (some ⟨w.heap.size, 0, none⟩) 2 2] 48) (.cells #[.int .i64 2, .slice (some ⟨w.heap.size + 1, 0, none⟩) 3 3] 24)
  have hG := graph3 v0 w.heap.size (by omega) h0 h1
  obtain ⟨D, hD⟩ : ∃ D, #[z0, z0, z2 (some ⟨w.heap.size, 0, none⟩)] = D := ⟨_, rfl⟩
  have hDs : D.size = 3 := by rw [← hD]; rfl
  have e1 : walkG 2 D = ([2, 0], 0) := by rw [← hD]; exact xwalk _
  have e2 : (checkG 2 D.toList).2 = 0 := by rw [← hD]; exact xchk _
  have e3 : atG 2 D [1, 1, 0] = (0, true) := by rw [← hD]; exact xat _
  have e4 : atG 2 D [2] = (0, false) := by rw [← hD]; exact xat2 _
  have e5 : isTidyB 2 D = false := by rw [← hD]; exact xtidy _
  have e6 : wk D 2 = [2, 0] := by rw [← hD]; exact xwk _
  have e7 : kidsOf D[2]! = [0, 2] := by rw [← hD]; exact xkids _
  have h12 : ∀ t, t < D.size → D[t]!.keys.size ≤ 12 := fun t ht => by
    rw [hDs] at ht
    rw [← hD]
    obtain rfl | rfl | rfl : t = 0 ∨ t = 1 ∨ t = 2 := by omega
    · exact of_decide_eq_true (by kernel_rfl)
    · exact of_decide_eq_true (by kernel_rfl)
    · exact of_decide_eq_true (by kernel_rfl)
  rw [hD] at hG
  have c1 := fun W E G => Walk13_any 2 D (some ⟨w.heap.size + 1, 0, none⟩) 3 W E G h12
  have c2 := fun W E G => Tidy15_any 2 D (some ⟨w.heap.size + 1, 0, none⟩) 3 W E G h12
  have c3 := fun q W E G I => At17_any 2 D (some ⟨w.heap.size + 1, 0, none⟩) 3 #[1, 1, 0] q 3 W E G h12 I
  have c4 := fun q W E G I => At17_any 2 D (some ⟨w.heap.size + 1, 0, none⟩) 3 #[2] q 1 W E G h12 I
  have c5 := fun W E G => IsTidy21_any 2 D (some ⟨w.heap.size + 1, 0, none⟩) 3 W E G h12
  rw [e1, hDs] at c1
  rw [e2, hDs] at c2
  rw [e3, hDs] at c3
  rw [e4, hDs] at c4
  rw [e5, hDs] at c5
  have hti : ∀ T, TidyG D T (wk D 2) → T.size = 2 ∧ T[0]!.kids = #[1, 0] ∧ isTidyB 0 T = true ∧ (∀ t, t < T.size → T[t]!.keys.size ≤ 12) := fun T hT => by
    obtain ⟨hb, _, hr, h200⟩ := check_right e2
    have hr2 : 2 < D.size := by omega
    refine ⟨by rw [hT.size, e6]; rfl, ?_, hT.isTidy hb hr2 h200, hT.few hb hr2 h12⟩
    have h := (hT.node 0 (by rw [e6]; decide)).kids
    rw [← Array.toList_inj, h, e6]
    show (kidsOf D[2]!).map _ = _
    rw [e7]
    rfl
  have C1 := Lib.hid c1
  have C2 := Lib.hid c2
  have C3 := Lib.hid c3
  have C4 := Lib.hid c4
  have C5 := Lib.hid c5
  have HTI := Lib.hid hti
  have HE0 := Lib.hid (E.below hb)
  have HG0 := Lib.hid hG
  have HB0 := Lib.hid hb
  have HW := Lib.hid hW
  have R0 := Lib.hid h2
  clear c1 c2 c3 c4 c5 e1 e2 e3 e4 e5 e6 e7 h12 hD hDs hG hb hW h0 h1 h2 E hz hti
  go_enter Tryz.func10, Tryz.ntmps10
  go_upto_region 2 with fail
  rw [HW.out]
  have p0 := cell_of_row _ _ 0 _ _ _ R0.out
  have p1 := cell_of_row _ _ 1 _ _ _ R0.out
  go_wp2_with fail
  refine (C1.out v0 HE0.out HG0.out).mono ?_
  rintro e v1 ⟨q1, c1, rfl, hi, hb⟩
  have HE1 := Lib.hid (HE0.out.below hb)
  have HB1 := Lib.hid (HB0.out.trans (hb.mono HB0.out.size))
  have HG1 := Lib.hid (HG0.out.below hb)
  have R1 := Lib.hid ((hb.block _ (Array.getElem?_eq_some_iff.1 R0.out).1).trans R0.out)
  have HI1 := Lib.hid hi
  clear hb hi p0 p1
  have p0 := cell_of_row _ _ 0 _ _ _ R1.out
  have p1 := cell_of_row _ _ 1 _ _ _ R1.out
  go_wp2_with fail
  refine (C2.out v1 HE1.out HG1.out).mono ?_
  rintro e v2 ⟨T, q2, c2, rfl, hg, ht, _, hb⟩
  obtain ⟨hts, htk, htt, ht12⟩ := HTI.out T (ht (by trivial))
  have HE2 := Lib.hid (HE1.out.below hb)
  have HB2 := Lib.hid (HB1.out.trans (hb.mono HB1.out.size))
  have HG2 := Lib.hid (HG1.out.below hb)
  have R2 := Lib.hid ((hb.block _ (Array.getElem?_eq_some_iff.1 R1.out).1).trans R1.out)
  have HI2 := Lib.hid (HI1.out.below hb)
  have HT2 := Lib.hid hg
  have HTT := Lib.hid htt
  have HT12 := Lib.hid ht12
  have HTK := Lib.hid htk
  clear hb hg ht htt ht12 htk p0 p1
  go_upto_region 4 with fail
  obtain ⟨v3, hv3, hz3, hb, ht3⟩ := at1 v2 (.cells #[.int .i64 0, .slice q2 2 c2] 24)
  rw [hv3]
  have HE3 := Lib.hid (HE2.out.below hb)
  have HB3 := Lib.hid (HB2.out.trans (hb.mono HB2.out.size))
  have HG3 := Lib.hid (HG2.out.below hb)
  have R3 := Lib.hid ((hb.block _ (Array.getElem?_eq_some_iff.1 R2.out).1).trans R2.out)
  have HI3 := Lib.hid (HI2.out.below hb)
  have HT3 := Lib.hid (HT2.out.below hb)
  have RT3 := Lib.hid ht3
  clear hv3 hz3 hb ht3
  have p0 := cell_of_row _ _ 0 _ _ _ R3.out
  have p1 := cell_of_row _ _ 1 _ _ _ R3.out
  obtain ⟨v4, hv4, hz4, hb, hl4⟩ := at1 v3 (.cells #[.int .i64 1, .int .i64 1, .int .i64 0] 3)
  have HV4 := Lib.hid hv4
  have HE4 := Lib.hid (HE3.out.below hb)
  have HB4 := Lib.hid (HB3.out.trans (hb.mono HB3.out.size))
  have HG4 := Lib.hid (HG3.out.below hb)
  have R4 := Lib.hid ((hb.block _ (Array.getElem?_eq_some_iff.1 R3.out).1).trans R3.out)
  have HI4 := Lib.hid (HI3.out.below hb)
  have HT4 := Lib.hid (HT3.out.below hb)
  have RT4 := Lib.hid ((hb.block _ (Array.getElem?_eq_some_iff.1 RT3.out).1).trans RT3.out)
  have HL4 := Lib.hid (il_row v4 v3.heap.size [1, 1, 0] (by decide) hl4)
  clear hv4 hz4 hb hl4
  go_wp2_with fail
  rw [HV4.out]
  refine (C3.out _ v4 HE4.out HG4.out HL4.out).mono ?_
  rintro e v5 ⟨rfl, hb⟩
  have HE5 := Lib.hid (HE4.out.below hb)
  have HB5 := Lib.hid (HB4.out.trans (hb.mono HB4.out.size))
  have HG5 := Lib.hid (HG4.out.below hb)
  have R5 := Lib.hid ((hb.block _ (Array.getElem?_eq_some_iff.1 R4.out).1).trans R4.out)
  have HI5 := Lib.hid (HI4.out.below hb)
  have HT5 := Lib.hid (HT4.out.below hb)
  have RT5 := Lib.hid ((hb.block _ (Array.getElem?_eq_some_iff.1 RT4.out).1).trans RT4.out)
  clear hb p0 p1
  have p0 := cell_of_row _ _ 0 _ _ _ R5.out
  have p1 := cell_of_row _ _ 1 _ _ _ R5.out
  obtain ⟨v6, hv6, hz6, hb, hl6⟩ := at1 v5 (.cells #[.int .i64 2] 3)
  have HV6 := Lib.hid hv6
  have HE6 := Lib.hid (HE5.out.below hb)
  have HB6 := Lib.hid (HB5.out.trans (hb.mono HB5.out.size))
  have HG6 := Lib.hid (HG5.out.below hb)
  have R6 := Lib.hid ((hb.block _ (Array.getElem?_eq_some_iff.1 R5.out).1).trans R5.out)
  have HI6 := Lib.hid (HI5.out.below hb)
  have HT6 := Lib.hid (HT5.out.below hb)
  have RT6 := Lib.hid ((hb.block _ (Array.getElem?_eq_some_iff.1 RT5.out).1).trans RT5.out)
  have HL6 := Lib.hid (il_row v6 v5.heap.size [2] (by decide) hl6)
  clear hv6 hz6 hb hl6
  go_wp2_with fail
  rw [HV6.out]
  refine (C4.out _ v6 HE6.out HG6.out HL6.out).mono ?_
  rintro e v7 ⟨rfl, hb⟩
  have HE7 := Lib.hid (HE6.out.below hb)
  have HB7 := Lib.hid (HB6.out.trans (hb.mono HB6.out.size))
  have HG7 := Lib.hid (HG6.out.below hb)
  have R7 := Lib.hid ((hb.block _ (Array.getElem?_eq_some_iff.1 R6.out).1).trans R6.out)
  have HI7 := Lib.hid (HI6.out.below hb)
  have HT7 := Lib.hid (HT6.out.below hb)
  have RT7 := Lib.hid ((hb.block _ (Array.getElem?_eq_some_iff.1 RT6.out).1).trans RT6.out)
  clear hb p0 p1
  obtain ⟨v8, hv8, hz8, hb, hl8⟩ := at1 v7 (.cells #[.int .i64 2, .int .i64 0] 3)
  have HV8 := Lib.hid hv8
  have HE8 := Lib.hid (HE7.out.below hb)
  have HB8 := Lib.hid (HB7.out.trans (hb.mono HB7.out.size))
  have HG8 := Lib.hid (HG7.out.below hb)
  have R8 := Lib.hid ((hb.block _ (Array.getElem?_eq_some_iff.1 R7.out).1).trans R7.out)
  have HI8 := Lib.hid (HI7.out.below hb)
  have HT8 := Lib.hid (HT7.out.below hb)
  have RT8 := Lib.hid ((hb.block _ (Array.getElem?_eq_some_iff.1 RT7.out).1).trans RT7.out)
  have HL8 := Lib.hid (il_row v8 v7.heap.size [2, 0] (by decide) hl8)
  clear hv8 hz8 hb hl8
  go_wp2_with fail
  rw [HV8.out]
  have hin := ints_any #[2, 0] #[2, 0] q1 (some ⟨v7.heap.size, 0, none⟩) c1 2 v8 HI8.out HL8.out
  rw [decide_eq_true rfl] at hin
  refine hin.mono ?_
  rintro e v9 ⟨rfl, hb⟩
  clear hin
  have HE9 := Lib.hid (HE8.out.below hb)
  have HB9 := Lib.hid (HB8.out.trans (hb.mono HB8.out.size))
  have HG9 := Lib.hid (HG8.out.below hb)
  have R9 := Lib.hid ((hb.block _ (Array.getElem?_eq_some_iff.1 R8.out).1).trans R8.out)
  have HT9 := Lib.hid (HT8.out.below hb)
  have RT9 := Lib.hid ((hb.block _ (Array.getElem?_eq_some_iff.1 RT8.out).1).trans RT8.out)
  clear hb
  have t0 := cell_of_row _ _ 0 _ _ _ RT9.out
  have t1 := cell_of_row _ _ 1 _ _ _ RT9.out
  obtain ⟨blk, off, hq2, hbl, _, _, _, _, _, k5⟩ := HT9.out.at 0 (by omega)
  have hd0 := (HT9.out.nodes 0 (by omega)).ds
  rw [HTK.out] at k5 hd0
  obtain ⟨pd0, hpd0⟩ : ∃ z, T[0]!.pd = z := ⟨_, rfl⟩
  obtain ⟨cd0, hcd0⟩ : ∃ z, T[0]!.cd = z := ⟨_, rfl⟩
  rw [hpd0, hcd0] at k5
  rw [hpd0] at hd0
  rw [hq2] at t1
  have k5' : v9.cell? ⟨blk, off + 5, none⟩ = some (.slice pd0 2 cd0) := by simpa using k5
  obtain ⟨v10, hv10, hz10, hb, hl10⟩ := at1 v9 (.cells #[.int .i64 1, .int .i64 0] 3)
  have HV10 := Lib.hid hv10
  have HE10 := Lib.hid (HE9.out.below hb)
  have HB10 := Lib.hid (HB9.out.trans (hb.mono HB9.out.size))
  have HG10 := Lib.hid (HG9.out.below hb)
  have R10 := Lib.hid ((hb.block _ (Array.getElem?_eq_some_iff.1 R9.out).1).trans R9.out)
  have HT10 := Lib.hid (HT9.out.below hb)
  have RT10 := Lib.hid ((hb.block _ (Array.getElem?_eq_some_iff.1 RT9.out).1).trans RT9.out)
  have HL10 := Lib.hid (il_row v10 v9.heap.size [1, 0] (by decide) hl10)
  have HD10 := Lib.hid (hd0.below hb)
  have HQ2 := Lib.hid hq2
  clear hv10 hz10 hb hl10 hd0 k5 hpd0 hcd0 hq2 hbl
  go_wp2_with fail
  rw [HV10.out]
  have hin := ints_any #[1, 0] #[1, 0] pd0 (some ⟨v9.heap.size, 0, none⟩) cd0 2 v10 HD10.out HL10.out
  rw [decide_eq_true rfl] at hin
  refine hin.mono ?_
  rintro e v11 ⟨rfl, hb⟩
  clear hin t0 t1 k5'
  have HE11 := Lib.hid (HE10.out.below hb)
  have HB11 := Lib.hid (HB10.out.trans (hb.mono HB10.out.size))
  have HG11 := Lib.hid (HG10.out.below hb)
  have R11 := Lib.hid ((hb.block _ (Array.getElem?_eq_some_iff.1 R10.out).1).trans R10.out)
  have HT11 := Lib.hid (HT10.out.below hb)
  have RT11 := Lib.hid ((hb.block _ (Array.getElem?_eq_some_iff.1 RT10.out).1).trans RT10.out)
  clear hb
  have t0 := cell_of_row _ _ 0 _ _ _ RT11.out
  have t1 := cell_of_row _ _ 1 _ _ _ RT11.out
  have hty := IsTidy21_any 0 T q2 c2 v11 HE11.out HT11.out HT12.out
  rw [HTT.out, hts] at hty
  have HTY := Lib.hid hty
  clear hty
  go_wp2_with fail
  refine HTY.out.mono ?_
  rintro e v12 ⟨rfl, hb⟩
  clear t0 t1
  have HE12 := Lib.hid (HE11.out.below hb)
  have HB12 := Lib.hid (HB11.out.trans (hb.mono HB11.out.size))
  have HG12 := Lib.hid (HG11.out.below hb)
  have R12 := Lib.hid ((hb.block _ (Array.getElem?_eq_some_iff.1 R11.out).1).trans R11.out)
  clear hb
  have p0 := cell_of_row _ _ 0 _ _ _ R12.out
  have p1 := cell_of_row _ _ 1 _ _ _ R12.out
  go_wp2_with fail
  refine (C5.out v12 HE12.out HG12.out).mono ?_
  rintro e v13 ⟨rfl, hb⟩
  have HB13 := Lib.hid (HB12.out.trans (hb.mono HB12.out.size))
  clear hb p0 p1
  go_wp2_with fail
  go_ret
  exact ⟨rfl, HB13.out⟩
end Go.Proofs.YtadmhlebkaiblaaGreatDoor

set_option maxRecDepth 100000
namespace Go.Proofs.YtadmhlebkaiblaaGreatDoor
open Go.RowKit Go.Shelf
open Scs Dfs
theorem rch : Rch where
  shown := shown10_any
  walk := fun root L p cap w E hg h12 => Walk13_any root L p cap w E hg h12
  tidy := fun root L p cap w E hg h12 => Tidy15_any root L p cap w E hg h12
  at_ := fun root L p cap P q c w E hg h12 hp => At17_any root L p cap P q c w E hg h12 hp
  isTidy := fun root L p cap w E hg h12 => IsTidy21_any root L p cap w E hg h12
end Go.Proofs.YtadmhlebkaiblaaGreatDoor
