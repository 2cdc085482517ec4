/- Whether a graph is tidy is told by the package as the document tells it. Conditions: the graph lies. -/
import Derived.Test.YtadmhlebkaiblaaGreatDoorWhx
set_option maxRecDepth 100000
namespace Go.Proofs.YtadmhlebkaiblaaGreatDoor
open Go.RowKit Go.Shelf
open Scs Dfs Seqk
attribute [local go_sem] Oper.semAt_some
/-- does the walk come to a node at its place, and do its keys rise? -/
def okAt (L : Array Fn) (R : List Nat) (t : Nat) : Prop := R[t]! = t ∧ riseB L[t]! = true
set_option maxHeartbeats 16000000 in
theorem isTidy_in {w0 : World} {L : Array Fn} {r m : Nat} {p : Option Addr} {cap K : Nat} (H : Wkr w0 L r m p cap K) (w : World) (hb : Below w0.heap.size w0 w) (hZ : HasM w K []) (tb : Bool) (htb : tb = true ↔ (wk L r).length = L.size ∧ ∀ t, t < (wk L r).length → okAt L (wk L r) t) :
    CallsIn Fence.wide 6 Tryz.prog 40 #[.agg #[.int .i64 r, .slice p m cap, .map (some K)]] w fun e w' => e = .returned (.bool tb) ∧ Grw (fun k => k = K) w w' := by
  obtain ⟨W2, hW2, hz2, hb2, hr0, hr1⟩ := at2 w (.cells #[.int .i64 r, .slice p m cap, .map (some K)] 57) (.cells #[.int .i64 0] 3)
  obtain ⟨W3, hW3, hz3, hb3, hr2⟩ := at1 W2 (.cells #[.int .i64 r, .slice p m cap, .map (some K)] 57)
  rw [hz2] at hz3 hr2
  have hKl : K < w.heap.size := (Array.getElem?_eq_some_iff.1 hZ).1
  have hbw : Below w.heap.size w W3 := hb2.trans (hb3.mono (by omega))
  have hr0' := (hb3.block w.heap.size (by omega)).trans hr0
  have hr1' := (hb3.block (w.heap.size + 1) (by omega)).trans hr1
  obtain ⟨q0, q1, q2⟩ := cell3 hr0
  rw [← hW2] at q0 q1 q2
  have hrun := nodes_run H (w.heap.size + 2)
  have hRl : (wk L r).length ≤ L.size := few_len _ _ (walk_went (KN_lt H.bad) H.root).few
  have hlt := wk_lt H.bad H.root
  have hri := fun (x : Nat) (hx : x < L.size) W' hb' => rising59_any H x hx W' hb'
  obtain ⟨R, hR⟩ : ∃ R, wk L r = R := ⟨_, rfl⟩
  rw [hR] at hrun hRl hlt htb
  have h200 := H.few
  have hm := H.hm
  have hK0 := H.new
  have hw0 := hb.size
  have HRUN := Lib.hid hrun
  have HRI := Lib.hid hri
  have HLT := Lib.hid hlt
  have HTB := Lib.hid htb
  have HB := Lib.hid hb
  have HZ := Lib.hid hZ
  have HW2 := Lib.hid hW2
  have HW3 := Lib.hid hW3
  have HR0 := Lib.hid hr0'
  have HR1 := Lib.hid hr1'
  have HR2 := Lib.hid hr2
  have HBW := Lib.hid hbw
  have HNA := Lib.hid fun w => nodes_any r m p cap K w
  clear hrun hri hlt htb hb hZ hW2 hW3 hr0 hr1 hr2 hr0' hr1' hb2 hb3 hR H hbw
  refine callsIn_of_wp_marks Tryz.func40 rfl trivial ?_ rfl
  simp only [Tryz.ntmps40, List.size_toArray, List.length_cons, List.length_nil, Nat.reduceAdd, Nat.reduceSub, Array.replicate_succ, Array.replicate_zero, List.push_toArray, List.append_toArray, List.nil_append, List.cons_append]
  refine wpIn_wide.2 ?_
  go_wp2_with fail
  go_step3
  go_wp2_with fail
  go_step3
  go_wp2_with (go_at_call 32; refine (HNA.out _).mono ?_; rintro e w' ⟨rfl, rfl⟩)
  rw [HW2.out, HW3.out]
  refine (wpIn_wide (n := 6)).1 ?_
  refine wpIn_rangeFunc_seqk rfl (by decide) (gf := 51) (lb := #[.pointer (some ⟨w.heap.size + 2, 0, none⟩)]) rfl trivial (enters_of Tryz.func51 (by kernel_rfl) rfl)
    HRUN.out (fun _ => rfl) (.exit 0) (by intro k hk; omega) (fun B hB => HZ.out.keep ((hB.block K (by omega)).trans (HBW.out.block K hKl))) kn_E
    (fun t O W => (W.heap[w.heap.size]? = some (.cells #[.int .i64 r, .slice p m cap, .map (some K)] 57 (0, 0)) ∧ W.heap[w.heap.size + 1]? = some (.cells #[.int .i64 t] 3 (0, 0)) ∧ W.heap[w.heap.size + 2]? = some (.cells #[.int .i64 r, .slice p m cap, .map (some K)] 57 (0, 0))) ∧ Grw (fun k => k = K) w W ∧ (∀ k, O k → k = K ∨ w.heap.size + 3 ≤ k) ∧ ∀ s, s < t → okAt L R s)
    (fun W => ∃ t, t < R.length ∧ ¬ okAt L R t ∧ W.heap[w.heap.size]? = some (.cells #[.int .i64 r, .slice p m cap, .map (some K)] 57 (0, 0)) ∧ W.heap[w.heap.size + 1]? = some (.cells #[.int .i64 t] 3 (0, 0)) ∧ Grw (fun k => k = K) w W)
    ?hI ?hIx ?hS ?h0
    (fun t => { tmps := #[.agg #[.int .i64 r, .slice p m cap, .map (some K)], .pointer (some ⟨w.heap.size, 0, none⟩), .bool false, .pointer (some ⟨w.heap.size + 1, 0, none⟩), .int .i64 (R[t]! : Nat), .agg #[.int .i64 r, .slice p m cap, .map (some K)], .func (.func 51) #[] #[.pointer (some ⟨w.heap.size + 2, 0, none⟩)], .int .i64 (R[t]! : Nat), undef, undef, undef, undef, undef, undef, undef, undef, undef, undef, undef, undef, undef, undef, undef, undef, undef], defers := [] })
    ?hassign ?hbody ?hdone ?hstop
  case hI =>
    rintro t O O' A B ⟨⟨x0, x1, x2⟩, hg, hO, hok⟩ hgr hO'
    have hn : ∀ k, k < w.heap.size + 3 → k ≠ K → ¬ O k := fun k h1 h2 e => by
      rcases hO k e with h | h
      · exact h2 h
      · omega
    have l2 := (Array.getElem?_eq_some_iff.1 x2).1
    refine ⟨⟨(hgr.block _ (by omega) (hn _ (by omega) (by omega))).trans x0, (hgr.block _ (by omega) (hn _ (by omega) (by omega))).trans x1, (hgr.block _ (by omega) (hn _ (by omega) (by omega))).trans x2⟩, ⟨hgr.os.trans hg.os, hgr.tape.trans hg.tape, hgr.output.trans hg.output, Nat.le_trans hg.size hgr.size, fun k hk hne => (hgr.block k (by have := hg.size; omega) (hn k (by omega) hne)).trans (hg.block k hk hne)⟩, fun k hk => ?_, hok⟩
    rcases hO' k hk with e | e
    · exact hO k e
    · exact .inr (by omega)
  case hIx =>
    rintro A B r' ⟨t, ht, hno, x0, x1, hg⟩ hgr hr'
    rw [hz3] at hr'
    have l1 := (Array.getElem?_eq_some_iff.1 x1).1
    exact ⟨t, ht, hno, (hgr.block _ (by omega) (by simp; omega)).trans x0, (hgr.block _ (by omega) (by simp; omega)).trans x1, hg.more hgr (by omega)⟩
  case hS =>
    rintro t O A ⟨⟨_, _, x2⟩, hg, _⟩
    exact ⟨⟨hg.os.trans HB.out.os, hg.tape.trans HB.out.tape, hg.output.trans HB.out.output, Nat.le_trans HB.out.size hg.size, fun k hk => (hg.block k (by omega) (by omega)).trans (HB.out.block k hk)⟩, x2⟩
  case h0 => exact ⟨⟨HR0.out, HR1.out, HR2.out⟩, Grw.of_below HBW.out, fun k hk => .inl hk, fun s hs => absurd hs (Nat.not_lt_zero _)⟩
  case hassign =>
    intro l t W K' ht hK'
    obtain ⟨x, hx⟩ : ∃ x : Nat, R[t]! = x := ⟨_, rfl⟩
    simp only [hx] at hK' ⊢
    have HKK := Lib.hid hK'
    clear hK' ht hx
    gi_wp2
    exact HKK.out
  case hbody =>
    rintro l t O W ht ⟨⟨x0, x1, x2⟩, hg, hO, hok⟩ hOW
    have hlx : R[t]! < L.size := HLT.out _ (by rw [getElem!_pos R t ht]; exact List.getElem_mem ht)
    obtain ⟨x, hx⟩ : ∃ x : Nat, R[t]! = x := ⟨_, rfl⟩
    rw [hx] at hlx
    simp only [hx]
    obtain ⟨q0, q1, q2⟩ := cell3 x0
    have c1 : W.cell? ⟨w.heap.size + 1, 0, none⟩ = some (.int .i64 t) := cell_of_row _ _ 0 _ _ _ x1
    have f1 := frozen_of_row _ _ 0 _ _ x1
    have hbW : Below w0.heap.size w0 W := ⟨hg.os.trans HB.out.os, hg.tape.trans HB.out.tape, hg.output.trans HB.out.output, Nat.le_trans HB.out.size hg.size, fun k hk => (hg.block k (by omega) (by omega)).trans (HB.out.block k hk)⟩
    have l2 := (Array.getElem?_eq_some_iff.1 x2).1
    have hri := HRI.out x hlx W hbW
    obtain ⟨rb, hrb⟩ : ∃ b, riseB L[x]! = b := ⟨_, rfl⟩
    rw [hrb] at hri
    have X0 := Lib.hid x0
    have X1 := Lib.hid x1
    have X2 := Lib.hid x2
    have HG := Lib.hid hg
    have HO := Lib.hid hO
    have HOK := Lib.hid hok
    have HOW := Lib.hid hOW
    have HX := Lib.hid hx
    have HRB := Lib.hid hrb
    have HRI2 := Lib.hid hri
    have htm : t ≤ 200 := by omega
    have hnO : Hid (∀ k, k < w.heap.size + 3 → k ≠ K → ¬ withD W3.heap.size O k) := Lib.hid fun k h1 h2 e => by
      rcases HO.out k e with h | h
      · exact h2 h
      · omega
    clear x0 x1 x2 hg hO hok hOW hx hrb hri hbW hlx
    by_cases hxt : x = t
    · subst hxt
      have heq : ((x : Int) != (x : Int)) = false := by simp
      gi_wp2
      refine ⟨trivial, ?_⟩
      refine (CallsIn.inRound l (callsIn_wide.2 HRI2.out)).mono ?_
      rintro e w6 ⟨rfl, hb6⟩
      have hz6 := hb6.size
      have x16 := (hb6.block (w.heap.size + 1) (by omega)).trans X1.out
      have x06 := (hb6.block w.heap.size (by omega)).trans X0.out
      have x26 := (hb6.block (w.heap.size + 2) (by omega)).trans X2.out
      have HG6 : Hid (Grw (fun k => k = K) w w6) := Lib.hid (HG.out.trans (Grw.of_below hb6))
      have HKP : Hid (KeepsP (withD W3.heap.size O) W w6) := Lib.hid (KeepsP.of_below hb6 HOW.out)
      cases rb with
      | true =>
        have c6 : w6.cell? ⟨w.heap.size + 1, 0, none⟩ = some (.int .i64 x) := cell_of_row _ _ 0 _ _ _ x16
        have f6 := frozen_of_row _ _ 0 _ _ x16
        have X16 := Lib.hid x16
        have X06 := Lib.hid x06
        have X26 := Lib.hid x26
        clear x16 x06 x26 q0 q1 q2 c1 f1 hb6 heq
        gi_wp2
        have h9 := heap_setCell_same w6 (w.heap.size + 1) 0 _ _ (.int .i64 ((x : Int) + 1)) X16.out
        have hg9 : w6.grownBy (w6.setCell ⟨w.heap.size + 1, 0, none⟩ (.int .i64 ((x : Int) + 1))) (some (w.heap.size + 1)) := gB_setCell (gB_refl _ _) _ _
        have hKK := hKl
        refine ⟨HKP.out.trans (KeepsP.of_grown hg9 (fun k hk => by have := HOW.out k hk; omega) (hnO.out _ (by omega) (by omega))), ⟨(hg9.block _ (by omega) (by simp)).trans X06.out, h9, (hg9.block _ (by omega) (by simp)).trans X26.out⟩, HG6.out.more hg9 (by omega), HO.out, fun s hs => ?_⟩
        by_cases hsx : s = x
        · subst hsx
          exact ⟨HX.out, HRB.out⟩
        · exact HOK.out s (by omega)
      | false =>
        have X16 := Lib.hid x16
        have X06 := Lib.hid x06
        clear x16 x06 x26 q0 q1 q2 c1 f1 hb6 heq
        gi_wp2
        refine ⟨rfl, HKP.out, x, ht, fun h => ?_, X06.out, X16.out, HG6.out⟩
        have := h.2
        rw [HRB.out] at this
        cases this
    · have heq : ((x : Int) != (t : Int)) = true := by simp; omega
      gi_wp2
      refine ⟨trivial, ?_⟩
      gi_wp2
      refine ⟨rfl, KeepsP.refl _ _, t, ht, fun h => ?_, X0.out, X1.out, HG.out⟩
      have := h.1
      rw [HX.out] at this
      exact hxt this
  case hdone =>
    rintro O W ⟨⟨x0, x1, x2⟩, hg, hO, hok⟩ _ hz hnD hK'
    obtain ⟨q0, q1, q2⟩ := cell3 x0
    have c1 : W.cell? ⟨w.heap.size + 1, 0, none⟩ = some (.int .i64 R.length) := cell_of_row _ _ 0 _ _ _ x1
    have HG := Lib.hid hg
    have HOK := Lib.hid hok
    have HK := Lib.hid hK'
    clear x0 x1 x2 hg hO hok hK' hnD
    obtain ⟨nr, hnr⟩ : ∃ n, R.length = n := ⟨_, rfl⟩
    rw [hnr] at c1
    have hres : tb = ((nr : Int) == (m : Int)) := by
      rw [Bool.eq_iff_iff, HTB.out, beq_iff_eq]
      constructor
      · rintro ⟨h1, _⟩; omega
      · intro h
        exact ⟨by omega, HOK.out⟩
    have HRES := Lib.hid hres
    clear hres hnr
    go_wp2
    rw [Exit.noGoto_ret]
    refine ⟨by simp, .inl ⟨_, _, rfl, run_takeDeferred HK.out, ?_⟩⟩
    have gD : W.grownBy (W.putObj W3.heap.size (.deferred none)) (some W3.heap.size) := Seqo.turn W _ _
    refine ⟨.bool ((nr : Int) == (m : Int)), by simp [results, Tryz.results40, go_sem], by rw [HRES.out], HG.out.more gD (by omega)⟩
  case hstop =>
    rintro W ⟨t, ht, hno, x0, x1, hg⟩ hK'
    obtain ⟨q0, q1, q2⟩ := cell3 x0
    have c1 : W.cell? ⟨w.heap.size + 1, 0, none⟩ = some (.int .i64 t) := cell_of_row _ _ 0 _ _ _ x1
    have HG := Lib.hid hg
    have HK := Lib.hid hK'
    have htb : tb = false := by
      rw [Bool.eq_false_iff]
      intro h
      exact hno ((HTB.out.1 h).2 t ht)
    have hne : ((t : Int) == (m : Int)) = false := by
      rw [beq_eq_false_iff_ne]
      omega
    have HTF := Lib.hid htb
    clear x0 x1 hg hK' htb hno
    refine wpIn_wide.2 ?_
    go_wp2
    rw [Exit.noGoto_ret]
    refine ⟨by simp, .inl ⟨_, _, rfl, run_takeDeferred HK.out, ?_⟩⟩
    have gD : W.grownBy (W.putObj W3.heap.size (.deferred none)) (some W3.heap.size) := Seqo.turn W _ _
    refine ⟨.bool false, by simp [results, Tryz.results40, go_sem], by rw [HTF.out], HG.out.more gD (by omega)⟩
theorem isTidyB_iff {root : Int} {L : Array Fn} (he : (checkG root L.toList).2 = 0) : isTidyB root L = true ↔ (wk L root.toNat).length = L.size ∧ ∀ t, t < (wk L root.toNat).length → okAt L (wk L root.toNat) t := by
  obtain ⟨hb, hroot, hlt, _⟩ := check_right he
  unfold isTidyB
  rw [if_pos he]
  have h := tidy_iff hb hlt
  rw [← hroot] at h
  rw [h]
  unfold okAt riseB
  simp only [decide_eq_true_iff]
set_option maxHeartbeats 8000000 in
theorem IsTidy21_in (root : Int) (L : Array Fn) (m : Nat) (p : Option Addr) (cap : Nat) (w : World) (hm : L.size = m) (E : Env w) (hg : Gl w p L) (h12 : ∀ t, t < L.size → L[t]!.keys.size ≤ 12) :
    Calls Tryz.prog 21 #[.agg #[.int .i64 root, .slice p m cap]] w fun e w' => e = .returned (.bool (isTidyB root L)) ∧ Below w.heap.size w w' := by
  obtain ⟨W, hW, hz, hb, hr0⟩ := at1 w (.cells #[.int .i64 root, .slice p m cap] 24)
  have q0 := cell_of_row _ _ 0 _ _ _ hr0
  have q1 := cell_of_row _ _ 1 _ _ _ hr0
  have HW := Lib.hid hW
  have HZ := Lib.hid hz
  have HB := Lib.hid hb
  by_cases he : (checkG root L.toList).2 = 0
  · have hwg := isTidyB_iff he
    have hC := walkerOf_ok root L m p cap W hm (E.below hb) (hg.below hb) he
    have hrr : root = (root.toNat : Int) := (check_right he).2.1
    have hwk := fun K (hK : w.heap.size ≤ K) => wkr_of (cap := cap) hm E hg h12 he hK
    obtain ⟨tb, htb⟩ : ∃ b, isTidyB root L = b := ⟨_, rfl⟩
    rw [htb] at hwg ⊢
    obtain ⟨r, hr⟩ : ∃ r : Nat, root.toNat = r := ⟨_, rfl⟩
    rw [hr] at hrr hwk hwg
    subst hrr
    have hFL := fun K hK w1 hb hz => callsIn_wide.1 (isTidy_in (hwk K hK) w1 hb hz tb hwg)
    have HC := Lib.hid hC
    have HFL := Lib.hid hFL
    clear hC hW hb hr0 hg E he hm hz hwg hwk hFL h12 hr htb
    go_enter Tryz.func21, Tryz.ntmps21
    go_upto_region 1 with fail
    rw [HW.out]
    go_wp2_with fail
    refine HC.out.mono ?_
    rintro e w5 ⟨K, rfl, hK, hkm, hb5⟩
    have hz := HZ.out
    have hz5 := hb5.size
    have hKl := (Array.getElem?_eq_some_iff.1 hkm).1
    obtain ⟨w6, hw6, hz6, hb6, hr6⟩ := at1 w5 (.cells #[.int .i64 r, .slice p m cap, .map (some K)] 57)
    have s0 := cell_of_row _ _ 0 _ _ _ hr6
    have s1 := cell_of_row _ _ 1 _ _ _ hr6
    have s2 := cell_of_row _ _ 2 _ _ _ hr6
    have hbw5 : Below w.heap.size w w5 := HB.out.trans (hb5.mono (by omega))
    have hkm6 : HasM w6 K [] := hkm.keep (hb6.block K hKl)
    have hbw6 : Below w.heap.size w w6 := hbw5.trans (hb6.mono (by omega))
    have HCW := Lib.hid (HFL.out K (by omega) w6 hbw6 hkm6)
    have HW6 := Lib.hid hw6
    have HB6 := Lib.hid hbw6
    have HKW := Lib.hid (show w.heap.size ≤ K by omega)
    clear hb5 hz5 hkm hK hb6 hr6 hw6 hbw5 q0 q1 hz hz6 hKl hkm6 hbw6
    go_upto_region 2 with fail
    rw [HW6.out]
    go_wp2_with fail
    refine HCW.out.mono ?_
    rintro e w8 ⟨rfl, hg8⟩
    have hb8 := HB6.out.trans (hg8.below HB6.out.size fun k hk => by rw [hk]; exact HKW.out)
    have HB8 := Lib.hid hb8
    clear hg8 hb8
    go_wp2_with fail
    go_ret
    exact ⟨rfl, HB8.out⟩
  · have hwg : isTidyB root L = false := by unfold isTidyB; rw [if_neg he]
    rw [hwg]
    obtain ⟨e0, he0⟩ : ∃ e, (checkG root L.toList).2 = e := ⟨_, rfl⟩
    have hC := walkerOf_bad root L m p cap W hm (E.below hb) (hg.below hb) e0 he0 (by rw [← he0]; exact he)
    rw [he0] at he
    have hne : (e0 == 0) = false := by simp [he]
    have HC := Lib.hid hC
    clear hC hW hb hr0 hg E hm hz hwg he0 he h12
    go_enter Tryz.func21, Tryz.ntmps21
    go_upto_region 1 with fail
    rw [HW.out]
    go_wp2_with fail
    refine HC.out.mono ?_
    rintro e w5 ⟨rfl, hb5⟩
    have hz := HZ.out
    have HB5 := Lib.hid (HB.out.trans (hb5.mono (by omega)))
    clear hb5 q0 q1 hz
    go_wp2_with fail
    go_ret
    exact ⟨rfl, HB5.out.alloc HB5.out.size _⟩
theorem IsTidy21_any (root : Int) (L : Array Fn) (p : Option Addr) (cap : Nat) (w : World) (E : Env w) (hg : Gl w p L) (h12 : ∀ t, t < L.size → L[t]!.keys.size ≤ 12) :
    Calls Tryz.prog 21 #[.agg #[.int .i64 root, .slice p L.size cap]] w fun e w' => e = .returned (.bool (isTidyB root L)) ∧ Below w.heap.size w w' :=
  IsTidy21_in root L L.size p cap w rfl E hg h12
end Go.Proofs.YtadmhlebkaiblaaGreatDoor
