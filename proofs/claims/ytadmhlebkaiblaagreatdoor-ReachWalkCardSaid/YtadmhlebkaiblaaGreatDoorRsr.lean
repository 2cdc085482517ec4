/- The reference tells whether two graphs are the same. Conditions: the graphs lie. The reference tells whether a graph is tidy. Conditions: the graph lies. The statements' own cut of a path; what is asked of the package's functions. Conditions: the path lies. -/
import Derived.Test.YtadmhlebkaiblaaGreatDoorLmx
import Derived.Test.YtadmhlebkaiblaaGreatDoorRtd
import Derived.Test.YtadmhlebkaiblaaGreatDoorAsx
import Derived.Test.YtadmhlebkaiblaaGreatDoorAkk
set_option maxRecDepth 100000
namespace Go.Proofs.YtadmhlebkaiblaaGreatDoor
open Go.RowKit Go.Shelf
open Scs
set_option maxHeartbeats 8000000 in
theorem Same21_in (r s : Int) (a b : Array Fn) (m k : Nat) (p q : Option Addr) (c d : Nat) (R : Bool) (w : World) (hma : a.size = m) (hmb : b.size = k) (ha : Gl w p a) (hb : Gl w q b) (hR : sameG r s a b = R) :
    Calls Tryz.prog 20 #[.agg #[.int .i64 r, .slice p m c], .agg #[.int .i64 s, .slice q k d]] w fun e w' => e = .returned (.bool R) ∧ Below w.heap.size w w' := by
  obtain ⟨W, hW, hz, hbl, hr0, hr1⟩ := at2 w (.cells #[.int .i64 r, .slice p m c] 24) (.cells #[.int .i64 s, .slice q k d] 24)
  have hsma := ha.small
  have hsmb := hb.small
  rw [hma] at hsma
  rw [hmb] at hsmb
  have HA := Lib.hid (ha.below hbl)
  have HBB := Lib.hid (hb.below hbl)
  have HMA := Lib.hid hma
  have HMB := Lib.hid hmb
  have HW := Lib.hid hW
  have HB := Lib.hid hbl
  have HR0 := Lib.hid hr0
  have HR1 := Lib.hid hr1
  have p0 := cell_of_row _ _ 0 _ _ _ hr0
  have p1 := cell_of_row _ _ 1 _ _ _ hr0
  have q0 := cell_of_row _ _ 0 _ _ _ hr1
  have q1 := cell_of_row _ _ 1 _ _ _ hr1
  unfold sameG at hR
  clear ha hb hW hbl hr0 hr1
  by_cases h : r = s
  · rw [if_pos h] at hR
    have hk : (r != s) = false := by simp [h]
    by_cases hmk : m = k
    · subst hmk
      have hmm : ((m : Int) != (m : Int)) = false := by simp
      have hiff : R = true ↔ ∀ j, j < m → sameF a[j]! b[j]! = true := by
        rw [← hR]
        unfold sameNs
        rw [decide_eq_true_iff, hma, hmb]
        exact ⟨fun e => e.2, fun e => ⟨rfl, e⟩⟩
      have HIF := Lib.hid hiff
      clear hR h hiff hma hmb
      go_enter Tryz.func20, Tryz.ntmps20
      go_upto_region 1 with fail
      rw [HW.out]
      go_wp2_with fail
      clear p0 p1 q0 q1 hk hmm
      go_loopw [5] (fun i wr => ∃ t : Nat, t ≤ m ∧ i = .int .i64 t ∧ (∀ j, j < t → sameF a[j]! b[j]! = true) ∧ Below W.heap.size W wr) (fun i _ => m - (intOf i).toNat)
      case atStart => exact ⟨0, by omega, rfl, fun j hj => absurd hj (Nat.not_lt_zero _), Below.refl _ _⟩
      case round =>
        obtain ⟨t, ht, rfl, hag, hbw⟩ := hrel
        have hra := (hbw.block _ (Array.getElem?_eq_some_iff.1 HR0.out).1).trans HR0.out
        have hrb := (hbw.block _ (Array.getElem?_eq_some_iff.1 HR1.out).1).trans HR1.out
        have p1 := cell_of_row _ _ 1 _ _ _ hra
        have q1 := cell_of_row _ _ 1 _ _ _ hrb
        have hBX := HB.out.trans (hbw.mono HB.out.size)
        have HAG := Lib.hid hag
        have HBW := Lib.hid hbw
        have HBX := Lib.hid hBX
        clear hra hrb hag hBX hbw
        by_cases hlt : t < m
        · have i1 : (t : Int) < (m : Int) := by omega
          have hla : t < a.size := by rw [HMA.out]; exact hlt
          have hlb : t < b.size := by rw [HMB.out]; exact hlt
          obtain ⟨b1, o1, rfl, hb1, hc0, hc1, hc2, hc3, hc4, hc5⟩ := HA.out.at t hla
          obtain ⟨b2, o2, rfl, hb2, hd0, hd1, hd2, hd3, hd4, hd5⟩ := HBB.out.at t hlb
          have x0 := (HBW.out.cell (p := ⟨b1, o1 + t * 6, none⟩) hb1).trans hc0
          have x1 := (HBW.out.cell (p := ⟨b1, o1 + t * 6 + 1, none⟩) hb1).trans hc1
          have x2 := (HBW.out.cell (p := ⟨b1, o1 + t * 6 + 2, none⟩) hb1).trans hc2
          have x3 := (HBW.out.cell (p := ⟨b1, o1 + t * 6 + 3, none⟩) hb1).trans hc3
          have x4 := (HBW.out.cell (p := ⟨b1, o1 + t * 6 + 4, none⟩) hb1).trans hc4
          have x5 := (HBW.out.cell (p := ⟨b1, o1 + t * 6 + 5, none⟩) hb1).trans hc5
          have y0 := (HBW.out.cell (p := ⟨b2, o2 + t * 6, none⟩) hb2).trans hd0
          have y1 := (HBW.out.cell (p := ⟨b2, o2 + t * 6 + 1, none⟩) hb2).trans hd1
          have y2 := (HBW.out.cell (p := ⟨b2, o2 + t * 6 + 2, none⟩) hb2).trans hd2
          have y3 := (HBW.out.cell (p := ⟨b2, o2 + t * 6 + 3, none⟩) hb2).trans hd3
          have y4 := (HBW.out.cell (p := ⟨b2, o2 + t * 6 + 4, none⟩) hb2).trans hd4
          have y5 := (HBW.out.cell (p := ⟨b2, o2 + t * 6 + 5, none⟩) hb2).trans hd5
          have l1 : b1 < wr.heap.size := Nat.lt_of_lt_of_le hb1 HBW.out.size
          have l2 : b2 < wr.heap.size := Nat.lt_of_lt_of_le hb2 HBW.out.size
          have l3 : w.heap.size + 1 < wr.heap.size := block_lt_of_cell q1
          have hNa := (HA.out.nodes t hla).below HBW.out
          have hNb := (HBB.out.nodes t hlb).below HBW.out
          obtain ⟨f, hf⟩ : ∃ u, a[t]! = u := ⟨_, rfl⟩
          obtain ⟨g, hg⟩ : ∃ u, b[t]! = u := ⟨_, rfl⟩
          rw [hf] at x0 x1 x2 x3 x4 x5 hNa
          rw [hg] at y0 y1 y2 y3 y4 y5 hNb
          have hno : sameF f g = false → R = false := fun e => by
            cases hRR : R
            · rfl
            · have := HIF.out.1 hRR t hlt
              rw [hf, hg, e] at this
              cases this
          have hyes : sameF f g = true → ∀ j, j < t + 1 → sameF a[j]! b[j]! = true := fun e j hj => by
            rcases Nat.lt_or_ge j t with h | h
            · exact HAG.out j h
            · obtain rfl : j = t := by omega
              rw [hf, hg]; exact e
          have HNO := Lib.hid hno
          have HYES := Lib.hid hyes
          obtain ⟨V, hV, hvz, hvb, hv0, hv1⟩ := at2 wr (nR f) (nR g)
          have HF := Lib.hid (hNa.below hvb)
          have HG := Lib.hid (hNb.below hvb)
          have HV := Lib.hid hV
          have HVB := Lib.hid (HBW.out.trans (hvb.mono HBW.out.size))
          have HVX := Lib.hid (HBX.out.trans (hvb.mono HBX.out.size))
          obtain ⟨f0, f1, f2, f3, f4, f5⟩ := cell6 hv0
          obtain ⟨g0, g1, g2, g3, g4, g5⟩ := cell6 hv1
          have HES := Lib.hid fun w ha hb => sameS_any f.keys g.keys f.pk g.pk f.ck g.ck w ha hb
          have HEI := Lib.hid fun w ha hb => ints_any f.kids g.kids f.pd g.pd f.cd g.cd w ha hb
          have hq := fun w => neq_sc f.x.1 f.x.2.1 f.x.2.2 g.x.1 g.x.2.1 g.x.2.2 w
          clear hc0 hc1 hc2 hc3 hc4 hc5 hd0 hd1 hd2 hd3 hd4 hd5 hf hg hNa hNb hla hlb hno hyes hV hvb hv0 hv1
          by_cases h1 : f.k = g.k
          · have hke : (f.k != g.k) = false := by simp [h1]
            by_cases h2 : f.x = g.x
            · rw [decide_eq_true (show ((f.x.1, f.x.2.1, f.x.2.2) : Sc) = (g.x.1, g.x.2.1, g.x.2.2) by rw [h2])] at hq
              by_cases h3 : f.keys = g.keys
              · rw [decide_eq_true h3] at HES
                by_cases h4 : f.kids = g.kids
                · rw [decide_eq_true h4] at HEI
                  have HS := Lib.hid (HYES.out (by unfold sameF; rw [if_pos h1, if_pos h2, if_pos h3]; exact decide_eq_true h4))
                  clear h1 h2 h3 h4
                  go_upto_region 8 with fail
                  rw [HV.out]
                  clear x0 x1 x2 x3 x4 x5 y0 y1 y2 y3 y4 y5 p1 q1
                  go_wp2_with (first
                    | (go_at_call 26
                       refine (HES.out _ HF.out.ks HG.out.ks).mono ?_
                       rintro e w5 ⟨rfl, hb5⟩
                       have HB5 := Lib.hid (HVB.out.trans (hb5.mono HVB.out.size))
                       have HF5 := Lib.hid (HF.out.below hb5)
                       have HG5 := Lib.hid (HG.out.below hb5)
                       have e5 := (hb5.cell (p := ⟨wr.heap.size, 5, none⟩) (by simp only; omega)).trans f5
                       have d5 := (hb5.cell (p := ⟨wr.heap.size + 1, 5, none⟩) (by simp only; omega)).trans g5
                       clear hb5)
                    | (go_at_call 19
                       refine (HEI.out _ HF5.out.ds HG5.out.ds).mono ?_
                       rintro e w6 ⟨rfl, hb6⟩
                       have HB6 := Lib.hid (HB5.out.trans (hb6.mono HB5.out.size))
                       clear hb6))
                  go_roundw
                  case rel => exact ⟨t + 1, by omega, by go_num, HS.out, HB6.out⟩
                  case measure => simp [intOf]; omega
                · rw [decide_eq_false h4] at HEI
                  have HS := Lib.hid (HNO.out (by unfold sameF; rw [if_pos h1, if_pos h2, if_pos h3]; exact decide_eq_false h4))
                  clear h1 h2 h3 h4
                  go_upto_region 8 with fail
                  rw [HV.out]
                  clear x0 x1 x2 x3 x4 x5 y0 y1 y2 y3 y4 y5 p1 q1
                  go_wp2_with (first
                    | (go_at_call 26
                       refine (HES.out _ HF.out.ks HG.out.ks).mono ?_
                       rintro e w5 ⟨rfl, hb5⟩
                       have HB5 := Lib.hid (HVX.out.trans (hb5.mono HVX.out.size))
                       have HF5 := Lib.hid (HF.out.below hb5)
                       have HG5 := Lib.hid (HG.out.below hb5)
                       have e5 := (hb5.cell (p := ⟨wr.heap.size, 5, none⟩) (by simp only; omega)).trans f5
                       have d5 := (hb5.cell (p := ⟨wr.heap.size + 1, 5, none⟩) (by simp only; omega)).trans g5
                       clear hb5)
                    | (go_at_call 19
                       refine (HEI.out _ HF5.out.ds HG5.out.ds).mono ?_
                       rintro e w6 ⟨rfl, hb6⟩
                       have HB6 := Lib.hid (HB5.out.trans (hb6.mono HB5.out.size))
                       clear hb6))
                  go_ret
                  exact ⟨by rw [HS.out]; rfl, HB6.out⟩
              · rw [decide_eq_false h3] at HES
                have HS := Lib.hid (HNO.out (by unfold sameF; rw [if_pos h1, if_pos h2, if_neg h3]))
                clear h1 h2 h3
                go_upto_region 8 with fail
                rw [HV.out]
                clear x0 x1 x2 x3 x4 x5 y0 y1 y2 y3 y4 y5 p1 q1
                go_wp2_with (first
                    | (go_at_call 26
                       refine (HES.out _ HF.out.ks HG.out.ks).mono ?_
                       rintro e w5 ⟨rfl, hb5⟩
                       have HB5 := Lib.hid (HVX.out.trans (hb5.mono HVX.out.size))
                       clear hb5))
                go_ret
                exact ⟨by rw [HS.out]; rfl, HB5.out⟩
            · rw [decide_eq_false (show ¬ ((f.x.1, f.x.2.1, f.x.2.2) : Sc) = (g.x.1, g.x.2.1, g.x.2.2) from h2)] at hq
              have HS := Lib.hid (HNO.out (by unfold sameF; rw [if_pos h1, if_neg h2]))
              clear h1 h2
              go_upto_region 8 with fail
              rw [HV.out]
              clear x0 x1 x2 x3 x4 x5 y0 y1 y2 y3 y4 y5 p1 q1
              go_wp2_with fail
              go_ret
              exact ⟨by rw [HS.out]; rfl, HVX.out⟩
          · have hke : (f.k != g.k) = true := by simp [h1]
            have HS := Lib.hid (HNO.out (by unfold sameF; rw [if_neg h1]))
            clear h1 hq
            go_upto_region 8 with fail
            rw [HV.out]
            clear x0 x1 x2 x3 x4 x5 y0 y1 y2 y3 y4 y5 p1 q1
            go_wp2_with fail
            go_ret
            exact ⟨by rw [HS.out]; rfl, HVX.out⟩
        · have i1 : ¬ (t : Int) < (m : Int) := by omega
          have HS := Lib.hid (HIF.out.2 fun j hj => HAG.out j (by omega))
          go_wp2_with fail
          go_ret
          exact ⟨by rw [HS.out]; rfl, HBX.out⟩
    · have hmm : ((m : Int) != (k : Int)) = true := by simp; omega
      have HRX := Lib.hid (show R = false by rw [← hR]; exact decide_eq_false fun e => hmk (by rw [← hma, ← hmb]; exact e.1))
      clear hR hmk h hma hmb
      go_enter Tryz.func20, Tryz.ntmps20
      go_upto_region 1 with fail
      rw [HW.out]
      go_wp2_with fail
      go_ret
      exact ⟨by rw [HRX.out]; rfl, HB.out⟩
  · rw [if_neg h] at hR
    have hk : (r != s) = true := by simp [h]
    subst hR
    clear h hma hmb
    go_enter Tryz.func20, Tryz.ntmps20
    go_upto_region 1 with fail
    rw [HW.out]
    go_wp2_with fail
    go_ret
    exact ⟨rfl, HB.out⟩
theorem Same21_any (r s : Int) (a b : Array Fn) (p q : Option Addr) (c d : Nat) (w : World) (ha : Gl w p a) (hb : Gl w q b) :
    Calls Tryz.prog 20 #[.agg #[.int .i64 r, .slice p a.size c], .agg #[.int .i64 s, .slice q b.size d]] w fun e w' => e = .returned (.bool (sameG r s a b)) ∧ Below w.heap.size w w' :=
  Same21_in r s a b a.size b.size p q c d _ w rfl rfl ha hb rfl
end Go.Proofs.YtadmhlebkaiblaaGreatDoor

set_option maxRecDepth 100000
namespace Go.Proofs.YtadmhlebkaiblaaGreatDoor
open Go.RowKit Go.Shelf
open Scs Dfs
/-- a tidy node, wherever it lies -/
def tidyFn (f : Fn) (l : List Nat) : Fn := ⟨f.k, f.x, none, 0, (keysOf f).toArray, none, 0, ((kidsOf f).map fun z => ((idx l z.toNat : Nat) : Int)).toArray⟩
def tidyT (L : Array Fn) (l : List Nat) : Array Fn := (l.map fun x => tidyFn L[x]! l).toArray
theorem tidyFn_is (f : Fn) (l : List Nat) : TidyF f (tidyFn f l) l := ⟨rfl, rfl, by simp [tidyFn], by simp [tidyFn]⟩
theorem tidyT_is (L : Array Fn) (l : List Nat) : TidyG L (tidyT L l) l := by
  refine ⟨by simp [tidyT], fun t ht => ?_⟩
  have e : (tidyT L l)[t]! = tidyFn L[l[t]!]! l := by
    unfold tidyT
    rw [getElem!_pos _ t (by simpa using ht), getElem!_pos l t ht]
    simp
  rw [e]
  exact tidyFn_is _ _
theorem TidyF.same {f F F' : Fn} {l : List Nat} (h : TidyF f F l) (h' : TidyF f F' l) : sameF F F' = true :=
  sameF_iff.2 ⟨h.k.trans h'.k.symm, h.x.trans h'.x.symm, by rw [← Array.toList_inj, h.keys, h'.keys], by rw [← Array.toList_inj, h.kids, h'.kids]⟩
theorem sameF_congr {a b b' : Fn} (h : sameF b b' = true) : sameF a b = sameF a b' := by
  obtain ⟨h1, h2, h3, h4⟩ := sameF_iff.1 h
  unfold sameF
  rw [h1, h2, h3, h4]
theorem TidyG.sameNs {L A T T' : Array Fn} {l : List Nat} (h : TidyG L T l) (h' : TidyG L T' l) : sameNs A T = sameNs A T' := by
  unfold Go.Proofs.YtadmhlebkaiblaaGreatDoor.sameNs
  have hs : T.size = T'.size := h.size.trans h'.size.symm
  rw [Bool.eq_iff_iff, decide_eq_true_iff, decide_eq_true_iff, hs]
  refine and_congr_right fun ha => ?_
  refine forall_congr' fun j => forall_congr' fun hj => ?_
  have hjl : j < l.length := by rw [← h'.size, ← ha]; exact hj
  rw [sameF_congr ((h.node j hjl).same (h'.node j hjl))]
/-- is a graph tidy? -/
def isTidyB (root : Int) (L : Array Fn) : Bool := if (checkG root L.toList).2 = 0 then sameG root 0 L (tidyT L (wk L root.toNat)) else false
set_option maxHeartbeats 4000000 in
theorem IsTidy22_any (root : Int) (L : Array Fn) (p : Option Addr) (cap : Nat) (w : World) (hg : Gl w p L) :
    Calls Tryz.prog 22 #[.agg #[.int .i64 root, .slice p L.size cap]] w fun e w' => e = .returned (.bool (isTidyB root L)) ∧ Below w.heap.size w w' := by
  obtain ⟨W, hW⟩ : ∃ W, (w.alloc (.cells #[.int .i64 root, .slice p L.size cap] 24)) = W := ⟨_, rfl⟩
  have hr0 : W.heap[w.heap.size]? = some (.cells #[.int .i64 root, .slice p L.size cap] 24 (0, 0)) := by rw [← hW]; exact heap_alloc_new w _
  have hb0 : Below w.heap.size w W := by rw [← hW]; exact (Below.refl _ w).alloc (Nat.le_refl _) _
  have hT := Tidy16_any root L p cap W (hg.below hb0)
  have hSM := fun (T : Array Fn) q c W G1 G2 => Same21_any root 0 L T p q cap c W G1 G2
  have hTN := fun (T : Array Fn) (h : TidyG L T (wk L root.toNat)) => TidyG.sameNs (A := L) h (tidyT_is L (wk L root.toNat))
  have q0 := cell_of_row _ _ 0 _ _ _ hr0
  have q1 := cell_of_row _ _ 1 _ _ _ hr0
  have HG := Lib.hid (hg.below hb0)
  have HW := Lib.hid hW
  have HR0 := Lib.hid hr0
  have HB0 := Lib.hid hb0
  obtain ⟨e1, he1⟩ : ∃ c, (checkG root L.toList).2 = c := ⟨_, rfl⟩
  obtain ⟨R, hR⟩ : ∃ R, isTidyB root L = R := ⟨_, rfl⟩
  rw [hR]
  unfold isTidyB at hR
  rw [he1] at hT hR
  have HT := Lib.hid hT
  have HSM := Lib.hid hSM
  have HTN := Lib.hid hTN
  clear hT hSM hTN hW hr0 hb0 hg he1
  by_cases he : e1 = 0
  · rw [if_pos he] at hR
    subst he
    have HRR := Lib.hid hR
    clear hR
    go_enter Tryz.func22, Tryz.ntmps22
    go_upto_region 1 with fail
    rw [HW.out]
    go_wp2_with fail
    refine HT.out.mono ?_
    rintro e w5 ⟨T, q, c, rfl, hgl, ht, _, hb5⟩
    have HR5 := Lib.hid ((hb5.block _ (Array.getElem?_eq_some_iff.1 HR0.out).1).trans HR0.out)
    have hb1 : ∀ o : Obj, Below w5.heap.size w5 (w5.alloc o) := fun o => (Below.refl _ w5).alloc (Nat.le_refl _) _
    have hs := HSM.out T q c (w5.alloc (.cells #[.int .i64 0, .slice q T.size c] 24)) ((HG.out.below hb5).below (hb1 _)) (hgl.below (hb1 _))
    have hrr : sameG root 0 L T = R := by rw [← HRR.out]; unfold sameG; rw [HTN.out T (by simpa using ht)]
    rw [hrr] at hs
    have HS := Lib.hid hs
    have HB5 := Lib.hid (HB0.out.trans (hb5.mono HB0.out.size))
    have HB6 := Lib.hid (HB5.out.alloc HB5.out.size (.cells #[.int .i64 0, .slice q T.size c] 24))
    have l0 := (Array.getElem?_eq_some_iff.1 HR5.out).1
    clear hb5 q0 q1 hgl ht hb1 hs hrr
    have q0 := cell_of_row _ _ 0 _ _ _ HR5.out
    have q1 := cell_of_row _ _ 1 _ _ _ HR5.out
    go_wp2_with fail
    refine HS.out.mono ?_
    rintro e w7 ⟨rfl, hb7⟩
    have HB7 := Lib.hid (HB6.out.trans (hb7.mono HB6.out.size))
    clear hb7
    go_wp2_with fail
    go_ret
    exact ⟨rfl, HB7.out⟩
  · rw [if_neg he] at hR
    subst hR
    have hk : (e1 == 0) = false := beq_eq_false_iff_ne.2 he
    clear he
    go_enter Tryz.func22, Tryz.ntmps22
    go_upto_region 1 with fail
    rw [HW.out]
    go_wp2_with fail
    refine HT.out.mono ?_
    rintro e w5 ⟨T, q, c, rfl, _, _, _, hb5⟩
    have HB5 := Lib.hid (HB0.out.trans (hb5.mono HB0.out.size))
    have HB6 := Lib.hid (HB5.out.alloc HB5.out.size (.cells #[.int .i64 0, .slice q T.size c] 24))
    clear hb5 q0 q1
    go_wp2_with fail
    go_ret
    exact ⟨rfl, HB6.out⟩
end Go.Proofs.YtadmhlebkaiblaaGreatDoor

set_option maxRecDepth 100000
namespace Go.Proofs.YtadmhlebkaiblaaGreatDoor
open Go.RowKit Go.Shelf
open Scs Dfs
theorem il_first {w : World} {p : Option Addr} {l : Array Int} (h : IlR w p l) : Il w p (l.extract 0 30) := by
  refine ⟨by rw [Array.size_extract]; omega, ?_⟩
  by_cases h0 : (l.extract 0 30).size = 0
  · exact .inl h0
  · have hs : (l.extract 0 30).size = min l.size 30 := by rw [Array.size_extract]; omega
    obtain ⟨blk, off, rfl, hb, _⟩ := h 0 (by omega)
    refine .inr ⟨blk, off, rfl, hb, fun i hi => ?_⟩
    have hil : i < l.size := by omega
    obtain ⟨b2, o2, e, _, hc⟩ := h i hil
    injection e with e
    injection e with e1 e2 _
    subst e1 e2
    rw [hc, getElem!_pos l i hil, getElem!_pos _ i hi]
    simp
theorem path12_any (p : Option Addr) (l : Array Int) (c : Nat) (w : World) (hc : l.size ≤ c) (hn : l.size ≤ 9223372036854775807) (hp : p = none → l.size = 0) :
    Calls Tryz.prog 12 #[.slice p l.size c] w fun e w' => e = .returned (.slice p (l.extract 0 30).size c) ∧ w' = w := by
  have hs : (l.extract 0 30).size = min l.size 30 := by rw [Array.size_extract]; omega
  rw [hs]
  obtain ⟨n, hnn⟩ : ∃ n, l.size = n := ⟨_, rfl⟩
  rw [hnn] at hc hn hp ⊢
  clear hnn hs
  by_cases h : 30 ≤ n
  · have h1 : min (n : Int) 30 = 30 := by omega
    have h2 : min n 30 = 30 := by omega
    rw [h2]
    cases p with
    | none => have := hp rfl; omega
    | some a =>
      have h3 : (30 : Int) ≤ (c : Int) := by omega
      go_enter Tryz.func12, Tryz.ntmps12
      go_wp2_with fail
      go_ret
      exact ⟨by first | rfl | (simp; done) | (simp; omega), rfl⟩
  · have h1 : min (n : Int) 30 = (n : Int) := by omega
    have h2 : min n 30 = n := by omega
    have h3 : (n : Int) ≤ (c : Int) := by omega
    rw [h2]
    cases p with
    | none =>
      have := hp rfl
      subst this
      go_enter Tryz.func12, Tryz.ntmps12
      go_wp2_with fail
      go_ret
      exact ⟨by first | rfl | (simp; done) | (simp; omega), rfl⟩
    | some a =>
      go_enter Tryz.func12, Tryz.ntmps12
      go_wp2_with fail
      go_ret
      exact ⟨by first | rfl | (simp; done) | (simp; omega), rfl⟩
/-- what the laws of layer 8 ask of the package's functions -/
structure Rch : Prop where
  shown : ∀ w, Env w → Calls Tryz.prog 10 #[] w fun e w' => e = .returned (.bool true) ∧ Below w.heap.size w w'
  walk : ∀ (root : Int) (L : Array Fn) (p : Option Addr) (cap : Nat) (w : World), Env w → Gl w p L → (∀ t, t < L.size → L[t]!.keys.size ≤ 12) → Calls Tryz.prog 13 #[.agg #[.int .i64 root, .slice p L.size cap]] w fun e w' => ∃ q c, e = .returned (.tuple #[.slice q (walkG root L).1.length c, .int .i64 (walkG root L).2]) ∧ Il w' q (natI (walkG root L).1).toArray ∧ Below w.heap.size w w'
  tidy : ∀ (root : Int) (L : Array Fn) (p : Option Addr) (cap : Nat) (w : World), Env w → Gl w p L → (∀ t, t < L.size → L[t]!.keys.size ≤ 12) → Calls Tryz.prog 15 #[.agg #[.int .i64 root, .slice p L.size cap]] w fun e w' => ∃ (T : Array Fn) (q : Option Addr) (c : Nat), e = .returned (.tuple #[.agg #[.int .i64 0, .slice q T.size c], .int .i64 (checkG root L.toList).2]) ∧ Gl w' q T ∧
      ((checkG root L.toList).2 = 0 → TidyG L T (wk L root.toNat)) ∧ ((checkG root L.toList).2 ≠ 0 → T = #[]) ∧ Below w.heap.size w w'
  at_ : ∀ (root : Int) (L : Array Fn) (p : Option Addr) (cap : Nat) (P : Array Int) (q : Option Addr) (c : Nat) (w : World), Env w → Gl w p L → (∀ t, t < L.size → L[t]!.keys.size ≤ 12) → Il w q P → Calls Tryz.prog 17 #[.agg #[.int .i64 root, .slice p L.size cap], .slice q P.size c] w fun e w' => e = .returned (.tuple #[.int .i64 (atG root L P.toList).1, .bool (atG root L P.toList).2]) ∧ Below w.heap.size w w'
  isTidy : ∀ (root : Int) (L : Array Fn) (p : Option Addr) (cap : Nat) (w : World), Env w → Gl w p L → (∀ t, t < L.size → L[t]!.keys.size ≤ 12) → Calls Tryz.prog 21 #[.agg #[.int .i64 root, .slice p L.size cap]] w fun e w' => e = .returned (.bool (isTidyB root L)) ∧ Below w.heap.size w w'
end Go.Proofs.YtadmhlebkaiblaaGreatDoor
