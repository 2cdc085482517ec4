/- The reference tells two graphs' pairs. Conditions: the graphs lie. The reference tells whether two graphs are alike. Conditions: the graphs lie. -/
import Derived.Test.YtepelpmkmhhokaaGreatDoorVix
import Derived.OwnWalk
set_option maxRecDepth 100000
namespace Go.Proofs.YtepelpmkmhhokaaGreatDoor
open Go.RowKit Go.Shelf
open Scs Dfs
set_option maxHeartbeats 8000000 in
theorem Pairs13_in (ra rb : Int) (D F : Array Fn) (n m : Nat) (p p' : Option Addr) (cap cap' : Nat) (w : World) (hn : D.size = n) (hm : F.size = m) (hg : Gl w p D) (hh : Gl w p' F) :
    Calls Tryz.prog 13 #[.agg #[.int .i64 ra, .slice p n cap], .agg #[.int .i64 rb, .slice p' m cap']] w fun e w' => ∃ v, e = .returned (.tuple #[v, .bool (pairsG ra rb D F).2.1, .int .i64 (pairsG ra rb D F).2.2]) ∧ w'.ownsRow w.heap.size 39 2 v (pairsG ra rb D F).1.length (pairV m (pairsG ra rb D F).1) ∧ Below w.heap.size w w' := by
  obtain ⟨W, hW, hz, hb0, r0, r1⟩ := at2 w (.cells #[.int .i64 ra, .slice p n cap] 24) (.cells #[.int .i64 rb, .slice p' m cap'] 24)
  have hCK := fun W G => Check13_any ra D p cap W G
  have hCL := fun W G => Check13_any rb F p' cap' W G
  have q0 := cell_of_row _ _ 0 _ _ _ r0
  have q1 := cell_of_row _ _ 1 _ _ _ r0
  have HG := Lib.hid (hg.below hb0)
  have HH := Lib.hid (hh.below hb0)
  have HW := Lib.hid hW
  have HR0 := Lib.hid (show _ ∧ _ from ⟨r0, r1⟩)
  have HB0 := Lib.hid hb0
  obtain ⟨R, hR⟩ : ∃ R, pairsG ra rb D F = R := ⟨_, rfl⟩
  rw [hR]
  unfold pairsG at hR
  obtain ⟨⟨a1, e1⟩, hc⟩ : ∃ c, checkG ra D.toList = c := ⟨_, rfl⟩
  obtain ⟨⟨a2, e2⟩, hd⟩ : ∃ c, checkG rb F.toList = c := ⟨_, rfl⟩
  have hck := check_right (root := ra) (L := D)
  have hcl := check_right (root := rb) (L := F)
  rw [hc] at hCK hR hck
  rw [hd] at hCL hR hcl
  rw [hn] at hCK
  rw [hm] at hCL
  simp only at hR hck hcl
  have HCK := Lib.hid hCK
  have HCL := Lib.hid hCL
  clear hc hd hW r0 r1 hb0 hg hh hCK hCL hz
  by_cases he : e1 = 0
  · rw [if_pos he] at hR
    obtain ⟨hbD, hra, hlt, h200⟩ := hck he
    subst he
    by_cases he2 : e2 = 0
    · rw [if_pos he2] at hR
      obtain ⟨hbF, hrb, hlt', h200'⟩ := hcl he2
      subst he2
      obtain ⟨r, hr⟩ : ∃ n, ra.toNat = n := ⟨_, rfl⟩
      obtain ⟨s, hs⟩ : ∃ n, rb.toNat = n := ⟨_, rfl⟩
      rw [hr] at hR hra hlt
      rw [hs] at hR hrb hlt'
      subst hra hrb
      have hV := fun w0 (G : Gl w0 p D) (G' : Gl w0 p' F) => visit28_any (r : Int) (s : Int) D F p p' cap cap' hbD hbF h200 h200' w0 G G' (D.size * F.size + 1) (r * F.size + s) [] (.slice none 0 0) w0 (pair_lt hlt hlt') (few_nil _) (by simp) (by simp) (Below.refl _ _) (World.ownsRow_nil _ _ _ _)
      rw [pair_fst hlt', pair_snd hlt'] at hV
      have hwk : upto (goodG D F) (visit (pk F.size (KN D) (KN F)) (D.size * F.size + 1) (r * F.size + s) []) = pairsW D F r s := rfl
      rw [hwk] at hV
      obtain ⟨⟨PL, PB⟩, hP⟩ : ∃ x, pairsW D F r s = x := ⟨_, rfl⟩
      rw [hP] at hV hR
      rw [hn, hm] at hV
      simp only at hV hR
      subst hR
      have HV := Lib.hid hV
      clear hV hwk hck hcl hbD hbF hlt hlt' h200 h200' hr hs hP hn hm
      go_enter Tryz.func13, Tryz.ntmps13
      go_upto_region 1 with fail
      rw [HW.out]
      go_wp2_with fail
      refine (HCK.out _ HG.out).mono ?_
      rintro e w5 ⟨rfl, hb5⟩
      have HR5 := Lib.hid (show _ ∧ _ from ⟨(hb5.block _ (Array.getElem?_eq_some_iff.1 HR0.out.1).1).trans HR0.out.1, (hb5.block _ (Array.getElem?_eq_some_iff.1 HR0.out.2).1).trans HR0.out.2⟩)
      have HG5 := Lib.hid (HG.out.below hb5)
      have HH5 := Lib.hid (HH.out.below hb5)
      have HB5 := Lib.hid (HB0.out.trans (hb5.mono HB0.out.size))
      clear hb5 q0 q1
      have q0 := cell_of_row _ _ 0 _ _ _ HR5.out.2
      have q1 := cell_of_row _ _ 1 _ _ _ HR5.out.2
      go_wp2_with fail
      refine (HCL.out _ HH5.out).mono ?_
      rintro e w6 ⟨rfl, hb6⟩
      have HR6 := Lib.hid (show _ ∧ _ from ⟨(hb6.block _ (Array.getElem?_eq_some_iff.1 HR5.out.1).1).trans HR5.out.1, (hb6.block _ (Array.getElem?_eq_some_iff.1 HR5.out.2).1).trans HR5.out.2⟩)
      have HG6 := Lib.hid (HG5.out.below hb6)
      have HH6 := Lib.hid (HH5.out.below hb6)
      have HB6 := Lib.hid (HB5.out.trans (hb6.mono HB5.out.size))
      clear hb6 q0 q1
      have q0 := cell_of_row _ _ 0 _ _ _ HR6.out.1
      have q1 := cell_of_row _ _ 1 _ _ _ HR6.out.1
      have q2 := cell_of_row _ _ 0 _ _ _ HR6.out.2
      have q3 := cell_of_row _ _ 1 _ _ _ HR6.out.2
      go_wp2_with fail
      refine (HV.out _ HG6.out HH6.out).mono ?_
      rintro e w7 ⟨v7, rfl, hown7, hgr7, _⟩
      have HOW7 := Lib.hid hown7
      have HB7 := Lib.hid (HB6.out.trans ((below_ofgrown hgr7 (Nat.le_refl _) (fun q h => by cases h)).mono HB6.out.size))
      clear hown7 hgr7 q0 q1 q2 q3
      go_wp2_with fail
      go_ret3
      exact ⟨v7, rfl, own_low HOW7.out HB6.out.size, HB7.out⟩
    · rw [if_neg he2] at hR
      subst hR
      have hk : (e2 != 0) = true := bne_iff_ne.2 he2
      clear hck hcl hn hm hra hlt h200 hbD
      go_enter Tryz.func13, Tryz.ntmps13
      go_upto_region 1 with fail
      rw [HW.out]
      go_wp2_with fail
      refine (HCK.out _ HG.out).mono ?_
      rintro e w5 ⟨rfl, hb5⟩
      have HR5 := Lib.hid ((hb5.block _ (Array.getElem?_eq_some_iff.1 HR0.out.2).1).trans HR0.out.2)
      have HH5 := Lib.hid (HH.out.below hb5)
      have HB5 := Lib.hid (HB0.out.trans (hb5.mono HB0.out.size))
      clear hb5 q0 q1
      have q0 := cell_of_row _ _ 0 _ _ _ HR5.out
      have q1 := cell_of_row _ _ 1 _ _ _ HR5.out
      go_wp2_with fail
      refine (HCL.out _ HH5.out).mono ?_
      rintro e w6 ⟨rfl, hb6⟩
      have HB6 := Lib.hid (HB5.out.trans (hb6.mono HB5.out.size))
      clear hb6 q0 q1
      go_wp2_with fail
      go_ret3
      exact ⟨_, rfl, World.ownsRow_nil _ _ _ _, HB6.out⟩
  · rw [if_neg he] at hR
    subst hR
    have hk : (e1 != 0) = true := bne_iff_ne.2 he
    clear hck hcl hn hm
    go_enter Tryz.func13, Tryz.ntmps13
    go_upto_region 1 with fail
    rw [HW.out]
    go_wp2_with fail
    refine (HCK.out _ HG.out).mono ?_
    rintro e w5 ⟨rfl, hb5⟩
    have HR5 := Lib.hid ((hb5.block _ (Array.getElem?_eq_some_iff.1 HR0.out.2).1).trans HR0.out.2)
    have HH5 := Lib.hid (HH.out.below hb5)
    have HB5 := Lib.hid (HB0.out.trans (hb5.mono HB0.out.size))
    clear hb5 q0 q1
    have q0 := cell_of_row _ _ 0 _ _ _ HR5.out
    have q1 := cell_of_row _ _ 1 _ _ _ HR5.out
    go_wp2_with fail
    refine (HCL.out _ HH5.out).mono ?_
    rintro e w6 ⟨rfl, hb6⟩
    have HB6 := Lib.hid (HB5.out.trans (hb6.mono HB5.out.size))
    clear hb6 q0 q1
    go_wp2_with fail
    go_ret3
    exact ⟨_, rfl, World.ownsRow_nil _ _ _ _, HB6.out⟩
end Go.Proofs.YtepelpmkmhhokaaGreatDoor

set_option maxRecDepth 100000
namespace Go.Proofs.YtepelpmkmhhokaaGreatDoor
open Go.RowKit Go.Shelf
open Scs Dfs
/-- what the reference asks of each pair, and of those ahead of it -/
def Ones (P : Array (Int × Int)) (t : Nat) : Prop := ∀ j, j < t → ∀ k, k < j → two P[j]! P[k]! = true
theorem ones_step {P : Array (Int × Int)} {t : Nat} : Ones P (t + 1) ↔ Ones P t ∧ ∀ k, k < t → two P[t]! P[k]! = true := by
  constructor
  · intro h
    exact ⟨fun j hj k hk => h j (by omega) k hk, fun k hk => h t (by omega) k hk⟩
  · rintro ⟨h1, h2⟩ j hj k hk
    by_cases e : j = t
    · subst e; exact h2 k hk
    · exact h1 j (by omega) k hk
theorem alike_ones {ra rb : Int} {D F : Array Fn} {b : Bool} (h : b = true ↔ (pairsG ra rb D F).2.1 = true ∧ Ones (pairA F.size (pairsG ra rb D F).1) (pairsG ra rb D F).1.length) : b = (alikeG ra rb D F).1 := by
  rw [Bool.eq_iff_iff, h]
  unfold pairsG alikeG
  by_cases h1 : (checkG ra D.toList).2 = 0
  · by_cases h2 : (checkG rb F.toList).2 = 0
    · rw [if_pos h1, if_pos h2, if_pos h1, if_pos h2]
      unfold alikeB
      rw [Bool.and_eq_true, onetoA]
      exact Iff.rfl
    · rw [if_pos h1, if_neg h2, if_pos h1, if_neg h2]
      simp
  · rw [if_neg h1, if_neg h1]
    simp
theorem alike_err (ra rb : Int) (D F : Array Fn) : (pairsG ra rb D F).2.2 = (alikeG ra rb D F).2 := by
  unfold pairsG alikeG
  by_cases h1 : (checkG ra D.toList).2 = 0
  · by_cases h2 : (checkG rb F.toList).2 = 0
    · rw [if_pos h1, if_pos h2, if_pos h1, if_pos h2]
    · rw [if_pos h1, if_neg h2, if_pos h1, if_neg h2]
  · rw [if_neg h1, if_neg h1]
theorem pairsG_len (ra rb : Int) (D F : Array Fn) : (pairsG ra rb D F).1.length ≤ 40000 := by
  unfold pairsG
  by_cases h1 : (checkG ra D.toList).2 = 0
  · by_cases h2 : (checkG rb F.toList).2 = 0
    · rw [if_pos h1, if_pos h2]
      obtain ⟨a1, a2, a3, a4⟩ := check_right h1
      obtain ⟨b1, b2, b3, b4⟩ := check_right h2
      exact Nat.le_trans (few_len _ _ (pairs_few a1 b1 a3 b3)) (Nat.le_trans (Nat.mul_le_mul a4 b4) (by decide))
    · rw [if_pos h1, if_neg h2]; simp
  · rw [if_neg h1]; simp
set_option maxHeartbeats 16000000 in
theorem Alike15_in (ra rb : Int) (D F : Array Fn) (n m : Nat) (p p' : Option Addr) (cap cap' : Nat) (w : World) (hn : D.size = n) (hm : F.size = m) (hg : Gl w p D) (hh : Gl w p' F) :
    Calls Tryz.prog 15 #[.agg #[.int .i64 ra, .slice p n cap], .agg #[.int .i64 rb, .slice p' m cap']] w fun e w' => e = .returned (.tuple #[.bool (alikeG ra rb D F).1, .int .i64 (alikeG ra rb D F).2]) ∧ Below w.heap.size w w' := by
  obtain ⟨W, hW, hz, hb0, r0, r1⟩ := at2 w (.cells #[.int .i64 ra, .slice p n cap] 24) (.cells #[.int .i64 rb, .slice p' m cap'] 24)
  have hC := Pairs13_in ra rb D F n m p p' cap cap' W hn hm (hg.below hb0) (hh.below hb0)
  have q0 := cell_of_row _ _ 0 _ _ _ r0
  have q1 := cell_of_row _ _ 1 _ _ _ r0
  have q2 := cell_of_row _ _ 0 _ _ _ r1
  have q3 := cell_of_row _ _ 1 _ _ _ r1
  have hlen := pairsG_len ra rb D F
  have hon := fun b => alike_ones (ra := ra) (rb := rb) (D := D) (F := F) (b := b)
  rw [alike_err] at hC
  obtain ⟨PL, hPL⟩ : ∃ x, (pairsG ra rb D F).1 = x := ⟨_, rfl⟩
  obtain ⟨PB, hPB⟩ : ∃ x, (pairsG ra rb D F).2.1 = x := ⟨_, rfl⟩
  obtain ⟨er, her⟩ : ∃ x, (alikeG ra rb D F).2 = x := ⟨_, rfl⟩
  obtain ⟨al, hal⟩ : ∃ x, (alikeG ra rb D F).1 = x := ⟨_, rfl⟩
  rw [hPL, hPB, her] at hC
  rw [hm, hPL, hPB] at hon
  rw [hal] at hon
  rw [hPL] at hlen
  rw [her, hal]
  have HC := Lib.hid hC
  have HON := Lib.hid hon
  have HW := Lib.hid hW
  have HB0 := Lib.hid hb0
  clear hC hon hPL hPB her hal hW hb0 hg hh hz hn hm r0 r1
  go_enter Tryz.func15, Tryz.ntmps15
  go_upto_region 1 with fail
  rw [HW.out]
  go_wp2_with fail
  refine HC.out.mono ?_
  rintro e w1 ⟨v, rfl, hown, hb1⟩
  obtain ⟨q, c, rfl, hpl0⟩ := pl_own m hown rfl
  have hpl : Pl w1 q (pairA m PL) := hpl0
  have hps := pairA_size m PL
  obtain ⟨P, hP⟩ : ∃ P, pairA m PL = P := ⟨_, rfl⟩
  obtain ⟨k, hk⟩ : ∃ k, PL.length = k := ⟨_, rfl⟩
  rw [hP, hk] at hps
  rw [hP] at hpl
  have hon := HON.out
  rw [hP, hk] at hon
  rw [hk] at hlen
  have HON2 := Lib.hid hon
  have HPL := Lib.hid hpl
  have HPS := Lib.hid hps
  have HB1 := Lib.hid (HB0.out.trans (hb1.mono HB0.out.size))
  rw [hk]
  clear hown hpl0 hpl hps hP hk hon HON HC hb1 q0 q1 q2 q3
  go_wp2_with fail
  go_loopw [7, 9] (fun o i wr => ∃ (t : Nat) (b : Bool), t ≤ k ∧ o = .bool b ∧ i = .int .i64 t ∧ Hid (b = true ↔ PB = true ∧ Ones P t) ∧ Below w1.heap.size w1 wr) (fun _ i _ => k - (intOf i).toNat)
  case atStart => exact ⟨0, PB, by omega, rfl, rfl, ⟨fun h => ⟨h, fun j hj => by omega⟩, fun h => h.1⟩, Below.refl _ _⟩
  case round =>
    obtain ⟨t, b, ht, rfl, rfl, hob, hb⟩ := hrel
    have HOB := Lib.hid hob
    have HB := Lib.hid hb
    clear hob hb
    obtain ⟨wo, rfl⟩ : ∃ W, W = wr := ⟨_, rfl⟩
    by_cases hlt : t < k
    · have i1 : (t : Int) < (k : Int) := by omega
      go_wp2_with fail
      obtain ⟨g, o, rfl, hg, hc0, hc1⟩ := HPL.out t (by rw [HPS.out]; exact hlt)
      have HG := Lib.hid hg
      obtain ⟨x, hx⟩ : ∃ x, P[t]! = x := ⟨_, rfl⟩
      rw [hx] at hc0 hc1
      have HC0 := Lib.hid hc0
      have HC1 := Lib.hid hc1
      have HX := Lib.hid hx
      clear hc0 hc1 hg hx
      go_loopw [7, 10] (fun o j wr => ∃ (s : Nat) (b' : Bool), s ≤ t ∧ o = .bool b' ∧ j = .int .i64 s ∧ Hid (b' = true ↔ (PB = true ∧ Ones P t) ∧ ∀ i, i < s → two P[t]! P[i]! = true) ∧ Below w1.heap.size w1 wr) (fun _ j _ => t - (intOf j).toNat)
      case atStart => exact ⟨0, b, by omega, rfl, rfl, ⟨fun h => ⟨HOB.out.out.1 h, fun i hi => by omega⟩, fun h => HOB.out.out.2 h.1⟩, HB.out⟩
      case round =>
        obtain ⟨s, b', hs, rfl, rfl, hob, hb⟩ := hrel
        have HOB2 := Lib.hid hob
        have HBs := Lib.hid hb
        clear hob hb
        by_cases hls : s < t
        · have i2 : (s : Int) < (t : Int) := by omega
          have i3 : (s : Int) < (k : Int) := by omega
          obtain ⟨g2, o2, e, hg2, hd0, hd1⟩ := HPL.out s (by rw [HPS.out]; omega)
          injection e with e
          injection e with e1 e2 _
          subst e1 e2
          obtain ⟨y, hy⟩ : ∃ x, P[s]! = x := ⟨_, rfl⟩
          rw [hy] at hd0 hd1
          have c0 := (HBs.out.cell (p := ⟨g, o + t * 2, none⟩) HG.out).trans HC0.out
          have c1 := (HBs.out.cell (p := ⟨g, o + t * 2 + 1, none⟩) HG.out).trans HC1.out
          have d0 := (HBs.out.cell (p := ⟨g, o + s * 2, none⟩) HG.out).trans hd0
          have d1 := (HBs.out.cell (p := ⟨g, o + s * 2 + 1, none⟩) HG.out).trans hd1
          have htw : two P[t]! P[s]! = ((decide (x.1 = y.1)) == (decide (x.2 = y.2))) := by rw [HX.out, hy]; rfl
          obtain ⟨x1, x2⟩ := x
          obtain ⟨y1, y2⟩ := y
          simp only at c0 c1 d0 d1 htw
          clear hg2 hd0 hd1 hy
          by_cases e1 : x1 = y1
          · by_cases e2 : x2 = y2
            · subst e1 e2
              have HTW := Lib.hid (show two P[t]! P[s]! = true by rw [htw]; simp [])
              clear htw
              go_wp2_with fail
              go_region
              go_wp2_with fail
              go_roundw
              case rel =>
                refine ⟨s + 1, b', by omega, rfl, by go_num, Iff.trans HOB2.out.out ⟨fun h => ⟨h.1, fun i hi => ?_⟩, fun h => ⟨h.1, fun i hi => h.2 i (by omega)⟩⟩, HBs.out.drew⟩
                by_cases e : i = s
                · rw [e]; exact HTW.out
                · exact h.2 i (by omega)
              case measure => simp [intOf]; omega
            · subst e1
              have hf : (x2 == y2) = false := beq_eq_false_iff_ne.2 e2
              have HTW := Lib.hid (show two P[t]! P[s]! = false by rw [htw]; simp [e2])
              clear htw e2
              go_wp2_with fail
              go_region
              go_wp2_with fail
              go_roundw
              case rel =>
                refine ⟨s + 1, false, by omega, rfl, by go_num, ⟨(fun h => by cases h), fun h => ?_⟩, HBs.out.drew⟩
                have := h.2 s (by omega)
                rw [HTW.out] at this
                cases this
              case measure => simp [intOf]; omega
          · by_cases e2 : x2 = y2
            · subst e2
              have hf : (x1 == y1) = false := beq_eq_false_iff_ne.2 e1
              have HTW := Lib.hid (show two P[t]! P[s]! = false by rw [htw]; simp [e1])
              clear htw e1
              go_wp2_with fail
              go_region
              go_wp2_with fail
              go_roundw
              case rel =>
                refine ⟨s + 1, false, by omega, rfl, by go_num, ⟨(fun h => by cases h), fun h => ?_⟩, HBs.out.drew⟩
                have := h.2 s (by omega)
                rw [HTW.out] at this
                cases this
              case measure => simp [intOf]; omega
            · have hf1 : (x1 == y1) = false := beq_eq_false_iff_ne.2 e1
              have hf2 : (x2 == y2) = false := beq_eq_false_iff_ne.2 e2
              have HTW := Lib.hid (show two P[t]! P[s]! = true by rw [htw]; simp [e1, e2])
              clear htw e1 e2
              go_wp2_with fail
              go_region
              go_wp2_with fail
              go_roundw
              case rel =>
                refine ⟨s + 1, b', by omega, rfl, by go_num, Iff.trans HOB2.out.out ⟨fun h => ⟨h.1, fun i hi => ?_⟩, fun h => ⟨h.1, fun i hi => h.2 i (by omega)⟩⟩, HBs.out.drew⟩
                by_cases e : i = s
                · rw [e]; exact HTW.out
                · exact h.2 i (by omega)
              case measure => simp [intOf]; omega
        · have i2 : ¬ (s : Int) < (t : Int) := by omega
          obtain rfl : s = t := by omega
          go_wp2_with fail
          go_roundw
          case rel => exact ⟨s + 1, b', by omega, rfl, by go_num, HOB2.out.out.trans (by rw [ones_step, and_assoc]), HBs.out⟩
          case measure => simp [intOf]; omega
    · have i1 : ¬ (t : Int) < (k : Int) := by omega
      obtain rfl : t = k := by omega
      go_wp2_with fail
      go_ret2
      refine ⟨?_, HB1.out.trans (HB.out.mono HB1.out.size)⟩
      rw [HON2.out b HOB.out.out]
      rfl
end Go.Proofs.YtepelpmkmhhokaaGreatDoor
