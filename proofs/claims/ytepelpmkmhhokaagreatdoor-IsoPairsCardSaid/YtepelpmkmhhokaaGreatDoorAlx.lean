/- The package's pairs are those that the document tells. Conditions: the graphs lie. Whether two graphs are alike is told as the document tells it. Conditions: the graphs lie. -/
import Derived.Test.YtepelpmkmhhokaaGreatDoorWkx
import Derived.Deep.RegionHeld3
set_option maxRecDepth 100000
namespace Go.Proofs.YtepelpmkmhhokaaGreatDoor
open Go.RowKit Go.Shelf
open Scs Dfs
/-- what the two calls tell -/
def pairsG (ra rb : Int) (D E : Array Fn) : List Nat × Bool × Int := if (checkG ra D.toList).2 = 0 then (if (checkG rb E.toList).2 = 0 then ((pairsW D E ra.toNat rb.toNat).1, (pairsW D E ra.toNat rb.toNat).2, 0) else ([], false, (checkG rb E.toList).2)) else ([], false, (checkG ra D.toList).2)
def alikeG (ra rb : Int) (D E : Array Fn) : Bool × Int := if (checkG ra D.toList).2 = 0 then (if (checkG rb E.toList).2 = 0 then (alikeB D E ra.toNat rb.toNat, 0) else (false, (checkG rb E.toList).2)) else (false, (checkG ra D.toList).2)
theorem upto_at {good : Nat → Bool} {R : List Nat} {t : Nat} (ht : t < R.length) (h1 : ∀ s, s < t → good R[s]! = true) (h2 : good R[t]! = false) : upto good R = (R.take (t + 1), false) := by
  have e : R.take (t + 1) = R.take t ++ [R[t]!] := by rw [List.take_succ_eq_append_getElem ht, getElem!_pos R t ht]
  have hs := upto_snoc (good := good) (i := R[t]!) (o := R.take t) (fun x hx => by
    obtain ⟨s, hs, rfl⟩ := List.getElem_of_mem hx
    rw [List.length_take] at hs
    have := h1 s (by omega)
    rw [getElem!_pos R s (by omega)] at this
    simpa using this) h2
  rw [← e] at hs
  rw [upto_no (List.take_prefix (t + 1) R) (by rw [hs]), hs]
theorem own_lower {W : World} {b b' T k n : Nat} {v : Value} {xs : List Value} (h : W.ownsRow b T k v n xs) (hb : b' ≤ b) : W.ownsRow b' T k v n xs := by
  rcases h with ⟨l, ⟨e1, e2⟩ | ⟨g, c, cur, e1, e2, e3⟩⟩
  · exact ⟨l, .inl ⟨e1, e2⟩⟩
  · exact ⟨l, .inr ⟨g, c, cur, e1, Nat.le_trans hb e2, e3⟩⟩
set_option maxHeartbeats 16000000 in
theorem Pairs12_in (ra rb : Int) (D E : Array Fn) (ma mb : Nat) (pa pb : Option Addr) (ca cb : Nat) (w : World) (hma : D.size = ma) (hmb : E.size = mb) (Ev : Env w) (hga : Gl w pa D) (hgb : Gl w pb E) (k12a : ∀ t, t < D.size → D[t]!.keys.size ≤ 12) (k12b : ∀ t, t < E.size → E[t]!.keys.size ≤ 12) :
    Calls Tryz.prog 12 #[.agg #[.int .i64 ra, .slice pa ma ca], .agg #[.int .i64 rb, .slice pb mb cb]] w fun e w' => ∃ v, e = .returned (.tuple #[v, .bool (pairsG ra rb D E).2.1, .int .i64 (pairsG ra rb D E).2.2]) ∧ w'.ownsRow w.heap.size 39 2 v (pairsG ra rb D E).1.length (pairV mb (pairsG ra rb D E).1) ∧ Below w.heap.size w w' := by
  obtain ⟨W, hW, hz, hb, h0, h1⟩ := at2 w (.cells #[.int .i64 ra, .slice pa ma ca] 24) (.cells #[.int .i64 rb, .slice pb mb cb] 24)
  have q0 := cell_of_row _ _ 0 _ _ _ h0
  have q1 := cell_of_row _ _ 1 _ _ _ h0
  have q2 := cell_of_row _ _ 0 _ _ _ h1
  have q3 := cell_of_row _ _ 1 _ _ _ h1
  by_cases hea : (checkG ra D.toList).2 = 0
  · by_cases heb : (checkG rb E.toList).2 = 0
    · obtain ⟨hba, hra1, hra2, hra3⟩ := check_right hea
      obtain ⟨hbb, hrb1, hrb2, hrb3⟩ := check_right heb
      have hpg : pairsG ra rb D E = ((pairsW D E ra.toNat rb.toNat).1, (pairsW D E ra.toNat rb.toNat).2, 0) := by unfold pairsG; rw [if_pos hea, if_pos heb]
      rw [hpg]
      have hWO := walkerOf_good ra rb D E ma mb pa pb ca cb W hma hmb (Ev.below hb) (hga.below hb) (hgb.below hb) hea heb
      obtain ⟨r, hr⟩ : ∃ r : Nat, ra.toNat = r := ⟨_, rfl⟩
      obtain ⟨s, hs⟩ : ∃ r : Nat, rb.toNat = r := ⟨_, rfl⟩
      rw [hr] at hra1 hra2 ⊢
      rw [hs] at hrb1 hrb2 ⊢
      subst hra1
      subst hrb1
      rw [hma] at hra2 hra3
      rw [hmb] at hrb2 hrb3
      obtain ⟨a0, a1, a2, h3⟩ := Ev.own
      have HVW := Lib.hid fun Ka Kb (h1 : w.heap.size ≤ Ka) (h2 : w.heap.size ≤ Kb) (h3 : Ka ≠ Kb) => (⟨hma, hmb, Ev, hga, hgb, k12a, k12b, h1, h2, h3⟩ : Vw w D E ma mb pa pb Ka Kb)
      have HWO := Lib.hid hWO
      have HW := Lib.hid hW
      have HB := Lib.hid hb
      have HZ := Lib.hid hz
      have HBB := Lib.hid (show _ ∧ _ from ⟨hba, hbb⟩)
      have HRR := Lib.hid (show _ ∧ _ ∧ _ ∧ _ from ⟨hra2, hra3, hrb2, hrb3⟩)
      have HIS := Lib.hid h3
      have HMM := Lib.hid (show _ ∧ _ from ⟨hma, hmb⟩)
      clear hWO hW hb hz h0 h1 hea heb hpg hga hgb Ev hma hmb k12a k12b hba hbb hra2 hra3 hrb2 hrb3 h3 hr hs
      simp only
      go_enter Tryz.func12, Tryz.ntmps12
      go_upto_region 1 with fail
      rw [HW.out]
      go_wp2_with fail
      refine HWO.out.mono ?_
      rintro e w5 ⟨Ka, Kb, rfl, hKa, hKb, hne, hmKa, hmKb, hb5⟩
      have hz5 := hb5.size
      have hZ := HZ.out
      obtain ⟨w7, hw7, hz7, hb7, h70, h71⟩ := at2 w5 (.cells #[.int .i64 r, .slice pa ma ca, .map (some Ka), .int .i64 s, .slice pb mb cb, .map (some Kb)] 59) (.cells #[.func (.func 25) #[.agg #[.int .i64 r, .slice pa ma ca, .map (some Ka), .int .i64 s, .slice pb mb cb, .map (some Kb)]] #[]] 99)
      have hbw5 := HB.out.trans (hb5.mono HB.out.size)
      have hbw7 := hbw5.trans (hb7.mono (by have := hbw5.size; omega))
      have hv7 : Vs w D E Ka Kb (fun k => k = w.heap.size ∨ k = w.heap.size) w7 := by
        have hvac : ∀ (x : Int) (v : Value), findI x [] = some v → False := fun x v e => by cases e
        exact ⟨hbw7, ⟨[], hmKa.keep (hb7.block _ hmKa.lt), fun x v e => (hvac x v e).elim⟩, ⟨[], hmKb.keep (hb7.block _ hmKb.lt), fun x v e => (hvac x v e).elim⟩⟩
      have hwk := walk24_in false (HVW.out Ka Kb (by omega) (by omega) hne) r s ca cb HBB.out.1 HBB.out.2 HRR.out.1 HRR.out.2.2.1 HRR.out.2.1 HRR.out.2.2.2 _ rfl HIS.out w.heap.size w.heap.size (w5.heap.size + 1) 1 _ w7 hv7 h71 (by omega) (by omega) (fun e => by cases e) (fun e => by cases e) (fun e => by cases e) rfl rfl
      obtain ⟨R, hR⟩ : ∃ R, pw ma mb (KN D) (KN E) r s = R := ⟨_, rfl⟩
      rw [hR] at hwk
      have hpw : pairsW D E r s = upto (fun p => fitG D E (p / mb) (p % mb)) R := by
        unfold pairsW
        rw [HMM.out.1, HMM.out.2, hR]
      have HPW := Lib.hid hpw
      obtain ⟨c0, c1, c2, c3, c4, c5⟩ := cell6 ((show w7.heap[w5.heap.size]? = _ from h70))
      have HWK := Lib.hid hwk
      have HW7 := Lib.hid hw7
      have HB7 := Lib.hid hbw7
      have HKK := Lib.hid (show w.heap.size ≤ Ka ∧ w.heap.size ≤ Kb by omega)
      clear hwk hb5 hz5 hb7 hbw5 hbw7 hv7 h70 h71 hmKa hmKb hw7 hz7 q0 q1 q2 q3 hKa hKb hne hpw hR
      go_wp2_with fail
      rw [HW7.out]
      refine HWK.out.mono ?_
      rintro e w8 ⟨v, ae, L, rfl, hown, ⟨c, T, hrow⟩, hlow, hgr, hres⟩
      have his := HIS.out.below hlow
      obtain ⟨e0, c', T', hrow0⟩ := his.all
      have hIs := Is_any w8 hrow hrow0
      have HIS8 := Lib.hid hIs
      have HOWN := Lib.hid hown
      have HLOW := Lib.hid hlow
      have HGR := Lib.hid hgr
      have HRES := Lib.hid hres
      clear hIs hown hlow hgr hres his hrow hrow0 c0 c1 c2 c3 c4 c5
      go_wp2_with fail
      refine HIS8.out.mono ?_
      rintro e w9 ⟨rfl, rfl⟩
      go_wp2_with fail
      rw [HPW.out]
      have hgood : upto (fun p => fitG D E (p / mb) (p % mb)) R = (L, decide (ae = a0)) := by
        rcases HRES.out with ⟨h1, h2, h3, _⟩ | ⟨h1, t, h2, h3, h4, h5⟩
        · rw [decide_eq_true h1, h2]
          refine upto_all fun x hx => ?_
          obtain ⟨k, hk, rfl⟩ := List.getElem_of_mem hx
          have := h3 k hk
          rwa [getElem!_pos R k hk] at this
        · rw [decide_eq_false h1, h3]
          refine upto_at h2 h4 ?_
          rcases h5 with h5 | h5
          · exact h5
          · exact absurd h5.1 (by decide)
      rw [hgood]
      refine bodyPost_ret (v := .tuple #[v, .bool (decide (ae = a0)), .int .i64 0]) (by simp [results, Tryz.results12, go_sem]) rfl ?_
      have hz7 := HB7.out.size
      exact ⟨v, rfl, own_lower HOWN.out hz7, HLOW.out⟩
    · have hpg : pairsG ra rb D E = ([], false, (checkG rb E.toList).2) := by unfold pairsG; rw [if_pos hea, if_neg heb]
      rw [hpg]
      obtain ⟨e0, he0⟩ : ∃ e, (checkG rb E.toList).2 = e := ⟨_, rfl⟩
      rw [he0] at heb ⊢
      have hWO := walkerOf_bad2 ra rb D E ma mb pa pb ca cb W hma hmb (Ev.below hb) (hga.below hb) (hgb.below hb) hea e0 he0 heb
      have hne : (e0 != 0) = true := by simp [heb]
      have HWO := Lib.hid hWO
      have HW := Lib.hid hW
      have HB := Lib.hid hb
      have HZ := Lib.hid hz
      clear hWO hW hb hz h0 h1 hea heb hpg hga hgb Ev he0 hma hmb k12a k12b
      simp only
      go_enter Tryz.func12, Tryz.ntmps12
      go_upto_region 1 with fail
      rw [HW.out]
      go_wp2_with fail
      refine HWO.out.mono ?_
      rintro e w5 ⟨rfl, hb5⟩
      have HB5 := Lib.hid (HB.out.trans (hb5.mono HB.out.size))
      clear hb5 q0 q1 q2 q3
      go_wp2_with fail
      refine bodyPost_ret (v := .tuple #[.slice none 0 0, .bool false, .int .i64 e0]) (by simp [results, Tryz.results12, go_sem]) rfl ?_
      exact ⟨.slice none 0 0, rfl, World.ownsRow_nil _ _ _ _, HB5.out.alloc HB5.out.size _⟩
  · have hpg : pairsG ra rb D E = ([], false, (checkG ra D.toList).2) := by unfold pairsG; rw [if_neg hea]
    rw [hpg]
    obtain ⟨e0, he0⟩ : ∃ e, (checkG ra D.toList).2 = e := ⟨_, rfl⟩
    rw [he0] at hea ⊢
    have hWO := walkerOf_bad1 ra rb D E ma mb pa pb ca cb W hma (Ev.below hb) (hga.below hb) e0 he0 hea
    have hne : (e0 != 0) = true := by simp [hea]
    have HWO := Lib.hid hWO
    have HW := Lib.hid hW
    have HB := Lib.hid hb
    have HZ := Lib.hid hz
    clear hWO hW hb hz h0 h1 hea hpg hga hgb Ev he0 hma hmb k12a k12b
    simp only
    go_enter Tryz.func12, Tryz.ntmps12
    go_upto_region 1 with fail
    rw [HW.out]
    go_wp2_with fail
    refine HWO.out.mono ?_
    rintro e w5 ⟨rfl, hb5⟩
    have HB5 := Lib.hid (HB.out.trans (hb5.mono HB.out.size))
    clear hb5 q0 q1 q2 q3
    go_wp2_with fail
    refine bodyPost_ret (v := .tuple #[.slice none 0 0, .bool false, .int .i64 e0]) (by simp [results, Tryz.results12, go_sem]) rfl ?_
    exact ⟨.slice none 0 0, rfl, World.ownsRow_nil _ _ _ _, HB5.out.alloc HB5.out.size _⟩
end Go.Proofs.YtepelpmkmhhokaaGreatDoor

set_option maxRecDepth 100000
namespace Go.Proofs.YtepelpmkmhhokaaGreatDoor
open Go.RowKit Go.Shelf
open Scs Dfs
abbrev S6w (B : Nat) (x0 x1 x2 x3 x4 x5 : Value) (W : World) : Prop :=
  W.cell? ⟨B, 0, none⟩ = some x0 ∧ W.cell? ⟨B, 1, none⟩ = some x1 ∧ W.cell? ⟨B, 2, none⟩ = some x2 ∧ W.cell? ⟨B, 3, none⟩ = some x3 ∧ W.cell? ⟨B, 4, none⟩ = some x4 ∧ W.cell? ⟨B, 5, none⟩ = some x5
structure Wb (B : Nat) (x0 x1 x2 x3 x4 x5 : Value) (W : World) : Prop where
  box : W.heap[B]? = some (.cells #[x0, x1, x2, x3, x4, x5] 59 (0, 0))
theorem Wb.s6 {B : Nat} {x0 x1 x2 x3 x4 x5 : Value} {W : World} (h : Wb B x0 x1 x2 x3 x4 x5 W) : S6w B x0 x1 x2 x3 x4 x5 W := cell6 h.box
theorem Wb.drew {B : Nat} {x0 x1 x2 x3 x4 x5 : Value} {W : World} (h : Wb B x0 x1 x2 x3 x4 x5 W) : Wb B x0 x1 x2 x3 x4 x5 W.drew := ⟨h.box⟩
theorem Wb.below {B : Nat} {x0 x1 x2 x3 x4 x5 : Value} {W W' : World} (h : Wb B x0 x1 x2 x3 x4 x5 W) (hb : Below W.heap.size W W') : Wb B x0 x1 x2 x3 x4 x5 W' := ⟨(hb.block _ (Array.getElem?_eq_some_iff.1 h.box).1).trans h.box⟩
theorem Wb.alloc {B : Nat} {x0 x1 x2 x3 x4 x5 : Value} {W : World} (h : Wb B x0 x1 x2 x3 x4 x5 W) (o : Obj) : Wb B x0 x1 x2 x3 x4 x5 (W.alloc o) := h.below ((Below.refl _ W).alloc (Nat.le_refl _) o)
set_option maxHeartbeats 16000000 in
theorem Alike14_in (ra rb : Int) (D E : Array Fn) (ma mb : Nat) (pa pb : Option Addr) (ca cb : Nat) (w : World) (hma : D.size = ma) (hmb : E.size = mb) (Ev : Env w) (hga : Gl w pa D) (hgb : Gl w pb E) (k12a : ∀ t, t < D.size → D[t]!.keys.size ≤ 12) (k12b : ∀ t, t < E.size → E[t]!.keys.size ≤ 12) :
    Calls Tryz.prog 14 #[.agg #[.int .i64 ra, .slice pa ma ca], .agg #[.int .i64 rb, .slice pb mb cb]] w fun e w' => e = .returned (.tuple #[.bool (alikeG ra rb D E).1, .int .i64 (alikeG ra rb D E).2]) ∧ Below w.heap.size w w' := by
  obtain ⟨W, hW, hz, hb, h0, h1⟩ := at2 w (.cells #[.int .i64 ra, .slice pa ma ca] 24) (.cells #[.int .i64 rb, .slice pb mb cb] 24)
  have q0 := cell_of_row _ _ 0 _ _ _ h0
  have q1 := cell_of_row _ _ 1 _ _ _ h0
  have q2 := cell_of_row _ _ 0 _ _ _ h1
  have q3 := cell_of_row _ _ 1 _ _ _ h1
  by_cases hea : (checkG ra D.toList).2 = 0
  · by_cases heb : (checkG rb E.toList).2 = 0
    · obtain ⟨hba, hra1, hra2, hra3⟩ := check_right hea
      obtain ⟨hbb, hrb1, hrb2, hrb3⟩ := check_right heb
      have hpg : alikeG ra rb D E = (alikeB D E ra.toNat rb.toNat, 0) := by unfold alikeG; rw [if_pos hea, if_pos heb]
      rw [hpg]
      have hWO := walkerOf_good ra rb D E ma mb pa pb ca cb W hma hmb (Ev.below hb) (hga.below hb) (hgb.below hb) hea heb
      obtain ⟨r, hr⟩ : ∃ r : Nat, ra.toNat = r := ⟨_, rfl⟩
      obtain ⟨s, hs⟩ : ∃ r : Nat, rb.toNat = r := ⟨_, rfl⟩
      rw [hr] at hra1 hra2 ⊢
      rw [hs] at hrb1 hrb2 ⊢
      subst hra1
      subst hrb1
      rw [hma] at hra2 hra3
      rw [hmb] at hrb2 hrb3
      obtain ⟨a0, a1, a2, h3⟩ := Ev.own
      have HVW := Lib.hid fun Ka Kb (h1 : w.heap.size ≤ Ka) (h2 : w.heap.size ≤ Kb) (h3 : Ka ≠ Kb) => (⟨hma, hmb, Ev, hga, hgb, k12a, k12b, h1, h2, h3⟩ : Vw w D E ma mb pa pb Ka Kb)
      have HWO := Lib.hid hWO
      have HW := Lib.hid hW
      have HB := Lib.hid hb
      have HZ := Lib.hid hz
      have HBB := Lib.hid (show _ ∧ _ from ⟨hba, hbb⟩)
      have HRR := Lib.hid (show _ ∧ _ ∧ _ ∧ _ from ⟨hra2, hra3, hrb2, hrb3⟩)
      have HIS := Lib.hid h3
      have HMM := Lib.hid (show _ ∧ _ from ⟨hma, hmb⟩)
      clear hWO hW hb hz h0 h1 hea heb hpg hga hgb Ev hma hmb k12a k12b hba hbb hra2 hra3 hrb2 hrb3 h3 hr hs
      simp only
      go_enter Tryz.func14, Tryz.ntmps14
      go_upto_region 1 with fail
      rw [HW.out]
      go_wp2_with fail
      refine HWO.out.mono ?_
      rintro e w5 ⟨Ka, Kb, rfl, hKa, hKb, hne, hmKa, hmKb, hb5⟩
      have hz5 := hb5.size
      have hZ := HZ.out
      obtain ⟨w6, hw6, hz6, hb6, hr6⟩ := at1 w5 (.cells #[.int .i64 r, .slice pa ma ca, .map (some Ka), .int .i64 s, .slice pb mb cb, .map (some Kb)] 59)
      have hbw5 := HB.out.trans (hb5.mono HB.out.size)
      have hzb := hbw5.size
      have hbw6 := hbw5.trans (hb6.mono hzb)
      have hmKa6 := hmKa.keep (hb6.block _ hmKa.lt)
      have hmKb6 := hmKb.keep (hb6.block _ hmKb.lt)
      have hKal := hmKa.lt
      have hKbl := hmKb.lt
      have HVIEW := Lib.hid (HVW.out Ka Kb (by omega) (by omega) hne)
      obtain ⟨R, hR⟩ : ∃ R, pw ma mb (KN D) (KN E) r s = R := ⟨_, rfl⟩
      have hpw : pairsW D E r s = upto (fun p => fitG D E (p / mb) (p % mb)) R := by
        unfold pairsW
        rw [HMM.out.1, HMM.out.2, hR]
      have HNM := Lib.hid fun W' => newMatch_any W'
      have HWK := Lib.hid fun A B wN (hA : w6.heap.size ≤ A) (hB : w6.heap.size ≤ B) (hAB : A ≠ B) (hmA : HasM wN A []) (hmB : HasM wN B []) (hbN : Below w6.heap.size w6 wN) =>
        show Calls Tryz.prog 24 #[.agg #[.int .i64 r, .slice pa ma ca, .map (some Ka), .int .i64 s, .slice pb mb cb, .map (some Kb)], .slice (some ⟨wN.heap.size, 0, none⟩) 2 2] (wN.alloc (.cells #[.func (.func 25) #[.agg #[.int .i64 r, .slice pa ma ca, .map (some Ka), .int .i64 s, .slice pb mb cb, .map (some Kb)]] #[], .func (.func 30) #[.agg #[.map (some A), .map (some B)]] #[]] 99)) fun e w' => ∃ v ae, e = .returned (.tuple #[v, .iface 242 (.pointer (some ae))]) ∧ Hid (Wb w5.heap.size (.int .i64 r) (.slice pa ma ca) (.map (some Ka)) (.int .i64 s) (.slice pb mb cb) (.map (some Kb)) w') ∧ Hid ((∃ c T, w'.heap[ae.block]? = some (.cells c T (0, 0))) ∧ Below w.heap.size w w' ∧ (ae = a0 ↔ ((upto (fun p => fitG D E (p / mb) (p % mb)) R).2 && onetoB mb (upto (fun p => fitG D E (p / mb) (p % mb)) R).1) = true)) from by
          have hzN := hbN.size
          have hbN' : Below w.heap.size w (wN.alloc (.cells #[.func (.func 25) #[.agg #[.int .i64 r, .slice pa ma ca, .map (some Ka), .int .i64 s, .slice pb mb cb, .map (some Kb)]] #[], .func (.func 30) #[.agg #[.map (some A), .map (some B)]] #[]] 99)) := (hbw6.trans (hbN.mono hbw6.size)).alloc (by have := hbw6.size; omega) _
          have al : ∀ k, k < wN.heap.size → (wN.alloc (.cells #[.func (.func 25) #[.agg #[.int .i64 r, .slice pa ma ca, .map (some Ka), .int .i64 s, .slice pb mb cb, .map (some Kb)]] #[], .func (.func 30) #[.agg #[.map (some A), .map (some B)]] #[]] 99)).heap[k]? = wN.heap[k]? := fun k hk => Below.heap_alloc _ _ _ hk
          have hvac : ∀ (x : Int) (v : Value), findI x [] = some v → False := fun x v e => by cases e
          have hv : Vs w D E Ka Kb (fun k => k = A ∨ k = B) (wN.alloc (.cells #[.func (.func 25) #[.agg #[.int .i64 r, .slice pa ma ca, .map (some Ka), .int .i64 s, .slice pb mb cb, .map (some Kb)]] #[], .func (.func 30) #[.agg #[.map (some A), .map (some B)]] #[]] 99)) :=
            ⟨hbN', ⟨[], (hmKa6.keep (hbN.block _ hmKa6.lt)).keep (al _ (by have := hmKa6.lt; omega)), fun x v e => (hvac x v e).elim⟩, ⟨[], (hmKb6.keep (hbN.block _ hmKb6.lt)).keep (al _ (by have := hmKb6.lt; omega)), fun x v e => (hvac x v e).elim⟩⟩
          have hlA := hmA.lt
          have hlB := hmB.lt
          refine (walk24_in true HVIEW.out r s ca cb HBB.out.1 HBB.out.2 HRR.out.1 HRR.out.2.2.1 HRR.out.2.1 HRR.out.2.2.2 R hR HIS.out A B wN.heap.size 2 _ _ hv (heap_alloc_new wN _) (by simp; omega) (by simp; omega) (fun _ => ⟨hmA.keep (al _ hlA), hmB.keep (al _ hlB), hAB, fun p hp => by cases hp⟩) (fun _ => ⟨⟨by omega, by omega⟩, by omega, by omega⟩) (fun _ => ⟨by omega, by omega⟩) rfl rfl).mono ?_
          rintro e w' ⟨v, ae, L, rfl, _, hrow, hlow, hgr, hres⟩
          refine ⟨v, ae, rfl, ⟨?_⟩, hrow, hlow, ?_⟩
          · exact (hgr.block _ (by simp; omega) (by
              rintro (e | e | ⟨_, e | e⟩) <;> omega)).trans ((al _ (by omega)).trans ((hbN.block _ (by omega)).trans hr6))
          · rcases hres with ⟨h1, h2, h3, h4⟩ | ⟨h1, t, h2, h3, h4, h5⟩
            · have hu : upto (fun p => fitG D E (p / mb) (p % mb)) R = (R, true) := upto_all fun x hx => by
                obtain ⟨k, hk, rfl⟩ := List.getElem_of_mem hx
                have := h3 k hk
                rwa [getElem!_pos R k hk] at this
              rw [hu]
              simp only [Bool.true_and]
              exact ⟨fun _ => onetoB_iff.2 (h4 rfl), fun _ => h1⟩
            · refine ⟨fun e => (h1 e).elim, fun e => ?_⟩
              exfalso
              rw [Bool.and_eq_true, onetoB_iff] at e
              obtain ⟨e1, e2⟩ := e
              have hall := upto_yes.1 e1
              rw [upto_yes1 e1] at e2
              rcases h5 with h5 | ⟨_, h5⟩
              · have := hall R[t]! (by rw [getElem!_pos R t h2]; exact List.getElem_mem h2)
                rw [h5] at this
                cases this
              · exact h5 fun p hp q hq => e2 p (List.mem_of_mem_take hp) q (List.mem_of_mem_take hq)
      have hwb6 : Wb w5.heap.size (.int .i64 r) (.slice pa ma ca) (.map (some Ka)) (.int .i64 s) (.slice pb mb cb) (.map (some Kb)) w6 := ⟨hr6⟩
      have HWB6 := Lib.hid hwb6
      have HW6 := Lib.hid hw6
      have HPW := Lib.hid hpw
      have HL5 := Lib.hid (show w5.heap.size < w6.heap.size by omega)
      clear hb5 hz5 hbw5 hbw6 hb6 hz6 hr6 hmKa hmKb hmKa6 hmKb6 hw6 q0 q1 q2 q3 hKa hKb hne hpw hR hwb6 hZ hzb hKal hKbl
      go_upto_region 4 with fail
      rw [HW6.out]
      go_region_held3 (S6w w5.heap.size (.int .i64 r) (.slice pa ma ca) (.map (some Ka)) (.int .i64 s) (.slice pb mb cb) (.map (some Kb))) ((refine Wb.s6 ?_; repeat (first | (with_reducible refine Hid.out ?_; assumption) | with_reducible refine Wb.drew ?_ | with_reducible refine Wb.alloc ?_ _))) (first
        | ((with_reducible refine (HNM.out _).mono ?_)
           rintro e wN ⟨A, B, rfl, hA, hB, hAB, hmA, hmB, hbN⟩
           have hbN' := ((Below.refl w6.heap.size w6).drew).trans hbN
           have HWBN := Lib.hid (HWB6.out.below hbN')
           have HNA := Lib.hid (show w6.heap.size ≤ A ∧ w6.heap.size ≤ B ∧ A ≠ B ∧ HasM wN A [] ∧ HasM wN B [] ∧ Below w6.heap.size w6 wN from ⟨hA, hB, hAB, hmA, hmB, hbN'⟩)
           clear hA hB hAB hmA hmB hbN hbN')
        | ((with_reducible refine (HWK.out _ _ _ ?h1 ?h2 ?h3 ?h4 ?h5 ?h6).mono ?_)
           case h1 => exact HNA.out.1
           case h2 => exact HNA.out.2.1
           case h3 => exact HNA.out.2.2.1
           case h4 => exact HNA.out.2.2.2.1
           case h5 => exact HNA.out.2.2.2.2.1
           case h6 => exact HNA.out.2.2.2.2.2
           rintro e w8 ⟨v, ae, rfl, hwb8, hres⟩))
      all_goals
        obtain ⟨⟨c8, T8, hrow⟩, hlow, hiff⟩ := hres.out
        obtain ⟨e0, c', T', hrow0⟩ := (HIS.out.below hlow).all
        have HIS8 := Lib.hid (Is_any w8 hrow hrow0)
        have HLOW := Lib.hid hlow
        have HIFF := Lib.hid hiff
        clear hlow hiff hrow hrow0 hres hwb8
        go_wp2_with fail
        refine HIS8.out.mono ?_
        rintro e w9 ⟨rfl, rfl⟩
        go_wp2_with fail
        have hgood : alikeB D E r s = decide (ae = a0) := by
          unfold alikeB
          rw [HPW.out, HMM.out.2]
          by_cases h : ae = a0
          · rw [decide_eq_true h]
            exact HIFF.out.1 h
          · rw [decide_eq_false h]
            exact Bool.eq_false_iff.2 fun e => h (HIFF.out.2 e)
        rw [hgood]
        refine bodyPost_ret (v := .tuple #[.bool (decide (ae = a0)), .int .i64 0]) (by simp [results, Tryz.results14, go_sem]) rfl ?_
        exact ⟨rfl, HLOW.out⟩
    · have hpg : alikeG ra rb D E = (false, (checkG rb E.toList).2) := by unfold alikeG; rw [if_pos hea, if_neg heb]
      rw [hpg]
      obtain ⟨e0, he0⟩ : ∃ e, (checkG rb E.toList).2 = e := ⟨_, rfl⟩
      rw [he0] at heb ⊢
      have hWO := walkerOf_bad2 ra rb D E ma mb pa pb ca cb W hma hmb (Ev.below hb) (hga.below hb) (hgb.below hb) hea e0 he0 heb
      have hne : (e0 != 0) = true := by simp [heb]
      have HWO := Lib.hid hWO
      have HW := Lib.hid hW
      have HB := Lib.hid hb
      have HZ := Lib.hid hz
      clear hWO hW hb hz h0 h1 hea heb hpg hga hgb Ev he0 hma hmb k12a k12b
      simp only
      go_enter Tryz.func14, Tryz.ntmps14
      go_upto_region 1 with fail
      rw [HW.out]
      go_wp2_with fail
      refine HWO.out.mono ?_
      rintro e w5 ⟨rfl, hb5⟩
      have HB5 := Lib.hid (HB.out.trans (hb5.mono HB.out.size))
      clear hb5 q0 q1 q2 q3
      go_wp2_with fail
      refine bodyPost_ret (v := .tuple #[.bool false, .int .i64 e0]) (by simp [results, Tryz.results14, go_sem]) rfl ?_
      exact ⟨rfl, HB5.out.alloc HB5.out.size _⟩
  · have hpg : alikeG ra rb D E = (false, (checkG ra D.toList).2) := by unfold alikeG; rw [if_neg hea]
    rw [hpg]
    obtain ⟨e0, he0⟩ : ∃ e, (checkG ra D.toList).2 = e := ⟨_, rfl⟩
    rw [he0] at hea ⊢
    have hWO := walkerOf_bad1 ra rb D E ma mb pa pb ca cb W hma (Ev.below hb) (hga.below hb) e0 he0 hea
    have hne : (e0 != 0) = true := by simp [hea]
    have HWO := Lib.hid hWO
    have HW := Lib.hid hW
    have HB := Lib.hid hb
    have HZ := Lib.hid hz
    clear hWO hW hb hz h0 h1 hea hpg hga hgb Ev he0 hma hmb k12a k12b
    simp only
    go_enter Tryz.func14, Tryz.ntmps14
    go_upto_region 1 with fail
    rw [HW.out]
    go_wp2_with fail
    refine HWO.out.mono ?_
    rintro e w5 ⟨rfl, hb5⟩
    have HB5 := Lib.hid (HB.out.trans (hb5.mono HB.out.size))
    clear hb5 q0 q1 q2 q3
    go_wp2_with fail
    refine bodyPost_ret (v := .tuple #[.bool false, .int .i64 e0]) (by simp [results, Tryz.results14, go_sem]) rfl ?_
    exact ⟨rfl, HB5.out.alloc HB5.out.size _⟩
end Go.Proofs.YtepelpmkmhhokaaGreatDoor
