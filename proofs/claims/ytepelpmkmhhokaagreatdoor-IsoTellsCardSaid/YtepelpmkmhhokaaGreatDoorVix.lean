/- The recursion that ends at the first pair that does not fit. Conditions: none. The reference's walk of two graphs together: what it comes to, behind what was come to, up to the first pair that does not fit. Conditions: both graphs are right, and lie. -/
import Derived.Test.YtepelpmkmhhokaaGreatDoorWix
import Derived.Test.YtepelpmkmhhokaaGreatDoorSsx
import Derived.Test.YtepelpmkmhhokaaGreatDoorRix
import Derived.Test.YtepelpmkmhhokaaGreatDoorSmx
set_option maxRecDepth 100000
namespace Go.Proofs.YtepelpmkmhhokaaGreatDoor
open Dfs
theorem up_new {kids : Nat → List Nat} {good : Nat → Bool} {f i : Nat} {o : List Nat} (hm : i ∉ o) (ho : ∀ x ∈ o, good x = true) (hg : good i = false) : upto good (visit kids (f + 1) i o) = (o ++ [i], false) := by
  have h := upto_snoc ho hg
  rw [visit_new hm, upto_no (visits_pre kids f _ _) (by rw [h]), h]
theorem take_one {K : List Nat} {t : Nat} (ht : t < K.length) : K.take (t + 1) = K.take t ++ [K[t]!] := by
  rw [List.take_add_one, List.getElem?_eq_getElem ht, getElem!_pos K t ht]
  rfl
theorem visits_one {kids : Nat → List Nat} {f t : Nat} {K o : List Nat} (ht : t < K.length) : visits kids f (K.take (t + 1)) o = visit kids f K[t]! (visits kids f (K.take t) o) := by
  rw [take_one ht, visits_append]
  rfl
theorem up_stop {kids : Nat → List Nat} {good : Nat → Bool} {f t : Nat} {K o : List Nat} (ht : t < K.length) (h : (upto good (visit kids f K[t]! (visits kids f (K.take t) o))).2 = false) :
    upto good (visits kids f K o) = upto good (visit kids f K[t]! (visits kids f (K.take t) o)) := by
  rw [← visits_one ht] at h ⊢
  have e : visits kids f K o = visits kids f (K.drop (t + 1)) (visits kids f (K.take (t + 1)) o) := by
    rw [← visits_append, List.take_append_drop]
  rw [e]
  exact upto_no (visits_pre _ _ _ _) h
/-- a pair's kids, one by one -/
theorem pk_len {M p : Nat} {ka kb : Nat → List Nat} (h : (ka (p / M)).length = (kb (p % M)).length) : (pk M ka kb p).length = (ka (p / M)).length := by
  unfold pk
  rw [List.length_map, List.length_zip, ← h, Nat.min_self]
theorem pk_at {M p t : Nat} {ka kb : Nat → List Nat} (h1 : t < (ka (p / M)).length) (h2 : t < (kb (p % M)).length) : (pk M ka kb p)[t]! = (ka (p / M))[t]! * M + (kb (p % M))[t]! := by
  unfold pk
  rw [getElem!_pos _ t (by rw [List.length_map, List.length_zip]; omega), getElem!_pos _ t h1, getElem!_pos _ t h2]
  simp
end Go.Proofs.YtepelpmkmhhokaaGreatDoor

set_option maxRecDepth 100000
namespace Go.Proofs.YtepelpmkmhhokaaGreatDoor
open Go.RowKit Go.Shelf
open Scs Dfs
theorem ownP_below {W W' : World} {b n : Nat} {v : Value} {xs : List Value} (h : W.ownsRow b 39 2 v n xs) (hb : Below W.heap.size W W') : W'.ownsRow b 39 2 v n xs := own_keepG h fun g hg => hb.block g (own_lt h g hg).2
def goodG (D F : Array Fn) (p : Nat) : Bool := fitG D F (p / F.size) (p % F.size)
/-- a node's kids, in a row that is new -/
theorem kids_new (root : Int) (L : Array Fn) (p : Option Addr) (cap i : Nat) (hb : badFrom L.size L.toList 0 = none) (hi : i < L.size) (W : World) (hg : Gl W p L) :
    Calls Tryz.prog 49 #[.agg #[.int .i64 root, .slice p L.size cap], .int .i64 (i : Int)] W fun e w' => ∃ q c, e = .returned (.tuple #[.slice q (KN L i).length c, .int .i64 0]) ∧
      (∀ t, t < (KN L i).length → ∃ g, q = some ⟨g, 0, none⟩ ∧ W.heap.size ≤ g ∧ g < w'.heap.size ∧ w'.cell? ⟨g, t, none⟩ = some (.int .i64 ((KN L i)[t]! : Int))) ∧ (KN L i).length ≤ 1000000 ∧ Below W.heap.size W w' := by
  have hkg := kn_kidsG hi
  have hkn := kids_natI hb hi
  have hK := Kids15_own root L p cap i W hg
  have hl := kidsG_len L i W p hg
  rw [hkg] at hK hl
  simp only at hK hl
  rw [hkn] at hK hl
  rw [natI_len] at hl
  refine hK.mono fun e w' ⟨v, h1, h2, h3⟩ => ?_
  obtain ⟨q, c, rfl, h4⟩ := il_own h2 (by rw [natI_len]) (by rw [natI_len]; exact hl)
  rw [natI_len] at h1
  refine ⟨q, c, h1, fun t ht => ?_, hl, h3⟩
  obtain ⟨b1, o1, hpe, hb1, hc1⟩ := h4.at t (by rw [List.size_toArray, natI_len]; exact ht)
  rw [natI_get _ t ht] at hc1
  rcases h2 with ⟨_, ⟨e1, e2⟩ | ⟨g', c', cur, hv, hbg, _⟩⟩
  · rw [natI_len] at e2; omega
  · injection hv with e1 _ _
    rw [e1] at hpe
    injection hpe with hpe
    injection hpe with e2 e3 _
    subst e2 e3
    refine ⟨g', e1, hbg, hb1, ?_⟩
    rw [Nat.zero_add] at hc1
    exact hc1
abbrev S6x (B : Nat) (x0 x1 x2 x3 : Value) (ga gb t : Nat) (ya yb : Int) (W : World) : Prop :=
  W.cell? ⟨B, 0, none⟩ = some x0 ∧ W.cell? ⟨B, 1, none⟩ = some x1 ∧ W.cell? ⟨B + 1, 0, none⟩ = some x2 ∧ W.cell? ⟨B + 1, 1, none⟩ = some x3 ∧ W.cell? ⟨ga, t, none⟩ = some (.int .i64 ya) ∧ W.cell? ⟨gb, t, none⟩ = some (.int .i64 yb)
theorem s6x_grown {B : Nat} {x0 x1 x2 x3 : Value} {ga gb t : Nat} {ya yb : Int} {W W' : World} {r : Option Nat} (h : S6x B x0 x1 x2 x3 ga gb t ya yb W) (hg : W.grownBy W' r) (hn : ∀ q, r = some q → q ≠ B ∧ q ≠ B + 1 ∧ q ≠ ga ∧ q ≠ gb) : S6x B x0 x1 x2 x3 ga gb t ya yb W' := by
  obtain ⟨h0, h1, h2, h3, h4, h5⟩ := h
  have k : ∀ (g o : Nat) v, (∀ q, r = some q → q ≠ g) → W.cell? ⟨g, o, none⟩ = some v → W'.cell? ⟨g, o, none⟩ = some v := fun g o v hq hc => (World.cell?_of_block (w := W) (hg.block g (block_lt_of_cell hc) fun e => hq g e.symm rfl)).trans hc
  exact ⟨k _ _ _ (fun q h => (hn q h).1) h0, k _ _ _ (fun q h => (hn q h).1) h1, k _ _ _ (fun q h => (hn q h).2.1) h2, k _ _ _ (fun q h => (hn q h).2.1) h3, k _ _ _ (fun q h => (hn q h).2.2.1) h4, k _ _ _ (fun q h => (hn q h).2.2.2) h5⟩
set_option maxHeartbeats 16000000 in
theorem visit28_any (ra rb : Int) (D F : Array Fn) (p p' : Option Addr) (cap cap' : Nat) (hbD : badFrom D.size D.toList 0 = none) (hbF : badFrom F.size F.toList 0 = none) (h200 : D.size ≤ 200) (h200' : F.size ≤ 200) (w0 : World) (hgD : Gl w0 p D) (hgF : Gl w0 p' F) :
    ∀ (f i : Nat) (o : List Nat) (v : Value) (w : World), i < D.size * F.size → Few (D.size * F.size) o → D.size * F.size < f + o.length → (∀ x ∈ o, goodG D F x = true) → Below w0.heap.size w0 w → w.ownsRow w0.heap.size 39 2 v o.length (pairV F.size o) →
      Calls Tryz.prog 28 #[.agg #[.int .i64 ra, .slice p D.size cap], .agg #[.int .i64 rb, .slice p' F.size cap'], .agg #[.int .i64 ((i / F.size : Nat) : Int), .int .i64 ((i % F.size : Nat) : Int)], v] w fun e w' => ∃ v', e = .returned (.tuple #[v', .bool (upto (goodG D F) (visit (pk F.size (KN D) (KN F)) f i o)).2]) ∧
        w'.ownsRow w0.heap.size 39 2 v' (upto (goodG D F) (visit (pk F.size (KN D) (KN F)) f i o)).1.length (pairV F.size (upto (goodG D F) (visit (pk F.size (KN D) (KN F)) f i o)).1) ∧ w.grownBy w' v.ownBlock ∧ OwnNext w.heap.size v v'
  | 0, i, o, v, w, hi, ho, hf, hgo, hbw, hown => by
    have := few_len _ _ ho
    omega
  | f + 1, i, o, v, w, hi, ho, hf, hgo, hbw, hown => by
    have hNM : D.size * F.size ≤ 40000 := Nat.le_trans (Nat.mul_le_mul h200 h200') (by decide)
    have hol := few_len _ _ ho
    obtain ⟨i0, hi0, hz0, hz1, hz2⟩ := info_parts info39
    have hIH := visit28_any ra rb D F p p' cap cap' hbD hbF h200 h200' w0 hgD hgF f
    have hia : i / F.size < D.size := fst_lt hi
    have hib : i % F.size < F.size := snd_lt hi
    obtain ⟨q, c, rfl, hpl⟩ := pl_own F.size hown rfl
    have hIN : ∀ W, Pl W q (pairA F.size o) → Calls Tryz.prog 48 #[.slice q o.length c, .agg #[.int .i64 ((i / F.size : Nat) : Int), .int .i64 ((i % F.size : Nat) : Int)]] W fun e w' => e = .returned (.bool (decide (i ∈ o))) ∧ Below W.heap.size W w' := fun W h => by
      have := In48_any (pairA F.size o) (pairI F.size i) o.length q c W (pairA_size _ _) (by omega) h
      rw [decide_eq_decide.2 mem_pairA] at this
      exact this
    have hFT : ∀ W, Gl W p D → Gl W p' F → Calls Tryz.prog 19 #[.agg #[.int .i64 ra, .slice p D.size cap], .int .i64 ((i / F.size : Nat) : Int), .agg #[.int .i64 rb, .slice p' F.size cap'], .int .i64 ((i % F.size : Nat) : Int)] W fun e w' => e = .returned (.bool (goodG D F i)) ∧ Below W.heap.size W w' := fun W G G' =>
      Fit19_in ra rb D F D.size F.size p p' cap cap' (i / F.size) (i % F.size) W rfl rfl G G' hia hib
    have hKA := fun W G => kids_new ra D p cap (i / F.size) hbD hia W G
    have hKB := fun W G => kids_new rb F p' cap' (i % F.size) hbF hib W G
    have hkl := fun (h : goodG D F i = true) => fit_len hbD hbF (i / F.size) (i % F.size) hia hib h
    have hpk := pk_len (M := F.size) (p := i) (ka := KN D) (kb := KN F)
    have hpa := fun t => pk_at (M := F.size) (p := i) (t := t) (ka := KN D) (kb := KN F)
    have hplt := pk_lt (KN_lt hbD) (KN_lt hbF)
    have hka := KN_lt hbD (i / F.size) hia
    have hkb := KN_lt hbF (i % F.size) hib
    obtain ⟨a, ha⟩ : ∃ a, i / F.size = a := ⟨_, rfl⟩
    obtain ⟨b, hb⟩ : ∃ b, i % F.size = b := ⟨_, rfl⟩
    have hvs := pairV_snoc F.size o i
    rw [ha, hb] at hIN hFT
    rw [ha] at hKA
    rw [hb] at hKB
    rw [ha, hb] at hkl hpk hpa hvs ⊢
    rw [ha] at hka
    rw [hb] at hkb
    obtain ⟨W, hW, hz, hbb, r0, r1, r2⟩ := at3r w (.cells #[.int .i64 ra, .slice p D.size cap] 24) (.cells #[.int .i64 rb, .slice p' F.size cap'] 24) (.cells #[.int .i64 (a : Int), .int .i64 (b : Int)] 39)
    have hW0 := hbw.size
    have HW := Lib.hid hW
    have HZ := Lib.hid hz
    have HR0 := Lib.hid (show _ ∧ _ ∧ _ from ⟨r0, r1, r2⟩)
    have HB0 := Lib.hid hbb
    have HPLW := Lib.hid (hpl.below hbb)
    have HOW := Lib.hid (ownP_below hown hbb)
    have HBW := Lib.hid (hbw.trans (hbb.mono hW0))
    have HGD := Lib.hid fun W (hb : Below w0.heap.size w0 W) => hgD.below hb
    have HGF := Lib.hid fun W (hb : Below w0.heap.size w0 W) => hgF.below hb
    have HI := Lib.hid hIH
    have HLTS := Lib.hid (show ∀ q', (Value.slice q o.length c).ownBlock = some q' → w0.heap.size ≤ q' ∧ q' < w.heap.size from fun q' h => own_lt hown q' h)
    have p0 := cell_of_row _ _ 0 _ _ _ r2
    have p1 := cell_of_row _ _ 1 _ _ _ r2
    have HOO := Lib.hid hown
    clear hW hz hbb r0 r1 r2 hpl hIH hown hgD hgF hbw
    by_cases hm : i ∈ o
    · have hv := visit_in (kids := pk F.size (KN D) (KN F)) (f := f + 1) hm
      rw [hv, upto_all hgo]
      have hIN2 := hIN W HPLW.out
      rw [decide_eq_true hm] at hIN2
      have HIN := Lib.hid hIN2
      obtain ⟨ol, hol2⟩ : ∃ n, o.length = n := ⟨_, rfl⟩
      have HOL := Lib.hid hol2
      rw [hol2] at HIN ⊢
      clear hIN hIN2 hm hv ho hol2 hol hf hgo hFT hKA hKB hkl hpk hpa hplt hka hkb hvs hNM hi hia hib HI HPLW
      go_enter Tryz.func28, Tryz.ntmps28
      go_upto_region 1 with fail
      rw [HW.out]
      go_wp2_with fail
      refine HIN.out.mono ?_
      rintro e w5 ⟨rfl, hb5⟩
      have HB5 := Lib.hid (HB0.out.trans (hb5.mono HB0.out.size))
      clear hb5 p0 p1
      go_wp2_with fail
      go_ret2
      refine ⟨.slice q ol c, rfl, ?_, grown_below HB5.out _, OwnNext.refl _ _⟩
      have := ownP_below HOO.out HB5.out
      rw [HOL.out] at this
      exact this
    · have hIN2 := hIN W HPLW.out
      rw [decide_eq_false hm] at hIN2
      have HIN := Lib.hid hIN2
      have hlo : (o ++ [i]).length = o.length + 1 := by simp
      have ho' := ho.snoc hi hm
      have hon : o.length ≤ 1000000 := by omega
      have hvn := visit_new (kids := pk F.size (KN D) (KN F)) (f := f) hm
      have hno := up_new (kids := pk F.size (KN D) (KN F)) (good := goodG D F) (f := f) hm hgo
      have hwent := fun js hj => visits_went hplt f js (o ++ [i]) hj ho' (by rw [hlo]; omega)
      have hpl := hplt i hi
      obtain ⟨on, hon2⟩ : ∃ n, o.length = n := ⟨_, rfl⟩
      have HLO := Lib.hid hlo
      have HON := Lib.hid hon2
      have HNO := Lib.hid hno
      have HVN := Lib.hid hvn
      have HWENT := Lib.hid hwent
      have HFT := Lib.hid hFT
      have HKA := Lib.hid hKA
      have HKB := Lib.hid hKB
      have HKL := Lib.hid hkl
      have HPK := Lib.hid hpk
      have HPA := Lib.hid hpa
      have HPLT := Lib.hid hpl
      have HKBL := Lib.hid hkb
      have HVS := Lib.hid hvs
      have HGO := Lib.hid hgo
      have hfo : D.size * F.size < f + (on + 1) := by omega
      have HFO := Lib.hid hfo
      rw [hon2] at HIN HLTS HOW hon HLO
      rw [hon2]
      clear hIN hIN2 hm ho hol hf hgo hFT hKA hKB hkl hpk hpa hplt hpl hka hkb hvs hi hia hib HPLW hlo ho' hvn hno hwent hfo hon2 hNM
      go_enter Tryz.func28, Tryz.ntmps28
      go_upto_region 1 with fail
      rw [HW.out]
      go_wp2_with fail
      refine HIN.out.mono ?_
      rintro e w5 ⟨rfl, hb5⟩
      have HR5 := Lib.hid (show _ ∧ _ ∧ _ from ⟨(hb5.block _ (Array.getElem?_eq_some_iff.1 HR0.out.1).1).trans HR0.out.1, (hb5.block _ (Array.getElem?_eq_some_iff.1 HR0.out.2.1).1).trans HR0.out.2.1, (hb5.block _ (Array.getElem?_eq_some_iff.1 HR0.out.2.2).1).trans HR0.out.2.2⟩)
      have HB5 := Lib.hid (HB0.out.trans (hb5.mono HB0.out.size))
      have HBW5 := Lib.hid (HBW.out.trans (hb5.mono HBW.out.size))
      have HOW5 := Lib.hid (ownP_below HOW.out hb5)
      have HZ5 := Lib.hid (show w.heap.size + 3 ≤ w5.heap.size by have := hb5.size; have := HZ.out; omega)
      clear hb5 p0 p1
      have p0 := cell_of_row _ _ 0 _ _ _ HR5.out.2.2
      have p1 := cell_of_row _ _ 1 _ _ _ HR5.out.2.2
      go_upto_region 4 with (first
        | (at_builtin
           refine wpList_append_lies _ rfl _ _ 27 rfl w0.heap.size 39 i0 (.agg #[.int .i64 0, .int .i64 0]) 2 16 Tryz.underlying27 hi0 hz0 hz1 hz2 rfl (by decide) _ _ _ rfl (HOW5.out.alloc _) ⟨w5.heap.size, 0, none⟩ 1 1 [.int .i64 (a : Int), .int .i64 (b : Int)] rfl rfl (World.news_of_block (heap_alloc_new w5 _)) (by intro u hu; simp at hu; rcases hu with rfl | rfl <;> rfl) (by decide) (by unfold maxLen; omega) (by omega) (by have := HBW5.out.size; simp; omega) _ rfl ?_
           intro g6 cap6 w6 hown6 hgr6 hor6 hlt6
           have HOW6 := Lib.hid hown6
           have HGR6 := Lib.hid hgr6
           have HOR6 := Lib.hid hor6
           have HLT6 := Lib.hid hlt6
           clear hown6 hgr6 hor6 hlt6))
      have hk6 : ∀ k, w.heap.size ≤ k → k < w5.heap.size → w6.heap[k]? = w5.heap[k]? := fun k h1 h2 => (HGR6.out.block k (by simp; omega) (fun e => by have := (HLTS.out _ e.symm).2; omega)).trans (Below.heap_alloc w5 _ k h2)
      have hz5 := HZ5.out
      have HR6 := Lib.hid (show _ ∧ _ ∧ _ from ⟨(hk6 _ (Nat.le_refl _) (by omega)).trans HR5.out.1, (hk6 _ (by omega) (by omega)).trans HR5.out.2.1, (hk6 _ (by omega) (by omega)).trans HR5.out.2.2⟩)
      have HBW6 := Lib.hid ((HBW5.out.alloc HBW5.out.size (.cells #[.int .i64 (a : Int), .int .i64 (b : Int)] 39)).grown HGR6.out (by have := HBW5.out.size; simp; omega) fun q' h => (HLTS.out q' h).1)
      have HGW6 := Lib.hid (grown_trans (grown_below (HB5.out.alloc HB5.out.size (.cells #[.int .i64 (a : Int), .int .i64 (b : Int)] 39)) (Value.slice q on c).ownBlock) HGR6.out (fun q' h => .inl h))
      have HG6 := Lib.hid (show (Value.slice q on c).ownBlock = some g6 ∨ w.heap.size ≤ g6 from by
        rcases HOR6.out with h | h
        · exact .inl h
        · refine .inr ?_; have := HB5.out.size; rw [h]; simp; omega)
      have HG6n := Lib.hid (show g6 < w.heap.size ∨ w.heap.size + 3 ≤ g6 from by
        rcases HOR6.out with h | h
        · exact .inl (HLTS.out _ h).2
        · right; rw [h]; simp; omega)
      have HZ6 := Lib.hid (show w5.heap.size ≤ w6.heap.size from by have := HGR6.out.size; simp at this; omega)
      clear hk6 p0 p1 hz5
      have p0 := cell_of_row _ _ 0 _ _ _ HR6.out.2.2
      have p1 := cell_of_row _ _ 1 _ _ _ HR6.out.2.2
      have g0 := cell_of_row _ _ 0 _ _ _ HR6.out.1
      have g1 := cell_of_row _ _ 1 _ _ _ HR6.out.1
      have h0 := cell_of_row _ _ 0 _ _ _ HR6.out.2.1
      have h1 := cell_of_row _ _ 1 _ _ _ HR6.out.2.1
      have hft := HFT.out w6 (HGD.out _ HBW6.out) (HGF.out _ HBW6.out)
      by_cases hg : goodG D F i = true
      · rw [hg] at hft
        have HF := Lib.hid hft
        have HG := Lib.hid hg
        clear hft hg
        go_wp2_with fail
        refine HF.out.mono ?_
        rintro e w7 ⟨rfl, hb7⟩
        have HR7 := Lib.hid (show _ ∧ _ ∧ _ from ⟨(hb7.block _ (Array.getElem?_eq_some_iff.1 HR6.out.1).1).trans HR6.out.1, (hb7.block _ (Array.getElem?_eq_some_iff.1 HR6.out.2.1).1).trans HR6.out.2.1, (hb7.block _ (Array.getElem?_eq_some_iff.1 HR6.out.2.2).1).trans HR6.out.2.2⟩)
        have HBW7 := Lib.hid (HBW6.out.trans (hb7.mono HBW6.out.size))
        have HGW7 := Lib.hid (grown_trans HGW6.out (grown_below hb7 none) (fun _ h => by cases h))
        have HOW7 := Lib.hid (ownP_below HOW6.out hb7)
        have HZ7 := Lib.hid hb7.size
        clear hb7 p0 p1 g0 g1 h0 h1
        have p0 := cell_of_row _ _ 0 _ _ _ HR7.out.2.2
        have p1 := cell_of_row _ _ 1 _ _ _ HR7.out.2.2
        have g0 := cell_of_row _ _ 0 _ _ _ HR7.out.1
        have g1 := cell_of_row _ _ 1 _ _ _ HR7.out.1
        have hlen := HKL.out HG.out
        have hpl := HPK.out hlen
        obtain ⟨K, hK⟩ : ∃ K, pk F.size (KN D) (KN F) i = K := ⟨_, rfl⟩
        obtain ⟨KA, hKa⟩ : ∃ K, KN D a = K := ⟨_, rfl⟩
        obtain ⟨KB, hKb⟩ : ∃ K, KN F b = K := ⟨_, rfl⟩
        have hka := fun W G => HKA.out W G
        have hkb := fun W G => HKB.out W G
        have hat := fun t => HPA.out t
        have hlb := HKBL.out
        have hlt := HPLT.out
        have hvn := HVN.out
        rw [hKa] at hka
        rw [hKb] at hkb hlb
        rw [hK] at hvn hlt
        rw [hKa, hKb] at hlen
        rw [hK, hKa] at hpl
        simp only [hK, hKa, hKb] at hat
        obtain ⟨nk, hnk⟩ : ∃ n, KA.length = n := ⟨_, rfl⟩
        rw [hnk] at hka hlen hpl
        rw [← hlen] at hkb
        have HKAA := Lib.hid hka
        have HKBB := Lib.hid hkb
        have HAT := Lib.hid (show ∀ t, t < nk → K[t]! = KA[t]! * F.size + KB[t]! ∧ KB[t]! < F.size from fun t ht => ⟨hat t (by omega) (by omega), hlb _ (by rw [getElem!_pos KB t (by omega)]; exact List.getElem_mem _)⟩)
        have HKL2 := Lib.hid hpl
        have HLT := Lib.hid hlt
        have HVK := Lib.hid hvn
        clear hka hkb hat hlb hlt hvn hlen hpl hK hKa hKb hnk
        go_wp2_with fail
        refine (HKAA.out w7 (HGD.out _ HBW7.out)).mono ?_
        rintro e w8 ⟨qa, ca, rfl, hca, hn6, hb8⟩
        have HR8 := Lib.hid (show _ ∧ _ ∧ _ from ⟨(hb8.block _ (Array.getElem?_eq_some_iff.1 HR7.out.1).1).trans HR7.out.1, (hb8.block _ (Array.getElem?_eq_some_iff.1 HR7.out.2.1).1).trans HR7.out.2.1, (hb8.block _ (Array.getElem?_eq_some_iff.1 HR7.out.2.2).1).trans HR7.out.2.2⟩)
        have HBW8 := Lib.hid (HBW7.out.trans (hb8.mono HBW7.out.size))
        have HGW8 := Lib.hid (grown_trans HGW7.out (grown_below hb8 none) (fun _ h => by cases h))
        have HOW8 := Lib.hid (ownP_below HOW7.out hb8)
        have HZ8 := Lib.hid hb8.size
        have HCA := Lib.hid hca
        clear hb8 p0 p1 g0 g1 hca
        have p0 := cell_of_row _ _ 0 _ _ _ HR8.out.2.2
        have p1 := cell_of_row _ _ 1 _ _ _ HR8.out.2.2
        have h0 := cell_of_row _ _ 0 _ _ _ HR8.out.2.1
        have h1 := cell_of_row _ _ 1 _ _ _ HR8.out.2.1
        go_wp2_with fail
        refine (HKBB.out w8 (HGF.out _ HBW8.out)).mono ?_
        rintro e w9 ⟨qb, cb, rfl, hcb, -, hb9⟩
        have HR9 := Lib.hid (show _ ∧ _ ∧ _ from ⟨(hb9.block _ (Array.getElem?_eq_some_iff.1 HR8.out.1).1).trans HR8.out.1, (hb9.block _ (Array.getElem?_eq_some_iff.1 HR8.out.2.1).1).trans HR8.out.2.1, (hb9.block _ (Array.getElem?_eq_some_iff.1 HR8.out.2.2).1).trans HR8.out.2.2⟩)
        have HBW9 := Lib.hid (HBW8.out.trans (hb9.mono HBW8.out.size))
        have HGW9 := Lib.hid (grown_trans HGW8.out (grown_below hb9 none) (fun _ h => by cases h))
        have HOW9 := Lib.hid (ownP_below HOW8.out hb9)
        have HZ9 := Lib.hid hb9.size
        have HCA9 := Lib.hid (show ∀ t, t < nk → ∃ g, qa = some ⟨g, 0, none⟩ ∧ w7.heap.size ≤ g ∧ g < w9.heap.size ∧ w9.cell? ⟨g, t, none⟩ = some (.int .i64 (KA[t]! : Int)) from fun t ht => by
          obtain ⟨g, e1, e2, e3, e4⟩ := HCA.out t ht
          exact ⟨g, e1, e2, by have := hb9.size; omega, (hb9.cell (p := ⟨g, t, none⟩) e3).trans e4⟩)
        have HCB9 := Lib.hid hcb
        clear hb9 p0 p1 h0 h1 hcb HCA
        go_wp2_with fail
        go_loopw [3, 14] (fun u j wr => ∃ t : Nat, t ≤ nk ∧ j = .int .i64 t ∧ Hid (∀ x ∈ visits (pk F.size (KN D) (KN F)) f (K.take t) (o ++ [i]), goodG D F x = true) ∧ wr.ownsRow w0.heap.size 39 2 u (visits (pk F.size (KN D) (KN F)) f (K.take t) (o ++ [i])).length (pairV F.size (visits (pk F.size (KN D) (KN F)) f (K.take t) (o ++ [i]))) ∧ w9.grownBy wr (some g6) ∧ OwnNext w9.heap.size (.slice (some ⟨g6, 0, none⟩) (on + 1) cap6) u) (fun _ j _ => nk - (intOf j).toNat)
        case atStart =>
          refine ⟨0, by omega, rfl, fun x hx => ?_, ?_, gB_refl _ _, OwnNext.refl _ _⟩
          · rcases List.mem_append.1 (show x ∈ o ++ [i] from hx) with h | h
            · exact HGO.out x h
            · rw [List.mem_singleton.1 h]; exact HG.out
          · have h := HOW9.out
            rw [← HVS.out] at h
            exact own_len h HLO.out.symm
        case round =>
          obtain ⟨t, ht, rfl, hgd, hown, hgr, hnx⟩ := hrel
          have hz9 : w6.heap.size ≤ w9.heap.size := by have := HZ7.out; have := HZ8.out; have := HZ9.out; omega
          have hz6 := HZ6.out
          have hz5 := HZ5.out
          have hg6n := HG6n.out
          have hkk : ∀ k, w.heap.size ≤ k → k < w.heap.size + 3 → wr.heap[k]? = w9.heap[k]? := fun k h1 h2 => hgr.block k (by omega) fun e => by
            have e : g6 = k := Option.some.inj e.symm
            omega
          have hrr0 := (hkk _ (Nat.le_refl _) (by omega)).trans HR9.out.1
          have hrr1 := (hkk _ (by omega) (by omega)).trans HR9.out.2.1
          have HGDt := Lib.hid hgd
          have HOWt := Lib.hid hown
          have HGRt := Lib.hid hgr
          have HNXt := Lib.hid hnx
          have HBt := Lib.hid (HBW9.out.trans (below_of_grown (b := g6) hgr (by
            rcases HOR6.out with h | h
            · exact (HLTS.out _ h).1
            · rw [h]; have := HBW5.out.size; simp; omega) HBW9.out.size))
          have HR0t := Lib.hid hrr0
          have HR1t := Lib.hid hrr1
          clear hgd hown hgr hnx hrr0 hrr1 hkk
          by_cases hlt : t < nk
          · have i1 : (t : Int) < (nk : Int) := by omega
            have htk : t < K.length := by rw [HKL2.out]; exact hlt
            have hst := visits_one (kids := pk F.size (KN D) (KN F)) (f := f) (o := o ++ [i]) htk
            have hup := up_stop (kids := pk F.size (KN D) (KN F)) (good := goodG D F) (f := f) (o := o ++ [i]) htk
            rw [← HVK.out] at hup
            have hy : K[t]! < D.size * F.size := HLT.out _ (by rw [getElem!_pos K t htk]; exact List.getElem_mem htk)
            have hw := (HWENT.out (K.take t) (fun j hj => HLT.out j (List.mem_of_mem_take hj))).1
            have hpl := hw.pre.length_le
            have hfw := hw.few
            rw [HLO.out] at hpl
            obtain ⟨ga, rfl, ha1, ha2, ha3⟩ := HCA9.out t hlt
            obtain ⟨gb, rfl, hb1, hb2, hb3⟩ := HCB9.out t hlt
            obtain ⟨hk1, hk2⟩ := HAT.out t hlt
            have hz7 := HZ7.out
            have hz8 := HZ8.out
            have hl6 := HLT6.out
            have x1 : wr.cell? ⟨ga, t, none⟩ = some (.int .i64 (KA[t]! : Int)) := (World.cell?_of_block (w := w9) (HGRt.out.block ga ha2 (fun e => by have e : g6 = ga := Option.some.inj e.symm; omega))).trans ha3
            have y1 : wr.cell? ⟨gb, t, none⟩ = some (.int .i64 (KB[t]! : Int)) := (World.cell?_of_block (w := w9) (HGRt.out.block gb hb2 (fun e => by have e : g6 = gb := Option.some.inj e.symm; omega))).trans hb3
            obtain ⟨y, hyy⟩ : ∃ y, K[t]! = y := ⟨_, rfl⟩
            obtain ⟨ya, hya⟩ : ∃ y, KA[t]! = y := ⟨_, rfl⟩
            obtain ⟨yb, hyb⟩ : ∃ y, KB[t]! = y := ⟨_, rfl⟩
            rw [hya] at x1 hk1
            rw [hyb] at y1 hk1 hk2
            rw [hyy] at hk1 hst hy hup
            have hd1 : y / F.size = ya := by rw [hk1]; exact pair_fst hk2
            have hd2 : y % F.size = yb := by rw [hk1]; exact pair_snd hk2
            obtain ⟨O, hO⟩ : ∃ O, visits (pk F.size (KN D) (KN F)) f (K.take t) (o ++ [i]) = O := ⟨_, rfl⟩
            have how := HOWt.out
            have hgd := HGDt.out
            have HOEQ := Lib.hid hO
            rw [hO] at hst hpl hfw how hgd hup
            have c0 := cell_of_row _ _ 0 _ _ _ HR0t.out
            have c1 := cell_of_row _ _ 1 _ _ _ HR0t.out
            have d0 := cell_of_row _ _ 0 _ _ _ HR1t.out
            have d1 := cell_of_row _ _ 1 _ _ _ HR1t.out
            have hs : S6x w.heap.size (.int .i64 ra) (.slice p D.size cap) (.int .i64 rb) (.slice p' F.size cap') ga gb t (ya : Int) (yb : Int) wr := ⟨c0, c1, d0, d1, x1, y1⟩
            have hcr : ∀ u, wr.ownsRow w0.heap.size 39 2 u O.length (pairV F.size O) → OwnNext w9.heap.size (.slice (some ⟨g6, 0, none⟩) (on + 1) cap6) u → ∀ W', W'.heap = wr.heap → W'.os = wr.os → W'.tape = wr.tape → W'.output = wr.output → Calls Tryz.prog 28 #[.agg #[.int .i64 ra, .slice p D.size cap], .agg #[.int .i64 rb, .slice p' F.size cap'], .agg #[.int .i64 (ya : Int), .int .i64 (yb : Int)], u] W' fun e W'' => ∃ v', e = .returned (.tuple #[v', .bool (upto (goodG D F) (visit (pk F.size (KN D) (KN F)) f y O)).2]) ∧ (W''.ownsRow w0.heap.size 39 2 v' (upto (goodG D F) (visit (pk F.size (KN D) (KN F)) f y O)).1.length (pairV F.size (upto (goodG D F) (visit (pk F.size (KN D) (KN F)) f y O)).1) ∧ wr.grownBy W'' u.ownBlock ∧ OwnNext wr.heap.size u v') ∧ Hid (S6x w.heap.size (.int .i64 ra) (.slice p D.size cap) (.int .i64 rb) (.slice p' F.size cap') ga gb t (ya : Int) (yb : Int) W'') := fun u hu hnx W' e1 e2 e3 e4 => by
              have hb : Below wr.heap.size wr W' := ⟨e2, e3, e4, by rw [e1]; exact Nat.le_refl _, fun k _ => by rw [e1]⟩
              have hc := HI.out y O u W' hy hfw (by have := HFO.out; omega) hgd (HBt.out.trans (hb.mono HBt.out.size)) (ownP_below hu hb)
              rw [hd1, hd2] at hc
              exact hc.mono fun e W'' ⟨v', h1, h2, h3, h4⟩ =>
                have hg := grown_trans (grown_below hb _) h3 fun _ h => .inl h
                ⟨v', h1, ⟨h2, hg, fun q' hq => (h4 q' hq).imp id fun h => Nat.le_trans hb.size h⟩, Lib.hid (s6x_grown hs hg fun q' hq => by
                  rcases hnx q' hq with h | h
                  · obtain rfl : g6 = q' := Option.some.inj h
                    omega
                  · omega)⟩
            have hcr := hcr _ how HNXt.out wr.drew rfl rfl rfl rfl
            obtain ⟨⟨R1, r2⟩, hR⟩ : ∃ R, upto (goodG D F) (visit (pk F.size (KN D) (KN F)) f y O) = R := ⟨_, rfl⟩
            have hyes := upto_yes (good := goodG D F) (l := visit (pk F.size (KN D) (KN F)) f y O)
            have hyes1 := upto_yes1 (good := goodG D F) (l := visit (pk F.size (KN D) (KN F)) f y O)
            rw [hR] at hcr hup hyes hyes1
            simp only at hcr hup hyes hyes1
            have HNXU := Lib.hid HNXt.out
            have HST := Lib.hid hst
            have HUP := Lib.hid hup
            have HYES := Lib.hid hyes
            have HYES1 := Lib.hid hyes1
            have HS := Lib.hid hs
            have HCN := Lib.hid hcr
            clear c0 c1 d0 d1 x1 y1 hs hcr how hgd hst hup hyes hyes1 hy hw hpl hfw hk1 hk2 hd1 hd2 hyy hya hyb hO htk ha1 ha2 ha3 hb1 hb2 hb3 hR hz7 hz8 hl6 hz9 hz6 hz5 hg6n
            go_upto_region 11 with fail
            go_region_held3 (S6x w.heap.size (.int .i64 ra) (.slice p D.size cap) (.int .i64 rb) (.slice p' F.size cap') ga gb t (ya : Int) (yb : Int)) (first | exact Hid.out (by assumption)) (first
              | ((with_reducible refine (HCN.out).mono ?_); rintro e wq ⟨v8, rfl, ⟨hown8, hgr8, hnx8⟩, hsq⟩))
            all_goals
              have HOW8 := Lib.hid hown8
              have HGR8 := Lib.hid hgr8
              have HNX8 := Lib.hid hnx8
              clear hown8 hgr8 hnx8
              cases r2 with
              | false =>
                go_wp2_with fail
                go_ret2
                rw [HUP.out True.intro]
                refine ⟨v8, rfl, HOW8.out, grown_trans HGW9.out (grown_trans HGRt.out HGR8.out fun q' h => ?_) fun q' h => ?_, ?_⟩
                · rcases HNXU.out q' h with h | h
                  · exact .inl h
                  · exact .inr h
                · obtain rfl : g6 = q' := Option.some.inj h
                  exact HG6.out
                · refine OwnNext.trans (b := w.heap.size) (v := .slice (some ⟨g6, 0, none⟩) (on + 1) cap6) (fun q' h => ?_) (HNXU.out.trans HNX8.out HGRt.out.size) (by have := HZ5.out; have := HZ6.out; have := HZ7.out; have := HZ8.out; have := HZ9.out; omega)
                  obtain rfl : g6 = q' := Option.some.inj h
                  exact HG6.out
              | true =>
                have h1 := HYES1.out rfl
                have h2 := HYES.out.1 rfl
                have hr1 : R1 = visit (pk F.size (KN D) (KN F)) f y (visits (pk F.size (KN D) (KN F)) f (K.take t) (o ++ [i])) := by rw [HOEQ.out]; exact congrArg Prod.fst h1
                rw [← HST.out] at h2
                rw [HOEQ.out, ← HST.out] at hr1
                have H2 := Lib.hid h2
                have HR1 := Lib.hid hr1
                clear h1 h2 hr1
                go_wp2_with fail
                go_roundw
                case rel =>
                  refine ⟨t + 1, by omega, by go_num, H2.out, ?_, ?_, ?_⟩
                  · rw [← HR1.out]; exact HOW8.out
                  · exact grown_trans HGRt.out HGR8.out fun q' h => by
                      rcases HNXU.out q' h with h | h
                      · exact .inl h
                      · exact .inr h
                  · exact HNXU.out.trans HNX8.out HGRt.out.size
                case measure => simp [intOf]; omega
          · have i1 : ¬ (t : Int) < (nk : Int) := by omega
            obtain rfl : t = nk := by omega
            have hall : K.take t = K := List.take_of_length_le (by rw [HKL2.out]; exact Nat.le_refl _)
            have how := HOWt.out
            have hgd := HGDt.out
            rw [hall, ← HVK.out] at how hgd
            have HOWf := Lib.hid how
            have HUF := Lib.hid (upto_all hgd)
            clear how hall hgd hz9 hz6 hz5 hg6n
            go_wp2_with fail
            go_ret2
            rw [HUF.out]
            refine ⟨_, rfl, HOWf.out, grown_trans HGW9.out HGRt.out fun q' h => ?_, OwnNext.trans (b := w.heap.size) (v := .slice (some ⟨g6, 0, none⟩) (on + 1) cap6) (fun q' h => ?_) HNXt.out (by have := HZ5.out; have := HZ6.out; have := HZ7.out; have := HZ8.out; have := HZ9.out; omega)⟩
            · obtain rfl : g6 = q' := Option.some.inj h
              exact HG6.out
            · obtain rfl : g6 = q' := Option.some.inj h
              exact HG6.out
      · rw [Bool.not_eq_true] at hg
        rw [hg] at hft
        have HF := Lib.hid hft
        have HG := Lib.hid hg
        clear hft hg
        go_wp2_with fail
        refine HF.out.mono ?_
        rintro e w7 ⟨rfl, hb7⟩
        have HGW7 := Lib.hid (grown_trans HGW6.out (grown_below hb7 none) (fun _ h => by cases h))
        have HOW7 := Lib.hid (ownP_below HOW6.out hb7)
        clear hb7 p0 p1 g0 g1 h0 h1
        go_wp2_with fail
        go_ret2
        rw [HNO.out HG.out]
        refine ⟨_, rfl, ?_, HGW7.out, fun q' h => ?_⟩
        · have h := HOW7.out
          rw [← HVS.out] at h
          exact own_len h HLO.out.symm
        · obtain rfl : g6 = q' := Option.some.inj h
          exact HG6.out
end Go.Proofs.YtepelpmkmhhokaaGreatDoor
