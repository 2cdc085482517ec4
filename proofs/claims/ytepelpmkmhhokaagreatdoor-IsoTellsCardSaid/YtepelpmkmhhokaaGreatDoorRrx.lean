/- The reference's signs of a text are those that the text's decoder finds, in their order, or an error where it finds none. Conditions: the text is not too long. The reference tells whether a text is right, and which scalars are. Conditions: the text is not too long. The reference tells whether a node is right. Conditions: the node lies. The reference tells what is wrong with a graph, and where. Conditions: the graph lies. -/
import Derived.Test.YtepelpmkmhhokaaGreatDoorRsx
import Derived.Deep.DrawnRows
import Derived.Test.YtepelpmkmhhokaaGreatDoorRgx
import Derived.Test.YtepelpmkmhhokaaGreatDoorLmx
import Derived.Deep.RegionHeld3
set_option maxRecDepth 100000
namespace Go.Proofs.YtepelpmkmhhokaaGreatDoor
open Go.RowKit
open Pl On
theorem owns_below {B : Nat} {e : TypeId} {k : Nat} {v : Value} {n : Nat} {xs : List Value} {w w' : World} (h : w.ownsRow B e k v n xs) (hb : Below w.heap.size w w') : w'.ownsRow B e k v n xs :=
  h.kept (row := none) ⟨hb.os, hb.tape, hb.output, hb.size, fun k hk _ => hb.block k hk⟩ (by cases v.ownBlock <;> simp)
theorem owns_lt {B : Nat} {e : TypeId} {k : Nat} {v : Value} {n : Nat} {xs : List Value} {w : World} (h : w.ownsRow B e k v n xs) : ∀ q, v.ownBlock = some q → B ≤ q := fun q hq => (h.lt q hq).1
theorem news_one (w : World) (u : Value) (t : TypeId) : ∀ j v, [u][j]? = some v → (w.alloc (.cells #[u] t)).cell? ((⟨w.heap.size, 0, none⟩ : Addr).add j) = some v := by
  intro j v hj
  rw [Addr.add_mid, cell_of_row _ _ _ _ _ _ (heap_alloc_new w _), Nat.zero_add]
  simpa using hj
theorem info3i : (Tryz.prog.info? 3).map (fun i => (i.zero, i.size, i.bytes)) = some (some (.int .i64 0), 1, 8) := by kernel_rfl
def intsR (l : List Int) : List Value := l.map (Value.int .i64)
theorem intsR_snoc (rs : List Int) (k : Nat) (r : Int) (t : List Int) (h : rs.drop k = r :: t) : intsR (rs.take (k + 1)) = intsR (rs.take k) ++ [.int .i64 r] := by
  have hk : k < rs.length := by
    have := congrArg List.length h
    rw [List.length_drop, List.length_cons] at this
    omega
  have e : rs[k] = r := by
    have := congrArg (fun l : List Int => l[0]?) h
    simp only [List.getElem?_drop, Nat.add_zero, List.getElem?_cons_zero, List.getElem?_eq_getElem hk] at this
    exact Option.some.inj this
  unfold intsR
  rw [List.take_succ_eq_append_getElem hk, List.map_append, e]
  rfl
/-- what the reference's signs are -/
def SignsP (l : List UInt8) (w : World) (e : Ending) (w' : World) : Prop :=
  (Go.Lib.validD l = true → ∃ v, e = .returned (.tuple #[v, .int .i64 0]) ∧ w'.ownsRow w.heap.size 3 1 v (runesOf l).length (intsR (runesOf l))) ∧
  (Go.Lib.validD l = false → e = .returned (.tuple #[.slice none 0 0, .int .i64 40])) ∧ Below w.heap.size w w'
set_option maxRecDepth 100000 in
set_option maxHeartbeats 4000000 in
theorem Signs_any (s : ByteArray) (hs : s.size ≤ 1099511627776) (w : World) : Calls Tryz.prog 90 #[.string s] w (SignsP s.data.toList w) := by
  obtain ⟨i0, hi, hz0, hz1, hz2⟩ := info_parts info3i
  obtain ⟨l, hl⟩ : ∃ l, s.data.toList = l := ⟨_, rfl⟩
  have hlen : l.length = s.size := by rw [← hl, len_list]
  have hone := fun a h w => One_any s hs a h w
  rw [hl] at hone ⊢
  obtain ⟨rs, hrs⟩ : ∃ rs, runesOf l = rs := ⟨_, rfl⟩
  have HRS := Lib.hid hrs
  have HLN := Lib.hid hlen
  have HONE := Lib.hid hone
  clear hone hlen hl hrs
  go_enter Tryz.func90, Tryz.ntmps90
  go_wp2_with fail
  go_loopw [4, 5] (fun v i wr => ∃ p k : Nat, p ≤ s.size ∧ k ≤ p ∧ k ≤ rs.length ∧ i = .int .i64 p ∧ runesOf (l.drop p) = rs.drop k ∧ Go.Lib.validD (l.drop p) = Go.Lib.validD l ∧ wr.ownsRow w.heap.size 3 1 v k (intsR (rs.take k)) ∧ Below w.heap.size w wr) (fun _ i _ => s.size - (intOf i).toNat)
  case atStart => exact ⟨0, 0, Nat.zero_le _, Nat.le_refl _, Nat.zero_le _, rfl, HRS.out, rfl, World.ownsRow_nil _ _ _ _, Below.refl _ _⟩
  case round =>
    obtain ⟨p, k, hp, hkp, hkr, rfl, hdr, hvd, hown, hbr⟩ := hrel
    have HDR := Lib.hid hdr
    have HVD := Lib.hid hvd
    have HOW := Lib.hid hown
    have HBR := Lib.hid hbr
    clear hdr hvd hown hbr
    by_cases hlt : p < s.size
    · have h1 := HONE.out p hlt wr
      have hne : l.drop p ≠ [] := by
        intro h
        have := congrArg List.length h
        rw [List.length_drop, HLN.out, List.length_nil] at this
        omega
      have hv1 := valid_one _ hne
      have hpi : (p : Int) < (s.size : Int) := by omega
      by_cases ho : oneP (l.drop p)
      · have hr1 := runes_one _ hne ho
        have hkk := kN_pos (byN (l.drop p) 0)
        have hko : kN (byN (l.drop p) 0) ≤ s.size - p := by have h := ho.1; rw [List.length_drop, HLN.out] at h; exact h
        rw [if_pos ho] at hv1
        unfold oneR at h1
        rw [if_pos ho] at h1
        have hm := numN_lt (l.drop p) (kN (byN (l.drop p) 0))
        rw [List.drop_drop] at hv1 hr1
        obtain ⟨K, hK⟩ : ∃ K, kN (byN (l.drop p) 0) = K := ⟨_, rfl⟩
        rw [hK] at hv1 hr1 h1 hkk hko hm
        obtain ⟨m, hmm⟩ : ∃ m, numN (l.drop p) K = m := ⟨_, rfl⟩
        rw [hmm] at hr1 h1 hm
        rw [HVD.out] at hv1
        rw [HDR.out] at hr1
        have hk1 : k < rs.length := by
          have := congrArg List.length hr1
          rw [List.length_drop, List.length_cons] at this
          omega
        have HS := Lib.hid (intsR_snoc rs k _ _ hr1)
        have hd2 : runesOf (l.drop (p + K)) = rs.drop (k + 1) := by
          have := congrArg List.tail hr1
          rw [List.tail_drop, List.tail_cons] at this
          exact this.symm
        have HD2 := Lib.hid hd2
        have HV2 := Lib.hid hv1.symm
        have H1 := Lib.hid h1
        have kne : ((K : Int) == 0) = false := beq_eq_false_iff_ne.2 (by omega)
        clear h1 hd2 hv1 hr1 hK hmm ho hne
        go_wp2_with fail
        refine H1.out.mono ?_
        rintro e w1 ⟨rfl, hb1⟩
        have HB1 := Lib.hid (HBR.out.trans (hb1.mono HBR.out.size))
        have HO1 := Lib.hid (owns_below HOW.out hb1)
        clear hb1
        go_wp2_with (at_builtin; refine wpList_append_lies _ rfl _ _ 41 rfl w.heap.size 3 i0 (.int .i64 0) 1 8 Tryz.underlying41 hi hz0 hz1 hz2 rfl (by decide) u4 k (intsR (rs.take k)) rfl (HO1.out.alloc _) ⟨w1.heap.size, 0, none⟩ 1 1 [.int .i64 (m : Int)] rfl rfl (news_one w1 (.int .i64 (m : Int)) 3) (by intro u hu; simp at hu; subst hu; rfl) (by decide) (by unfold maxLen; omega) (by omega) (by have := HB1.out.size; simp; omega) _ rfl ?_; intro g cap w2 hown2 hgrow2 hor hlt2; rw [← HS.out] at hown2; have HOW2 := Lib.hid hown2; have HGR2 := Lib.hid hgrow2; clear hown2 hgrow2 hor hlt2)
        go_roundw
        case rel =>
          exact ⟨p + K, k + 1, by omega, by omega, by omega, by go_num, HD2.out, HV2.out, HOW2.out, (HB1.out.alloc HB1.out.size _).grown HGR2.out (by have := HB1.out.size; simp; omega) (fun q hq => owns_lt HO1.out q hq)⟩
        case measure => simp [intOf]; omega
      · rw [if_neg ho] at hv1
        unfold oneR at h1
        rw [if_neg ho] at h1
        have hbad : Go.Lib.validD l = false := by rw [← HVD.out]; exact hv1
        have HBAD := Lib.hid hbad
        have H1 := Lib.hid h1
        clear h1 hv1 ho hne hbad
        go_wp2_with fail
        refine H1.out.mono ?_
        rintro e w1 ⟨rfl, hb1⟩
        have HB1 := Lib.hid (HBR.out.trans (hb1.mono HBR.out.size))
        clear hb1
        go_wp2_with fail
        go_ret2
        exact ⟨fun h => by rw [HBAD.out] at h; (cases h), fun _ => rfl, HB1.out⟩
    · have hpe : p = s.size := by omega
      have hpi : ¬ (p : Int) < (s.size : Int) := by omega
      have hdn : l.drop p = [] := List.drop_eq_nil_of_le (by rw [HLN.out]; omega)
      have hvt : Go.Lib.validD l = true := by rw [← HVD.out, hdn]; rfl
      have hkl : k = rs.length := by
        have h := HDR.out
        rw [hdn, runesOf_nil] at h
        have := congrArg List.length h
        rw [List.length_drop, List.length_nil] at this
        omega
      have HVT := Lib.hid hvt
      have HKL := Lib.hid hkl
      clear hdn hvt hkl hpe
      go_wp2_with fail
      go_ret2
      refine ⟨fun _ => ⟨u4, rfl, ?_⟩, fun h => by rw [HVT.out] at h; (cases h), HBR.out⟩
      have h := HOW.out
      rw [HKL.out, List.take_length] at h
      rw [HRS.out]
      exact h
end Go.Proofs.YtepelpmkmhhokaaGreatDoor

set_option maxRecDepth 100000
namespace Go.Proofs.YtepelpmkmhhokaaGreatDoor
open Go.RowKit Go.Shelf
open Pl On
open Scs
theorem right4_any (s : ByteArray) (hs : s.size ≤ 1099511627776) (w : World) : Calls Tryz.prog 79 #[.string s] w fun e w' => e = .returned (.bool (Go.Lib.validD s.data.toList)) ∧ Below w.heap.size w w' := by
  have h1 := Signs_any s hs w
  have H1 := Lib.hid h1
  cases hv : Go.Lib.validD s.data.toList
  · have HV := Lib.hid hv
    clear h1 hv
    go_enter Tryz.func79, Tryz.ntmps79
    go_wp2_with fail
    refine H1.out.mono ?_
    rintro e w1 ⟨_, h2, hb1⟩
    obtain rfl := h2 HV.out
    have HB1 := Lib.hid hb1
    clear h2 hb1
    go_wp2_with fail
    go_ret
    exact ⟨rfl, HB1.out⟩
  · have HV := Lib.hid hv
    clear h1 hv
    go_enter Tryz.func79, Tryz.ntmps79
    go_wp2_with fail
    refine H1.out.mono ?_
    rintro e w1 ⟨h2, _, hb1⟩
    obtain ⟨v, rfl, _⟩ := h2 HV.out
    have HB1 := Lib.hid hb1
    clear h2 hb1
    go_wp2_with fail
    go_ret
    exact ⟨rfl, HB1.out⟩
set_option maxRecDepth 100000 in
set_option maxHeartbeats 4000000 in
theorem Right5_any (k n : Int) (s : ByteArray) (hs : s.size ≤ 1099511627776) (w : World) :
    Calls Tryz.prog 67 #[.agg #[.int .i64 k, .int .i64 n, .string s]] w fun e w' => e = .returned (.bool (rightR k n s.data.toList)) ∧ Below w.heap.size w w' := by
  by_cases h0 : n = 0
  all_goals
    try subst h0
    first
      | have hR := right4_any s hs (w.alloc (.cells #[.int .i64 k, .int .i64 0, .string s] 48))
      | skip
    have HR := Lib.hid hR
    obtain ⟨l, hl⟩ : ∃ l, s.data.toList = l := ⟨_, rfl⟩
    have hle : s.toList.isEmpty = l.isEmpty := by rw [ByteArray.toList_eq, hl]
    rw [hl] at HR ⊢
    clear hR hl
    go_enter Tryz.func67, Tryz.ntmps67
    go_wp2_with (go_at_call 79; refine HR.out.mono ?_; rintro e w1 ⟨rfl, hb1⟩; have HB1 := Lib.hid hb1; clear hb1)
    all_goals
      go_ret
      first
        | (refine ⟨ret_bool ?_, (Below.refl _ _).alloc (Nat.le_refl _) _⟩; unfold rightR; simp [*]; done)
        | (refine ⟨ret_bool ?_, (Below.refl _ _).alloc (Nat.le_refl _) _⟩; unfold rightR; simp [*]; omega)
        | (refine ⟨ret_bool ?_, ((Below.refl _ w).alloc (Nat.le_refl _) _).trans (HB1.out.mono (by simp))⟩; unfold rightR; simp [*]; done)

end Go.Proofs.YtepelpmkmhhokaaGreatDoor

set_option maxRecDepth 100000
namespace Go.Proofs.YtepelpmkmhhokaaGreatDoor
open Go.RowKit Go.Shelf
open Scs
theorem right_keys {f : Fn} {n : Int} (h : rightF f n = true) : ∀ x ∈ f.keys.toList, rightS x = true := by
  intro x hx
  have hp := List.length_pos_of_mem hx
  rw [Array.length_toList] at hp
  rcases right_kind h with hk | hk | hk
  · have := (right_one h hk).1; omega
  · have := (right_seq h hk).1; omega
  · unfold rightF at h
    rw [hk] at h
    have h2 : mapB f n = true := by simpa using h
    have hkb : keysB f = true := by
      unfold mapB at h2
      simp only [List.all_cons, List.all_nil, id, Bool.and_eq_true, Bool.and_true] at h2
      exact h2.2.2.1
    unfold keysB at hkb
    cases ha : (f.keys.toList.any fun x => !rightS x)
    · rw [List.any_eq_false] at ha
      have := ha x hx
      simpa using this
    · rw [ha, if_pos rfl] at hkb
      cases hkb
/-- what the reference asks of a node whose kids are places, and whose keys are scalars -/
def refB (k : Int) (x : Sc) (nk nd : Nat) (ks : Array Sc) : Bool :=
  if k = 0 then (if rightS x = true then (if nk = 0 then decide (nd = 0) else false) else false)
  else if k = 1 then (if x = nullS then decide (nk = 0) else false)
  else if k = 2 then (if x = nullS then (if nk = nd then !twiceB ks.toList else false) else false) else false
theorem refB_eq {f : Fn} {n : Int} (hd : ∀ j, j < f.kids.size → plB f.kids[j]! n = true) (hk : ∀ j, j < f.keys.size → rightS f.keys[j]! = true) : rightF f n = refB f.k f.x f.keys.size f.kids.size f.keys := by
  have h1 : nodesB f n = true := by
    rw [nodesB_iff]
    intro z hz
    obtain ⟨j, hj, rfl⟩ := List.getElem_of_mem hz
    rw [Array.length_toList] at hj
    have := plB_iff.1 (hd j hj)
    rw [getElem!_pos f.kids j hj] at this
    simpa using this
  have h2 : (f.keys.toList.any fun x => !rightS x) = false := by
    rw [List.any_eq_false]
    intro z hz
    obtain ⟨j, hj, rfl⟩ := List.getElem_of_mem hz
    rw [Array.length_toList] at hj
    have := hk j hj
    rw [getElem!_pos f.keys j hj] at this
    simpa using this
  have h3 : keysB f = !twiceB f.keys.toList := by unfold keysB; rw [h2, if_neg (by decide)]
  unfold rightF refB
  by_cases k0 : f.k = 0
  · rw [if_pos k0, if_pos k0]
    unfold oneB
    cases rightS f.x <;> simp
  · rw [if_neg k0, if_neg k0]
    by_cases k1 : f.k = 1
    · rw [if_pos k1, if_pos k1]
      unfold seqB
      rw [h1]
      by_cases e : f.x = nullS <;> simp [e]
    · rw [if_neg k1, if_neg k1]
      by_cases k2 : f.k = 2
      · rw [if_pos k2, if_pos k2]
        unfold mapB
        rw [h1, h3, if_pos k2]
        by_cases e : f.x = nullS <;> by_cases e2 : f.keys.size = f.kids.size <;> simp [e, e2]
      · rw [if_neg k2, if_neg k2]
theorem bad_kid {f : Fn} {n : Int} (j : Nat) (hj : j < f.kids.size) (hp : plB f.kids[j]! n = false) : rightF f n = false := by
  cases h : rightF f n
  · rfl
  · have h1 := right_kids h f.kids[j]! (by rw [getElem!_pos f.kids j hj]; exact Array.getElem_mem_toList hj)
    rw [plB_iff.2 h1] at hp
    cases hp
theorem bad_key {f : Fn} {n : Int} (j : Nat) (hj : j < f.keys.size) (hp : rightS f.keys[j]! = false) : rightF f n = false := by
  cases h : rightF f n
  · rfl
  · have h1 := right_keys h f.keys[j]! (by rw [getElem!_pos f.keys j hj]; exact Array.getElem_mem_toList hj)
    rw [h1] at hp
    cases hp
set_option maxHeartbeats 8000000 in
theorem right28_in (k : Int) (x : Sc) (pk : Option Addr) (nk ck : Nat) (pd : Option Addr) (nd cd : Nat) (ks : Array Sc) (ds : Array Int) (n : Int) (R : Bool) (w : World)
    (hnk : ks.size = nk) (hnd : ds.size = nd) (hs : Sl w pk ks) (hd : Il w pd ds) (hx : x.2.2.size ≤ 1000000)
    (h1 : ∀ j, j < nd → plB ds[j]! n = false → R = false) (h2 : ∀ j, j < nk → rightS ks[j]! = false → R = false)
    (h3 : (∀ j, j < nd → plB ds[j]! n = true) → (∀ j, j < nk → rightS ks[j]! = true) → R = refB k x nk nd ks) :
    Calls Tryz.prog 47 #[.agg #[.int .i64 k, .int .i64 x.1, .int .i64 x.2.1, .string x.2.2, .slice pk nk ck, .slice pd nd cd], .int .i64 n] w fun e w' => e = .returned (.bool R) ∧ Below w.heap.size w w' := by
  obtain ⟨W, hW⟩ : ∃ W, (w.alloc (.cells #[.int .i64 k, .int .i64 x.1, .int .i64 x.2.1, .string x.2.2, .slice pk nk ck, .slice pd nd cd] 51)) = W := ⟨_, rfl⟩
  have hr0 : W.heap[w.heap.size]? = some (.cells #[.int .i64 k, .int .i64 x.1, .int .i64 x.2.1, .string x.2.2, .slice pk nk ck, .slice pd nd cd] 51 (0, 0)) := by rw [← hW]; exact heap_alloc_new w _
  have hb0 : Below w.heap.size w W := by rw [← hW]; exact (Below.refl _ w).alloc (Nat.le_refl _) _
  have hlt0 : w.heap.size < W.heap.size := (Array.getElem?_eq_some_iff.1 hr0).1
  have hsmk := hs.small
  have hsmd := hd.small
  rw [hnk] at hsmk
  rw [hnd] at hsmd
  have HS := Lib.hid (hs.below hb0)
  have HD := Lib.hid (hd.below hb0)
  have HNK := Lib.hid hnk
  have HND := Lib.hid hnd
  have H1 := Lib.hid h1
  have H2 := Lib.hid h2
  have H3 := Lib.hid h3
  have HW := Lib.hid hW
  have HR0 := Lib.hid hr0
  have HB0 := Lib.hid hb0
  have HLT0 := Lib.hid hlt0
  have HX := Lib.hid hx
  clear hs hd hnk hnd h1 h2 h3 hW hr0 hb0 hlt0 hx
  go_enter Tryz.func47, Tryz.ntmps47
  go_wp2_with fail
  rw [HW.out]
  go_loopw [5] (fun i wr => ∃ t : Nat, t ≤ nd ∧ i = .int .i64 t ∧ (∀ j, j < t → plB ds[j]! n = true) ∧ Below W.heap.size W wr) (fun i _ => nd - (intOf i).toNat)
  case atStart => exact ⟨0, by omega, rfl, fun j hj => absurd hj (Nat.not_lt_zero _), Below.refl _ _⟩
  case round =>
    obtain ⟨t, ht, rfl, hag, hbw⟩ := hrel
    have hr := (hbw.block _ HLT0.out).trans HR0.out
    have q5 := cell_of_row _ _ 5 _ _ _ hr
    have HAG := Lib.hid hag
    have HBW := Lib.hid hbw
    have HR := Lib.hid hr
    clear hag hbw hr
    by_cases hlt : t < nd
    · have i1 : (t : Int) < (nd : Int) := by omega
      obtain ⟨b1, o1, rfl, hb1, hc1⟩ := HD.out.at t (by rw [HND.out]; exact hlt)
      have x1 := (HBW.out.cell (p := ⟨b1, o1 + t, none⟩) hb1).trans hc1
      obtain ⟨u, hu⟩ : ∃ u, ds[t]! = u := ⟨_, rfl⟩
      rw [hu] at x1
      have HU := Lib.hid hu
      clear hc1 hu
      by_cases h0 : u < 0
      · have hRf : R = false := H1.out t hlt (by
          cases hp : plB ds[t]! n
          · rfl
          · have := (plB_iff.1 hp).1; rw [HU.out] at this; omega)
        have HRF := Lib.hid hRf
        clear hRf
        go_wp2_with fail
        go_ret
        exact ⟨by rw [HRF.out]; rfl, HB0.out.trans (HBW.out.mono HB0.out.size)⟩
      · by_cases h9 : u < n
        · have g1 : ¬ n ≤ u := by omega
          have hpl : plB ds[t]! n = true := plB_iff.2 (by rw [HU.out]; omega)
          have HPL := Lib.hid hpl
          clear hpl
          go_wp2_with fail
          go_roundw
          case rel =>
            refine ⟨t + 1, by omega, by go_num, fun j hj => ?_, HBW.out⟩
            rcases Nat.lt_or_ge j t with h | h
            · exact HAG.out j h
            · obtain rfl : j = t := by omega
              exact HPL.out
          case measure => simp [intOf]; omega
        · have g1 : n ≤ u := by omega
          have hRf : R = false := H1.out t hlt (by
            cases hp : plB ds[t]! n
            · rfl
            · have := (plB_iff.1 hp).2; rw [HU.out] at this; omega)
          have HRF := Lib.hid hRf
          clear hRf
          go_wp2_with fail
          go_ret
          exact ⟨by rw [HRF.out]; rfl, HB0.out.trans (HBW.out.mono HB0.out.size)⟩
    · have i1 : ¬ (t : Int) < (nd : Int) := by omega
      have hall : ∀ j, j < nd → plB ds[j]! n = true := fun j hj => HAG.out j (by omega)
      have HALL := Lib.hid hall
      clear hall
      go_wp2_with fail
      obtain ⟨wo, rfl⟩ : ∃ W, W = wr := ⟨wr, rfl⟩
      go_loopw [6] (fun i wq => ∃ t : Nat, t ≤ nk ∧ i = .int .i64 t ∧ (∀ j, j < t → rightS ks[j]! = true) ∧ Below W.heap.size W wq) (fun i _ => nk - (intOf i).toNat)
      case atStart => exact ⟨0, by omega, rfl, fun j hj => absurd hj (Nat.not_lt_zero _), HBW.out⟩
      case round =>
        obtain ⟨s, hsn, rfl, hag, hbw⟩ := hrel
        clear q5
        have hr := (hbw.block _ HLT0.out).trans HR0.out
        have q4 := cell_of_row _ _ 4 _ _ _ hr
        have HAG2 := Lib.hid hag
        have HBW2 := Lib.hid hbw
        have HR2 := Lib.hid hr
        clear hag hbw hr
        by_cases hls : s < nk
        · have i2 : (s : Int) < (nk : Int) := by omega
          have hls2 : s < ks.size := by rw [HNK.out]; exact hls
          obtain ⟨b1, o1, rfl, hb1, hc0, hc1, hc2⟩ := HS.out.at s hls2
          have hsh := HS.out.short s hls2
          have x0 := (HBW2.out.cell (p := ⟨b1, o1 + s * 3, none⟩) hb1).trans hc0
          have x1 := (HBW2.out.cell (p := ⟨b1, o1 + s * 3 + 1, none⟩) hb1).trans hc1
          have x2 := (HBW2.out.cell (p := ⟨b1, o1 + s * 3 + 2, none⟩) hb1).trans hc2
          obtain ⟨u, hu⟩ : ∃ u, ks[s]! = u := ⟨_, rfl⟩
          rw [hu] at x0 x1 x2 hsh
          have hC := fun w => Right5_any u.1 u.2.1 u.2.2 (by omega) w
          have hru : rightS ks[s]! = rightR u.1 u.2.1 u.2.2.data.toList := by rw [hu]; rfl
          cases hrr : rightR u.1 u.2.1 u.2.2.data.toList
          · rw [hrr] at hC hru
            have HC := Lib.hid hC
            have HRF := Lib.hid (H2.out s hls hru)
            clear hc0 hc1 hc2 hu hC hru hsh hrr hls2
            go_wp2_with fail
            refine (HC.out _).mono ?_
            rintro e w5 ⟨rfl, hb5⟩
            have HB5 := Lib.hid (HBW2.out.trans (hb5.mono HBW2.out.size))
            clear hb5 x0 x1 x2 q4
            go_wp2_with fail
            go_ret
            exact ⟨by rw [HRF.out]; rfl, HB0.out.trans (HB5.out.mono HB0.out.size)⟩
          · rw [hrr] at hC hru
            have HC := Lib.hid hC
            have HRU := Lib.hid hru
            clear hc0 hc1 hc2 hu hC hru hsh hrr hls2
            go_wp2_with fail
            refine (HC.out _).mono ?_
            rintro e w5 ⟨rfl, hb5⟩
            have HB5 := Lib.hid (HBW2.out.trans (hb5.mono HBW2.out.size))
            clear hb5 x0 x1 x2 q4
            go_wp2_with fail
            go_roundw
            case rel =>
              refine ⟨s + 1, by omega, by go_num, fun j hj => ?_, HB5.out⟩
              rcases Nat.lt_or_ge j s with h | h
              · exact HAG2.out j h
              · obtain rfl : j = s := by omega
                exact HRU.out
            case measure => simp [intOf]; omega
        · have i2 : ¬ (s : Int) < (nk : Int) := by omega
          have hR := H3.out HALL.out (fun j hj => HAG2.out j (by omega))
          have q0 := cell_of_row _ _ 0 _ _ _ HR2.out
          have q1 := cell_of_row _ _ 1 _ _ _ HR2.out
          have q2 := cell_of_row _ _ 2 _ _ _ HR2.out
          have q3 := cell_of_row _ _ 3 _ _ _ HR2.out
          have q5 := cell_of_row _ _ 5 _ _ _ HR2.out
          have hq := fun w => eq_get x (0, 0, ⟨#[]⟩) w
          have hBB := Lib.hid (HB0.out.trans (HBW2.out.mono HB0.out.size))
          unfold refB at hR
          by_cases k0 : k = 0
          · rw [if_pos k0] at hR
            subst k0
            obtain ⟨D, hD⟩ : ∃ D, decide (x = ((0, 0, ⟨#[]⟩) : Sc)) = D := ⟨_, rfl⟩
            rw [hD] at hq
            have hC := fun w => Right5_any x.1 x.2.1 x.2.2 (by have := HX.out; omega) w
            obtain ⟨Q, hQ⟩ : ∃ Q, rightR x.1 x.2.1 x.2.2.data.toList = Q := ⟨_, rfl⟩
            have hQS : rightS x = Q := hQ
            rw [hQ] at hC
            rw [hQS] at hR
            have HC := Lib.hid hC
            have HRR := Lib.hid hR
            clear hC hQ hQS hR hD
            cases Q
            · go_wp2_with fail
              refine (HC.out _).mono ?_
              rintro e w5 ⟨rfl, hb5⟩
              have HB5 := Lib.hid (hBB.out.trans (hb5.mono hBB.out.size))
              clear hb5 q0 q1 q2 q3 q4 q5
              go_wp2_with fail
              go_ret
              exact ⟨by rw [HRR.out]; rfl, HB5.out⟩
            · go_wp2_with fail
              refine (HC.out _).mono ?_
              rintro e w5 ⟨rfl, hb5⟩
              have HB5 := Lib.hid (hBB.out.trans (hb5.mono hBB.out.size))
              have p4 := (hb5.cell (p := ⟨w.heap.size, 4, none⟩) (block_lt_of_cell q4)).trans q4
              have p5 := (hb5.cell (p := ⟨w.heap.size, 5, none⟩) (block_lt_of_cell q5)).trans q5
              clear hb5 q0 q1 q2 q3 q4 q5
              have hR2 := HRR.out
              rw [if_pos trivial] at hR2
              by_cases e1 : nk = 0
              · rw [if_pos e1] at hR2
                by_cases e2 : nd = 0
                · have hRt : R = true := by rw [hR2]; exact decide_eq_true e2
                  have HRT := Lib.hid hRt
                  have j1 : ((nk : Int) == 0) = true := by simp [e1]
                  have j2 : ((nd : Int) == 0) = true := by simp [e2]
                  clear hR2 hRt e1 e2
                  go_wp2_with fail
                  go_ret
                  exact ⟨by rw [HRT.out]; rfl, HB5.out⟩
                · have hRt : R = false := by rw [hR2]; exact decide_eq_false e2
                  have HRT := Lib.hid hRt
                  have j1 : ((nk : Int) == 0) = true := by simp [e1]
                  have j2 : ((nd : Int) == 0) = false := by rw [beq_eq_false_iff_ne]; omega
                  clear hR2 hRt e1 e2
                  go_wp2_with fail
                  go_ret
                  exact ⟨by rw [HRT.out]; rfl, HB5.out⟩
              · rw [if_neg e1] at hR2
                have HRT := Lib.hid hR2
                have j1 : ((nk : Int) == 0) = false := by rw [beq_eq_false_iff_ne]; omega
                clear hR2 e1
                go_wp2_with fail
                go_ret
                exact ⟨by rw [HRT.out]; rfl, HB5.out⟩
          · rw [if_neg k0] at hR
            have j0 : (k == 0) = false := beq_eq_false_iff_ne.2 k0
            clear k0
            by_cases k1 : k = 1
            · rw [if_pos k1] at hR
              subst k1
              by_cases e1 : x = nullS
              · rw [if_pos e1] at hR
                have he : ((x : Sc) = (0, 0, ⟨#[]⟩)) := e1
                rw [decide_eq_true he] at hq
                by_cases e2 : nk = 0
                · have HRT := Lib.hid (show R = true by rw [hR]; exact decide_eq_true e2)
                  have j1 : ((nk : Int) == 0) = true := by simp [e2]
                  clear hR e1 e2 he
                  go_wp2_with fail
                  go_ret
                  exact ⟨by rw [HRT.out]; rfl, hBB.out⟩
                · have HRT := Lib.hid (show R = false by rw [hR]; exact decide_eq_false e2)
                  have j1 : ((nk : Int) == 0) = false := by rw [beq_eq_false_iff_ne]; omega
                  clear hR e1 e2 he
                  go_wp2_with fail
                  go_ret
                  exact ⟨by rw [HRT.out]; rfl, hBB.out⟩
              · rw [if_neg e1] at hR
                have he : ¬ ((x : Sc) = (0, 0, ⟨#[]⟩)) := e1
                rw [decide_eq_false he] at hq
                have HRT := Lib.hid hR
                clear hR e1 he
                go_wp2_with fail
                go_ret
                exact ⟨by rw [HRT.out]; rfl, hBB.out⟩
            · rw [if_neg k1] at hR
              have j1 : (k == 1) = false := beq_eq_false_iff_ne.2 k1
              clear k1
              by_cases k2 : k = 2
              · rw [if_pos k2] at hR
                subst k2
                by_cases e1 : x = nullS
                · rw [if_pos e1] at hR
                  have he : ((x : Sc) = (0, 0, ⟨#[]⟩)) := e1
                  rw [decide_eq_true he] at hq
                  by_cases e2 : nk = nd
                  · rw [if_pos e2] at hR
                    have j2 : ((nk : Int) == (nd : Int)) = true := by simp [e2]
                    have hC := Twice_ref ks pk ck wr (HS.out.below HBW2.out)
                    rw [HNK.out] at hC
                    obtain ⟨Q, hQ⟩ : ∃ Q, twiceB ks.toList = Q := ⟨_, rfl⟩
                    rw [hQ] at hC hR
                    have HC := Lib.hid hC
                    have HRR := Lib.hid hR
                    clear hC hQ hR e1 e2 he
                    cases Q
                    all_goals
                      go_wp2_with fail
                      refine HC.out.mono ?_
                      rintro e w5 ⟨rfl, hb5⟩
                      have HB5 := Lib.hid (hBB.out.trans (hb5.mono hBB.out.size))
                      clear hb5 q0 q1 q2 q3 q4 q5
                      go_wp2_with fail
                      go_ret
                      exact ⟨by rw [HRR.out]; rfl, HB5.out⟩
                  · rw [if_neg e2] at hR
                    have j2 : ((nk : Int) == (nd : Int)) = false := by rw [beq_eq_false_iff_ne]; omega
                    have HRT := Lib.hid hR
                    clear hR e1 e2 he
                    go_wp2_with fail
                    go_ret
                    exact ⟨by rw [HRT.out]; rfl, hBB.out⟩
                · rw [if_neg e1] at hR
                  have he : ¬ ((x : Sc) = (0, 0, ⟨#[]⟩)) := e1
                  rw [decide_eq_false he] at hq
                  have HRT := Lib.hid hR
                  clear hR e1 he
                  go_wp2_with fail
                  go_ret
                  exact ⟨by rw [HRT.out]; rfl, hBB.out⟩
              · rw [if_neg k2] at hR
                have j2 : (k == 2) = false := beq_eq_false_iff_ne.2 k2
                obtain ⟨D, hD⟩ : ∃ D, decide (x = ((0, 0, ⟨#[]⟩) : Sc)) = D := ⟨_, rfl⟩
                rw [hD] at hq
                have HRT := Lib.hid hR
                clear hR hD k2
                go_wp2_with fail
                go_ret
                exact ⟨by rw [HRT.out]; rfl, hBB.out⟩
theorem right28_any (f : Fn) (n : Int) (w : World) (hf : Nl w f) :
    Calls Tryz.prog 47 #[nV f, .int .i64 n] w fun e w' => e = .returned (.bool (rightF f n)) ∧ Below w.heap.size w w' :=
  right28_in f.k f.x f.pk f.keys.size f.ck f.pd f.kids.size f.cd f.keys f.kids n (rightF f n) w rfl rfl hf.ks hf.ds hf.xs (fun j hj hp => bad_kid j hj hp) (fun j hj hp => bad_key j hj hp) refB_eq
end Go.Proofs.YtepelpmkmhhokaaGreatDoor

set_option maxRecDepth 100000
namespace Go.Proofs.YtepelpmkmhhokaaGreatDoor
open Go.RowKit Go.Shelf
open Scs
abbrev S8 (B : Nat) (root : Int) (g m cap o q : Nat) (f : Fn) (wo W : World) : Prop :=
  W.cell? ⟨B, 0, none⟩ = some (.int .i64 root) ∧ W.cell? ⟨B, 1, none⟩ = some (.slice (some ⟨g, o, none⟩) m cap) ∧
  W.cell? ⟨g, q, none⟩ = some (.int .i64 f.k) ∧ W.cell? ⟨g, q + 1, none⟩ = some (.int .i64 f.x.1) ∧ W.cell? ⟨g, q + 2, none⟩ = some (.int .i64 f.x.2.1) ∧ W.cell? ⟨g, q + 3, none⟩ = some (.string f.x.2.2) ∧
  W.cell? ⟨g, q + 4, none⟩ = some (.slice f.pk f.keys.size f.ck) ∧ W.cell? ⟨g, q + 5, none⟩ = some (.slice f.pd f.kids.size f.cd) ∧ Below wo.heap.size wo W
theorem s8_step {B : Nat} {root : Int} {g m cap o q : Nat} {f : Fn} {wo W W' : World} (h : S8 B root g m cap o q f wo W) (hb : Below W.heap.size W W') : S8 B root g m cap o q f wo W' := by
  obtain ⟨h0, h1, h2, h3, h4, h5, h6, h7, hbb⟩ := h
  exact ⟨(hb.cell (block_lt_of_cell h0)).trans h0, (hb.cell (block_lt_of_cell h1)).trans h1, (hb.cell (block_lt_of_cell h2)).trans h2, (hb.cell (block_lt_of_cell h3)).trans h3, (hb.cell (block_lt_of_cell h4)).trans h4, (hb.cell (block_lt_of_cell h5)).trans h5,
    (hb.cell (block_lt_of_cell h6)).trans h6, (hb.cell (block_lt_of_cell h7)).trans h7, hbb.trans (hb.mono hbb.size)⟩
theorem s8_drew {B : Nat} {root : Int} {g m cap o q : Nat} {f : Fn} {wo W : World} (h : S8 B root g m cap o q f wo W) : S8 B root g m cap o q f wo W.drew := s8_step h (Below.refl _ W).drew
set_option maxHeartbeats 8000000 in
theorem Check13_in (root : Int) (L : Array Fn) (m : Nat) (p : Option Addr) (cap : Nat) (r : Int × Int) (w : World) (hm : L.size = m) (hg : Gl w p L) (hr : checkG root L.toList = r) :
    Calls Tryz.prog 27 #[.agg #[.int .i64 root, .slice p m cap]] w fun e w' => e = .returned (.tuple #[.int .i64 r.1, .int .i64 r.2]) ∧ Below w.heap.size w w' := by
  obtain ⟨W, hW⟩ : ∃ W, (w.alloc (.cells #[.int .i64 root, .slice p m cap] 24)) = W := ⟨_, rfl⟩
  have hr0 : W.heap[w.heap.size]? = some (.cells #[.int .i64 root, .slice p m cap] 24 (0, 0)) := by rw [← hW]; exact heap_alloc_new w _
  have hb0 : Below w.heap.size w W := by rw [← hW]; exact (Below.refl _ w).alloc (Nat.le_refl _) _
  have hlt0 : w.heap.size < W.heap.size := (Array.getElem?_eq_some_iff.1 hr0).1
  have hsm := hg.small
  rw [hm] at hsm
  have q0 := cell_of_row _ _ 0 _ _ _ hr0
  have q1 := cell_of_row _ _ 1 _ _ _ hr0
  have HG := Lib.hid (hg.below hb0)
  have HM := Lib.hid hm
  have HW := Lib.hid hW
  have HR0 := Lib.hid hr0
  have HB0 := Lib.hid hb0
  unfold checkG at hr
  rw [Array.length_toList, hm] at hr
  clear hg hm hW hr0 hb0
  by_cases h2 : 200 < m
  · rw [if_pos h2] at hr
    subst hr
    have i1 : (m : Int) > 200 := by omega
    clear h2
    go_enter Tryz.func27, Tryz.ntmps27
    go_wp2_with fail
    rw [HW.out]
    go_wp2_with fail
    go_ret2
    exact ⟨rfl, HB0.out⟩
  · rw [if_neg h2] at hr
    have i1 : ¬ (m : Int) > 200 := by omega
    clear h2
    by_cases h0 : root < 0
    · have hp : plB root m = false := by
        cases hq : plB root m
        · rfl
        · have := plB_iff.1 hq; omega
      rw [hp, if_neg (by decide)] at hr
      subst hr
      clear hp
      go_enter Tryz.func27, Tryz.ntmps27
      go_wp2_with fail
      rw [HW.out]
      go_wp2_with fail
      go_ret2
      exact ⟨rfl, HB0.out⟩
    · by_cases h1 : root < (m : Int)
      · have hp : plB root m = true := plB_iff.2 ⟨by omega, h1⟩
        rw [hp, if_pos rfl] at hr
        have g1 : ¬ (root ≥ (m : Int)) := by omega
        have HRR := Lib.hid hr
        clear hp hr h1
        go_enter Tryz.func27, Tryz.ntmps27
        go_wp2_with fail
        rw [HW.out]
        go_wp2_with fail
        clear q0 q1
        go_loopw [4] (fun i wr => ∃ t : Nat, t ≤ m ∧ i = .int .i64 t ∧ badFrom m (L.toList.drop t) t = badFrom m L.toList 0 ∧ Below W.heap.size W wr) (fun i _ => m - (intOf i).toNat)
        case atStart => exact ⟨0, by omega, rfl, rfl, Below.refl _ _⟩
        case round =>
          obtain ⟨t, ht, rfl, hbad, hbw⟩ := hrel
          have hrr := (hbw.block _ hlt0).trans HR0.out
          have q0 := cell_of_row _ _ 0 _ _ _ hrr
          have q1 := cell_of_row _ _ 1 _ _ _ hrr
          by_cases hlt : t < m
          · have i2 : (t : Int) < (m : Int) := by omega
            have hlL : t < L.size := by rw [HM.out]; exact hlt
            obtain ⟨g, o, rfl, hgl, hc0, hc1, hc2, hc3, hc4, hc5⟩ := HG.out.at t hlL
            have hNl := (HG.out.nodes t hlL).below hbw
            have hst := bad_step m L.toList t (by rw [Array.length_toList]; exact hlL) t
            rw [hbad, show L.toList[t]'(by rw [Array.length_toList]; exact hlL) = L[t]! by rw [Array.getElem_toList, getElem!_pos L t hlL]] at hst
            have x0 := (hbw.cell (p := ⟨g, o + t * 6, none⟩) hgl).trans hc0
            have x1 := (hbw.cell (p := ⟨g, o + t * 6 + 1, none⟩) hgl).trans hc1
            have x2 := (hbw.cell (p := ⟨g, o + t * 6 + 2, none⟩) hgl).trans hc2
            have x3 := (hbw.cell (p := ⟨g, o + t * 6 + 3, none⟩) hgl).trans hc3
            have x4 := (hbw.cell (p := ⟨g, o + t * 6 + 4, none⟩) hgl).trans hc4
            have x5 := (hbw.cell (p := ⟨g, o + t * 6 + 5, none⟩) hgl).trans hc5
            obtain ⟨f, hf⟩ : ∃ f, L[t]! = f := ⟨_, rfl⟩
            rw [hf] at hst hNl x0 x1 x2 x3 x4 x5
            have hC := fun W' (hb : Below wr.heap.size wr W') => right28_any f m W' (hNl.below hb)
            unfold nV at hC
            have HBW := Lib.hid hbw
            cases hrf : rightF f m
            · rw [hrf] at hC
              rw [hrf, if_neg (by decide)] at hst
              have HST := Lib.hid hst
              have hS : Hid (S8 w.heap.size root g m cap o (o + t * 6) f wr wr) := Lib.hid ⟨q0, q1, x0, x1, x2, x3, x4, x5, Below.refl _ _⟩
              have HCN : Hid (∀ W', Hid (S8 w.heap.size root g m cap o (o + t * 6) f wr W') → Calls Tryz.prog 47 #[.agg #[.int .i64 f.k, .int .i64 f.x.1, .int .i64 f.x.2.1, .string f.x.2.2, .slice f.pk f.keys.size f.ck, .slice f.pd f.kids.size f.cd], .int .i64 m] W' fun e W'' => e = .returned (.bool false) ∧ Hid (S8 w.heap.size root g m cap o (o + t * 6) f wr W'')) :=
                Lib.hid fun W' h => (hC W' h.out.2.2.2.2.2.2.2.2).mono fun e W'' hh => ⟨hh.1, Lib.hid (s8_step h.out hh.2)⟩
              clear hC hst hrf hNl hf hc0 hc1 hc2 hc3 hc4 hc5 hbw hbad hrr hlL
              go_wp2_with fail
              clear x0 x1 x2 x3 x4 x5 q0 q1
              go_region_held3 (S8 w.heap.size root g m cap o (o + t * 6) f wr) (first | exact Hid.out (by assumption) | exact s8_drew (Hid.out (by assumption))) (first
                | ((with_reducible refine (HCN.out _ (by first | assumption | exact Lib.hid (s8_drew (Hid.out (by assumption))))).mono ?_); rintro e wq ⟨rfl, hbq⟩))
              have HBQ := Lib.hid (HBW.out.trans (hbq.out.2.2.2.2.2.2.2.2.mono HBW.out.size))
              clear hbq hS HCN
              rw [HST.out] at HRR
              have HRX := Lib.hid HRR.out.symm
              go_wp2_with fail
              go_ret2
              exact ⟨by rw [HRX.out]; rfl, HB0.out.trans (HBQ.out.mono HB0.out.size)⟩
            · rw [hrf] at hC
              rw [hrf, if_pos rfl] at hst
              have HST := Lib.hid hst
              have hS : Hid (S8 w.heap.size root g m cap o (o + t * 6) f wr wr) := Lib.hid ⟨q0, q1, x0, x1, x2, x3, x4, x5, Below.refl _ _⟩
              have HCN : Hid (∀ W', Hid (S8 w.heap.size root g m cap o (o + t * 6) f wr W') → Calls Tryz.prog 47 #[.agg #[.int .i64 f.k, .int .i64 f.x.1, .int .i64 f.x.2.1, .string f.x.2.2, .slice f.pk f.keys.size f.ck, .slice f.pd f.kids.size f.cd], .int .i64 m] W' fun e W'' => e = .returned (.bool true) ∧ Hid (S8 w.heap.size root g m cap o (o + t * 6) f wr W'')) :=
                Lib.hid fun W' h => (hC W' h.out.2.2.2.2.2.2.2.2).mono fun e W'' hh => ⟨hh.1, Lib.hid (s8_step h.out hh.2)⟩
              clear hC hst hrf hNl hf hc0 hc1 hc2 hc3 hc4 hc5 hbw hbad hrr hlL
              go_wp2_with fail
              clear x0 x1 x2 x3 x4 x5 q0 q1
              go_region_held3 (S8 w.heap.size root g m cap o (o + t * 6) f wr) (first | exact Hid.out (by assumption) | exact s8_drew (Hid.out (by assumption))) (first
                | ((with_reducible refine (HCN.out _ (by first | assumption | exact Lib.hid (s8_drew (Hid.out (by assumption))))).mono ?_); rintro e wq ⟨rfl, hbq⟩))
              have HBQ := Lib.hid (HBW.out.trans (hbq.out.2.2.2.2.2.2.2.2.mono HBW.out.size))
              clear hbq hS HCN
              go_wp2_with fail
              go_roundw
              case rel => exact ⟨t + 1, by omega, by go_num, HST.out.symm, HBQ.out⟩
              case measure => simp [intOf]; omega
          · have i2 : ¬ (t : Int) < (m : Int) := by omega
            obtain rfl : t = m := by omega
            have hdr : L.toList.drop t = [] := List.drop_eq_nil_of_le (by rw [Array.length_toList, HM.out]; exact Nat.le_refl _)
            rw [hdr] at hbad
            have HRX := Lib.hid (show r = (0, 0) by rw [← HRR.out, ← hbad]; rfl)
            have HBW := Lib.hid hbw
            clear hdr hbad hbw hrr
            go_wp2_with fail
            go_ret2
            exact ⟨by rw [HRX.out]; rfl, HB0.out.trans (HBW.out.mono HB0.out.size)⟩
      · have hp : plB root m = false := by
          cases hq : plB root m
          · rfl
          · have := plB_iff.1 hq; omega
        rw [hp, if_neg (by decide)] at hr
        subst hr
        have g1 : (root ≥ (m : Int)) := by omega
        clear hp h1
        go_enter Tryz.func27, Tryz.ntmps27
        go_wp2_with fail
        rw [HW.out]
        go_wp2_with fail
        go_ret2
        exact ⟨rfl, HB0.out⟩
theorem Check13_any (root : Int) (L : Array Fn) (p : Option Addr) (cap : Nat) (w : World) (hg : Gl w p L) :
    Calls Tryz.prog 27 #[.agg #[.int .i64 root, .slice p L.size cap]] w fun e w' => e = .returned (.tuple #[.int .i64 (checkG root L.toList).1, .int .i64 (checkG root L.toList).2]) ∧ Below w.heap.size w w' :=
  Check13_in root L L.size p cap _ w rfl hg rfl
end Go.Proofs.YtepelpmkmhhokaaGreatDoor
