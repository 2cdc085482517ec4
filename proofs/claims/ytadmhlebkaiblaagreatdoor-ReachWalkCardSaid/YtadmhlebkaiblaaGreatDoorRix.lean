/- The reference's place of a number among some. Conditions: the row lies. The reference's walk from a node: what it comes to, behind what was come to. Conditions: the graph is right, and lies. The reference tells a graph's walk, whether it is right, and where a path leads. Conditions: the graph lies. -/
import Derived.Test.YtadmhlebkaiblaaGreatDoorWtd
import Derived.Test.YtadmhlebkaiblaaGreatDoorRok
import Derived.Test.YtadmhlebkaiblaaGreatDoorRrx
import Derived.Deep.RegionHeld3
import Derived.Deep.RegionWith
import Derived.Deep.RegionLaw
import Derived.Deep.AppendLies
set_option maxRecDepth 100000
namespace Go.Proofs.YtadmhlebkaiblaaGreatDoor
open Go.RowKit Go.Shelf
open Scs Dfs
/-- the place of a number among some; below 0: it is none -/
def inI : List Int → Int → Int
  | [], _ => -1
  | y :: t, x => if y = x then 0 else if inI t x < 0 then -1 else inI t x + 1
theorem inI_neg : ∀ {l : List Int} {x : Int}, inI l x < 0 ↔ x ∉ l
  | [], x => by simp [inI]
  | y :: t, x => by
    have ih := inI_neg (l := t) (x := x)
    unfold inI
    by_cases e : y = x
    · rw [if_pos e]; simp [e]
    · rw [if_neg e]
      have hne : ¬ x = y := fun h => e h.symm
      by_cases h : inI t x < 0
      · rw [if_pos h]
        have := ih.1 h
        simp [this, hne]
      · rw [if_neg h]
        have h2 : x ∈ t := Classical.byContradiction fun hc => h (ih.2 hc)
        simp [h2]; omega
theorem inI_some : ∀ {l : List Int} {t : Nat} {x : Int}, (∀ j, j < t → l[j]? ≠ some x) → l[t]? = some x → inI l x = t
  | [], t, x, _, h => by simp at h
  | y :: l, 0, x, _, h => by simp at h; unfold inI; rw [if_pos h]; rfl
  | y :: l, t + 1, x, hb, h => by
    have h0 := hb 0 (by omega)
    have hne : ¬ y = x := fun e => h0 (by simp [e])
    have h' : l[t]? = some x := by simpa using h
    have ih := inI_some (l := l) (t := t) (x := x) (fun j hj => by have := hb (j + 1) (by omega); simpa using this) h'
    unfold inI
    rw [if_neg hne, ih, if_neg (by omega)]
    omega
theorem inI_none {l : List Int} {x : Int} (h : ∀ j, j < l.length → l[j]? ≠ some x) : inI l x = -1 := by
  have hn : x ∉ l := fun hm => by
    obtain ⟨j, hj, e⟩ := List.getElem_of_mem hm
    exact h j hj (by rw [List.getElem?_eq_getElem hj, e])
  have h1 := inI_neg.2 hn
  match l with
  | [] => rfl
  | y :: t =>
    unfold inI at h1 ⊢
    split at h1
    · omega
    · split at h1
      · rename_i h2 h3; rw [if_neg h2, if_pos h3]
      · omega
/-- among places -/
theorem inI_places {l : List Nat} {x : Nat} : inI (natI l) x = if x ∈ l then ((idx l x : Nat) : Int) else -1 := by
  by_cases h : x ∈ l
  · rw [if_pos h]
    obtain ⟨h1, h2⟩ := idx_lt h
    refine inI_some (fun j hj he => ?_) ?_
    · unfold natI at he
      rw [List.getElem?_map] at he
      cases hl : l[j]? with
      | none => rw [hl] at he; cases he
      | some y =>
        rw [hl] at he
        have hyx : y = x := by
          have h2 : (y : Int) = (x : Int) := by simpa using he
          omega
        subst hyx
        -- the first place of y is idx l y
        have : ∀ (l : List Nat) (j : Nat) (y : Nat), l[j]? = some y → idx l y ≤ j := by
          intro l
          induction l with
          | nil => intro j y h; simp at h
          | cons a t ih =>
            intro j y h
            unfold idx
            by_cases e : a = y
            · rw [if_pos e]; omega
            · rw [if_neg e]
              match j with
              | 0 => simp at h; exact absurd h e
              | j + 1 => have := ih j y (by simpa using h); omega
        have := this l j y hl
        omega
    · unfold natI
      rw [List.getElem?_map, h2]
      rfl
  · rw [if_neg h]
    refine inI_none fun j hj he => h ?_
    unfold natI at he
    rw [List.getElem?_map] at he
    cases hl : l[j]? with
    | none => rw [hl] at he; cases he
    | some y =>
      rw [hl] at he
      have hyx : y = x := by
        have h2 : (y : Int) = (x : Int) := by simpa using he
        omega
      subst hyx
      exact List.mem_of_getElem? hl
set_option maxHeartbeats 4000000 in
theorem In27_any (a : Array Int) (x : Int) (p : Option Addr) (c : Nat) (w : World) (ha : Il w p a) :
    Calls Tryz.prog 27 #[.slice p a.size c, .int .i64 x] w fun e w' => e = .returned (.int .i64 (inI a.toList x)) ∧ w' = w := by
  have hsm := ha.small
  have HA := Lib.hid ha
  obtain ⟨m, hm⟩ : ∃ m, a.size = m := ⟨_, rfl⟩
  have HM := Lib.hid hm
  have hsome : ∀ t, t < m → (∀ j, j < t → a[j]! ≠ x) → a[t]! = x → inI a.toList x = t := fun t ht hb he => by
    have hg : ∀ j, j < a.size → a.toList[j]? = some a[j]! := fun j hj => by rw [List.getElem?_eq_getElem (by rw [Array.length_toList]; exact hj), Array.getElem_toList, getElem!_pos a j hj]
    exact inI_some (fun j hj h => by rw [hg j (by omega)] at h; exact hb j hj (Option.some.inj h)) (by rw [hg t (by omega), he])
  have hnone : (∀ j, j < m → a[j]! ≠ x) → inI a.toList x = -1 := fun hb => by
    have hg : ∀ j, j < a.size → a.toList[j]? = some a[j]! := fun j hj => by rw [List.getElem?_eq_getElem (by rw [Array.length_toList]; exact hj), Array.getElem_toList, getElem!_pos a j hj]
    exact inI_none fun j hj h => by
      rw [Array.length_toList] at hj
      rw [hg j hj] at h
      exact hb j (by omega) (Option.some.inj h)
  obtain ⟨R, hR⟩ : ∃ R, inI a.toList x = R := ⟨_, rfl⟩
  rw [hR] at hsome hnone ⊢
  rw [hm] at hsm ⊢
  have HS := Lib.hid hsome
  have HN := Lib.hid hnone
  clear ha hm hsome hnone hR
  go_enter Tryz.func27, Tryz.ntmps27
  go_wp2_with fail
  go_loopw [5] (fun i wr => ∃ t : Nat, t ≤ m ∧ i = .int .i64 t ∧ (∀ j, j < t → a[j]! ≠ x) ∧ wr = w) (fun i _ => m - (intOf i).toNat)
  case atStart => exact ⟨0, by omega, rfl, fun j hj => absurd hj (Nat.not_lt_zero _), by first | rfl | trivial⟩
  case round =>
    obtain ⟨t, ht, rfl, hag, rfl⟩ := hrel
    have HAG := Lib.hid hag
    clear hag
    by_cases hlt : t < m
    · have i1 : (t : Int) < (m : Int) := by omega
      obtain ⟨b1, o1, rfl, hb1, hc1⟩ := HA.out.at t (by rw [HM.out]; exact hlt)
      obtain ⟨u, hu⟩ : ∃ u, a[t]! = u := ⟨_, rfl⟩
      rw [hu] at hc1
      have HU := Lib.hid hu
      clear hu
      by_cases he : u = x
      · have hk : (u == x) = true := by simp [he]
        have HRX := Lib.hid (HS.out t hlt HAG.out (by rw [HU.out]; exact he))
        clear he
        go_wp2_with fail
        go_ret
        exact ⟨by rw [HRX.out]; rfl, rfl⟩
      · have hk : (u == x) = false := beq_eq_false_iff_ne.2 he
        have HE := Lib.hid he
        clear he
        go_wp2_with fail
        go_roundw
        case rel =>
          refine ⟨t + 1, by omega, by go_num, fun j hj => ?_, by first | rfl | trivial⟩
          rcases Nat.lt_or_ge j t with h | h
          · exact HAG.out j h
          · obtain rfl : j = t := by omega
            rw [HU.out]; exact HE.out
        case measure => simp [intOf]; omega
    · have i1 : ¬ (t : Int) < (m : Int) := by omega
      have HRX := Lib.hid (HN.out fun j hj => HAG.out j (by omega))
      go_wp2_with fail
      go_ret
      exact ⟨by rw [HRX.out]; rfl, rfl⟩
end Go.Proofs.YtadmhlebkaiblaaGreatDoor

set_option maxRecDepth 100000
namespace Go.Proofs.YtadmhlebkaiblaaGreatDoor
open Go.RowKit Go.Shelf
open Scs Dfs
/-- a row's block is that of the one before, or new -/
def OwnNext (b : Nat) (v v' : Value) : Prop := ∀ q, v'.ownBlock = some q → v.ownBlock = some q ∨ b ≤ q
theorem OwnNext.refl (b : Nat) (v : Value) : OwnNext b v v := fun _ h => .inl h
theorem OwnNext.trans {b b' : Nat} {u v x : Value} (h1 : OwnNext b u v) (h2 : OwnNext b' v x) (hb : b ≤ b') : OwnNext b u x := fun q hq => by
  rcases h2 q hq with h | h
  · exact h1 q h
  · exact .inr (Nat.le_trans hb h)
theorem grown_trans {w w' w'' : World} {r : Option Nat} {s : Option Nat} (h1 : w.grownBy w' r) (h2 : w'.grownBy w'' s) (hs : ∀ q, s = some q → r = some q ∨ w.heap.size ≤ q) : w.grownBy w'' r :=
  ⟨h2.os.trans h1.os, h2.tape.trans h1.tape, h2.output.trans h1.output, Nat.le_trans h1.size h2.size, fun k hk hne => (h2.block k (Nat.lt_of_lt_of_le hk h1.size) fun e => by
    rcases hs k e.symm with h | h
    · exact hne h.symm
    · omega).trans (h1.block k hk hne)⟩
theorem grown_below {w w' : World} (h : Below w.heap.size w w') (r : Option Nat) : w.grownBy w' r := ⟨h.os, h.tape, h.output, h.size, fun k hk _ => h.block k hk⟩
theorem below_ofgrown {w w' : World} {b : Nat} {r : Option Nat} (h : w.grownBy w' r) (hb : b ≤ w.heap.size) (hr : ∀ q, r = some q → b ≤ q) : Below b w w' :=
  ⟨h.os, h.tape, h.output, h.size, fun k hk => h.block k (by omega) fun e => by have := hr k e.symm; omega⟩
theorem ownI_grown {W W' : World} {b T k n : Nat} {v : Value} {xs : List Value} {r : Option Nat} (h : W.ownsRow b T k v n xs) (hg : W.grownBy W' r) (hne : ∀ q, v.ownBlock = some q → r ≠ some q) : W'.ownsRow b T k v n xs :=
  own_keepG h fun q hq => hg.block q (own_lt h q hq).2 fun e => hne q hq e.symm
theorem kn_kidsG {L : Array Fn} {i : Nat} (hi : i < L.size) : kidsG L i = (kidsOf L[i]!, 0) := kids_yes hi
theorem kids_natI {L : Array Fn} (hb : badFrom L.size L.toList 0 = none) {i : Nat} (hi : i < L.size) : kidsOf L[i]! = natI (KN L i) := by
  unfold natI KN
  rw [List.map_map]
  have : (kidsOf L[i]!).map ((fun (n : Nat) => (n : Int)) ∘ Int.toNat) = (kidsOf L[i]!).map id := List.map_congr_left fun z hz => by
    have := kidsOf_mem (right_at hb hi) z hz
    simp; omega
  rw [this, List.map_id]
set_option maxHeartbeats 16000000 in
theorem visit32_any (root : Int) (L : Array Fn) (p : Option Addr) (cap : Nat) (hb : badFrom L.size L.toList 0 = none) (w0 : World) (hg0 : Gl w0 p L) :
    ∀ (f i : Nat) (o : List Nat) (v : Value) (w : World), i < L.size → Few L.size o → L.size < f + o.length → Below w0.heap.size w0 w → w.ownsRow w0.heap.size 3 1 v o.length (ints (natI o)) →
      Calls Tryz.prog 34 #[.agg #[.int .i64 root, .slice p L.size cap], .int .i64 i, v] w fun e w' => ∃ v', e = .returned v' ∧ w'.ownsRow w0.heap.size 3 1 v' (visit (KN L) f i o).length (ints (natI (visit (KN L) f i o))) ∧ w.grownBy w' v.ownBlock ∧ OwnNext w.heap.size v v'
  | 0, i, o, v, w, hi, ho, hf, hbw, hown => by
    have := few_len _ _ ho
    omega
  | f + 1, i, o, v, w, hi, ho, hf, hbw, hown => by
    have hsm := hg0.small
    have hol := few_len _ _ ho
    obtain ⟨i0, hi0, hz0, hz1, hz2⟩ := info_parts info3
    have hIH := visit32_any root L p cap hb w0 hg0 f
    obtain ⟨q, c, rfl, hil⟩ := il_own hown (by rw [natI_len]) (by omega)
    have hIN := fun W h => In27_any (natI o).toArray i q c W h
    rw [List.size_toArray, natI_len, List.toList_toArray, inI_places] at hIN
    have hgl := hg0.below hbw
    obtain ⟨W, hW⟩ : ∃ W, (w.alloc (.cells #[.int .i64 root, .slice p L.size cap] 24)) = W := ⟨_, rfl⟩
    have hr0 : W.heap[w.heap.size]? = some (.cells #[.int .i64 root, .slice p L.size cap] 24 (0, 0)) := by rw [← hW]; exact heap_alloc_new w _
    have hb0 : Below w.heap.size w W := by rw [← hW]; exact (Below.refl _ w).alloc (Nat.le_refl _) _
    have hlt0 : w.heap.size < W.heap.size := (Array.getElem?_eq_some_iff.1 hr0).1
    have hW0 := hbw.size
    have HW := Lib.hid hW
    have HR0 := Lib.hid hr0
    have HB0 := Lib.hid hb0
    have HILW := Lib.hid (hil.below hb0)
    have HOW := Lib.hid (ownI_below hown hb0)
    have HBW := Lib.hid (hbw.trans (hb0.mono hW0))
    have HG := Lib.hid fun W (hb : Below w0.heap.size w0 W) => hg0.below hb
    have HI := Lib.hid hIH
    by_cases hm : i ∈ o
    · rw [if_pos hm] at hIN
      have HIN := Lib.hid hIN
      have hv := visit_in (kids := KN L) (f := f + 1) hm
      have HV := Lib.hid hv
      have HOO := Lib.hid hown
      have hge : ((idx o i : Nat) : Int) ≥ 0 := by omega
      generalize ((idx o i : Nat) : Int) = ix at HIN hge
      obtain ⟨ol, hol2⟩ : ∃ n, o.length = n := ⟨_, rfl⟩
      have HOL := Lib.hid hol2
      rw [hol2] at HIN ⊢
      clear hIN hm hv hW hr0 hb0 hil hIH hown hgl ho hol2 hol hf
      go_enter Tryz.func34, Tryz.ntmps34
      go_wp2_with fail
      rw [HW.out]
      refine (HIN.out _ HILW.out).mono ?_
      rintro e w5 ⟨rfl, rfl⟩
      go_wp2_with fail
      go_ret
      refine ⟨.slice q ol c, rfl, ?_, grown_below HB0.out _, OwnNext.refl _ _⟩
      rw [HV.out]
      have := ownI_below HOO.out HB0.out
      rw [HOL.out] at this ⊢
      exact this
    · rw [if_neg hm] at hIN
      have HIN := Lib.hid hIN
      have ho' := ho.snoc hi hm
      have hvn := visit_new (kids := KN L) (f := f) hm
      have hkn := kids_natI hb hi
      have hkg := kn_kidsG hi
      have hKID := fun W h => Kids15_own root L p cap i W h
      rw [hkg] at hKID
      simp only at hKID
      rw [hkn] at hKID
      have hklt := KN_lt hb i hi
      obtain ⟨K, hK⟩ : ∃ K, KN L i = K := ⟨_, rfl⟩
      rw [hK] at hKID hklt hvn
      have hknn : K.length ≤ 1000000 := by
        have h := kidsG_len L i w p hgl
        rw [hkg] at h
        simp only at h
        rw [hkn, natI_len, hK] at h
        exact h
      have hlo : (o ++ [i]).length = o.length + 1 := by simp
      have hwent := fun js hj => visits_went (KN_lt hb) f js (o ++ [i]) hj ho' (by rw [hlo]; omega)
      have hsn : ints (natI (o ++ [i])) = ints (natI o) ++ [.int .i64 (i : Int)] := ints_natI_snoc o i
      have hon : o.length ≤ 1000000 := by omega
      have hlts : ∀ q', (Value.slice q o.length c).ownBlock = some q' → w0.heap.size ≤ q' ∧ q' < w.heap.size := fun q' h => own_lt hown q' h
      obtain ⟨on, hon2⟩ : ∃ n, o.length = n := ⟨_, rfl⟩
      obtain ⟨nk, hnk⟩ : ∃ n, K.length = n := ⟨_, rfl⟩
      have hkid2 : ∀ W, Gl W p L → Calls Tryz.prog 37 #[.agg #[.int .i64 root, .slice p L.size cap], .int .i64 (i : Int)] W fun e w' => ∃ pk ck, e = .returned (.tuple #[.slice pk nk ck, .int .i64 0]) ∧ Il w' pk (natI K).toArray ∧ (∀ q', (Value.slice pk nk ck).ownBlock = some q' → W.heap.size ≤ q' ∧ q' < w'.heap.size) ∧ (∀ t, t < nk → ∃ q', pk = some ⟨q', 0, none⟩) ∧ Below W.heap.size W w' := fun W h =>
        (hKID W h).mono fun e w' ⟨vk, h1, h2, h3⟩ => by
          obtain ⟨pk, ck, rfl, h4⟩ := il_own h2 (by rw [natI_len]) (by rw [natI_len]; exact hknn)
          rw [natI_len, hnk] at h1
          refine ⟨pk, ck, h1, h4, fun q' hq => ?_, fun t ht => ?_, h3⟩
          · exact own_lt h2 q' (by rw [natI_len, hnk]; exact hq)
          · rcases h2 with ⟨_, ⟨e1, e2⟩ | ⟨g', c', cur, hv, _⟩⟩
            · rw [natI_len, hnk] at e2; omega
            · injection hv with e1 _ _
              exact ⟨g', e1⟩
      have HKID := Lib.hid hkid2
      have HWENT := Lib.hid hwent
      have HKLT := Lib.hid hklt
      have HVN := Lib.hid hvn
      have HSN := Lib.hid hsn
      have HLTS := Lib.hid hlts
      have HNK := Lib.hid hnk
      have HLO := Lib.hid hlo
      have HON := Lib.hid hon2
      have hfo : L.size < f + (on + 1) := by omega
      have HFO := Lib.hid hfo
      rw [hon2] at HIN HLTS HOW hon HLO
      rw [hon2]
      rw [hnk] at hknn
      clear hIN hm hvn hkn hkg hKID hklt hkid2 hwent hsn hlts hnk hlo hon2 hfo hW hr0 hb0 hil hIH hown hgl ho ho' hf hol hK
      go_enter Tryz.func34, Tryz.ntmps34
      go_wp2_with fail
      rw [HW.out]
      refine (HIN.out _ HILW.out).mono ?_
      rintro e w5 ⟨rfl, rfl⟩
      go_upto_region 4 with (first
        | (at_builtin
           refine wpList_append_lies _ rfl _ _ 25 rfl w0.heap.size 3 i0 (.int .i64 0) 1 8 Tryz.underlying25 hi0 hz0 hz1 hz2 rfl (by decide) _ _ _ rfl (HOW.out.alloc _) ⟨w5.heap.size, 0, none⟩ 1 1 [.int .i64 (i : Int)] rfl rfl (World.news_of_block (heap_alloc_new w5 _)) (by intro u hu; simp at hu; rcases hu with rfl; rfl) (by decide) (by unfold maxLen; omega) (by omega) (by have := HBW.out.size; simp; omega) _ rfl ?_
           intro g6 cap6 w6 hown6 hgr6 hor6 hlt6
           have HOW6 := Lib.hid hown6
           have HGR6 := Lib.hid hgr6
           have HOR6 := Lib.hid hor6
           have HLT6 := Lib.hid hlt6
           clear hown6 hgr6 hor6 hlt6))
      have r6 := (HGR6.out.block w.heap.size (by simp; omega) (fun e => by have := HLTS.out _ e.symm; omega)).trans ((Below.heap_alloc w5 (.cells #[.int .i64 (i : Int)] 3) w.heap.size hlt0).trans HR0.out)
      have HR6 := Lib.hid r6
      have HB6 := Lib.hid ((HBW.out.alloc HBW.out.size (.cells #[.int .i64 (i : Int)] 3)).grown HGR6.out (by have := HBW.out.size; simp; omega) fun q' h => (HLTS.out q' h).1)
      have HGW6 := Lib.hid (grown_trans (grown_below (HB0.out.alloc HB0.out.size (.cells #[.int .i64 (i : Int)] 3)) (Value.slice q on c).ownBlock) HGR6.out (fun q' h => .inl h))
      have HG6 := Lib.hid (show (Value.slice q on c).ownBlock = some g6 ∨ w.heap.size ≤ g6 from by
        rcases HOR6.out with h | h
        · exact .inl h
        · refine .inr ?_; have := HB0.out.size; rw [h]; simp; omega)
      have HG6n := Lib.hid (show g6 ≠ w.heap.size from by
        rcases HOR6.out with h | h
        · have := HLTS.out _ h; omega
        · rw [h]; simp; omega)
      have a0 := cell_of_row _ _ 0 _ _ _ r6
      have a1 := cell_of_row _ _ 1 _ _ _ r6
      clear r6
      go_wp2_with fail
      refine (HKID.out _ (HG.out _ HB6.out)).mono ?_
      rintro e w7 ⟨pk, ck, rfl, hil7, hpk7, hsp7, hb7⟩
      have HR7 := Lib.hid ((hb7.block _ (Array.getElem?_eq_some_iff.1 HR6.out).1).trans HR6.out)
      have HB7 := Lib.hid (HB6.out.trans (hb7.mono HB6.out.size))
      have HGW7 := Lib.hid (grown_trans HGW6.out (grown_below hb7 none) (fun _ h => by cases h))
      have HOW7 := Lib.hid (ownI_below HOW6.out hb7)
      have HZ7 := Lib.hid hb7.size
      have HIL7 := Lib.hid hil7
      have HPK7 := Lib.hid hpk7
      have HSP7 := Lib.hid hsp7
      have hlw7 : w.heap.size < w7.heap.size := (Array.getElem?_eq_some_iff.1 HR7.out).1
      clear hb7 hil7 hpk7 hsp7 a0 a1
      go_wp2_with fail
      go_loopw [2, 9] (fun u j wr => ∃ t : Nat, t ≤ nk ∧ j = .int .i64 t ∧ wr.ownsRow w0.heap.size 3 1 u (visits (KN L) f (K.take t) (o ++ [i])).length (ints (natI (visits (KN L) f (K.take t) (o ++ [i])))) ∧ w7.grownBy wr (some g6) ∧ OwnNext w7.heap.size (.slice (some ⟨g6, 0, none⟩) (on + 1) cap6) u) (fun _ j _ => nk - (intOf j).toNat)
      case atStart =>
        refine ⟨0, by omega, rfl, ?_, gB_refl _ _, OwnNext.refl _ _⟩
        have h := HOW7.out
        rw [← HSN.out] at h
        exact own_len h HLO.out.symm
      case round =>
        obtain ⟨t, ht, rfl, hown, hgr, hnx⟩ := hrel
        have hrr := (hgr.block w.heap.size hlw7 (fun e => HG6n.out (Option.some.inj e).symm)).trans HR7.out
        have HOWt := Lib.hid hown
        have HGRt := Lib.hid hgr
        have HNXt := Lib.hid hnx
        have HRt := Lib.hid hrr
        have HBt := Lib.hid (HB7.out.trans (below_of_grown (b := g6) hgr (by
          rcases HOR6.out with h | h
          · exact (HLTS.out _ h).1
          · rw [h]; have := HBW.out.size; simp; omega) HB7.out.size))
        clear hown hgr hnx hrr
        by_cases hlt : t < nk
        · have i1 : (t : Int) < (nk : Int) := by omega
          have htk : t < K.length := by rw [HNK.out]; exact hlt
          have htake : K.take (t + 1) = K.take t ++ [K[t]!] := by
            rw [List.take_add_one, List.getElem?_eq_getElem htk, getElem!_pos K t htk]; rfl
          have hst : visits (KN L) f (K.take (t + 1)) (o ++ [i]) = visit (KN L) f K[t]! (visits (KN L) f (K.take t) (o ++ [i])) := by rw [htake, visits_append]; rfl
          have hy : K[t]! < L.size := HKLT.out _ (by rw [getElem!_pos K t htk]; exact List.getElem_mem htk)
          have hw := (HWENT.out (K.take t) (fun j hj => HKLT.out j (List.mem_of_mem_take hj))).1
          have hpl := hw.pre.length_le
          have hfw := hw.few
          rw [HLO.out] at hpl
          obtain ⟨b1, o1, hpe, hb1, hc1⟩ := HIL7.out.at t (by rw [List.size_toArray, natI_len, HNK.out]; exact hlt)
          rw [natI_get K t htk] at hc1
          obtain ⟨q1, hq1⟩ := HSP7.out t hlt
          have hbq : b1 = q1 := by rw [hq1] at hpe; injection hpe with h; injection h with h _ _; exact h.symm
          have hbg : b1 ≠ g6 := by
            have h := (HPK7.out q1 (by rw [hq1]; rfl)).1
            have := HLT6.out
            omega
          subst hpe
          have x1 : wr.cell? ⟨b1, o1 + t, none⟩ = some (.int .i64 (K[t]! : Int)) := (World.cell?_of_block (w := w7) (HGRt.out.block b1 hb1 (fun e => hbg (Option.some.inj e)))).trans hc1
          obtain ⟨y, hyy⟩ : ∃ y, K[t]! = y := ⟨_, rfl⟩
          rw [hyy] at x1 hst hy
          obtain ⟨O, hO⟩ : ∃ O, visits (KN L) f (K.take t) (o ++ [i]) = O := ⟨_, rfl⟩
          have how := HOWt.out
          rw [hO] at hst hpl hfw how
          have HST := Lib.hid hst
          have hcn : ∀ u, wr.ownsRow w0.heap.size 3 1 u O.length (ints (natI O)) → ∀ W', W'.heap = wr.heap → W'.os = wr.os → W'.tape = wr.tape → W'.output = wr.output → Calls Tryz.prog 34 #[.agg #[.int .i64 root, .slice p L.size cap], .int .i64 (y : Int), u] W' fun e W'' => ∃ v', e = .returned v' ∧ W''.ownsRow w0.heap.size 3 1 v' (visit (KN L) f y O).length (ints (natI (visit (KN L) f y O))) ∧ wr.grownBy W'' u.ownBlock ∧ OwnNext wr.heap.size u v' := fun u hu W' e1 e2 e3 e4 =>
            (HI.out y O u W' hy hfw (by have := HFO.out; omega) ⟨e2.trans HBt.out.os, e3.trans HBt.out.tape, e4.trans HBt.out.output, by rw [e1]; exact HBt.out.size, fun k hk => by rw [e1]; exact HBt.out.block k hk⟩ (own_keepG hu fun g _ => by rw [e1])).mono fun e W'' ⟨v', h1, h2, h3, h4⟩ =>
              ⟨v', h1, h2, ⟨h3.os.trans e2, h3.tape.trans e3, h3.output.trans e4, by rw [← e1]; exact h3.size, fun k hk hne => by rw [← e1] at hk; exact (h3.block k hk hne).trans (by rw [e1])⟩, by rw [← e1]; exact h4⟩
          have HCN := Lib.hid (hcn _ how wr.drew rfl rfl rfl rfl)
          have c0 := cell_of_row _ _ 0 _ _ _ HRt.out
          have c1 := cell_of_row _ _ 1 _ _ _ HRt.out
          have HNXU := Lib.hid HNXt.out
          clear hcn how hst htake hy hw hpl hfw hc1 hq1 hbq hbg hyy hO htk
          go_upto_region 8 with fail
          go_region_with (first
            | ((with_reducible refine HCN.out.mono ?_); rintro e wq ⟨v8, rfl, hown8, hgr8, hnx8⟩))
          all_goals
            have HOW8 := Lib.hid hown8
            have HGR8 := Lib.hid hgr8
            have HNX8 := Lib.hid hnx8
            clear hown8 hgr8 hnx8
            go_wp2_with fail
            go_roundw
            case rel =>
              refine ⟨t + 1, by omega, by go_num, ?_, ?_, ?_⟩
              · rw [HST.out]; exact HOW8.out
              · exact grown_trans HGRt.out HGR8.out fun q' h => by
                  rcases HNXU.out q' h with h | h
                  · exact .inl h
                  · exact .inr h
              · exact HNXU.out.trans HNX8.out HGRt.out.size
            case measure => simp [intOf]; omega
        · have i1 : ¬ (t : Int) < (nk : Int) := by omega
          obtain rfl : t = nk := by omega
          have hall : K.take t = K := List.take_of_length_le (by rw [HNK.out]; exact Nat.le_refl _)
          have how := HOWt.out
          rw [hall, ← HVN.out] at how
          have HOWf := Lib.hid how
          clear how hall
          go_wp2_with fail
          go_ret
          refine ⟨_, rfl, HOWf.out, grown_trans HGW7.out HGRt.out fun q' h => ?_, OwnNext.trans (b := w.heap.size) (v := .slice (some ⟨g6, 0, none⟩) (on + 1) cap6) (fun q' h => ?_) HNXt.out (Nat.le_of_lt hlw7)⟩
          · obtain rfl : g6 = q' := Option.some.inj h
            exact HG6.out
          · obtain rfl : g6 = q' := Option.some.inj h
            exact HG6.out
end Go.Proofs.YtadmhlebkaiblaaGreatDoor

set_option maxRecDepth 100000
namespace Go.Proofs.YtadmhlebkaiblaaGreatDoor
open Go.RowKit Go.Shelf
open Scs Dfs
/-- a graph's walk, or its error -/
def walkG (root : Int) (L : Array Fn) : List Nat × Int := if (checkG root L.toList).2 = 0 then (wk L root.toNat, 0) else ([], (checkG root L.toList).2)
theorem check_right {root : Int} {L : Array Fn} (h : (checkG root L.toList).2 = 0) : badFrom L.size L.toList 0 = none ∧ root = (root.toNat : Int) ∧ root.toNat < L.size ∧ L.size ≤ 200 := by
  obtain ⟨h1, h2, h3⟩ := check_ok h
  rw [Array.length_toList] at h1 h2 h3
  have := plB_iff.1 h3
  exact ⟨h2, by omega, by omega, h1⟩
set_option maxHeartbeats 8000000 in
theorem Walk14_in (root : Int) (L : Array Fn) (m : Nat) (p : Option Addr) (cap : Nat) (r : List Nat × Int) (w : World) (hm : L.size = m) (hg : Gl w p L) (hr : walkG root L = r) :
    Calls Tryz.prog 14 #[.agg #[.int .i64 root, .slice p m cap]] w fun e w' => ∃ v, e = .returned (.tuple #[v, .int .i64 r.2]) ∧ w'.ownsRow w.heap.size 3 1 v r.1.length (ints (natI r.1)) ∧ Below w.heap.size w w' := by
  obtain ⟨W, hW⟩ : ∃ W, (w.alloc (.cells #[.int .i64 root, .slice p m cap] 24)) = W := ⟨_, rfl⟩
  have hr0 : W.heap[w.heap.size]? = some (.cells #[.int .i64 root, .slice p m cap] 24 (0, 0)) := by rw [← hW]; exact heap_alloc_new w _
  have hb0 : Below w.heap.size w W := by rw [← hW]; exact (Below.refl _ w).alloc (Nat.le_refl _) _
  have hCK := fun W G => Check13_any root L p cap W G
  have q0 := cell_of_row _ _ 0 _ _ _ hr0
  have q1 := cell_of_row _ _ 1 _ _ _ hr0
  have HG := Lib.hid (hg.below hb0)
  have HW := Lib.hid hW
  have HR0 := Lib.hid hr0
  have HB0 := Lib.hid hb0
  unfold walkG at hr
  obtain ⟨⟨a1, e1⟩, hc⟩ : ∃ c, checkG root L.toList = c := ⟨_, rfl⟩
  have hck := check_right (root := root) (L := L)
  rw [hc] at hCK hr hck
  rw [hm] at hCK
  simp only at hr hck
  clear hc hW hr0 hb0 hg
  by_cases he : e1 = 0
  · rw [if_pos he] at hr
    obtain ⟨hb, hroot, hlt, _⟩ := hck he
    subst he
    obtain ⟨n, hn⟩ : ∃ n, root.toNat = n := ⟨_, rfl⟩
    rw [hn] at hr hroot hlt
    subst hroot
    have hV := fun w0 (G : Gl w0 p L) => visit32_any (n : Int) L p cap hb w0 G (L.size + 1) n [] (.slice none 0 0) w0 hlt (few_nil _) (by simp) (Below.refl _ _) (World.ownsRow_nil _ _ _ _)
    have hwk : visit (KN L) (L.size + 1) n [] = r.1 := by rw [← hr]; rfl
    have hr2 : r.2 = 0 := by rw [← hr]
    rw [hwk, hm] at hV
    have HV := Lib.hid hV
    have HCK := Lib.hid hCK
    have HR2 := Lib.hid hr2
    clear hCK hV hwk hr hck hb hlt hm hr2
    go_enter Tryz.func14, Tryz.ntmps14
    go_upto_region 1 with fail
    rw [HW.out]
    go_wp2_with fail
    refine (HCK.out _ HG.out).mono ?_
    rintro e w5 ⟨rfl, hb5⟩
    have HR5 := Lib.hid ((hb5.block _ (Array.getElem?_eq_some_iff.1 HR0.out).1).trans HR0.out)
    have HG5 := Lib.hid (HG.out.below hb5)
    have HB5 := Lib.hid (HB0.out.trans (hb5.mono HB0.out.size))
    clear hb5 q0 q1
    have q0 := cell_of_row _ _ 0 _ _ _ HR5.out
    have q1 := cell_of_row _ _ 1 _ _ _ HR5.out
    go_wp2_with fail
    refine (HV.out _ HG5.out).mono ?_
    rintro e w6 ⟨v6, rfl, hown6, hgr6, _⟩
    have HOW6 := Lib.hid hown6
    have HB6 := Lib.hid (HB5.out.trans ((below_ofgrown hgr6 (Nat.le_refl _) (fun q h => by cases h)).mono HB5.out.size))
    clear hown6 hgr6 q0 q1
    go_wp2_with fail
    go_ret2
    exact ⟨v6, by rw [HR2.out]; rfl, own_low HOW6.out HB5.out.size, HB6.out⟩
  · rw [if_neg he] at hr
    subst hr
    have hk : (e1 != 0) = true := by simp [he]
    have HCK := Lib.hid hCK
    clear hCK hck he hm
    go_enter Tryz.func14, Tryz.ntmps14
    go_upto_region 1 with fail
    rw [HW.out]
    go_wp2_with fail
    refine (HCK.out _ HG.out).mono ?_
    rintro e w5 ⟨rfl, hb5⟩
    have HB5 := Lib.hid (HB0.out.trans (hb5.mono HB0.out.size))
    clear hb5 q0 q1
    go_wp2_with fail
    go_ret2
    exact ⟨_, rfl, World.ownsRow_nil _ _ _ _, HB5.out⟩
theorem Walk14_own (root : Int) (L : Array Fn) (p : Option Addr) (cap : Nat) (w : World) (hg : Gl w p L) :
    Calls Tryz.prog 14 #[.agg #[.int .i64 root, .slice p L.size cap]] w fun e w' => ∃ v, e = .returned (.tuple #[v, .int .i64 (walkG root L).2]) ∧ w'.ownsRow w.heap.size 3 1 v (walkG root L).1.length (ints (natI (walkG root L).1)) ∧ Below w.heap.size w w' :=
  Walk14_in root L L.size p cap _ w rfl hg rfl
theorem walkG_len (root : Int) (L : Array Fn) : (walkG root L).1.length ≤ L.size := by
  unfold walkG
  by_cases h : (checkG root L.toList).2 = 0
  · rw [if_pos h]
    obtain ⟨hb, _, hr, _⟩ := check_right h
    exact few_len _ _ (walk_went (KN_lt hb) hr).few
  · rw [if_neg h]; exact Nat.zero_le _
theorem Walk14_any (root : Int) (L : Array Fn) (p : Option Addr) (cap : Nat) (w : World) (hg : Gl w p L) :
    Calls Tryz.prog 14 #[.agg #[.int .i64 root, .slice p L.size cap]] w fun e w' => ∃ q c, e = .returned (.tuple #[.slice q (walkG root L).1.length c, .int .i64 (walkG root L).2]) ∧ Il w' q (natI (walkG root L).1).toArray ∧ Below w.heap.size w w' :=
  (Walk14_own root L p cap w hg).mono fun e w' ⟨v, h1, h2, h3⟩ => by
    obtain ⟨q, c, rfl, hil⟩ := il_own h2 (by rw [natI_len]) (by have := walkG_len root L; have := hg.small; omega)
    exact ⟨q, c, h1, hil, h3⟩
theorem Right36_any (root : Int) (L : Array Fn) (p : Option Addr) (cap : Nat) (w : World) (hg : Gl w p L) :
    Calls Tryz.prog 39 #[.agg #[.int .i64 root, .slice p L.size cap]] w fun e w' => e = .returned (.bool (decide ((checkG root L.toList).2 = 0))) ∧ Below w.heap.size w w' := by
  have hb0 : ∀ o : Obj, Below w.heap.size w (w.alloc o) := fun o => (Below.refl _ w).alloc (Nat.le_refl _) _
  have hCK := fun o => Check13_any root L p cap (w.alloc o) (hg.below (hb0 o))
  obtain ⟨⟨a1, e1⟩, hc⟩ : ∃ c, checkG root L.toList = c := ⟨_, rfl⟩
  rw [hc] at hCK ⊢
  have HCK := Lib.hid hCK
  have HB := Lib.hid hb0
  have hd : decide (e1 = 0) = (e1 == 0) := by rw [Bool.eq_iff_iff]; simp
  simp only
  rw [hd]
  clear hc hCK hg hb0 hd
  go_enter Tryz.func39, Tryz.ntmps39
  go_wp2_with fail
  refine (HCK.out _).mono ?_
  rintro e w5 ⟨rfl, hb5⟩
  have HB5 := Lib.hid ((HB.out _).trans (hb5.mono (by simp)))
  clear hb5
  go_wp2_with fail
  go_ret
  exact ⟨rfl, HB5.out⟩
end Go.Proofs.YtadmhlebkaiblaaGreatDoor
