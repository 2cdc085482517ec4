/- Pairs are put in order by their keys, those alike as they stood. Conditions: at most twelve; they lie in a row. A map's kids are told so that their keys rise. Conditions: at most twelve keys; the map lies. -/
import Derived.Test.YtepelpmkmhhokaaGreatDoorAux
import Derived.Test.YtepelpmkmhhokaaGreatDoorSfs
import Derived.Shelf.SlSortCmp.InsertionK
set_option maxRecDepth 100000
namespace Go.Proofs
open Go.Shelf
def Tryz.insP_ren : Go.Shelf.Ren := ⟨fun | 20 => 143 | n => n, fun | 22 => 189 | 24 => 192 | 25 => 197 | n => n, fun | n => n⟩
theorem Tryz.insP : Go.Proofs.SlLaysF0.n20 Tryz.prog Tryz.insP_ren := {
  mixed := by kernel_rfl
  f20 := ⟨Tryz.f143.name, by decide, Tryz.func143.trans (congrArg some (by kernel_rfl))⟩
  t0 := Tryz.underlying0
  a0 := Tryz.isAgg0
  z0 := Tryz.sizeOf0
  v0 := Tryz.zeroValue0
  t3 := Tryz.underlying3
  a3 := Tryz.isAgg3
  z3 := Tryz.sizeOf3
  v3 := Tryz.zeroValue3
  t4 := Tryz.underlying4
  a4 := Tryz.isAgg4
  z4 := Tryz.sizeOf4
  v4 := Tryz.zeroValue4
  t22 := Tryz.underlying189
  a22 := Tryz.isAgg189
  z22 := Tryz.sizeOf189
  v22 := Tryz.zeroValue189
  t25 := Tryz.underlying197
  a25 := Tryz.isAgg197
  z25 := Tryz.sizeOf197
  v25 := Tryz.zeroValue197 }
end Go.Proofs
namespace Go.Proofs.YtepelpmkmhhokaaGreatDoor
open Go.RowKit Go.Shelf
open Scs
open Go.Sort (HoldsK flatK grow)
def cmpP (x y : Pr) : Int := cmpSc x.1 y.1
set_option maxHeartbeats 1000000 in
theorem cmpP_any (x y : Pr) (w : World) : Calls Tryz.prog 106 #[pV x, pV y] w fun e w' => e = .returned (.int .i64 (cmpP x y)) ∧ ∃ q os, w' = grow (w.drewN q) os := by
  obtain ⟨⟨x0, x1, x2⟩, x3⟩ := x
  obtain ⟨⟨y0, y1, y2⟩, y3⟩ := y
  have HC := Lib.hid fun w => Compare_any (x0, x1, x2) (y0, y1, y2) w
  unfold aggS at HC
  unfold cmpP pV
  go_enter Tryz.func106, Tryz.ntmps106
  go_wp2_with fail
  refine (HC.out _).mono ?_
  rintro e w5 ⟨rfl, q, os, rfl⟩
  go_wp2_with fail
  go_ret
  exact ⟨rfl, grow3 _ _ _ _ _⟩
theorem cmpP_lays (blk off size : Nat) (w : World) : Go.Proofs.CmpLays Tryz.prog 106 #[] encP 4 cmpP blk off size w :=
  fun _ _ _ _ x y => cmpP_any x y _
def insP (d : Array Pr) : Array Pr := Go.Sort.insertionSort (ltOf cmpP) d 0 d.size
theorem grown_sortP {w : World} {g n : Nat} {os : Array Obj} (d : Array Pr) : w.grownBy (sortWorldK encP 4 w g 0 n d os) (some g) := by
  unfold sortWorldK Go.Sort.putRowK
  refine ⟨rfl, rfl, rfl, by simp [grow], fun k hk hne => ?_⟩
  rw [Go.Sort.heap_grow_old _ _ (by simpa using hk)]
  have : g ≠ k := fun e => hne (by rw [e])
  simp [Go.Sort.putRow, Go.Sort.mapBlock, Go.Sort.ahead, Array.getElem?_modify, this]
theorem swoP : Go.Sort.SWO (ltOf cmpP) := ⟨fun x => swo'.irrefl x.1, fun x y z => swo'.trans x.1 y.1 z.1, fun x y z => swo'.ntrans x.1 y.1 z.1⟩
theorem insP_perm (d : Array Pr) : (insP d).size = d.size ∧ (insP d).toList.Perm d.toList := by
  have h := (Go.Sort.insertionSort_holds (lt := ltOf cmpP) swoP d 0 d.size (Nat.zero_le _) (Nat.le_refl _)).1
  obtain ⟨h1, _, h3⟩ := h
  have e : ∀ (a : Array Pr) (n : Nat), a.size = n → a.extract 0 n = a := by rintro a n rfl; exact Array.extract_size
  rw [e _ _ h1, e _ _ rfl] at h3
  exact ⟨h1, h3⟩
theorem insSort_any (g cap : Nat) (d : Array Pr) (w : World) (hH : HoldsK encP 4 w g 0 d) (hg : g < w.heap.size) (hs : d.size ≤ 12) :
    Calls Tryz.prog 143 #[.slice (some ⟨g, 0, none⟩) d.size cap, .int .i64 0, .int .i64 (d.size : Int), .func (.func 106) #[] #[]] w fun e w' => e = .returned (.tuple #[]) ∧ HoldsK encP 4 w' g 0 (insP d) ∧ w.grownBy w' (some g) := by
  have eg : ∀ args w, (callFunc 106 args).run Tryz.prog w = .ok (.enter 106 args) w := enters_of Tryz.func106 (by kernel_rfl) rfl
  have h := AnyQ.insertionSortCmpFunc Tryz.insP 4 (fun w => Tryz.isAgg192 w) (fun w => Tryz.sizeOf192 w) encP (fun _ => rfl)
    (fun x v hv => by simp [encP] at hv; rcases hv with rfl | rfl | rfl | rfl <;> rfl) cmpP 106 #[] g 0 cap 0 d.size d w eg (cmpP_lays g 0 d.size w) hH hg (Nat.zero_le _) (Nat.le_refl _) (by omega)
  refine h.mono ?_
  rintro e w' ⟨rfl, n, os, rfl⟩
  exact ⟨rfl, holdsK_sortWorldK_c encP 4 w g 0 d _ n os hH hg (insP_perm d).1, grown_sortP _⟩
theorem stable_any (g cap : Nat) (d : Array Pr) (w : World) (hH : HoldsK encP 4 w g 0 d) (hg : g < w.heap.size) (hs : d.size ≤ 12) :
    Calls Tryz.prog 129 #[.slice (some ⟨g, 0, none⟩) d.size cap, .int .i64 (d.size : Int), .func (.func 106) #[] #[]] w fun e w' => e = .returned (.tuple #[]) ∧ HoldsK encP 4 w' g 0 (insP d) ∧ w.grownBy w' (some g) := by
  have HC := Lib.hid (insSort_any g cap d w hH hg hs)
  have i1 : ¬ (20 : Int) ≤ (d.size : Int) := by omega
  have i2 : ¬ (20 : Int) < (d.size : Int) := by omega
  clear hH
  obtain ⟨m, hm⟩ : ∃ m, d.size = m := ⟨_, rfl⟩
  rw [hm] at HC i1 i2 hs ⊢
  clear hm
  go_enter Tryz.func129, Tryz.ntmps129
  go_wp2_with fail
  refine wp_loop_rounds 1 ?_
  rw [rounds_succ]
  go_wp2_with fail
  refine HC.out.mono ?_
  rintro e w5 ⟨rfl, hh, hg⟩
  have HH := Lib.hid hh
  have HG := Lib.hid hg
  clear hh hg
  go_wp2_with fail
  refine wp_loop_rounds 1 ?_
  rw [rounds_succ]
  go_wp2_with fail
  go_end0
  exact ⟨rfl, HH.out, HG.out⟩
theorem sortStable_any (g cap : Nat) (d : Array Pr) (w : World) (hH : HoldsK encP 4 w g 0 d) (hg : g < w.heap.size) (hs : d.size ≤ 12) :
    Calls Tryz.prog 105 #[.slice (some ⟨g, 0, none⟩) d.size cap, .func (.func 106) #[] #[]] w fun e w' => e = .returned (.tuple #[]) ∧ HoldsK encP 4 w' g 0 (insP d) ∧ w.grownBy w' (some g) := by
  have HC := Lib.hid (stable_any g cap d w hH hg hs)
  clear hH
  obtain ⟨m, hm⟩ : ∃ m, d.size = m := ⟨_, rfl⟩
  rw [hm] at HC hs ⊢
  clear hm
  go_enter Tryz.func105, Tryz.ntmps105
  go_wp2_with fail
  refine HC.out.mono ?_
  rintro e w5 ⟨rfl, hh, hg⟩
  have HH := Lib.hid hh
  have HG := Lib.hid hg
  clear hh hg
  go_wp2_with fail
  go_end0
  exact ⟨rfl, HH.out, HG.out⟩
theorem stableNone_any (p : Option Addr) (cap : Nat) (w : World) :
    Calls Tryz.prog 129 #[.slice p 0 cap, .int .i64 0, .func (.func 106) #[] #[]] w fun e w' => e = .returned (.tuple #[]) ∧ w' = w := by
  have HC := Lib.hid fun w => AnyF.insertionSortCmpFunc_none Tryz.insP p cap (.func (.func 106) #[] #[]) w
  go_enter Tryz.func129, Tryz.ntmps129
  go_wp2_with fail
  refine wp_loop_rounds 1 ?_
  rw [rounds_succ]
  go_wp2_with fail
  refine (HC.out _).mono ?_
  rintro e w5 ⟨rfl, rfl⟩
  go_wp2_with fail
  refine wp_loop_rounds 1 ?_
  rw [rounds_succ]
  go_wp2_with fail
  go_end0
  exact ⟨rfl, rfl⟩
theorem sortNone_any (p : Option Addr) (cap : Nat) (w : World) :
    Calls Tryz.prog 105 #[.slice p 0 cap, .func (.func 106) #[] #[]] w fun e w' => e = .returned (.tuple #[]) ∧ w' = w := by
  have HC := Lib.hid fun w => stableNone_any p cap w
  go_enter Tryz.func105, Tryz.ntmps105
  go_wp2_with fail
  refine (HC.out _).mono ?_
  rintro e w5 ⟨rfl, rfl⟩
  go_wp2_with fail
  go_end0
  exact ⟨rfl, rfl⟩
end Go.Proofs.YtepelpmkmhhokaaGreatDoor

set_option maxRecDepth 100000
namespace Go.Proofs.YtepelpmkmhhokaaGreatDoor
open Go.RowKit Go.Shelf
open Scs
open Go.Sort (HoldsK flatK grow)
theorem flatP_len : ∀ L : List Pr, (flatP L).length = L.length * 4
  | [] => rfl
  | x :: t => by
    have := flatP_len t
    unfold flatP at this ⊢
    rw [List.flatMap_cons, List.length_append, this, List.length_cons]
    show 4 + _ = _
    omega
theorem flatP_get : ∀ (L : List Pr) (j : Nat), j < L.length * 4 → (flatP L)[j]? = some ((encP L[j / 4]!)[j % 4]!)
  | [], j, h => by simp at h
  | x :: t, j, h => by
    by_cases hj : j < 4
    · have e1 : j / 4 = 0 := by omega
      have e2 : j % 4 = j := by omega
      rw [e1, e2]
      have hl : (flatP (x :: t))[j]? = (encP x)[j]? := by
        unfold flatP
        rw [List.flatMap_cons, List.getElem?_append_left (by show j < 4; exact hj)]
      rw [hl]
      show (encP x)[j]? = some ((encP x)[j]!)
      have hlen : j < (encP x).length := hj
      rw [List.getElem?_eq_getElem hlen, List.getElem!_eq_getElem?_getD, List.getElem?_eq_getElem hlen]
      rfl
    · have e1 : j / 4 = (j - 4) / 4 + 1 := by omega
      have e2 : j % 4 = (j - 4) % 4 := by omega
      have ih := flatP_get t (j - 4) (by simp at h; omega)
      rw [e1, e2]
      have hl : (flatP (x :: t))[j]? = (flatP t)[j - 4]? := by
        unfold flatP
        rw [List.flatMap_cons, List.getElem?_append_right (by show 4 ≤ j; omega)]
        rfl
      rw [hl, ih]
      rfl
theorem holds_rowP {W : World} {g n : Nat} {d : Array Pr} {c : Nat} {b : Nat} (h : W.ownsRow b 192 4 (.slice (some ⟨g, 0, none⟩) n c) n (flatP d.toList)) (hn : n = d.size) : HoldsK encP 4 W g 0 d := by
  subst hn
  rcases h with ⟨_, ⟨h1, _⟩ | ⟨g', c', cur, hv, _, hg, hnc, _, hcs, htake⟩⟩
  · cases h1
  · obtain rfl : g = g' := by injection hv with h _ _; injection h with h; injection h
    intro j hj
    rw [Go.Sort.size_flatK] at hj
    rw [Go.Sort.get_flatK _ _ _ _ hj]
    have h1 := flatP_get d.toList j (by rw [Array.length_toList]; exact hj)
    rw [← htake, List.getElem?_take_of_lt hj, Array.getElem?_toList] at h1
    refine ⟨?_, frozen_of_row _ _ _ _ _ hg⟩
    rw [cell_of_row _ _ _ _ _ _ hg, Nat.zero_add, h1]
    congr 3
    simp [getElem!_def]
def ints (L : List Int) : List Value := L.map fun z => Value.int .i64 z
theorem ints_snoc (L : List Int) (z : Int) : ints (L ++ [z]) = ints L ++ [.int .i64 z] := by simp [ints]
theorem il_own {W : World} {b n : Nat} {v : Value} {L : List Int} (h : W.ownsRow b 3 1 v n (ints L)) (hn : n = L.length) (hs : n ≤ 1000000) : ∃ p c, v = .slice p n c ∧ Il W p L.toArray := by
  subst hn
  rcases h with ⟨ha, ⟨h1, h2⟩ | ⟨g, c', cur, hv, hbg, hg, hnc, hcm, hcs, htake⟩⟩
  · exact ⟨none, 0, by rw [h1, h2], by rw [List.size_toArray]; exact hs, .inl (by rw [List.size_toArray]; exact h2)⟩
  · refine ⟨_, _, hv, by rw [List.size_toArray]; exact hs, .inr ⟨g, 0, rfl, (Array.getElem?_eq_some_iff.1 hg).1, fun i hi => ?_⟩⟩
    rw [List.size_toArray] at hi
    have h1 : (ints L)[i]? = some (.int .i64 L.toArray[i]!) := by
      unfold ints
      rw [List.getElem?_map, List.getElem?_eq_getElem hi, getElem!_pos L.toArray i (by simpa using hi)]
      simp
    rw [cell_of_row _ _ _ _ _ _ hg, Nat.zero_add]
    rw [← htake, List.getElem?_take_of_lt (by omega), Array.getElem?_toList] at h1
    exact h1
/-- the sort of a row of pairs that a call owns -/
theorem sortP_any (b n : Nat) (v : Value) (L : List Pr) (w : World) (h : w.ownsRow b 192 4 v n (flatP L)) (hn : n = L.length) (h12 : n ≤ 12) (hb : b ≤ w.heap.size) :
    ∃ p c, v = .slice p n c ∧ Calls Tryz.prog 105 #[.slice p n c, .func (.func 106) #[] #[]] w fun e w' => e = .returned (.tuple #[]) ∧ (n = 0 ∨ ∃ g, p = some ⟨g, 0, none⟩ ∧ g < w'.heap.size ∧ HoldsK encP 4 w' g 0 (insP L.toArray)) ∧ Below b w w' := by
  have h' := h
  rcases h with ⟨ha, ⟨h1, h2⟩ | ⟨g, c', cur, hv, hbg, hg, hnc, hcm, hcs, htake⟩⟩
  · subst h2
    refine ⟨none, 0, h1, (sortNone_any none 0 w).mono ?_⟩
    rintro e w' ⟨rfl, rfl⟩
    exact ⟨rfl, .inl rfl, Below.refl _ _⟩
  · subst hv
    have hH := holds_rowP (d := L.toArray) h' (by simpa using hn)
    have hgl := (Array.getElem?_eq_some_iff.1 hg).1
    refine ⟨_, _, rfl, ?_⟩
    have hS := sortStable_any g c' L.toArray w hH hgl (by simpa using (hn ▸ h12))
    rw [List.size_toArray, ← hn] at hS
    refine hS.mono ?_
    rintro e w' ⟨rfl, hh, hgr⟩
    exact ⟨rfl, .inr ⟨g, rfl, Nat.lt_of_lt_of_le hgl hgr.size, hh⟩, below_of_grown hgr hbg hb⟩
def sortedP (f : Fn) : List Pr := (insP (pairsL f (pairsN f)).toArray).toList
def sortedKids (f : Fn) : List Int := (sortedP f).map (·.2)
theorem pairsL_len (f : Fn) (t : Nat) : (pairsL f t).length = t := by simp [pairsL]
theorem sortedP_len (f : Fn) : (sortedP f).length = pairsN f := by
  unfold sortedP
  rw [Array.length_toList, (insP_perm _).1, List.size_toArray, pairsL_len]
theorem info3 : (Tryz.prog.info? 3).map (fun i => (i.zero, i.size, i.bytes)) = some (some (.int .i64 0), 1, 8) := by kernel_rfl
set_option maxHeartbeats 4000000 in
theorem byKeys_any (f : Fn) (n : Int) (w : World) (hg : Nl w f) (h12 : f.keys.size ≤ 12) :
    Calls Tryz.prog 88 #[vV f n] w fun e w' => ∃ v, e = .returned v ∧ w'.ownsRow w.heap.size 3 1 v (pairsN f) (ints (sortedKids f)) ∧ Below w.heap.size w w' := by
  obtain ⟨i0, hi, hz0, hz1, hz2⟩ := info_parts info3
  have hpn : pairsN f ≤ 12 := by unfold pairsN; split <;> omega
  obtain ⟨w2, hw2, hr2, hz2', hb2⟩ := rows_world w (.cells #[.int .i64 f.k, .int .i64 f.x.1, .int .i64 f.x.2.1, .string f.x.2.2, .slice f.pk f.keys.size f.ck, .slice f.pd f.kids.size f.cd, .int .i64 n] 151) #[.int .i64 f.k, .int .i64 f.x.1, .int .i64 f.x.2.1, .string f.x.2.2, .slice f.pk f.keys.size f.ck, .slice f.pd f.kids.size f.cd, .int .i64 n] 151
  have hC := collect_any f n (w.heap.size + 1) w2 (hg.below hb2) hr2
  have HP := Lib.hid fun w => pairs_any f n w
  have HC := Lib.hid hC
  have HW := Lib.hid hw2
  have HB2 := Lib.hid hb2
  have hsl := sortedP_len f
  have hpl := pairsL_len f (pairsN f)
  obtain ⟨m, hm⟩ : ∃ m, pairsN f = m := ⟨_, rfl⟩
  unfold vV at HP ⊢
  rw [hm] at HC hpn hsl hpl ⊢
  have HSL := Lib.hid hsl
  have HPL := Lib.hid hpl
  have HM := Lib.hid hm
  clear hC hg hb2 hw2 hr2 hsl hpl hm
  go_enter Tryz.func88, Tryz.ntmps88
  go_wp2_with fail
  refine (HP.out _).mono ?_
  rintro e w5 ⟨rfl, rfl⟩
  go_wp2_with fail
  rw [HW.out]
  refine HC.out.mono ?_
  rintro e w5 ⟨⟨v, rfl, ho⟩, hb5⟩
  have HB5 := Lib.hid (HB2.out.trans (hb5.mono (by omega)))
  obtain ⟨p, c, rfl, hS⟩ := sortP_any w2.heap.size m v _ w5 ho HPL.out.symm (by omega) hb5.size
  have HS := Lib.hid hS
  clear ho hb5 hS
  go_wp2_with fail
  refine HS.out.mono ?_
  rintro e w6 ⟨rfl, hd, hb6⟩
  have HD := Lib.hid hd
  have HB6 := Lib.hid (HB5.out.trans (hb6.mono (by omega)))
  clear hd hb6
  have hmk := run_make (P := Tryz.prog) w6 41 3 i0 (.int .i64 0) Tryz.underlying41 hi hz0 .i64 .i64 0 m (by omega) (by omega) (by rw [hz2]; omega) (by omega)
  go_wp2_with fail
  have hown0 : (w6.alloc (.cells (madeCells #[.int .i64 0] (m * 1)) 3)).ownsRow w6.heap.size 3 1 (.slice (some ⟨w6.heap.size, 0, none⟩) 0 m) 0 (ints ((sortedKids f).take 0)) :=
    ⟨rfl, .inr ⟨w6.heap.size, m, _, rfl, Nat.le_refl _, heap_alloc_new w6 _, by omega, by unfold maxLen; omega, by simp [madeCells], rfl⟩⟩
  clear hmk
  have hkl : (sortedKids f).length = m := by unfold sortedKids; rw [List.length_map, HSL.out]
  have hpair : ∀ t, t < m → ∃ x : Pr, (insP (pairsL f m).toArray)[t]! = x ∧ (sortedKids f).take (t + 1) = (sortedKids f).take t ++ [x.2] := fun t ht => by
    refine ⟨_, rfl, ?_⟩
    rw [List.take_add_one, List.getElem?_eq_getElem (by omega)]
    have hsz : t < (insP (pairsL f m).toArray).size := by rw [(insP_perm _).1, List.size_toArray, HPL.out]; exact ht
    rw [getElem!_pos _ t hsz]
    unfold sortedKids sortedP
    simp [HM.out]
  have HPR := Lib.hid hpair
  have HKL := Lib.hid hkl
  clear hpair hkl
  go_loopw [17, 6, 4] (fun i _ v wr => ∃ t : Nat, t ≤ m ∧ i = .int .i64 t ∧ wr.ownsRow w6.heap.size 3 1 v t (ints ((sortedKids f).take t)) ∧ Below w6.heap.size w6 wr) (fun i _ _ _ => m - (intOf i).toNat)
  case atStart => exact ⟨0, by omega, rfl, by simpa using hown0, (Below.refl _ _).alloc (Nat.le_refl _) _⟩
  case round =>
    obtain ⟨t, ht, rfl, hown, hbr⟩ := hrel
    clear hown0
    have HOW := Lib.hid hown
    have HBR := Lib.hid hbr
    clear hown hbr
    by_cases hlt : t < m
    · have i1 : (t : Int) < (m : Int) := by omega
      obtain ⟨g, rfl, hgl, hH⟩ := HD.out.resolve_left (by omega)
      obtain ⟨x, hx, hst⟩ := HPR.out t hlt
      have hsz : t < (insP (pairsL f m).toArray).size := by rw [(insP_perm _).1, List.size_toArray, HPL.out]; exact hlt
      have c0 := (HBR.out.cell (p := ⟨g, 0 + t * 4 + 0, none⟩) hgl).trans (hH.cell (c := 0) hsz (by decide)).1
      have c1 := (HBR.out.cell (p := ⟨g, 0 + t * 4 + 1, none⟩) hgl).trans (hH.cell (c := 1) hsz (by decide)).1
      have c2 := (HBR.out.cell (p := ⟨g, 0 + t * 4 + 2, none⟩) hgl).trans (hH.cell (c := 2) hsz (by decide)).1
      have c3 := (HBR.out.cell (p := ⟨g, 0 + t * 4 + 3, none⟩) hgl).trans (hH.cell (c := 3) hsz (by decide)).1
      rw [hx] at c0 c1 c2 c3
      obtain ⟨⟨x0, x1, x2⟩, x3⟩ := x
      replace c0 : wr.cell? ⟨g, 0 + t * 4, none⟩ = some (.int .i64 x0) := c0
      replace c1 : wr.cell? ⟨g, 0 + t * 4 + 1, none⟩ = some (.int .i64 x1) := c1
      replace c2 : wr.cell? ⟨g, 0 + t * 4 + 2, none⟩ = some (.string x2) := c2
      replace c3 : wr.cell? ⟨g, 0 + t * 4 + 3, none⟩ = some (.int .i64 x3) := c3
      have HST := Lib.hid hst
      rw [Nat.zero_add] at c0 c1 c2 c3
      clear hH hx hst hsz
      go_wp2_with (first
        | (at_builtin
           refine wpList_append_lies _ rfl _ _ 41 rfl w6.heap.size 3 i0 (.int .i64 0) 1 8 Tryz.underlying41 hi hz0 hz1 hz2 rfl (by decide) _ _ _ rfl ((HOW.out.alloc _).alloc _) ⟨wr.heap.size + 1, 0, none⟩ 1 1 [.int .i64 x3] rfl rfl (World.news_of_block (by have h := heap_alloc_new (wr.alloc (.cells #[.int .i64 x0, .int .i64 x1, .string x2, .int .i64 x3] 192)) (.cells #[.int .i64 x3] 3); rwa [World.size_alloc] at h)) (by intro u hu; simp at hu; rcases hu with rfl; rfl) (by decide) (by unfold maxLen; omega) (by omega) (by have := HBR.out.size; simp; omega) _ rfl ?_
           intro g6 cap6 w7 hown7 hgr7 _ _
           have HOW7 := Lib.hid hown7
           have HGR7 := Lib.hid hgr7
           clear hown7 hgr7))
      go_roundw
      case rel =>
        refine ⟨t + 1, by omega, by go_num, ?_, ?_⟩
        · rw [HST.out, ints_snoc]
          exact HOW7.out
        · refine (((HBR.out.alloc HBR.out.size _).alloc (by have := HBR.out.size; simp; omega) _).grown HGR7.out (by have := HBR.out.size; simp; omega) fun q hq => (own_lt HOW.out q hq).1)
      case measure => simp [intOf]; omega
    · have i1 : ¬ (t : Int) < (m : Int) := by omega
      obtain rfl : t = m := by omega
      have HKT := Lib.hid (show (sortedKids f).take t = sortedKids f by rw [← HKL.out]; exact List.take_length)
      go_wp2_with fail
      go_ret
      exact ⟨_, rfl, by rw [HKT.out] at HOW; exact own_low HOW.out HB6.out.size, HB6.out.trans (HBR.out.mono HB6.out.size)⟩
end Go.Proofs.YtepelpmkmhhokaaGreatDoor
