/- A walker tells a node's kids, and keeps them for the next time. Conditions: the graph lies, the place is one of its nodes. The library's iterator yields a row's numbers, the last one first; a walker lays numbers so that the first one is the last. Conditions: the rows lie, and do not share a block. -/
import Derived.Test.YtepelpmkmhhokaaGreatDoorMtw
import Derived.Test.YtepelpmkmhhokaaGreatDoorOwx
import Derived.Test.YtepelpmkmhhokaaGreatDoorAkk
import Derived.Test.YtepelpmkmhhokaaGreatDoorRix
set_option maxRecDepth 100000
namespace Go.Proofs.YtepelpmkmhhokaaGreatDoor
open Go.RowKit Go.Shelf
open Scs
/-- where a row lies: in a block of O, if it has any -/
def InO (O : Nat → Prop) (q : Option Addr) (n : Nat) : Prop := n = 0 ∨ ∃ g o, q = some ⟨g, o, none⟩ ∧ O g
theorem InO.mono {O O' : Nat → Prop} {q : Option Addr} {n : Nat} (h : InO O q n) (hO : ∀ k, O k → O' k) : InO O' q n := by
  rcases h with h | ⟨g, o, h1, h2⟩
  · exact .inl h
  · exact .inr ⟨g, o, h1, hO g h2⟩
theorem Il.keepO {w w' : World} {q : Option Addr} {l : Array Int} {O : Nat → Prop} (h : Il w q l) (ho : InO O q l.size) (hz : w.heap.size ≤ w'.heap.size) (hk : ∀ k, O k → k < w.heap.size → w'.heap[k]? = w.heap[k]?) : Il w' q l := by
  refine ⟨h.small, ?_⟩
  rcases h.lies with h0 | ⟨blk, off, hp, hbl, hc⟩
  · exact .inl h0
  · rcases ho with h0 | ⟨g, o, hq, hO⟩
    · exact .inl h0
    · rw [hp] at hq
      injection hq with hq
      injection hq with e1 e2 _
      subst e1
      exact .inr ⟨blk, off, hp, by omega, fun i hi => (World.cell?_of_block (hk blk hO hbl)).trans (hc i hi)⟩
/-- what a walker knows -/
structure Kn (L : Array Fn) (K : Nat) (M : List (Int × Value)) (O : Nat → Prop) (A : World) : Prop where
  has : HasM A K M
  tells : ∀ x v, findI x M = some v → 0 ≤ x ∧ x < L.size ∧ ∃ q c, v = .slice q (kidsOf L[x.toNat]!).length c ∧ Il A q (kidsOf L[x.toNat]!).toArray ∧ InO O q (kidsOf L[x.toNat]!).length
theorem Kn.keep {L : Array Fn} {K : Nat} {M : List (Int × Value)} {O : Nat → Prop} {A B : World} (h : Kn L K M O A) (hz : A.heap.size ≤ B.heap.size) (hK : B.heap[K]? = A.heap[K]?) (hk : ∀ k, O k → k < A.heap.size → B.heap[k]? = A.heap[k]?) : Kn L K M O B :=
  ⟨h.has.keep hK, fun x v e => by
    obtain ⟨h1, h2, q, c, h3, h4, h5⟩ := h.tells x v e
    exact ⟨h1, h2, q, c, h3, h4.keepO (by simpa using h5) hz hk, h5⟩⟩
theorem Kn.mono {L : Array Fn} {K : Nat} {M : List (Int × Value)} {O O' : Nat → Prop} {A : World} (h : Kn L K M O A) (hO : ∀ k, O k → O' k) : Kn L K M O' A :=
  ⟨h.has, fun x v e => by
    obtain ⟨h1, h2, q, c, h3, h4, h5⟩ := h.tells x v e
    exact ⟨h1, h2, q, c, h3, h4, h5.mono hO⟩⟩
/-- a row of numbers is no map -/
theorem Il.no_map {w : World} {g o : Nat} {l : Array Int} (h : Il w (some ⟨g, o, none⟩) l) (h0 : 0 < l.size) {es : Array MapEntry} {c : Nat} : w.heap[g]? ≠ some (.map es c) := by
  intro e
  obtain ⟨blk, off, hp, _, hc⟩ := h.at 0 h0
  injection hp with hp
  injection hp with e1 e2 _
  subst e1
  rw [World.cell?, e] at hc
  cases hc
theorem Kn.off {L : Array Fn} {K : Nat} {M : List (Int × Value)} {O : Nat → Prop} {A : World} (h : Kn L K M O A) : Kn L K M (fun k => O k ∧ k ≠ K) A :=
  ⟨h.has, fun x v e => by
    obtain ⟨h1, h2, q, c, h3, h4, h5⟩ := h.tells x v e
    refine ⟨h1, h2, q, c, h3, h4, ?_⟩
    rcases h5 with h5 | ⟨g, o, rfl, hO⟩
    · exact .inl h5
    · by_cases h0 : (kidsOf L[x.toNat]!).length = 0
      · exact .inl h0
      · exact .inr ⟨g, o, rfl, hO, fun e => h4.no_map (by simp; omega) (by rw [e]; exact h.has)⟩⟩
theorem zero41 (w : World) : (zeroValue 41).run Tryz.prog w = .ok (.slice none 0 0) w := by kernel_rfl
/-- a block was laid, and is kept -/
theorem at1 (w : World) (o : Obj) : ∃ W, w.alloc o = W ∧ W.heap.size = w.heap.size + 1 ∧ Below w.heap.size w W ∧ W.heap[w.heap.size]? = some o :=
  ⟨_, rfl, by simp, (Below.refl _ w).alloc (Nat.le_refl _) _, heap_alloc_new w o⟩
set_option maxHeartbeats 8000000 in
theorem kids_any (root : Int) (L : Array Fn) (m : Nat) (p : Option Addr) (cap K x : Nat) (M : List (Int × Value)) (O : Nat → Prop) (w : World) (hm : L.size = m) (E : Env w) (hg : Gl w p L) (h12 : ∀ t, t < L.size → L[t]!.keys.size ≤ 12) (hx : x < L.size) (hK : Kn L K M O w) :
    Calls Tryz.prog 55 #[.agg #[.int .i64 root, .slice p m cap, .map (some K)], .int .i64 x] w fun e w' => ∃ q c M', e = .returned (.slice q (kidsOf L[x]!).length c) ∧ Il w' q (kidsOf L[x]!).toArray ∧
      InO (fun k => O k ∨ (w.heap.size ≤ k ∧ k < w'.heap.size)) q (kidsOf L[x]!).length ∧ Kn L K M' (fun k => O k ∨ (w.heap.size ≤ k ∧ k < w'.heap.size)) w' ∧ Grw (fun k => k = K) w w' := by
  obtain ⟨W, hW, hz, hb, hr⟩ := at1 w (.cells #[.int .i64 root, .slice p m cap, .map (some K)] 78)
  have hKl : K < w.heap.size := (Array.getElem?_eq_some_iff.1 hK.has).1
  have hKW : Kn L K M O W := hK.keep hb.size (hb.block K hKl) fun k _ hk => hb.block k hk
  obtain ⟨c0, c1, c2⟩ := cell3 hr
  have hKN := Kids_new root L p cap x W (E.below hb) (hg.below hb) h12
  rw [kids_yes hx, hm] at hKN
  obtain ⟨ks, hks⟩ : ∃ ks, kidsOf L[x]! = ks := ⟨_, rfl⟩
  have hlook := look_int2 Tryz.underlying76 W K (x : Int) M (zero41 W) hKW.has
  have hmk := hKW.tells (x : Int)
  rw [show ((x : Int)).toNat = x from rfl, hks] at hmk
  rw [hks] at hKN ⊢
  simp only at hKN
  obtain ⟨n, hn⟩ : ∃ n, ks.length = n := ⟨_, rfl⟩
  rw [hn] at hKN hmk ⊢
  have HKW := Lib.hid hKW
  have HKN := Lib.hid hKN
  have HW := Lib.hid hW
  have HZ := Lib.hid hz
  have HB := Lib.hid hb
  have HR := Lib.hid hr
  have HX := Lib.hid hx
  have HKS := Lib.hid hks
  have HN := Lib.hid hn
  have HM := Lib.hid hm
  have HKL := Lib.hid hKl
  clear hKN hKW hb hr hg E hK h12 hW hz hx hks hn hm hKl
  cases hfi : findI (x : Int) M with
  | some v =>
    obtain ⟨_, _, q, c, rfl, hil, hio⟩ := hmk v hfi
    rw [hfi] at hlook
    simp only [Option.getD, Option.isSome] at hlook
    have HIL := Lib.hid hil
    have HIO := Lib.hid hio
    clear hil hio hmk hfi
    go_enter Tryz.func55, Tryz.ntmps55
    go_upto_region 1 with fail
    rw [HW.out]
    go_wp2_with fail
    go_ret
    have hsz := HB.out.size
    exact ⟨q, c, M, rfl, HIL.out, HIO.out.mono fun k h => .inl h, HKW.out.mono fun k h => .inl h, Grw.of_below HB.out⟩
  | none =>
    rw [hfi] at hlook
    simp only [Option.getD, Option.isSome] at hlook
    have HF := Lib.hid hfi
    clear hmk hfi
    go_enter Tryz.func55, Tryz.ntmps55
    go_upto_region 1 with fail
    rw [HW.out]
    go_wp2_with fail
    refine HKN.out.mono ?_
    rintro e w2 ⟨q, c, rfl, hil, hnew, hb2⟩
    have hz2 := hb2.size
    have hzz := HZ.out
    have hkl := HKL.out
    have hkn2 : Kn L K M O w2 := HKW.out.keep hb2.size (hb2.block K (by omega)) fun k _ hk => hb2.block k hk
    have hr2 := (hb2.block _ (by omega)).trans HR.out
    obtain ⟨d0, d1, d2⟩ := cell3 hr2
    have hput := put_int Tryz.underlying76 w2 K (x : Int) (.slice q n c) M hkn2.has HF.out
    have hhas := hkn2.has.put ((x : Int), Value.slice q n c)
    obtain ⟨w5, hw5⟩ : ∃ w5, w2.putObj K (.map (entI (M ++ [((x : Int), Value.slice q n c)]) 0).toArray (M ++ [((x : Int), Value.slice q n c)]).length) = w5 := ⟨_, rfl⟩
    rw [hw5] at hput hhas
    have hgr : w2.grownBy w5 (some K) := by rw [← hw5]; exact Seqo.turn w2 _ _
    have e0 : w5.cell? ⟨w.heap.size, 0, none⟩ = some (.int .i64 root) := (World.cell?_of_block (hgr.block w.heap.size (by omega) (by simp; omega))).trans d0
    have HIL := Lib.hid hil
    have HNEW := Lib.hid hnew
    have HB2 := Lib.hid hb2
    have HKN2 := Lib.hid hkn2
    have HGR := Lib.hid hgr
    have HHAS := Lib.hid hhas
    clear hil hnew hb2 hkn2 hgr hhas hr2 hw5 hlook c0 c1 c2 hz2 hzz hkl e0
    go_wp2_with fail
    go_ret
    have hz2 := HB2.out.size
    have hzz := HZ.out
    have hkl := HKL.out
    have hgz := HGR.out.size
    have hio2 : InO (fun k => O k ∨ (w.heap.size ≤ k ∧ k < w5.heap.size)) q n := by
      rcases HNEW.out with h0 | ⟨g, o, rfl, hge⟩
      · exact .inl h0
      · by_cases h0 : n = 0
        · exact .inl h0
        · obtain ⟨blk, off, hp, hbl, _⟩ := HIL.out.at 0 (by simp; have := HN.out; omega)
          injection hp with hp
          injection hp with e1 _ _
          subst e1
          exact .inr ⟨_, o, rfl, .inr ⟨by omega, by omega⟩⟩
    have hne : InO (fun k => k ≠ K) q ks.toArray.size := by
      rcases HNEW.out with h0 | ⟨g, o, rfl, hge⟩
      · exact .inl (by rw [List.size_toArray]; have := HN.out; omega)
      · exact .inr ⟨g, o, rfl, by omega⟩
    have hil5 : Il w5 q ks.toArray := HIL.out.keepO hne hgz fun k hk hkl => HGR.out.block k hkl (by simpa using hk)
    refine ⟨q, c, _, rfl, hil5, hio2, ⟨HHAS.out, fun y v hy => ?_⟩, ⟨HGR.out.os.trans (HB2.out.os.trans HB.out.os), HGR.out.tape.trans (HB2.out.tape.trans HB.out.tape), HGR.out.output.trans (HB2.out.output.trans HB.out.output), by have := HB.out.size; omega, fun k hk hne => (HGR.out.block k (by omega) (by simpa using hne)).trans ((HB2.out.block k (by omega)).trans (HB.out.block k hk))⟩⟩
    rw [findI_snoc] at hy
    cases hfy : findI y M with
    | some v' =>
      rw [hfy] at hy
      simp only [Option.some.injEq] at hy
      subst hy
      obtain ⟨a1, a2, q', c', a3, a4, a5⟩ := HKN2.out.off.tells y v' hfy
      refine ⟨a1, a2, q', c', a3, a4.keepO (by simpa using a5) hgz fun k hk hkl => HGR.out.block k hkl (by simpa using hk.2), a5.mono fun k h => .inl h.1⟩
    | none =>
      rw [hfy] at hy
      simp only at hy
      by_cases hyx : y = (x : Int)
      · rw [if_pos hyx] at hy
        injection hy with hy
        subst hyx
        rw [show ((x : Int)).toNat = x from rfl, HKS.out]
        have hx2 := HX.out
        refine ⟨by omega, by omega, q, c, by rw [HN.out]; exact hy.symm, hil5, by rw [HN.out]; exact hio2⟩
      · rw [if_neg hyx] at hy; cases hy
end Go.Proofs.YtepelpmkmhhokaaGreatDoor

set_option maxRecDepth 100000
namespace Go.Proofs.YtepelpmkmhhokaaGreatDoor
open Go.RowKit Go.Shelf
open Scs Seqo
attribute [local go_sem] Oper.semAt_some
set_option maxHeartbeats 8000000 in
theorem back_in (n : Nat) (a : Array Int) (m : Nat) (q : Option Addr) (c : Nat) (l Bs : Nat) (J : Nat → World → Prop) (Jx : World → Prop) (W : World) (hm : a.size = m)
    (hS : ∀ t A, J t A → A.cell? ⟨Bs, 0, none⟩ = some (.slice q m c) ∧ Il A q a)
    (hY : ∀ t A, t < m → J t A → YieldAt Fence.wide (n - 1) Tryz.prog l #[.int .i64 ((m - 1 - t : Nat) : Int), .int .i64 a[m - 1 - t]!] A fun e B =>
      (e = .returned (.bool true) ∧ J (t + 1) B) ∨ (e = .returned (.bool false) ∧ Jx B))
    (h0 : J 0 W) :
    CallsIn Fence.wide n Tryz.prog 74 #[.func (.yield l) #[] #[], .pointer (some ⟨Bs, 0, none⟩)] W fun e W' => (∃ v, e = .returned v) ∧ (J m W' ∨ Jx W') := by
  obtain ⟨hc0, hs0⟩ := hS 0 W h0
  have hsm := hs0.small
  rw [hm] at hsm
  have HS := Lib.hid hS
  have HY := Lib.hid hY
  have H0 := Lib.hid h0
  have HM := Lib.hid hm
  clear hS hY h0 hs0 hm
  refine callsIn_of_wp Tryz.func74 rfl trivial ?_ rfl
  simp only [Tryz.ntmps74, List.size_toArray, List.length_cons, List.length_nil, Nat.reduceAdd, Nat.reduceSub, Array.replicate_succ, Array.replicate_zero, List.push_toArray, List.append_toArray, List.nil_append, List.cons_append]
  gi_wp2
  gi_loopw [3] (fun i wr => ∃ t : Nat, t ≤ m ∧ i = .int .i64 ((m : Int) - 1 - (t : Int)) ∧ J t wr) (fun i _ => (intOf i + 1).toNat)
  case atStart => exact ⟨0, by omega, by simp, H0.out⟩
  case round =>
    obtain ⟨t, ht, rfl, hj⟩ := hrel
    clear hc0
    obtain ⟨hcs, hs⟩ := HS.out t wr hj
    by_cases hlt : t < m
    · have hlti : (0 : Int) ≤ (m : Int) - 1 - (t : Int) := by omega
      have hgei : (m : Int) - 1 - (t : Int) < (m : Int) := by omega
      obtain ⟨blk, off, rfl, hbl, hc⟩ := hs.at (m - 1 - t) (by rw [HM.out]; omega)
      have he : ((m - 1 - t : Nat) : Int) = (m : Int) - 1 - (t : Int) := by omega
      obtain ⟨fn, tmps, assign, body, hy, hR⟩ := HY.out t wr hlt hj
      rw [he] at hy
      obtain ⟨x, hx⟩ : ∃ x, a[m - 1 - t]! = x := ⟨_, rfl⟩
      rw [hx] at hy hc
      obtain ⟨s, hs2⟩ : ∃ s : Nat, m - 1 - t = s := ⟨_, rfl⟩
      rw [hs2] at hc he
      rw [← he] at hlti hgei hy ⊢
      have HR := Lib.hid hR
      have HS2 := Lib.hid hs2
      clear hj hR hs hx he hs2
      gi_wp2
      refine ⟨fun h => absurd h (by decide), ?_⟩
      refine HR.out.mono ?_
      rintro e W3 (⟨rfl, hJ3⟩ | ⟨rfl, hJx3⟩)
      · have HJ3 := Lib.hid hJ3
        clear hJ3 hy hc hcs
        gi_wp2
        go_roundw
        case rel =>
          have := HS2.out
          exact ⟨t + 1, by omega, by congr 1; omega, HJ3.out⟩
        case measure => simp [intOf]
      · have HJx3 := Lib.hid hJx3
        clear hJx3 hy hc hcs
        gi_wp2
        refine bodyPost_ret (results_none rfl _ _ _) rfl ?_
        exact ⟨⟨_, rfl⟩, .inr HJx3.out⟩
    · have htN : t = m := by omega
      have hneg : ¬ (0 : Int) ≤ (m : Int) - 1 - (t : Int) := by omega
      have HJW := Lib.hid hj
      have HT := Lib.hid htN
      clear hj htN hs hcs
      gi_wp2
      go_end0
      exact ⟨⟨_, rfl⟩, .inl (by rw [← HT.out]; exact HJW.out)⟩
open Seqz
theorem back_run (n : Nat) (a : Array Int) (m : Nat) (q : Option Addr) (c Bs : Nat) (hm : a.size = m) :
    SeqZ Fence.wide n Tryz.prog 74 #[.pointer (some ⟨Bs, 0, none⟩)] (fun t => #[.int .i64 ((m - 1 - t : Nat) : Int), .int .i64 a[m - 1 - t]!]) m (fun A => A.cell? ⟨Bs, 0, none⟩ = some (.slice q m c) ∧ Il A q a) :=
  fun l J Jx W _ hS hY h0 => back_in n a m q c l Bs J Jx W hm hS hY h0
theorem back_any (q : Option Addr) (m c : Nat) (w : World) : Calls Tryz.prog 59 #[.slice q m c] w fun e w' => e = .returned (.func (.func 74) #[] #[.pointer (some ⟨w.heap.size, 0, none⟩)]) ∧ w' = w.alloc (.cells #[.slice q m c] 41) := by
  go_enter Tryz.func59, Tryz.ntmps59
  go_wp2
  go_ret
  exact ⟨rfl, rfl⟩
/-- numbers laid behind others, the last one first -/
structure Laid (X b : Nat) (v : Value) (st : List Int) (W : World) : Prop where
  box : W.heap[X]? = some (.cells #[v] 41 (0, 0))
  own : W.ownsRow b 3 1 v st.length (ints st)
theorem rev_take (a : Array Int) (m t : Nat) (hm : a.size = m) (ht : t < m) : a.toList.reverse.take (t + 1) = a.toList.reverse.take t ++ [a[m - 1 - t]!] := by
  have hl : t < a.toList.reverse.length := by simp; omega
  have hi : m - 1 - t < a.size := by omega
  rw [List.take_succ_eq_append_getElem hl, getElem!_pos a _ hi, List.getElem_reverse]
  simp [hm]
/-- a row's block is no box of one of another kind -/
theorem own_neX {W : World} {b T k : Nat} {v : Value} {n : Nat} {xs : List Value} {X T' : Nat} {cs : Array Value} {q : Nat × Nat} (h : W.ownsRow b T k v n xs) (hX : W.heap[X]? = some (.cells cs T' q)) (hT : T ≠ T') : ∀ g, v.ownBlock = some g → g ≠ X := by
  intro g hg e
  subst e
  rcases h with ⟨ha, ⟨h1, _⟩ | ⟨g', c', cur, hv, hbg, hg2, hr2⟩⟩
  · rw [h1] at hg; cases hg
  · rw [hv] at hg
    obtain rfl : g' = g := by injection hg
    rw [hX] at hg2
    injection hg2 with hg2
    injection hg2 with _ e2 _
    exact hT e2.symm
theorem Laid.keep {X b : Nat} {v : Value} {st : List Int} {W W' : World} (h : Laid X b v st W) (hX : W'.heap[X]? = W.heap[X]?) (hv : ∀ g, v.ownBlock = some g → W'.heap[g]? = W.heap[g]?) : Laid X b v st W' := ⟨hX.trans h.box, own_keepG h.own hv⟩
theorem Grw.more {O : Nat → Prop} {a b c : World} {r : Nat} (h : Grw O a b) (k : b.grownBy c (some r)) (hr : a.heap.size ≤ r) : Grw O a c :=
  ⟨k.os.trans h.os, k.tape.trans h.tape, k.output.trans h.output, Nat.le_trans h.size k.size, fun i hi ho => (k.block i (Nat.lt_of_lt_of_le hi h.size) (by simp; omega)).trans (h.block i hi ho)⟩
set_option maxHeartbeats 8000000 in
theorem lay_in (q : Option Addr) (a : Array Int) (m c X b : Nat) (v : Value) (st : List Int) (w : World) (hm : a.size = m) (hil : Il w q a) (hla : Laid X b v st w) (hq : InO (fun k => v.ownBlock ≠ some k ∧ k ≠ X) q m) (hst : st.length ≤ 1000000000) (hb : b ≤ w.heap.size) :
    CallsIn Fence.wide 6 Tryz.prog 58 #[.slice q m c, .pointer (some ⟨X, 0, none⟩)] w fun e w' => (∃ u, e = .returned u) ∧ ∃ v', Laid X b v' (st ++ a.toList.reverse) w' ∧ Grw (fun k => k = X ∨ v.ownBlock = some k) w w' ∧ (∀ g, v'.ownBlock = some g → v.ownBlock = some g ∨ w.heap.size ≤ g) := by
  obtain ⟨i0, hi, hz0, hz1, hz2⟩ := info_parts info3
  obtain ⟨w3, hw3, hz3, hb3, hr3⟩ := at1 w (.cells #[.slice q m c] 41)
  have hXl : X < w.heap.size := (Array.getElem?_eq_some_iff.1 hla.box).1
  have hgl := fun g hg => (own_lt hla.own g hg).2
  have hgx := own_neX hla.own hla.box (by decide)
  have hsm := hil.small
  rw [hm] at hsm
  have HIL := Lib.hid hil
  have HLA := Lib.hid hla
  have HQ := Lib.hid hq
  have HM := Lib.hid hm
  have HW3 := Lib.hid hw3
  have HBA := Lib.hid fun w => back_any q m c w
  clear hil hla hq hm hw3
  refine callsIn_of_wp_marks Tryz.func58 rfl trivial ?_ rfl
  simp only [Tryz.ntmps58, List.size_toArray, List.length_cons, List.length_nil, Nat.reduceAdd, Nat.reduceSub, Array.replicate_succ, Array.replicate_zero, List.push_toArray, List.append_toArray, List.nil_append, List.cons_append]
  refine wpIn_wide.2 ?_
  go_wp2_with (go_at_call 59; refine (HBA.out _).mono ?_; rintro e w' ⟨rfl, rfl⟩)
  rw [HW3.out]
  refine (wpIn_wide (n := 6)).1 ?_
  refine wpIn_rangeFunc_seqz rfl (by decide) (gf := 74) (lb := #[.pointer (some ⟨w.heap.size, 0, none⟩)]) rfl trivial (enters_of Tryz.func74 (by kernel_rfl) rfl)
    (back_run 5 a m q c w.heap.size HM.out) (fun _ => rfl) (.exit 0)
    (fun t W => (∃ v', Laid X b v' (st ++ a.toList.reverse.take t) W ∧ ∀ g, v'.ownBlock = some g → v.ownBlock = some g ∨ w.heap.size + 3 ≤ g) ∧ Grw (fun k => k = X ∨ v.ownBlock = some k) w W ∧ W.heap[w.heap.size]? = some (.cells #[.slice q m c] 41 (0, 0)))
    (fun _ => False)
    ?hI (fun _ _ h _ => h) (fun t A h => ⟨let ⟨v', a, b⟩ := h.1; ⟨v', a.keep rfl fun _ _ => rfl, b⟩, h.2.1.drew, h.2.2⟩) ?hS ?h0
    (fun t a' W => a' = { tmps := #[.slice q m c, .pointer (some ⟨X, 0, none⟩), undef, undef, .int .i64 a[m - 1 - t]!, .slice q m c, .func (.func 74) #[] #[.pointer (some ⟨w.heap.size, 0, none⟩)], .int .i64 ((m - 1 - t : Nat) : Int), .int .i64 a[m - 1 - t]!, undef, undef, undef, undef], defers := [] })
    ?hAx ?hassign ?hbody ?hdone (fun _ h _ => h.elim)
  case hI =>
    rintro t A D r ⟨⟨v', hla, hfar⟩, hgr, hbx⟩ hg hr
    rw [hz3] at hr
    have hsz := hgr.size
    have hxs := (Array.getElem?_eq_some_iff.1 hbx).1
    refine ⟨⟨v', hla.keep (hg.block X (by omega) (by simp; omega)) fun g hv => ?_, hfar⟩, hgr.more hg (by omega), (hg.block _ hxs (by simp; omega)).trans hbx⟩
    have h2 := (own_lt hla.own g hv).2
    refine hg.block g h2 ?_
    rcases hfar g hv with h | h
    · have := hgl g h
      simp; omega
    · simp; omega
  case hS =>
    rintro t A ⟨_, hgr, hbx⟩
    exact ⟨cell_of_row _ _ 0 _ _ _ hbx, HIL.out.keepO (by rw [HM.out]; exact HQ.out) hgr.size fun k hk hkl => hgr.block k hkl (fun e => by rcases e with e | e; exact hk.2 e; exact hk.1 e)⟩
  case h0 => exact ⟨⟨v, by simpa using HLA.out.keep (hb3.block X hXl) fun g hg => hb3.block g (hgl g hg), fun g h => .inl h⟩, Grw.of_below hb3, hr3⟩
  case hAx => rintro t a A B h _ _; exact h
  case hassign =>
    rintro l t W K ht hI hz hK
    have HKK := Lib.hid (hK)
    have HII := Lib.hid hI
    clear hK hI hr3
    gi_wp2
    exact HKK.out _ _ (gB_of_below (Below.refl _ W) none) HII.out rfl
  case hbody =>
    rintro l t a' W ht ⟨⟨v', hla, hfar⟩, hgr, hbx⟩ rfl hz
    rw [hz3] at hz
    have hrt := rev_take a m t HM.out ht
    obtain ⟨x, hx⟩ : ∃ x, a[m - 1 - t]! = x := ⟨_, rfl⟩
    obtain ⟨i', hi'⟩ : ∃ i' : Int, ((m - 1 - t : Nat) : Int) = i' := ⟨_, rfl⟩
    obtain ⟨st', hst'⟩ : ∃ s, st ++ a.toList.reverse.take t = s := ⟨_, rfl⟩
    rw [hi', hx]
    rw [hx] at hrt
    rw [hst'] at hla
    have hsl : st'.length ≤ 1001000000 := by
      rw [← hst', List.length_append, List.length_take]
      omega
    have c1 : W.cell? ⟨X, 0, none⟩ = some v' := cell_of_row _ _ 0 _ _ _ hla.box
    have hgx' := own_neX hla.own hla.box (by decide)
    have hgl' := fun g hg => (own_lt hla.own g hg).2
    have H2 := Lib.hid hla
    have HFAR := Lib.hid hfar
    have HGR := Lib.hid hgr
    have HBX := Lib.hid hbx
    have HRT := Lib.hid hrt
    have HST := Lib.hid hst'
    clear hla hfar hgr hbx hrt hst' hr3 hi' hx
    gi_wp2_with (first
      | (gi_at_builtin
         refine wpListIn_append_own_at _ rfl _ _ 41 rfl b 3 i0 (.int .i64 0) 1 8 Tryz.underlying41 hi hz0 hz1 hz2 rfl (by decide) v' st'.length (ints st') rfl (H2.out.own.alloc _) ⟨W.heap.size, 0, none⟩ 1 1 [.int .i64 x] rfl rfl (World.news_of_block (heap_alloc_new W _)) (by intro u hu; simp at hu; subst hu; rfl) (by unfold maxLen; omega) (by omega) (by simp; omega) ?_
         intro v8 w8 hown8 hg8 _ hat8
         obtain ⟨g8, cap8, rfl, hb8, hl8⟩ := hown8.form (by omega)
         have x8 := (hg8.block X (by simp; omega) (fun e => hgx' _ e.symm rfl)).trans ((Below.heap_alloc W _ X (by omega)).trans H2.out.box)
         have c8 : w8.cell? ⟨X, 0, none⟩ = some v' := cell_of_row _ _ 0 _ _ _ x8
         have f8 := frozen_of_row _ _ 0 _ _ x8
         have X8 := Lib.hid x8
         have HOW8 := Lib.hid hown8
         have HG8 := Lib.hid hg8
         have HAT8 := Lib.hid hat8
         clear x8 hown8 hg8 hat8))
    have h9 := heap_setCell_same w8 X 0 _ _ (.slice (some ⟨g8, 0, none⟩) (st'.length + 1) cap8) X8.out
    obtain ⟨w9, hw9⟩ : ∃ w9, w8.setCell ⟨X, 0, none⟩ (.slice (some ⟨g8, 0, none⟩) (st'.length + 1) cap8) = w9 := ⟨_, rfl⟩
    have hg9 : w8.grownBy w9 (some X) := by rw [← hw9]; exact gB_setCell (gB_refl _ _) _ _
    rw [hw9] at h9 ⊢
    have hz8 := HG8.out.size
    have hz9 := hg9.size
    have hzW := HGR.out.size
    simp only [World.size_alloc] at hz8
    have hKK : ∀ k, k < W.heap.size → k ≠ X → v'.ownBlock ≠ some k → w9.heap[k]? = W.heap[k]? := fun k hk h1 h2 =>
      (hg9.block k (by omega) (by simpa using h1)).trans ((HG8.out.block k (by simp; omega) (fun e => h2 e.symm)).trans (Below.heap_alloc W _ k hk))
    have hnv : ∀ k, w.heap.size ≤ k → k < w.heap.size + 3 → v'.ownBlock ≠ some k := fun k h1 h2 e => by
      rcases HFAR.out k e with h | h
      · have := hgl k h; omega
      · omega
    refine ⟨⟨by omega, ?_, ?_⟩, ⟨_, ⟨h9, ?_⟩, ?_⟩, ⟨?_, ?_, ?_, by omega, fun k hk hne => ?_⟩, ?_⟩
    · rw [hz3]; exact hKK _ (by omega) (by omega) (hnv _ (by omega) (by omega))
    · rw [hz3]; exact hKK _ (by omega) (by omega) (hnv _ (by omega) (by omega))
    · rw [HRT.out, ← List.append_assoc, HST.out, List.length_append, ints_snoc]
      exact own_keepG HOW8.out fun g hg => hg9.block g (own_lt HOW8.out g hg).2 (by simpa using own_neX HOW8.out X8.out (by decide) g hg)
    · intro g hg
      rcases HAT8.out with e | e
      · exact HFAR.out g (by rw [← e]; exact hg)
      · rw [hg] at e
        injection e with e
        refine .inr ?_
        rw [e, World.size_alloc]
        omega
    · exact hg9.os.trans (HG8.out.os.trans HGR.out.os)
    · exact hg9.tape.trans (HG8.out.tape.trans HGR.out.tape)
    · exact hg9.output.trans (HG8.out.output.trans HGR.out.output)
    · refine (hKK k (by omega) (fun e => hne (.inl e)) fun e => ?_).trans (HGR.out.block k hk hne)
      rcases HFAR.out k e with h | h
      · exact hne (.inr h)
      · omega
    · exact (hKK _ (by omega) (by omega) (hnv _ (by omega) (by omega))).trans HBX.out
  case hdone =>
    rintro W ⟨⟨v', hla, hfar⟩, hgr, hbx⟩ hz hK
    have hN : a.toList.reverse.take m = a.toList.reverse := List.take_of_length_le (by rw [List.length_reverse, Array.length_toList, HM.out]; exact Nat.le_refl _)
    rw [hN] at hla
    rw [hz3] at hz hK
    have H2 := Lib.hid hla
    have HFAR := Lib.hid hfar
    have HGR := Lib.hid hgr
    have HK := Lib.hid hK
    clear hla hfar hgr hK hbx hr3 hN
    go_wp2
    refine ⟨by simp, .inl ⟨_, _, rfl, run_takeDeferred (by rw [hz3]; exact HK.out), ?_⟩⟩
    have gD : W.grownBy (W.putObj w3.heap.size (.deferred none)) (some w3.heap.size) := turn W _ _
    rw [hz3] at gD ⊢
    have hzW := HGR.out.size
    refine ⟨_, results_none rfl _ _ _, ⟨_, rfl⟩, v', H2.out.keep (gD.block X (by omega) (by simp; omega)) fun g hg => gD.block g (own_lt H2.out.own g hg).2 ?_, HGR.out.more gD (by omega), fun g hg => ?_⟩
    · rcases HFAR.out g hg with h | h
      · have := hgl g h
        simp; omega
      · simp; omega
    · rcases HFAR.out g hg with h | h
      · exact .inl h
      · exact .inr (by omega)
theorem lay_any (q : Option Addr) (a : Array Int) (m c X b : Nat) (v : Value) (st : List Int) (w : World) (hm : a.size = m) (hil : Il w q a) (hla : Laid X b v st w) (hq : InO (fun k => v.ownBlock ≠ some k ∧ k ≠ X) q m) (hst : st.length ≤ 1000000000) (hb : b ≤ w.heap.size) :
    Calls Tryz.prog 58 #[.slice q m c, .pointer (some ⟨X, 0, none⟩)] w fun e w' => (∃ u, e = .returned u) ∧ ∃ v', Laid X b v' (st ++ a.toList.reverse) w' ∧ Grw (fun k => k = X ∨ v.ownBlock = some k) w w' ∧ (∀ g, v'.ownBlock = some g → v.ownBlock = some g ∨ w.heap.size ≤ g) :=
  callsIn_wide.1 (lay_in q a m c X b v st w hm hil hla hq hst hb)
end Go.Proofs.YtepelpmkmhhokaaGreatDoor
