/- A graph is its tidy one just if the walk comes to its places one by one, to all, and their keys rise. Conditions: the graph is right. A walker tells a node's keys so that they rise, and whether they stand so. Conditions: the graph is right and lies. -/
import Derived.Test.YtadmhlebkaiblaaGreatDoorRsr
import Derived.Test.YtadmhlebkaiblaaGreatDoorWpx
import Derived.Deep.RegionHeld3
set_option maxRecDepth 100000
namespace Go.Proofs.YtadmhlebkaiblaaGreatDoor
open Go.RowKit Go.Shelf
open Scs Dfs
theorem kidsOf_congr {f g : Fn} (hk : f.k = g.k) (hs : f.keys = g.keys) (hd : f.kids = g.kids) : kidsOf f = kidsOf g := by
  obtain ⟨k, x, pk, ck, keys, pd, cd, kids⟩ := f
  obtain ⟨k', x', pk', ck', keys', pd', cd', kids'⟩ := g
  simp only at hk hs hd
  subst hk hs hd
  rfl
theorem kids_rising {f : Fn} {n : Int} (hR : rightF f n = true) (h : f.keys.toList = keysOf f) : kidsOf f = f.kids.toList := by
  by_cases hk : f.k = 2
  · have hF : TidyF f ⟨f.k, f.x, none, 0, f.keys, none, 0, ((kidsOf f).map fun z => ((idx [] z.toNat : Nat) : Int)).toArray⟩ [] := ⟨rfl, rfl, h, by simp⟩
    have ho : orderN f f.keys.size = List.range f.keys.size := hF.order hR
    have hp : pairedB f = true := by
      unfold pairedB
      rw [if_pos hk]
      exact decide_eq_true (right_map hR hk).1
    rw [← orderN_kids' hp, ho]
    exact map_range _ _ (right_map hR hk).1.symm
  · by_cases hk1 : f.k = 1
    · exact kidsOf_seq hk1
    · have hk0 : f.k = 0 := by rcases right_kind hR with h | h | h <;> omega
      rw [kidsOf_one hk0]
      have := (right_one hR hk0).2
      exact (Array.toList_eq_nil_iff.2 (Array.size_eq_zero_iff.1 this)).symm
theorem tidy_iff {L : Array Fn} {r : Nat} (hb : badFrom L.size L.toList 0 = none) (hr : r < L.size) :
    sameG (r : Int) 0 L (tidyT L (wk L r)) = true ↔ (wk L r).length = L.size ∧ ∀ t, t < (wk L r).length → (wk L r)[t]! = t ∧ L[t]!.keys.toList = keysOf L[t]! := by
  have hT := tidyT_is L (wk L r)
  obtain ⟨T, hTT⟩ : ∃ T, tidyT L (wk L r) = T := ⟨_, rfl⟩
  rw [hTT] at hT ⊢
  clear hTT
  constructor
  · intro h
    unfold sameG at h
    by_cases h0 : (r : Int) = 0
    · have hr0 : r = 0 := by omega
      rw [if_pos h0] at h
      unfold sameNs at h
      obtain ⟨hs, hn⟩ := of_decide_eq_true h
      have hlen : (wk L r).length = L.size := by rw [hs, hT.size]
      have hKN : KN L = KN T := by
        funext i
        unfold KN
        by_cases hi : i < L.size
        · obtain ⟨e1, _, e3, e4⟩ := sameF_iff.1 (hn i hi)
          rw [kidsOf_congr e1 e3 e4]
        · rw [getElem!_neg L i hi, getElem!_neg T i (by omega)]
      have hw := hT.walk hb hr
      have hw2 : wk L r = List.range L.size := by
        rw [← hs] at hw
        rw [← hw, hr0]
        exact congr (congrArg (fun K n => walk K n 0) hKN) hs |>.trans rfl
      refine ⟨hlen, fun t ht => ?_⟩
      have ht2 : t < L.size := by omega
      have e : (wk L r)[t]! = t := by
        rw [hw2, getElem!_pos _ t (by simpa using ht2), List.getElem_range]
      refine ⟨e, ?_⟩
      have h1 := (sameF_iff.1 (hn t ht2)).2.2.1
      rw [h1, (hT.node t ht).keys, e]
    · rw [if_neg h0] at h; cases h
  · rintro ⟨hlen, hall⟩
    have hw2 : wk L r = List.range L.size := by
      refine List.ext_getElem (by simpa using hlen) fun t h1 h2 => ?_
      have := (hall t h1).1
      rw [getElem!_pos _ t h1] at this
      rw [this, List.getElem_range]
    have hr0 : r = 0 := by
      have h1 := wk_mem0 hb hr
      rw [hw2, List.getElem?_range (by omega)] at h1
      exact (Option.some.inj h1).symm
    unfold sameG
    rw [if_pos (by omega)]
    unfold sameNs
    refine decide_eq_true ⟨by rw [hT.size, hlen], fun j hj => sameF_iff.2 ?_⟩
    have hjl : j < (wk L r).length := by omega
    obtain ⟨e, hk⟩ := hall j hjl
    have hF := hT.node j hjl
    rw [e] at hF
    have hR := right_at hb hj
    refine ⟨hF.k.symm, hF.x.symm, ?_, ?_⟩
    · rw [← Array.toList_inj, hF.keys, hk]
    · rw [← Array.toList_inj, hF.kids, ← kids_rising hR hk]
      have : ((kidsOf L[j]!).map fun z => ((idx (wk L r) z.toNat : Nat) : Int)) = (kidsOf L[j]!).map id := by
        refine List.map_congr_left fun z hz => ?_
        have hz2 := kidsOf_mem hR z hz
        rw [hw2, idx_range (by omega)]
        simp; omega
      rw [this, List.map_id]
end Go.Proofs.YtadmhlebkaiblaaGreatDoor

set_option maxRecDepth 100000
namespace Go.Proofs.YtadmhlebkaiblaaGreatDoor
open Go.RowKit Go.Shelf
open Scs Dfs
theorem keys75_any {w0 : World} {L : Array Fn} {r m : Nat} {p : Option Addr} {cap K : Nat} (H : Wkr w0 L r m p cap K) (x : Nat) (hx : x < L.size) (w : World) (hb : Below w0.heap.size w0 w) :
    Calls Tryz.prog 75 #[.agg #[.int .i64 r, .slice p m cap, .map (some K)], .int .i64 x] w fun e w' => ∃ q c, e = .returned (.slice q (keysOf L[x]!).length c) ∧ Sl w' q (keysOf L[x]!).toArray ∧ New w.heap.size q (keysOf L[x]!).length ∧ Below w.heap.size w w' := by
  obtain ⟨W, hW, hz, hbW, hr0⟩ := at1 w (.cells #[.int .i64 r, .slice p m cap, .map (some K)] 57)
  obtain ⟨q0, q1, q2⟩ := cell3 hr0
  have hbb := hb.trans (hbW.mono hb.size)
  have hC := Keys_new (r : Int) L p cap (x : Int) W (H.env.below hbb) (H.gl.below hbb)
  rw [keys_yes hx, H.hm] at hC
  simp only at hC
  obtain ⟨ks, hks⟩ : ∃ ks, keysOf L[x]! = ks := ⟨_, rfl⟩
  rw [hks] at hC ⊢
  obtain ⟨n, hn⟩ : ∃ n, ks.length = n := ⟨_, rfl⟩
  rw [hn] at hC ⊢
  have HC := Lib.hid hC
  have HW := Lib.hid hW
  have HB := Lib.hid hbW
  have HZ := Lib.hid hz
  clear hC hW hb hbW hr0 hbb hx hks hn H hz
  go_enter Tryz.func75, Tryz.ntmps75
  go_upto_region 1 with fail
  rw [HW.out]
  go_wp2_with fail
  refine HC.out.mono ?_
  rintro e w5 ⟨q, c, rfl, hs, hnw, hb5⟩
  have hz := HZ.out
  have HS := Lib.hid hs
  have HNW := Lib.hid hnw
  have HB5 := Lib.hid (HB.out.trans (hb5.mono (by omega)))
  clear hs hnw hb5 q0 q1 q2
  go_wp2_with fail
  go_ret
  exact ⟨q, c, rfl, HS.out, HNW.out.low (by omega), HB5.out⟩
abbrev S3w (B : Nat) (r m : Nat) (p : Option Addr) (cap K : Nat) (ad : Addr) (v : Value) (wo W : World) : Prop :=
  W.cell? ⟨B, 0, none⟩ = some (.int .i64 r) ∧ W.cell? ⟨B, 1, none⟩ = some (.slice p m cap) ∧ W.cell? ⟨B, 2, none⟩ = some (.map (some K)) ∧ W.cell? ad = some v ∧ Below wo.heap.size wo W
theorem s3w_step {B : Nat} {r m : Nat} {p : Option Addr} {cap K : Nat} {ad : Addr} {v : Value} {wo W W' : World} (h : S3w B r m p cap K ad v wo W) (hb : Below W.heap.size W W') : S3w B r m p cap K ad v wo W' := by
  obtain ⟨h0, h1, h2, h3, hbb⟩ := h
  exact ⟨(hb.cell (block_lt_of_cell h0)).trans h0, (hb.cell (block_lt_of_cell h1)).trans h1, (hb.cell (block_lt_of_cell h2)).trans h2, (hb.cell (block_lt_of_cell h3)).trans h3, hbb.trans (hb.mono hbb.size)⟩
theorem s3w_drew {B : Nat} {r m : Nat} {p : Option Addr} {cap K : Nat} {ad : Addr} {v : Value} {wo W : World} (h : S3w B r m p cap K ad v wo W) : S3w B r m p cap K ad v wo W.drew := s3w_step h (Below.refl _ W).drew
/-- do a node's keys rise? -/
def riseB (f : Fn) : Bool := decide (f.keys.toList = keysOf f)
set_option maxHeartbeats 16000000 in
theorem rising59_any {w0 : World} {L : Array Fn} {r m : Nat} {p : Option Addr} {cap K : Nat} (H : Wkr w0 L r m p cap K) (x : Nat) (hx : x < L.size) (w : World) (hb : Below w0.heap.size w0 w) :
    Calls Tryz.prog 59 #[.agg #[.int .i64 r, .slice p m cap, .map (some K)], .int .i64 x] w fun e w' => e = .returned (.bool (riseB L[x]!)) ∧ Below w.heap.size w w' := by
  obtain ⟨W, hW, hz, hbW, hr0⟩ := at1 w (.cells #[.int .i64 r, .slice p m cap, .map (some K)] 57)
  obtain ⟨q0, q1, q2⟩ := cell3 hr0
  have hbb := hb.trans (hbW.mono hb.size)
  have hg := H.gl.below hbb
  have hxm : (x : Int) < (m : Int) := by have := H.hm; omega
  have hk := fun (W' : World) (h : Below W.heap.size W W') => keys75_any H x hx W' (hbb.trans (h.mono hbb.size))
  have hks := hg.nodes x hx
  have he := fun (b : Array Sc) (q : Option Addr) d W' h1 h2 => equalS_any L[x]!.keys b L[x]!.pk q L[x]!.ck d W' h1 h2
  obtain ⟨blk, off, rfl, hbl, c0, c1, c2, c3, c4, c5⟩ := hg.at x hx
  have hrb : riseB L[x]! = decide (L[x]!.keys = (keysOf L[x]!).toArray) := by
    unfold riseB
    rw [Bool.eq_iff_iff, decide_eq_true_iff, decide_eq_true_iff, ← Array.toList_inj]
  rw [hrb]
  obtain ⟨ks, hks2⟩ : ∃ ks, keysOf L[x]! = ks := ⟨_, rfl⟩
  rw [hks2] at hk ⊢
  obtain ⟨n, hn⟩ : ∃ n, ks.length = n := ⟨_, rfl⟩
  have he2 := fun q d W' h1 h2 => he ks.toArray q d W' h1 h2
  rw [show ks.toArray.size = n by rw [List.size_toArray, hn]] at he2
  rw [hn] at hk
  obtain ⟨rb, hrbb⟩ : ∃ b, decide (L[x]!.keys = ks.toArray) = b := ⟨_, rfl⟩
  rw [hrbb] at he2 ⊢
  obtain ⟨pk, hpk⟩ : ∃ z, L[x]!.pk = z := ⟨_, rfl⟩
  obtain ⟨nk, hnk⟩ : ∃ z, L[x]!.keys.size = z := ⟨_, rfl⟩
  obtain ⟨ck, hck⟩ : ∃ z, L[x]!.ck = z := ⟨_, rfl⟩
  rw [hpk, hnk, hck] at c4
  rw [hpk, hnk, hck] at he2
  have hkss := hks.ks
  rw [hpk] at hkss
  obtain ⟨A, hA⟩ : ∃ A, L[x]!.keys = A := ⟨_, rfl⟩
  rw [hA] at hkss he2
  have hS : Hid (S3w w.heap.size r m (some ⟨blk, off, none⟩) cap K ⟨blk, off + x * 6 + 4, none⟩ (.slice pk nk ck) W W) := Lib.hid ⟨q0, q1, q2, c4, Below.refl _ _⟩
  have H75 : Hid (∀ W', Hid (S3w w.heap.size r m (some ⟨blk, off, none⟩) cap K ⟨blk, off + x * 6 + 4, none⟩ (.slice pk nk ck) W W') → Calls Tryz.prog 75 #[.agg #[.int .i64 r, .slice (some ⟨blk, off, none⟩) m cap, .map (some K)], .int .i64 x] W' fun e W'' => (∃ q c, e = .returned (.slice q n c) ∧ Hid (Sl W'' q ks.toArray)) ∧ Hid (S3w w.heap.size r m (some ⟨blk, off, none⟩) cap K ⟨blk, off + x * 6 + 4, none⟩ (.slice pk nk ck) W W'')) :=
    Lib.hid fun W' h => (hk W' h.out.2.2.2.2).mono fun e W'' hh => by
      obtain ⟨q, c, h1, h2, _, h4⟩ := hh
      exact ⟨⟨q, c, h1, Lib.hid h2⟩, Lib.hid (s3w_step h.out h4)⟩
  have H64 : Hid (∀ W' q d, Hid (S3w w.heap.size r m (some ⟨blk, off, none⟩) cap K ⟨blk, off + x * 6 + 4, none⟩ (.slice pk nk ck) W W') → Hid (Sl W' q ks.toArray) → Calls Tryz.prog 64 #[.slice pk nk ck, .slice q n d] W' fun e W'' => e = .returned (.bool rb) ∧ Hid (S3w w.heap.size r m (some ⟨blk, off, none⟩) cap K ⟨blk, off + x * 6 + 4, none⟩ (.slice pk nk ck) W W'')) :=
    Lib.hid fun W' q d h hs => (he2 q d W' (hkss.below h.out.2.2.2.2) hs.out).mono fun e W'' hh => ⟨hh.1, Lib.hid (s3w_step h.out hh.2)⟩
  have HW := Lib.hid hW
  have HB := Lib.hid hbW
  clear hk he he2 hks hkss hW hbW hr0 hbb hg hrb hks2 hn hrbb hpk hnk hck hA c0 c1 c2 c3 c5 q0 q1 q2 c4 H hbl hb
  go_enter Tryz.func59, Tryz.ntmps59
  go_wp2_with fail
  rw [HW.out]
  go_region_held3 (S3w w.heap.size r m (some ⟨blk, off, none⟩) cap K ⟨blk, off + x * 6 + 4, none⟩ (.slice pk nk ck) W) (first | exact Hid.out (by assumption) | exact s3w_drew (Hid.out (by assumption))) (first
    | ((with_reducible refine (H75.out _ (by first | assumption | exact Lib.hid (s3w_drew (Hid.out (by assumption))))).mono ?_); rintro e wq ⟨⟨q, c, rfl, hsl⟩, hbq⟩)
    | ((with_reducible refine (H64.out _ _ _ (by first | assumption | exact Lib.hid (s3w_drew (Hid.out (by assumption)))) (by first | assumption | exact Lib.hid (Sl.below (Hid.out (by assumption)) (Below.refl _ _).drew))).mono ?_); rintro e wq ⟨rfl, hbq⟩))
  all_goals
    go_wp2_with fail
    go_ret
    exact ⟨rfl, HB.out.trans ((Hid.out (by assumption) : S3w w.heap.size r m (some ⟨blk, off, none⟩) cap K ⟨blk, off + x * 6 + 4, none⟩ (.slice pk nk ck) W _).2.2.2.2.mono HB.out.size)⟩
end Go.Proofs.YtadmhlebkaiblaaGreatDoor
