/- The package's iterator yields a map's keys, each with its kid, as they are laid. Conditions: the map lies as it is. The package's iterator yields a map's keys, each with its kid, as they are laid, and lays no block. Conditions: the map lies as it is. -/
import Derived.Test.YtepelpmkmhhokaaGreatDoorArq
import Derived.Stop.RegionWithIn
import Derived.Test.YtepelpmkmhhokaaGreatDoorOwx
set_option maxRecDepth 100000
namespace Go.Proofs.YtepelpmkmhhokaaGreatDoor
open Go.RowKit Go.Shelf
open Scs Seqo
open Go.Sort (HoldsK)
attribute [local go_sem] Oper.semAt_some
abbrev Pr := Sc × Int
def encP (x : Pr) : List Value := [.int .i64 x.1.1, .int .i64 x.1.2.1, .string x.1.2.2, .int .i64 x.2]
abbrev pV (x : Pr) : Value := .agg #[.int .i64 x.1.1, .int .i64 x.1.2.1, .string x.1.2.2, .int .i64 x.2]
/-- how many keys of a map have a kid -/
def pairsN (f : Fn) : Nat := if f.k = 2 then min f.keys.size f.kids.size else 0
abbrev pairAt (f : Fn) (t : Nat) : Pr := (f.keys[t]!, f.kids[t]!)
set_option maxHeartbeats 16000000 in
theorem pairs_in (n : Nat) (f : Fn) (c : Int) (l Bs : Nat) (J : Nat → World → Prop) (Jx : World → Prop) (W : World)
    (hJ : ∀ t A B r, J t A → A.grownBy B (some r) → W.heap.size ≤ r → J t B)
    (hS : ∀ t A, J t A → A.heap[Bs]? = some (.cells #[.int .i64 f.k, .int .i64 f.x.1, .int .i64 f.x.2.1, .string f.x.2.2, .slice f.pk f.keys.size f.ck, .slice f.pd f.kids.size f.cd, .int .i64 c] 151 (0, 0)) ∧ Nl A f)
    (hY : ∀ t A, t < pairsN f → J t A → W.heap.size ≤ A.heap.size → YieldAt Fence.wide (n - 1) Tryz.prog l #[pV (pairAt f t)] A fun e B =>
      (e = .returned (.bool true) ∧ J (t + 1) B ∧ Keeps W.heap.size A B) ∨ (e = .returned (.bool false) ∧ Jx B))
    (h0 : J 0 W) (hk : f.k = 2) :
    CallsIn Fence.wide n Tryz.prog 128 #[.func (.yield l) #[] #[], .pointer (some ⟨Bs, 0, none⟩)] W fun e W' => (∃ v, e = .returned v) ∧ (J (pairsN f) W' ∨ Jx W') := by
  obtain ⟨hc0, hs0⟩ := hS 0 W h0
  have hsm := hs0.ks.small
  have hsd := hs0.ds.small
  obtain ⟨m, hm⟩ : ∃ m, pairsN f = m := ⟨_, rfl⟩
  have hmm : m = min f.keys.size f.kids.size := by rw [← hm]; unfold pairsN; rw [if_pos hk]
  have q0 : W.cell? ⟨Bs, 0, none⟩ = some (.int .i64 f.k) := cell_of_row _ _ 0 _ _ _ hc0
  have q4 : W.cell? ⟨Bs, 4, none⟩ = some (.slice f.pk f.keys.size f.ck) := cell_of_row _ _ 4 _ _ _ hc0
  have q5 : W.cell? ⟨Bs, 5, none⟩ = some (.slice f.pd f.kids.size f.cd) := cell_of_row _ _ 5 _ _ _ hc0
  rw [hm] at hY ⊢
  rw [hk] at q0
  have hmi : min (f.keys.size : Int) (f.kids.size : Int) = (m : Int) := by omega
  have HS := Lib.hid hS
  have HJ := Lib.hid hJ
  have HY := Lib.hid hY
  have H0 := Lib.hid h0
  have HM := Lib.hid hmm
  have HK := Lib.hid hk
  clear hS hY h0 hJ hs0 hc0 hm hmm hk
  refine callsIn_of_wp Tryz.func128 rfl trivial ?_ rfl
  simp only [Tryz.ntmps128, List.size_toArray, List.length_cons, List.length_nil, Nat.reduceAdd, Nat.reduceSub, Array.replicate_succ, Array.replicate_zero, List.push_toArray, List.append_toArray, List.nil_append, List.cons_append]
  gi_wp2
  gi_loopw [17, 3] (fun i _ wr => ∃ t : Nat, t ≤ m ∧ i = .int .i64 t ∧ J t wr ∧ W.heap.size ≤ wr.heap.size) (fun i _ _ => m - (intOf i).toNat)
  case atStart => exact ⟨0, by omega, rfl, H0.out, Nat.le_refl _⟩
  case round =>
    obtain ⟨t, ht, rfl, hj, hz⟩ := hrel
    clear q0 q4 q5
    obtain ⟨hcs, hs⟩ := HS.out t wr hj
    have HJ0 := Lib.hid hj
    by_cases hlt : t < m
    · have hlti : (t : Int) < (m : Int) := by omega
      have hlk : t < f.keys.size := by have := HM.out; omega
      have hld : t < f.kids.size := by have := HM.out; omega
      have hlki : (t : Int) < (f.keys.size : Int) := by omega
      have hldi : (t : Int) < (f.kids.size : Int) := by omega
      obtain ⟨blk, off, hpk, hbl, c0, c1, c2⟩ := hs.ks.at t hlk
      obtain ⟨bld, ofd, hpd, hbd, d0⟩ := hs.ds.at t hld
      have q4 : wr.cell? ⟨Bs, 4, none⟩ = some (.slice f.pk f.keys.size f.ck) := cell_of_row _ _ 4 _ _ _ hcs
      have q5 : wr.cell? ⟨Bs, 5, none⟩ = some (.slice f.pd f.kids.size f.cd) := cell_of_row _ _ 5 _ _ _ hcs
      rw [hpk] at q4
      rw [hpd] at q5
      obtain ⟨x, hx⟩ : ∃ x, f.keys[t]! = x := ⟨_, rfl⟩
      obtain ⟨z, hzz⟩ : ∃ x, f.kids[t]! = x := ⟨_, rfl⟩
      rw [hx] at c0 c1 c2
      rw [hzz] at d0
      obtain ⟨nk, hnk⟩ : ∃ x, f.keys.size = x := ⟨_, rfl⟩
      obtain ⟨nd, hnd⟩ : ∃ x, f.kids.size = x := ⟨_, rfl⟩
      obtain ⟨ck, hck⟩ : ∃ x, f.ck = x := ⟨_, rfl⟩
      obtain ⟨cd, hcd⟩ : ∃ x, f.cd = x := ⟨_, rfl⟩
      rw [hnk] at hlki
      rw [hnd] at hldi
      rw [hnk, hck] at q4
      rw [hnd, hcd] at q5
      obtain ⟨fn, tmps, assign, body, hy, hR⟩ := HY.out t wr.drew hlt (HJ.out t wr _ wr.heap.size hj (gB_drew (gB_refl _ _)) hz) hz
      unfold pV pairAt at hy
      rw [hx, hzz] at hy
      have hR2 := hR.mono (R' := fun e B => ∃ b, e = .returned (.bool b) ∧ ((b = true ∧ J (t + 1) B ∧ Keeps W.heap.size wr.drew B) ∨ (b = false ∧ Jx B))) (by
        rintro e B (⟨rfl, h1, h2⟩ | ⟨rfl, h1⟩)
        · exact ⟨true, rfl, .inl ⟨rfl, h1, h2⟩⟩
        · exact ⟨false, rfl, .inr ⟨rfl, h1⟩⟩)
      have HR := Lib.hid hR2
      clear hR2
      clear hj hR hs hcs hpk hpd hx hzz hnk hnd hck hcd hlk hld HJ0
      gi_wp2
      gi_region_with (refine ⟨fun h => absurd h (by decide), ?_⟩; refine HR.out.mono ?_; rintro e W3 ⟨b, rfl, hd⟩)
      all_goals
        clear hy c0 c1 c2 d0 q4 q5
        rcases hd with ⟨rfl, hJ3, hk3⟩ | ⟨rfl, hJx3⟩
        · have HJ3 := Lib.hid hJ3
          have hz3 : W.heap.size ≤ W3.heap.size := by have h1 := hk3.1; simp only [World.size_drew] at h1; omega
          clear hJ3 hk3
          gi_wp2
          go_roundw
          case rel => exact ⟨t + 1, by omega, by go_num, HJ3.out, hz3⟩
          case measure => simp [intOf]; omega
        · have HJx3 := Lib.hid hJx3
          clear hJx3
          gi_wp2
          refine bodyPost_ret (results_none rfl _ _ _) rfl ?_
          exact ⟨⟨_, rfl⟩, .inr HJx3.out⟩
    · have htN : t = m := by omega
      have HJW := Lib.hid hj
      have HT := Lib.hid htN
      clear hj htN hs hsm hcs HJ0
      gi_wp2
      go_end0
      exact ⟨⟨_, rfl⟩, .inl (by rw [← HT.out]; exact HJW.out)⟩
set_option maxHeartbeats 2000000 in
theorem pairs_none (n : Nat) (f : Fn) (c : Int) (l Bs : Nat) (J : Nat → World → Prop) (Jx : World → Prop) (W : World)
    (hc0 : W.heap[Bs]? = some (.cells #[.int .i64 f.k, .int .i64 f.x.1, .int .i64 f.x.2.1, .string f.x.2.2, .slice f.pk f.keys.size f.ck, .slice f.pd f.kids.size f.cd, .int .i64 c] 151 (0, 0)))
    (h0 : J 0 W) (hk : f.k ≠ 2) :
    CallsIn Fence.wide n Tryz.prog 128 #[.func (.yield l) #[] #[], .pointer (some ⟨Bs, 0, none⟩)] W fun e W' => (∃ v, e = .returned v) ∧ (J (pairsN f) W' ∨ Jx W') := by
  have hm : pairsN f = 0 := by unfold pairsN; rw [if_neg hk]
  have q0 : W.cell? ⟨Bs, 0, none⟩ = some (.int .i64 f.k) := cell_of_row _ _ 0 _ _ _ hc0
  have hne : (f.k != 2) = true := by simp [hk]
  have H0 := Lib.hid h0
  have HM := Lib.hid hm
  clear h0 hm hc0
  refine callsIn_of_wp Tryz.func128 rfl trivial ?_ rfl
  simp only [Tryz.ntmps128, List.size_toArray, List.length_cons, List.length_nil, Nat.reduceAdd, Nat.reduceSub, Array.replicate_succ, Array.replicate_zero, List.push_toArray, List.append_toArray, List.nil_append, List.cons_append]
  gi_wp2
  all_goals
    first
      | (exfalso; simp_all; done)
      | (refine bodyPost_ret (results_none rfl _ _ _) rfl ?_
         exact ⟨⟨_, rfl⟩, .inl (by rw [HM.out]; exact H0.out)⟩)
theorem pairs_run (n : Nat) (f : Fn) (c : Int) (Bs : Nat) :
    SeqOwn Fence.wide n Tryz.prog 128 #[.pointer (some ⟨Bs, 0, none⟩)] (fun t => #[pV (pairAt f t)]) (pairsN f)
      (fun A => A.heap[Bs]? = some (.cells #[.int .i64 f.k, .int .i64 f.x.1, .int .i64 f.x.2.1, .string f.x.2.2, .slice f.pk f.keys.size f.ck, .slice f.pd f.kids.size f.cd, .int .i64 c] 151 (0, 0)) ∧ Nl A f) :=
  fun l J Jx W hJ hS hY h0 => by
    by_cases hk : f.k = 2
    · exact pairs_in n f c l Bs J Jx W hJ hS hY h0 hk
    · exact pairs_none n f c l Bs J Jx W (hS 0 W h0).1 h0 hk
theorem pairs_any (f : Fn) (c : Int) (w : World) : Calls Tryz.prog 104 #[vV f c] w fun e w' => e = .returned (.func (.func 128) #[] #[.pointer (some ⟨w.heap.size, 0, none⟩)]) ∧ w' = w.alloc (.cells #[.int .i64 f.k, .int .i64 f.x.1, .int .i64 f.x.2.1, .string f.x.2.2, .slice f.pk f.keys.size f.ck, .slice f.pd f.kids.size f.cd, .int .i64 c] 151) := by
  unfold vV
  go_enter Tryz.func104, Tryz.ntmps104
  go_wp2
  go_ret
  exact ⟨rfl, rfl⟩
end Go.Proofs.YtepelpmkmhhokaaGreatDoor

set_option maxRecDepth 100000
namespace Go.Proofs.YtepelpmkmhhokaaGreatDoor
open Go.RowKit Go.Shelf
open Scs Seqo
open Go.Sort (HoldsK)
attribute [local go_sem] Oper.semAt_some
set_option maxHeartbeats 16000000 in
theorem pairs_inz (n : Nat) (f : Fn) (c : Int) (l Bs : Nat) (J : Nat → World → Prop) (Jx : World → Prop) (W : World)
    (hJ : ∀ t A, J t A → J t A.drew)
    (hS : ∀ t A, J t A → A.heap[Bs]? = some (.cells #[.int .i64 f.k, .int .i64 f.x.1, .int .i64 f.x.2.1, .string f.x.2.2, .slice f.pk f.keys.size f.ck, .slice f.pd f.kids.size f.cd, .int .i64 c] 151 (0, 0)) ∧ Nl A f)
    (hY : ∀ t A, t < pairsN f → J t A → YieldAt Fence.wide (n - 1) Tryz.prog l #[pV (pairAt f t)] A fun e B =>
      (e = .returned (.bool true) ∧ J (t + 1) B) ∨ (e = .returned (.bool false) ∧ Jx B))
    (h0 : J 0 W) (hk : f.k = 2) :
    CallsIn Fence.wide n Tryz.prog 128 #[.func (.yield l) #[] #[], .pointer (some ⟨Bs, 0, none⟩)] W fun e W' => (∃ v, e = .returned v) ∧ (J (pairsN f) W' ∨ Jx W') := by
  obtain ⟨hc0, hs0⟩ := hS 0 W h0
  have hsm := hs0.ks.small
  have hsd := hs0.ds.small
  obtain ⟨m, hm⟩ : ∃ m, pairsN f = m := ⟨_, rfl⟩
  have hmm : m = min f.keys.size f.kids.size := by rw [← hm]; unfold pairsN; rw [if_pos hk]
  have q0 : W.cell? ⟨Bs, 0, none⟩ = some (.int .i64 f.k) := cell_of_row _ _ 0 _ _ _ hc0
  have q4 : W.cell? ⟨Bs, 4, none⟩ = some (.slice f.pk f.keys.size f.ck) := cell_of_row _ _ 4 _ _ _ hc0
  have q5 : W.cell? ⟨Bs, 5, none⟩ = some (.slice f.pd f.kids.size f.cd) := cell_of_row _ _ 5 _ _ _ hc0
  rw [hm] at hY ⊢
  rw [hk] at q0
  have hmi : min (f.keys.size : Int) (f.kids.size : Int) = (m : Int) := by omega
  have HS := Lib.hid hS
  have HJ := Lib.hid hJ
  have HY := Lib.hid hY
  have H0 := Lib.hid h0
  have HM := Lib.hid hmm
  have HK := Lib.hid hk
  clear hS hY h0 hJ hs0 hc0 hm hmm hk
  refine callsIn_of_wp Tryz.func128 rfl trivial ?_ rfl
  simp only [Tryz.ntmps128, List.size_toArray, List.length_cons, List.length_nil, Nat.reduceAdd, Nat.reduceSub, Array.replicate_succ, Array.replicate_zero, List.push_toArray, List.append_toArray, List.nil_append, List.cons_append]
  gi_wp2
  gi_loopw [17, 3] (fun i _ wr => ∃ t : Nat, t ≤ m ∧ i = .int .i64 t ∧ J t wr) (fun i _ _ => m - (intOf i).toNat)
  case atStart => exact ⟨0, by omega, rfl, H0.out⟩
  case round =>
    obtain ⟨t, ht, rfl, hj⟩ := hrel
    clear q0 q4 q5
    obtain ⟨hcs, hs⟩ := HS.out t wr hj
    have HJ0 := Lib.hid hj
    by_cases hlt : t < m
    · have hlti : (t : Int) < (m : Int) := by omega
      have hlk : t < f.keys.size := by have := HM.out; omega
      have hld : t < f.kids.size := by have := HM.out; omega
      have hlki : (t : Int) < (f.keys.size : Int) := by omega
      have hldi : (t : Int) < (f.kids.size : Int) := by omega
      obtain ⟨blk, off, hpk, hbl, c0, c1, c2⟩ := hs.ks.at t hlk
      obtain ⟨bld, ofd, hpd, hbd, d0⟩ := hs.ds.at t hld
      have q4 : wr.cell? ⟨Bs, 4, none⟩ = some (.slice f.pk f.keys.size f.ck) := cell_of_row _ _ 4 _ _ _ hcs
      have q5 : wr.cell? ⟨Bs, 5, none⟩ = some (.slice f.pd f.kids.size f.cd) := cell_of_row _ _ 5 _ _ _ hcs
      rw [hpk] at q4
      rw [hpd] at q5
      obtain ⟨x, hx⟩ : ∃ x, f.keys[t]! = x := ⟨_, rfl⟩
      obtain ⟨z, hzz⟩ : ∃ x, f.kids[t]! = x := ⟨_, rfl⟩
      rw [hx] at c0 c1 c2
      rw [hzz] at d0
      obtain ⟨nk, hnk⟩ : ∃ x, f.keys.size = x := ⟨_, rfl⟩
      obtain ⟨nd, hnd⟩ : ∃ x, f.kids.size = x := ⟨_, rfl⟩
      obtain ⟨ck, hck⟩ : ∃ x, f.ck = x := ⟨_, rfl⟩
      obtain ⟨cd, hcd⟩ : ∃ x, f.cd = x := ⟨_, rfl⟩
      rw [hnk] at hlki
      rw [hnd] at hldi
      rw [hnk, hck] at q4
      rw [hnd, hcd] at q5
      obtain ⟨fn, tmps, assign, body, hy, hR⟩ := HY.out t wr.drew hlt (HJ.out t wr hj)
      unfold pV pairAt at hy
      rw [hx, hzz] at hy
      have hR2 := hR.mono (R' := fun e B => ∃ b, e = .returned (.bool b) ∧ ((b = true ∧ J (t + 1) B) ∨ (b = false ∧ Jx B))) (by
        rintro e B (⟨rfl, h1⟩ | ⟨rfl, h1⟩)
        · exact ⟨true, rfl, .inl ⟨rfl, h1⟩⟩
        · exact ⟨false, rfl, .inr ⟨rfl, h1⟩⟩)
      have HR := Lib.hid hR2
      clear hR2
      clear hj hR hs hcs hpk hpd hx hzz hnk hnd hck hcd hlk hld HJ0
      gi_wp2
      gi_region_with (refine ⟨fun h => absurd h (by decide), ?_⟩; refine HR.out.mono ?_; rintro e W3 ⟨b, rfl, hd⟩)
      all_goals
        clear hy c0 c1 c2 d0 q4 q5
        rcases hd with ⟨rfl, hJ3⟩ | ⟨rfl, hJx3⟩
        · have HJ3 := Lib.hid hJ3
          clear hJ3
          gi_wp2
          go_roundw
          case rel => exact ⟨t + 1, by omega, by go_num, HJ3.out⟩
          case measure => simp [intOf]; omega
        · have HJx3 := Lib.hid hJx3
          clear hJx3
          gi_wp2
          refine bodyPost_ret (results_none rfl _ _ _) rfl ?_
          exact ⟨⟨_, rfl⟩, .inr HJx3.out⟩
    · have htN : t = m := by omega
      have HJW := Lib.hid hj
      have HT := Lib.hid htN
      clear hj htN hs hsm hcs HJ0
      gi_wp2
      go_end0
      exact ⟨⟨_, rfl⟩, .inl (by rw [← HT.out]; exact HJW.out)⟩
set_option maxHeartbeats 2000000 in
theorem pairs_nonez (n : Nat) (f : Fn) (c : Int) (l Bs : Nat) (J : Nat → World → Prop) (Jx : World → Prop) (W : World)
    (hc0 : W.heap[Bs]? = some (.cells #[.int .i64 f.k, .int .i64 f.x.1, .int .i64 f.x.2.1, .string f.x.2.2, .slice f.pk f.keys.size f.ck, .slice f.pd f.kids.size f.cd, .int .i64 c] 151 (0, 0)))
    (h0 : J 0 W) (hk : f.k ≠ 2) :
    CallsIn Fence.wide n Tryz.prog 128 #[.func (.yield l) #[] #[], .pointer (some ⟨Bs, 0, none⟩)] W fun e W' => (∃ v, e = .returned v) ∧ (J (pairsN f) W' ∨ Jx W') := by
  have hm : pairsN f = 0 := by unfold pairsN; rw [if_neg hk]
  have q0 : W.cell? ⟨Bs, 0, none⟩ = some (.int .i64 f.k) := cell_of_row _ _ 0 _ _ _ hc0
  have hne : (f.k != 2) = true := by simp [hk]
  have H0 := Lib.hid h0
  have HM := Lib.hid hm
  clear h0 hm hc0
  refine callsIn_of_wp Tryz.func128 rfl trivial ?_ rfl
  simp only [Tryz.ntmps128, List.size_toArray, List.length_cons, List.length_nil, Nat.reduceAdd, Nat.reduceSub, Array.replicate_succ, Array.replicate_zero, List.push_toArray, List.append_toArray, List.nil_append, List.cons_append]
  gi_wp2
  all_goals
    first
      | (exfalso; simp_all; done)
      | (refine bodyPost_ret (results_none rfl _ _ _) rfl ?_
         exact ⟨⟨_, rfl⟩, .inl (by rw [HM.out]; exact H0.out)⟩)
theorem pairs_runz (n : Nat) (f : Fn) (c : Int) (Bs : Nat) :
    Seqz.SeqZ Fence.wide n Tryz.prog 128 #[.pointer (some ⟨Bs, 0, none⟩)] (fun t => #[pV (pairAt f t)]) (pairsN f)
      (fun A => A.heap[Bs]? = some (.cells #[.int .i64 f.k, .int .i64 f.x.1, .int .i64 f.x.2.1, .string f.x.2.2, .slice f.pk f.keys.size f.ck, .slice f.pd f.kids.size f.cd, .int .i64 c] 151 (0, 0)) ∧ Nl A f) :=
  fun l J Jx W hJ hS hY h0 => by
    by_cases hk : f.k = 2
    · exact pairs_inz n f c l Bs J Jx W hJ hS hY h0 hk
    · exact pairs_nonez n f c l Bs J Jx W (hS 0 W h0).1 h0 hk
end Go.Proofs.YtepelpmkmhhokaaGreatDoor
