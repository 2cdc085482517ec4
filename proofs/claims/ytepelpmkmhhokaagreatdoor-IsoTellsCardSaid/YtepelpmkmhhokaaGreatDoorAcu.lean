/- The statements cut a graph: few nodes, few keys and kids, short texts, in rows of their own. Conditions: the graph's cells. -/
import Derived.Test.YtepelpmkmhhokaaGreatDoorAcv
import Derived.Deep.RegionHeld
import Derived.Deep.RegionHeld3
set_option maxRecDepth 100000
namespace Go.Proofs.YtepelpmkmhhokaaGreatDoor
open Go.RowKit Go.Shelf
open Scs
open Go.Sort (HoldsK)
/-- what comes in: numbers, scalars, nodes of whatever length -/
def IlR (w : World) (p : Option Addr) (l : Array Int) : Prop := ∀ i, i < l.size → ∃ blk off, p = some ⟨blk, off, none⟩ ∧ blk < w.heap.size ∧ w.cell? ⟨blk, off + i, none⟩ = some (.int .i64 l[i]!)
def SlR (w : World) (p : Option Addr) (l : Array Sc) : Prop := ∀ i, i < l.size → ∃ blk off, p = some ⟨blk, off, none⟩ ∧ blk < w.heap.size ∧ w.cell? ⟨blk, off + i * 3, none⟩ = some (.int .i64 l[i]!.1) ∧ w.cell? ⟨blk, off + i * 3 + 1, none⟩ = some (.int .i64 l[i]!.2.1) ∧ w.cell? ⟨blk, off + i * 3 + 2, none⟩ = some (.string l[i]!.2.2)
def GlR (w : World) (p : Option Addr) (L : Array Fn) : Prop := ∀ t, t < L.size → ∃ blk off, p = some ⟨blk, off, none⟩ ∧ blk < w.heap.size ∧ w.cell? ⟨blk, off + t * 6, none⟩ = some (.int .i64 L[t]!.k) ∧ w.cell? ⟨blk, off + t * 6 + 1, none⟩ = some (.int .i64 L[t]!.x.1) ∧
  w.cell? ⟨blk, off + t * 6 + 2, none⟩ = some (.int .i64 L[t]!.x.2.1) ∧ w.cell? ⟨blk, off + t * 6 + 3, none⟩ = some (.string L[t]!.x.2.2) ∧
  w.cell? ⟨blk, off + t * 6 + 4, none⟩ = some (.slice L[t]!.pk L[t]!.keys.size L[t]!.ck) ∧ w.cell? ⟨blk, off + t * 6 + 5, none⟩ = some (.slice L[t]!.pd L[t]!.kids.size L[t]!.cd) ∧ SlR w L[t]!.pk L[t]!.keys ∧ IlR w L[t]!.pd L[t]!.kids
def flatF (L : List Fn) : List Value := L.flatMap encF
theorem flatF_snoc (L : List Fn) (f : Fn) : flatF (L ++ [f]) = flatF L ++ encF f := by simp [flatF]
/-- a node whose keys and kids lie in rows of their own, and are few -/
structure KO (b : Nat) (W : World) (f : Fn) : Prop where
  ks : W.ownsRow b 48 3 (.slice f.pk f.keys.size f.ck) f.keys.size (flatS f.keys.toList)
  ds : W.ownsRow b 3 1 (.slice f.pd f.kids.size f.cd) f.kids.size (ints f.kids.toList)
  k12 : f.keys.size ≤ 12
  d12 : f.kids.size ≤ 12
  xs : f.x.2.2.size ≤ 100
  kx : ∀ x ∈ f.keys.toList, x.2.2.size ≤ 100
structure GO (b : Nat) (W : World) (v : Value) (L : List Fn) : Prop where
  row : W.ownsRow b 51 6 v L.length (flatF L)
  nodes : ∀ f ∈ L, KO b W f
theorem own_ne {W : World} {b b' T T' k k' : Nat} {v v' : Value} {n n' : Nat} {xs xs' : List Value} (h : W.ownsRow b T k v n xs) (h' : W.ownsRow b' T' k' v' n' xs') (hT : T ≠ T') {g g' : Nat} (hg : v.ownBlock = some g) (hg' : v'.ownBlock = some g') : g ≠ g' := by
  rintro rfl
  rcases h with ⟨_, ⟨h1, _⟩ | ⟨g1, c1, cur1, hv1, _, hh1, _⟩⟩
  · rw [h1] at hg; cases hg
  rcases h' with ⟨_, ⟨h1', _⟩ | ⟨g2, c2, cur2, hv2, _, hh2, _⟩⟩
  · rw [h1'] at hg'; cases hg'
  rw [hv1] at hg
  rw [hv2] at hg'
  obtain rfl : g1 = g := by injection hg
  obtain rfl : g2 = g1 := by injection hg'
  rw [hh1] at hh2
  injection hh2 with hh2
  injection hh2 with _ h3 _
  exact hT h3
theorem KO.keep {b : Nat} {W W' : World} {f : Fn} (h : KO b W f) (hk : ∀ g, (Value.slice f.pk f.keys.size f.ck).ownBlock = some g → W'.heap[g]? = W.heap[g]?) (hd : ∀ g, (Value.slice f.pd f.kids.size f.cd).ownBlock = some g → W'.heap[g]? = W.heap[g]?) : KO b W' f :=
  ⟨own_keepG h.ks hk, own_keepG h.ds hd, h.k12, h.d12, h.xs, h.kx⟩
theorem GO.below {b : Nat} {W W' : World} {v : Value} {L : List Fn} (h : GO b W v L) (hb : Below W.heap.size W W') : GO b W' v L :=
  ⟨own_keepG h.row fun g hv => hb.block g (own_lt h.row g hv).2, fun f hf => (h.nodes f hf).keep (fun g hv => hb.block g (own_lt (h.nodes f hf).ks g hv).2) (fun g hv => hb.block g (own_lt (h.nodes f hf).ds g hv).2)⟩
abbrev S5 (b : Nat) (k : Int) (x0 x1 : Int) (x2 : ByteArray) (wo W : World) : Prop :=
  W.cell? ⟨b, 0, none⟩ = some (.int .i64 k) ∧ W.cell? ⟨b, 1, none⟩ = some (.int .i64 x0) ∧ W.cell? ⟨b, 2, none⟩ = some (.int .i64 x1) ∧ W.cell? ⟨b, 3, none⟩ = some (.string x2) ∧ Below wo.heap.size wo W
theorem s5_step {b : Nat} {k x0 x1 : Int} {x2 : ByteArray} {wo W W' : World} (h : S5 b k x0 x1 x2 wo W) (hb : Below W.heap.size W W') : S5 b k x0 x1 x2 wo W' := by
  obtain ⟨h0, h1, h2, h3, hbb⟩ := h
  exact ⟨(hb.cell (block_lt_of_cell h0)).trans h0, (hb.cell (block_lt_of_cell h1)).trans h1, (hb.cell (block_lt_of_cell h2)).trans h2, (hb.cell (block_lt_of_cell h3)).trans h3, hbb.trans (hb.mono hbb.size)⟩
theorem s5_drew {b : Nat} {k x0 x1 : Int} {x2 : ByteArray} {wo W : World} (h : S5 b k x0 x1 x2 wo W) : S5 b k x0 x1 x2 wo W.drew := s5_step h (Below.refl _ W).drew
theorem s5_alloc {b : Nat} {k x0 x1 : Int} {x2 : ByteArray} {wo W : World} (h : S5 b k x0 x1 x2 wo W) (o : Obj) : S5 b k x0 x1 x2 wo (W.alloc o) := s5_step h ((Below.refl _ W).alloc (Nat.le_refl _) o)
theorem at3d (w : World) (o0 o1 o2 : Obj) : ((((w.alloc o0).alloc o1).alloc o2).drew.drew).heap[w.heap.size]? = some o0 ∧ ((((w.alloc o0).alloc o1).alloc o2).drew.drew).heap[w.heap.size + 2]? = some o2 ∧ Below w.heap.size w ((((w.alloc o0).alloc o1).alloc o2).drew.drew) := by
  refine ⟨?_, ?_, ((((Below.refl _ w).alloc (Nat.le_refl _) _).alloc (by simp) _).alloc (by simp; omega) _).drew.drew⟩
  · show (((w.alloc o0).alloc o1).alloc o2).heap[w.heap.size]? = some o0
    rw [Below.heap_alloc _ _ _ (by first | (simp; done) | (simp; omega)), Below.heap_alloc _ _ _ (by simp)]
    exact heap_alloc_new w o0
  · show (((w.alloc o0).alloc o1).alloc o2).heap[w.heap.size + 2]? = some o2
    have h := heap_alloc_new ((w.alloc o0).alloc o1) o2
    rwa [World.size_alloc, World.size_alloc] at h
theorem info47 : (Tryz.prog.info? 51).map (fun i => (i.zero, i.size, i.bytes)) = some (some (.agg #[.int .i64 0, .int .i64 0, .int .i64 0, .string ⟨#[]⟩, .slice none 0 0, .slice none 0 0]), 6, 88) := by kernel_rfl
theorem at3 (w : World) (o0 o1 o2 : Obj) : ∃ W, (((w.alloc o0).alloc o1).alloc o2) = W ∧ W.heap.size = w.heap.size + 3 ∧ Below w.heap.size w W ∧
    W.heap[w.heap.size]? = some o0 ∧ W.heap[w.heap.size + 1]? = some o1 ∧ W.heap[w.heap.size + 2]? = some o2 := by
  refine ⟨_, rfl, by simp, ((((Below.refl _ w).alloc (Nat.le_refl _) _).alloc (by simp) _).alloc (by simp; omega) _), ?_, ?_, ?_⟩
  · rw [Below.heap_alloc _ _ _ (by first | (simp; done) | (simp; omega)), Below.heap_alloc _ _ _ (by simp)]
    exact heap_alloc_new w o0
  · rw [Below.heap_alloc _ _ _ (by simp)]
    have h := heap_alloc_new (w.alloc o0) o1
    rwa [World.size_alloc] at h
  · have h := heap_alloc_new ((w.alloc o0).alloc o1) o2
    rwa [World.size_alloc, World.size_alloc] at h
set_option maxHeartbeats 8000000 in
theorem Cut07_any (root : Int) (L : Array Fn) (p : Option Addr) (cap : Nat) (w : World) (hg : GlR w p L) :
    Calls Tryz.prog 22 #[.agg #[.int .i64 root, .slice p L.size cap]] w fun e w' => ∃ q n c, e = .returned (.agg #[.int .i64 root, .slice q n c]) ∧ (∃ L' : List Fn, L'.length = n ∧ n ≤ 201 ∧ GO w.heap.size w' (.slice q n c) L') ∧ Below w.heap.size w w' := by
  have HG := Lib.hid hg
  clear hg
  go_enter Tryz.func22, Tryz.ntmps22
  go_wp2_with fail
  obtain ⟨W3, hW3, hz3, hb3, y0, y1, y2⟩ := at3 w (.cells #[.int .i64 root, .slice p L.size cap] 24) (.cells #[.int .i64 0, .slice none 0 0] 24) (.cells #[.int .i64 root, .slice none 0 0] 24)
  rw [hW3]
  clear hW3
  go_loopw [4, 5, 6, 7, 8] (fun i _ _ _ _ wr => ∃ t : Nat, ∃ q c, ∃ L' : List Fn, i = .int .i64 t ∧ t ≤ 201 ∧ L'.length = t ∧ wr.heap[w.heap.size]? = some (.cells #[.int .i64 root, .slice p L.size cap] 24 (0, 0)) ∧
    wr.heap[w.heap.size + 1]? = some (.cells #[.int .i64 0, .slice none 0 0] 24 (0, 0)) ∧ wr.heap[w.heap.size + 2]? = some (.cells #[.int .i64 root, .slice q t c] 24 (0, 0)) ∧ GO (w.heap.size + 3) wr (.slice q t c) L' ∧ Below w.heap.size w wr ∧ w.heap.size + 3 ≤ wr.heap.size) (fun i _ _ _ _ _ => 202 - (intOf i).toNat)
  case atStart => exact ⟨0, none, 0, [], rfl, by omega, rfl, y0, y1, y2, ⟨World.ownsRow_nil _ _ _ _, fun f hf => by cases hf⟩, hb3, by omega⟩
  case round =>
    obtain ⟨t, qv, cv, L', rfl, ht, hlen, x0, x1, x2, hgo, hbr, hzr⟩ := hrel
    clear y0 y1 y2 hb3 hz3
    have X0 := Lib.hid x0
    have X1 := Lib.hid x1
    have X2 := Lib.hid x2
    have HGO := Lib.hid hgo
    have HBR := Lib.hid hbr
    have HLN := Lib.hid hlen
    have a1 : wr.cell? ⟨w.heap.size, 1, none⟩ = some (.slice p L.size cap) := cell_of_row _ _ 1 _ _ _ x0
    have e0 : wr.cell? ⟨w.heap.size + 1 + 1, 0, none⟩ = some (.int .i64 root) := cell_of_row _ _ 0 _ _ _ x2
    have e1 : wr.cell? ⟨w.heap.size + 1 + 1, 1, none⟩ = some (.slice qv t cv) := cell_of_row _ _ 1 _ _ _ x2
    have g1 : wr.frozen? ⟨w.heap.size + 1 + 1, 1, none⟩ = false := frozen_of_row _ _ 1 _ _ x2
    clear x0 x1 x2 hgo hbr hlen
    by_cases hlt : t < L.size
    · have i1 : (t : Int) < (L.size : Int) := by omega
      by_cases hlt2 : t < 201
      · have i2 : (t : Int) < 201 := by omega
        obtain ⟨blk, off, rfl, hbl, c0, c1, c2, c3, c4, c5, hks, hds⟩ := HG.out t hlt
        obtain ⟨f, hf⟩ : ∃ f, L[t]! = f := ⟨_, rfl⟩
        rw [hf] at c0 c1 c2 c3 c4 c5 hks hds
        replace c0 := (HBR.out.cell (p := ⟨blk, off + t * 6, none⟩) hbl).trans c0
        replace c1 := (HBR.out.cell (p := ⟨blk, off + t * 6 + 1, none⟩) hbl).trans c1
        replace c2 := (HBR.out.cell (p := ⟨blk, off + t * 6 + 2, none⟩) hbl).trans c2
        replace c3 := (HBR.out.cell (p := ⟨blk, off + t * 6 + 3, none⟩) hbl).trans c3
        replace c4 := (HBR.out.cell (p := ⟨blk, off + t * 6 + 4, none⟩) hbl).trans c4
        replace c5 := (HBR.out.cell (p := ⟨blk, off + t * 6 + 5, none⟩) hbl).trans c5
        have HKS := Lib.hid hks
        have HDS := Lib.hid hds
        have hl1 : blk < wr.heap.size := Nat.lt_of_lt_of_le hbl HBR.out.size
        clear hf hks hds
        go_upto_region 6 with fail
        have hcell := cell6 (heap_alloc_new wr (.cells #[.int .i64 f.k, .int .i64 f.x.1, .int .i64 f.x.2.1, .string f.x.2.2, .slice f.pk f.keys.size f.ck, .slice f.pd f.kids.size f.cd] 51))
        obtain ⟨w5, hw5⟩ : ∃ w5, wr.alloc (.cells #[.int .i64 f.k, .int .i64 f.x.1, .int .i64 f.x.2.1, .string f.x.2.2, .slice f.pk f.keys.size f.ck, .slice f.pd f.kids.size f.cd] 51) = w5 := ⟨_, rfl⟩
        rw [hw5] at hcell ⊢
        have hx5 : w5.heap[wr.heap.size]? = some (.cells #[.int .i64 f.k, .int .i64 f.x.1, .int .i64 f.x.2.1, .string f.x.2.2, .slice f.pk f.keys.size f.ck, .slice f.pd f.kids.size f.cd] 51 (0, 0)) := by rw [← hw5]; exact heap_alloc_new wr _
        have hb5 : Below wr.heap.size wr w5 := by rw [← hw5]; exact (Below.refl _ wr).alloc (Nat.le_refl _) _
        have hz5 : w5.heap.size = wr.heap.size + 1 := by rw [← hw5]; simp
        obtain ⟨n0, n1, n2, n3, n4, n5⟩ := hcell
        have HX5 := Lib.hid hx5
        have HB5 := Lib.hid hb5
        have hC := fun w => Cut_exact f.x w
        have hsz := cutT_size f.x.2.2
        unfold cutS at hC
        obtain ⟨y2, hy2⟩ : ∃ y, cutT f.x.2.2 = y := ⟨_, rfl⟩
        rw [hy2] at hC hsz
        unfold aggS at hC
        have HC := Lib.hid hC
        have HSZ := Lib.hid hsz
        have hlw : wr.heap.size < w5.heap.size := by omega
        clear hw5 hx5 hb5 hC hy2 c0 c1 c2 c3 c4 c5 a1 e0 e1 g1 hsz
        go_cut [6] from 12 to 82 (fun s6 wx => ∃ b6, s6 = .pointer (some ⟨b6, 0, none⟩) ∧ w5.heap.size ≤ b6 ∧ wx.heap[b6]? = some (.cells #[.int .i64 f.k, .int .i64 f.x.1, .int .i64 f.x.2.1, .string y2, .slice none 0 0, .slice none 0 0] 51 (0, 0)) ∧ Below w5.heap.size w5 wx)
        case first =>
          have hA := fun o0 o1 o2 => at3d w5 o0 o1 o2
          have HA := Lib.hid hA
          clear hA
          go_region_with (first | ((with_reducible refine (HC.out _).mono ?_); rintro e wq ⟨rfl, rfl⟩))
          all_goals
            go_wp2
            go_meet
            first
              | exact ⟨_, rfl, by omega, by have h := (HA.out (.cells #[.int .i64 f.k, .int .i64 f.x.1, .int .i64 f.x.2.1, .string y2, .slice none 0 0, .slice none 0 0] 51) (.cells #[.int .i64 f.x.1, .int .i64 f.x.2.1, .string f.x.2.2] 48) (.cells #[.int .i64 f.x.1, .int .i64 f.x.2.1, .string y2] 48)).1; rw [hz5] at h; exact h, (HA.out _ _ _).2.2⟩
              | exact ⟨_, rfl, by omega, by have h := (HA.out (.cells #[.int .i64 f.x.1, .int .i64 f.x.2.1, .string f.x.2.2] 48) (.cells #[.int .i64 f.x.1, .int .i64 f.x.2.1, .string y2] 48) (.cells #[.int .i64 f.k, .int .i64 f.x.1, .int .i64 f.x.2.1, .string y2, .slice none 0 0, .slice none 0 0] 51)).2.1; rw [hz5] at h; exact h, (HA.out _ _ _).2.2⟩
        case rest =>
          obtain ⟨b6, rfl, hb6, hx6, hbx⟩ := hcut
          obtain ⟨wo, rfl⟩ : ∃ W, W = wr := ⟨wr, rfl⟩
          have hx5 := (hbx.block wo.heap.size hlw).trans HX5.out
          have hbw : Below wo.heap.size wo wc := HB5.out.trans (hbx.mono (by omega))
          have hl6 : b6 < wc.heap.size := (Array.getElem?_eq_some_iff.1 hx6).1
          have HX6 := Lib.hid hx6
          have HX5' := Lib.hid hx5
          have HBW := Lib.hid hbw
          clear hx6 hbx hx5 hbw
          obtain ⟨iS, hiS, hzS0, hzS1, hzS2⟩ := info_parts info23
          obtain ⟨wp, rfl⟩ : ∃ W, W = wc := ⟨wc, rfl⟩
          go_step
          go_step
          go_cut [7] from 34 to 55 (fun _ wy => ∃ j : Nat, ∃ q c, ∃ ks : List Sc, j ≤ 12 ∧ ks.length = j ∧ (∀ x ∈ ks, x.2.2.size ≤ 100) ∧ wy.heap[b6]? = some (.cells #[.int .i64 f.k, .int .i64 f.x.1, .int .i64 f.x.2.1, .string y2, .slice q j c, .slice none 0 0] 51 (0, 0)) ∧ wy.ownsRow (b6 + 1) 48 3 (.slice q j c) j (flatS ks) ∧ Below b6 wp wy)
          case first =>
            go_wp2_with fail
            go_loopw [7] (fun i wk => ∃ j : Nat, ∃ q c, ∃ ks : List Sc, i = .int .i64 j ∧ j ≤ 12 ∧ j ≤ f.keys.size ∧ ks.length = j ∧ (∀ x ∈ ks, x.2.2.size ≤ 100) ∧ wk.heap[b6]? = some (.cells #[.int .i64 f.k, .int .i64 f.x.1, .int .i64 f.x.2.1, .string y2, .slice q j c, .slice none 0 0] 51 (0, 0)) ∧ wk.ownsRow (b6 + 1) 48 3 (.slice q j c) j (flatS ks) ∧ Below b6 wp wk) (fun i _ => 13 - (intOf i).toNat)
            case atStart => exact ⟨0, none, 0, [], rfl, by omega, by omega, rfl, fun x hx => absurd hx (by simp), HX6.out, World.ownsRow_nil _ _ _ _, Below.refl _ _⟩
            case round =>
              obtain ⟨j, q, c, ks, rfl, hj, hjs, hkl, hkx, z6, hown, hbk⟩ := hrel
              obtain ⟨wk, rfl⟩ : ∃ W, W = wr := ⟨wr, rfl⟩
              have c4 := (hbk.cell (p := ⟨wo.heap.size, 4, none⟩) (by simp only; omega)).trans (cell_of_row _ _ 4 _ _ _ HX5'.out)
              have y4 : wk.cell? ⟨b6, 4, none⟩ = some (.slice q j c) := cell_of_row _ _ 4 _ _ _ z6
              have g4 : wk.frozen? ⟨b6, 4, none⟩ = false := frozen_of_row _ _ 4 _ _ z6
              have hl6k : b6 < wk.heap.size := (Array.getElem?_eq_some_iff.1 z6).1
              have Z6 := Lib.hid z6
              have HOWN := Lib.hid hown
              have HBK := Lib.hid hbk
              have HKL := Lib.hid hkl
              have HKX := Lib.hid hkx
              clear z6 hown hbk hkl hkx
              replace c4 : wk.cell? ⟨wo.heap.size, 4, none⟩ = some (.slice f.pk f.keys.size f.ck) := c4
              by_cases hlt3 : j < f.keys.size
              · have i3 : (j : Int) < (f.keys.size : Int) := by omega
                by_cases hlt4 : j < 12
                · have i4 : (j : Int) < 12 := by omega
                  obtain ⟨bs, os, hpk, hbs, s0, s1, s2⟩ := HKS.out j hlt3
                  rw [hpk] at c4
                  have hbs2 : bs < wo.heap.size := Nat.lt_of_lt_of_le hbs HBR.out.size
                  replace s0 := (HBK.out.cell (p := ⟨bs, os + j * 3, none⟩) (by simp only; omega)).trans ((HBW.out.cell (p := ⟨bs, os + j * 3, none⟩) hbs2).trans ((HBR.out.cell (p := ⟨bs, os + j * 3, none⟩) hbs).trans s0))
                  replace s1 := (HBK.out.cell (p := ⟨bs, os + j * 3 + 1, none⟩) (by simp only; omega)).trans ((HBW.out.cell (p := ⟨bs, os + j * 3 + 1, none⟩) hbs2).trans ((HBR.out.cell (p := ⟨bs, os + j * 3 + 1, none⟩) hbs).trans s1))
                  replace s2 := (HBK.out.cell (p := ⟨bs, os + j * 3 + 2, none⟩) (by simp only; omega)).trans ((HBW.out.cell (p := ⟨bs, os + j * 3 + 2, none⟩) hbs2).trans ((HBR.out.cell (p := ⟨bs, os + j * 3 + 2, none⟩) hbs).trans s2))
                  obtain ⟨⟨v0, v1, v2⟩, hv⟩ : ∃ x, f.keys[j]! = x := ⟨_, rfl⟩
                  rw [hv] at s0 s1 s2
                  have hC := fun w => Cut_exact (v0, v1, v2) w
                  have hsz := cutT_size v2
                  unfold cutS at hC
                  simp only at hC
                  obtain ⟨u2, hu2⟩ : ∃ y, cutT v2 = y := ⟨_, rfl⟩
                  rw [hu2] at hC hsz
                  unfold aggS at hC
                  have HC := Lib.hid hC
                  have HSZ := Lib.hid hsz
                  clear hC hsz hu2 hv hpk
                  have hb3 := fun (o0 o1 o2 : Obj) => (((Below.refl wk.heap.size wk).alloc (Nat.le_refl _) o0).alloc (by simp) o1).alloc (by simp; omega) o2
                  have hb2 := fun (o0 o1 : Obj) => ((Below.refl wk.heap.size wk).alloc (Nat.le_refl _) o0).alloc (by simp) o1
                  have q3 := ((hb3 (.cells #[.int .i64 v0, .int .i64 v1, .string v2] 48) (.cells #[.int .i64 v0, .int .i64 v1, .string u2] 48) (.cells #[.int .i64 v0, .int .i64 v1, .string u2] 48)).cell (p := ⟨b6, 4, none⟩) hl6k).trans y4
                  have q2 := ((hb2 (.cells #[.int .i64 v0, .int .i64 v1, .string v2] 48) (.cells #[.int .i64 v0, .int .i64 v1, .string u2] 48)).cell (p := ⟨b6, 4, none⟩) hl6k).trans y4
                  clear hb3 hb2
                  go_wp2_with fail
                  go_region_law (first
                    | (refine step_append_lies _ rfl (.tmp 46) (.tmp 53) 49 rfl (b6 + 1) 48 iS (.agg #[.int .i64 0, .int .i64 0, .string ⟨#[]⟩]) 3 32 Tryz.underlying49 hiS hzS0 hzS1 hzS2 rfl (by decide) (.slice q j c) j (flatS ks) (by simp [Act.eval]) (own_keepG (((HOWN.out.alloc (.cells #[.int .i64 v0, .int .i64 v1, .string v2] 48)).alloc (.cells #[.int .i64 v0, .int .i64 v1, .string u2] 48)).alloc (.cells #[.int .i64 v0, .int .i64 v1, .string u2] 48)) (fun _ _ => rfl)) ⟨wk.heap.size + 1 + 1, 0, none⟩ 1 1 [.int .i64 v0, .int .i64 v1, .string u2] (by simp [Act.eval]) rfl (World.news_of_block (by have h := heap_alloc_new ((wk.alloc (.cells #[.int .i64 v0, .int .i64 v1, .string v2] 48)).alloc (.cells #[.int .i64 v0, .int .i64 v1, .string u2] 48)) (.cells #[.int .i64 v0, .int .i64 v1, .string u2] 48); rw [World.size_alloc, World.size_alloc] at h; exact h)) (by intro u hu; simp at hu; rcases hu with rfl | rfl | rfl <;> rfl) (by decide) (by unfold maxLen; omega) (by omega) (by simp; omega) _ rfl ?_
                       intro g8 cap8 w8 hown8 hgr8 _ hlt8
                       have x8 := (hgr8.block b6 (by simp; omega) (fun e => by have := (own_lt HOWN.out _ e.symm).1; omega)).trans ((at3d wk (.cells #[.int .i64 v0, .int .i64 v1, .string v2] 48) (.cells #[.int .i64 v0, .int .i64 v1, .string u2] 48) (.cells #[.int .i64 v0, .int .i64 v1, .string u2] 48)).2.2.block b6 hl6k |>.trans Z6.out)
                       have y8 : w8.cell? ⟨b6, 4, none⟩ = some (.slice q j c) := cell_of_row _ _ 4 _ _ _ x8
                       have k8 : w8.frozen? ⟨b6, 4, none⟩ = false := frozen_of_row _ _ 4 _ _ x8
                       have X8 := Lib.hid x8
                       have HOW8 := Lib.hid hown8
                       have HGR8 := Lib.hid hgr8
                       clear x8 hown8 hgr8)
                    | (go_simp; refine (HC.out _).mono ?_; rintro e w' ⟨rfl, rfl⟩))
                  all_goals
                    go_wp2
                    go_roundw
                    case rel =>
                      have g9 : w8.grownBy (w8.setCell ⟨b6, 4, none⟩ (.slice (some ⟨g8, 0, none⟩) (j + 1) cap8)) (some b6) := gB_setCell (gB_refl _ _) _ _
                      refine ⟨j + 1, _, _, ks ++ [(v0, v1, u2)], by go_num, by omega, by omega, by rw [List.length_append, HKL.out]; rfl, fun x hx => ?_, heap_setCell_same w8 b6 4 _ _ _ X8.out, ?_, ?_⟩
                      · rcases List.mem_append.1 hx with h | h
                        · exact HKX.out x h
                        · rw [List.mem_singleton.1 h]; exact HSZ.out
                      · rw [flatS_snoc]
                        exact own_keepG HOW8.out fun g hv => g9.block g (own_lt HOW8.out g hv).2 (by have := (own_lt HOW8.out g hv).1; simp; omega)
                      · exact ((HBK.out.trans ((at3d wk _ _ _).2.2.mono (by omega))).grown HGR8.out (by simp; omega) fun g hv => by have := (own_lt HOWN.out g hv).1; omega).setCell (Nat.le_refl _) _
                    case measure => simp [intOf]; omega
                · have i4 : ¬ (j : Int) < 12 := by omega
                  go_wp2
                  go_meet
                  exact ⟨j, q, c, ks, hj, HKL.out, HKX.out, Z6.out, HOWN.out, HBK.out⟩
              · have i3 : ¬ (j : Int) < (f.keys.size : Int) := by omega
                go_wp2
                go_meet
                exact ⟨j, q, c, ks, hj, HKL.out, HKX.out, Z6.out, HOWN.out, HBK.out⟩
          case rest =>
            obtain ⟨j, q, c, ks, hj, hkl, hkx, z6, hown, hbk⟩ := hcut
            have Z6 := Lib.hid z6
            have HOWK := Lib.hid hown
            have HBK := Lib.hid hbk
            have HKL := Lib.hid hkl
            have HKX := Lib.hid hkx
            have hl6c : b6 < wc.heap.size := (Array.getElem?_eq_some_iff.1 z6).1
            clear z6 hown hbk hkl hkx
            obtain ⟨iD, hiD, hzD0, hzD1, hzD2⟩ := info_parts info3
            obtain ⟨wq, rfl⟩ : ∃ W, W = wc := ⟨wc, rfl⟩
            go_step
            go_step
            go_cut [8] from 56 to 76 (fun _ wy => ∃ m : Nat, ∃ q2 c2, ∃ ds : List Int, m ≤ 12 ∧ ds.length = m ∧ wy.heap[b6]? = some (.cells #[.int .i64 f.k, .int .i64 f.x.1, .int .i64 f.x.2.1, .string y2, .slice q j c, .slice q2 m c2] 51 (0, 0)) ∧ wy.ownsRow (b6 + 1) 48 3 (.slice q j c) j (flatS ks) ∧ wy.ownsRow (b6 + 1) 3 1 (.slice q2 m c2) m (ints ds) ∧ Below b6 wp wy)
            case first =>
              go_wp2_with fail
              go_loopw [8] (fun i wk => ∃ m : Nat, ∃ q2 c2, ∃ ds : List Int, i = .int .i64 m ∧ m ≤ 12 ∧ m ≤ f.kids.size ∧ ds.length = m ∧ wk.heap[b6]? = some (.cells #[.int .i64 f.k, .int .i64 f.x.1, .int .i64 f.x.2.1, .string y2, .slice q j c, .slice q2 m c2] 51 (0, 0)) ∧ wk.ownsRow (b6 + 1) 48 3 (.slice q j c) j (flatS ks) ∧ wk.ownsRow (b6 + 1) 3 1 (.slice q2 m c2) m (ints ds) ∧ Below b6 wp wk) (fun i _ => 13 - (intOf i).toNat)
              case atStart => exact ⟨0, none, 0, [], rfl, by omega, by omega, rfl, Z6.out, HOWK.out, World.ownsRow_nil _ _ _ _, HBK.out⟩
              case round =>
                obtain ⟨m, q2, c2, ds, rfl, hm, hms, hdl, z6, hownk, hown, hbk⟩ := hrel
                obtain ⟨wk, rfl⟩ : ∃ W, W = wr := ⟨wr, rfl⟩
                have c5 := (hbk.cell (p := ⟨wo.heap.size, 5, none⟩) (by simp only; omega)).trans (cell_of_row _ _ 5 _ _ _ HX5'.out)
                have y5 : wk.cell? ⟨b6, 5, none⟩ = some (.slice q2 m c2) := cell_of_row _ _ 5 _ _ _ z6
                have g5 : wk.frozen? ⟨b6, 5, none⟩ = false := frozen_of_row _ _ 5 _ _ z6
                have hl6k : b6 < wk.heap.size := (Array.getElem?_eq_some_iff.1 z6).1
                have Y6 := Lib.hid z6
                have HOWN := Lib.hid hown
                have HOWQ := Lib.hid hownk
                have HBQ := Lib.hid hbk
                have HDL := Lib.hid hdl
                clear z6 hown hownk hbk hdl
                replace c5 : wk.cell? ⟨wo.heap.size, 5, none⟩ = some (.slice f.pd f.kids.size f.cd) := c5
                by_cases hlt3 : m < f.kids.size
                · have i3 : (m : Int) < (f.kids.size : Int) := by omega
                  by_cases hlt4 : m < 12
                  · have i4 : (m : Int) < 12 := by omega
                    obtain ⟨bs, os, hpd, hbs, s0⟩ := HDS.out m hlt3
                    rw [hpd] at c5
                    have hbs2 : bs < wo.heap.size := Nat.lt_of_lt_of_le hbs HBR.out.size
                    replace s0 := (HBQ.out.cell (p := ⟨bs, os + m, none⟩) (by simp only; omega)).trans ((HBW.out.cell (p := ⟨bs, os + m, none⟩) hbs2).trans ((HBR.out.cell (p := ⟨bs, os + m, none⟩) hbs).trans s0))
                    obtain ⟨v0, hv⟩ : ∃ x, f.kids[m]! = x := ⟨_, rfl⟩
                    rw [hv] at s0
                    clear hv hpd
                    have hb1 := fun (o0 : Obj) => (Below.refl wk.heap.size wk).alloc (Nat.le_refl _) o0
                    have q1 := ((hb1 (.cells #[.int .i64 v0] 3)).cell (p := ⟨b6, 5, none⟩) hl6k).trans y5
                    clear hb1
                    go_wp2_with fail
                    go_region_law (first
                      | (refine step_append_lies _ rfl (.tmp 68) (.tmp 74) 41 rfl (b6 + 1) 3 iD (.int .i64 0) 1 8 Tryz.underlying41 hiD hzD0 hzD1 hzD2 rfl (by decide) (.slice q2 m c2) m (ints ds) (by simp [Act.eval]) (own_keepG (HOWN.out.alloc (.cells #[.int .i64 v0] 3)) (fun _ _ => rfl)) ⟨wk.heap.size, 0, none⟩ 1 1 [.int .i64 v0] (by simp [Act.eval]) rfl (World.news_of_block (heap_alloc_new wk _)) (by intro u hu; simp at hu; rcases hu with rfl; rfl) (by decide) (by unfold maxLen; omega) (by omega) (by simp; omega) _ rfl ?_
                         intro g8 cap8 w8 hown8 hgr8 _ hlt8
                         have x8 := (hgr8.block b6 (by simp; omega) (fun e => by have := (own_lt HOWN.out _ e.symm).1; omega)).trans ((Below.heap_alloc wk (.cells #[.int .i64 v0] 3) b6 hl6k).trans Y6.out)
                         have y8 : w8.cell? ⟨b6, 5, none⟩ = some (.slice q2 m c2) := cell_of_row _ _ 5 _ _ _ x8
                         have k8 : w8.frozen? ⟨b6, 5, none⟩ = false := frozen_of_row _ _ 5 _ _ x8
                         have X8 := Lib.hid x8
                         have HOW8 := Lib.hid hown8
                         have HGR8 := Lib.hid hgr8
                         clear x8 hown8 hgr8))
                    all_goals
                      go_wp2
                      go_roundw
                      case rel =>
                        have g9 : w8.grownBy (w8.setCell ⟨b6, 5, none⟩ (.slice (some ⟨g8, 0, none⟩) (m + 1) cap8)) (some b6) := gB_setCell (gB_refl _ _) _ _
                        have hq8 : w8.ownsRow (b6 + 1) 48 3 (.slice q j c) j (flatS ks) := own_keepG HOWQ.out fun g hv => (HGR8.out.block g (by have := (own_lt HOWQ.out g hv).2; simp; omega) (fun e => own_ne HOWQ.out HOWN.out (by decide) hv e.symm rfl)).trans (Below.heap_alloc wk _ g (own_lt HOWQ.out g hv).2)
                        refine ⟨m + 1, _, _, ds ++ [v0], by go_num, by omega, by omega, by rw [List.length_append, HDL.out]; rfl, heap_setCell_same w8 b6 5 _ _ _ X8.out, ?_, ?_, ?_⟩
                        · exact own_keepG hq8 fun g hv => g9.block g (own_lt hq8 g hv).2 (by have := (own_lt hq8 g hv).1; simp; omega)
                        · rw [ints_snoc]
                          exact own_keepG HOW8.out fun g hv => g9.block g (own_lt HOW8.out g hv).2 (by have := (own_lt HOW8.out g hv).1; simp; omega)
                        · exact ((HBQ.out.trans (((Below.refl wk.heap.size wk).alloc (Nat.le_refl _) (.cells #[.int .i64 v0] 3)).drew.mono (by omega))).grown HGR8.out (by simp; omega) fun g hv => by have := (own_lt HOWN.out g hv).1; omega).setCell (Nat.le_refl _) _
                      case measure => simp [intOf]; omega
                  · have i4 : ¬ (m : Int) < 12 := by omega
                    go_wp2
                    go_meet
                    exact ⟨m, q2, c2, ds, hm, HDL.out, Y6.out, HOWQ.out, HOWN.out, HBQ.out⟩
                · have i3 : ¬ (m : Int) < (f.kids.size : Int) := by omega
                  go_wp2
                  go_meet
                  exact ⟨m, q2, c2, ds, hm, HDL.out, Y6.out, HOWQ.out, HOWN.out, HBQ.out⟩
            case rest =>
              obtain ⟨m, q2, c2, ds, hm, hdl, z6, hownk, hownd, hbk⟩ := hcut
              obtain ⟨wz, rfl⟩ : ∃ W, W = wc := ⟨wc, rfl⟩
              have hbz : Below wo.heap.size wo wz := HBW.out.trans (hbk.mono (by omega))
              have hzo : w.heap.size ≤ wo.heap.size := HBR.out.size
              have hgz := HGO.out.below hbz
              have x0 := (hbz.block w.heap.size (by omega)).trans X0.out
              have x1 := (hbz.block (w.heap.size + 1) (by omega)).trans X1.out
              have x2 := (hbz.block (w.heap.size + 2) (by omega)).trans X2.out
              have e1 : wz.cell? ⟨w.heap.size + 1 + 1, 1, none⟩ = some (.slice qv t cv) := cell_of_row _ _ 1 _ _ _ x2
              have hl2 : w.heap.size + 1 + 1 < wz.heap.size := (Array.getElem?_eq_some_iff.1 x2).1
              obtain ⟨p0, p1, p2, p3, p4, p5⟩ := cell6 z6
              have hrow := hgz.row
              rw [HLN.out] at hrow
              have G0 := Lib.hid x0
              have G1 := Lib.hid x1
              have G2 := Lib.hid x2
              have HGZ := Lib.hid hgz
              have HROW := Lib.hid hrow
              have HOWD := Lib.hid hownd
              have HOWQ := Lib.hid hownk
              have HBZ := Lib.hid (HBR.out.trans (hbz.mono hzo))
              have HDL := Lib.hid hdl
              clear hbz hgz x0 x1 x2 z6 hrow hownk hownd hbk hdl
              obtain ⟨iN, hiN, hzN0, hzN1, hzN2⟩ := info_parts info47
              go_wp2_with (first
                | (at_builtin
                   refine wpList_append_lies _ rfl _ _ 22 rfl (w.heap.size + 3) 51 iN (.agg #[.int .i64 0, .int .i64 0, .int .i64 0, .string ⟨#[]⟩, .slice none 0 0, .slice none 0 0]) 6 88 Tryz.underlying22 hiN hzN0 hzN1 hzN2 rfl (by decide) _ _ _ rfl (HROW.out.alloc _) ⟨wz.heap.size, 0, none⟩ 1 1 [.int .i64 f.k, .int .i64 f.x.1, .int .i64 f.x.2.1, .string y2, .slice q j c, .slice q2 m c2] rfl rfl (World.news_of_block (heap_alloc_new wz _)) (by intro u hu; simp at hu; rcases hu with rfl | rfl | rfl | rfl | rfl | rfl <;> rfl) (by decide) (by unfold maxLen; omega) (by omega) (by simp; omega) _ rfl ?_
                   intro g8 cap8 w8 hown8 hgr8 _ hlt8
                   have x8 := (hgr8.block (w.heap.size + 1 + 1) (by simp; omega) (fun e => by have := (own_lt HROW.out _ e.symm).1; omega)).trans ((Below.heap_alloc wz (.cells #[.int .i64 f.k, .int .i64 f.x.1, .int .i64 f.x.2.1, .string y2, .slice q j c, .slice q2 m c2] 51) _ hl2).trans G2.out)
                   have y8 : w8.cell? ⟨w.heap.size + 1 + 1, 1, none⟩ = some (.slice qv t cv) := cell_of_row _ _ 1 _ _ _ x8
                   have k8 : w8.frozen? ⟨w.heap.size + 1 + 1, 1, none⟩ = false := frozen_of_row _ _ 1 _ _ x8
                   have X8 := Lib.hid x8
                   have HOW8 := Lib.hid hown8
                   have HGR8 := Lib.hid hgr8
                   clear x8 hown8 hgr8))
              go_roundw
              case rel =>
                obtain ⟨w9, hw9⟩ : ∃ w9, w8.setCell ⟨w.heap.size + 1 + 1, 1, none⟩ (.slice (some ⟨g8, 0, none⟩) (t + 1) cap8) = w9 := ⟨_, rfl⟩
                have g9 : w8.grownBy w9 (some (w.heap.size + 2)) := by rw [← hw9]; exact gB_setCell (gB_refl _ _) _ _
                have x9 := heap_setCell_same w8 (w.heap.size + 1 + 1) 1 _ _ (.slice (some ⟨g8, 0, none⟩) (t + 1) cap8) X8.out
                rw [hw9] at x9 ⊢
                have far : ∀ g, g < wz.heap.size → g ≠ w.heap.size + 2 → (∀ g', (Value.slice qv t cv).ownBlock = some g' → g ≠ g') → w9.heap[g]? = wz.heap[g]? := fun g h1 h2 h3 => by
                  refine (g9.block g (Nat.lt_of_lt_of_le (by simp; omega) HGR8.out.size) (by simp; omega)).trans ((HGR8.out.block g (by simp; omega) (fun e => h3 g e.symm rfl)).trans (Below.heap_alloc wz _ g h1))
                have keepR : ∀ {T k v n xs}, T ≠ 51 → wz.ownsRow (w.heap.size + 3) T k v n xs → w9.ownsRow (w.heap.size + 3) T k v n xs := fun hT h => own_keepG h fun g hv => far g (own_lt h g hv).2 (by have := (own_lt h g hv).1; omega) fun g' hg' => own_ne h HROW.out hT hv hg'
                have low := fun g hv => (own_lt HROW.out g hv).1
                refine ⟨t + 1, some ⟨g8, 0, none⟩, cap8, L' ++ [⟨f.k, (f.x.1, f.x.2.1, y2), q, c, ks.toArray, q2, c2, ds.toArray⟩], by go_num, by omega, by rw [List.length_append, HLN.out]; rfl, ?_, ?_, x9, ⟨?_, ?_⟩, ?_, ?_⟩
                · exact (far _ (by omega) (by omega) fun g' hg' => by have := low g' hg'; omega).trans G0.out
                · exact (far _ (by omega) (by omega) fun g' hg' => by have := low g' hg'; omega).trans G1.out
                · have h8 : w8.ownsRow (w.heap.size + 3) 51 6 (.slice (some ⟨g8, 0, none⟩) (t + 1) cap8) (t + 1) (flatF L' ++ [.int .i64 f.k, .int .i64 f.x.1, .int .i64 f.x.2.1, .string y2, .slice q j c, .slice q2 m c2]) := HOW8.out
                  rw [flatF_snoc, List.length_append, HLN.out]
                  have e : encF ⟨f.k, (f.x.1, f.x.2.1, y2), q, c, ks.toArray, q2, c2, ds.toArray⟩ = [.int .i64 f.k, .int .i64 f.x.1, .int .i64 f.x.2.1, .string y2, .slice q j c, .slice q2 m c2] := by
                    unfold encF
                    simp only [List.size_toArray, HKL.out, HDL.out]
                  rw [e]
                  exact own_keepG h8 fun g hv => g9.block g (own_lt h8 g hv).2 (by have := (own_lt h8 g hv).1; simp; omega)
                · intro fn hfn
                  rcases List.mem_append.1 hfn with h | h
                  · have hk := HGZ.out.nodes fn h
                    exact ⟨keepR (by decide) hk.ks, keepR (by decide) hk.ds, hk.k12, hk.d12, hk.xs, hk.kx⟩
                  · rw [List.mem_singleton.1 h]
                    have h1 := keepR (by decide) (own_low HOWQ.out (b' := w.heap.size + 3) (by omega))
                    have h2 := keepR (by decide) (own_low HOWD.out (b' := w.heap.size + 3) (by omega))
                    refine ⟨?_, ?_, ?_, ?_, HSZ.out, ?_⟩
                    · simpa [HKL.out] using h1
                    · simpa [HDL.out] using h2
                    · simp [HKL.out]; exact hj
                    · simp [HDL.out]; exact hm
                    · simpa using HKX.out
                · have hb8 : Below w.heap.size w w8 := (HBZ.out.alloc HBZ.out.size _).grown HGR8.out (by have := HBZ.out.size; simp; omega) fun g hv => by have := low g hv; omega
                  exact hb8.trans (below_of_grown g9 (by omega) hb8.size)
                · have h1 := g9.size
                  have h2 := HGR8.out.size
                  simp only [World.size_alloc] at h2
                  omega
              case measure => simp [intOf]; omega
      · have i2 : ¬ (t : Int) < 201 := by omega
        have d0 : wr.cell? ⟨w.heap.size + 1, 0, none⟩ = some (.int .i64 0) := cell_of_row _ _ 0 _ _ _ X1.out
        have d1 : wr.cell? ⟨w.heap.size + 1, 1, none⟩ = some (.slice none 0 0) := cell_of_row _ _ 1 _ _ _ X1.out
        have h0 : wr.frozen? ⟨w.heap.size + 1, 0, none⟩ = false := frozen_of_row _ _ 0 _ _ X1.out
        have h1 : wr.frozen? ⟨w.heap.size + 1, 1, none⟩ = false := frozen_of_row _ _ 1 _ _ X1.out
        have HL := Lib.hid (Array.getElem?_eq_some_iff.1 X1.out).1
        go_wp2_with fail
        have r1 := heap_setCell_same _ (w.heap.size + 1) 1 _ _ (.slice qv t cv) (heap_setCell_same wr (w.heap.size + 1) 0 _ _ (.int .i64 root) X1.out)
        have g1 : wr.grownBy ((wr.setCell ⟨w.heap.size + 1, 0, none⟩ (.int .i64 root)).setCell ⟨w.heap.size + 1, 1, none⟩ (.slice qv t cv)) (some (w.heap.size + 1)) := gB_setCell (gB_setCell (gB_refl _ _) _ _) _ _
        obtain ⟨W2, hW2⟩ : ∃ W2, (wr.setCell ⟨w.heap.size + 1, 0, none⟩ (.int .i64 root)).setCell ⟨w.heap.size + 1, 1, none⟩ (.slice qv t cv) = W2 := ⟨_, rfl⟩
        rw [hW2] at r1 g1 ⊢
        have m0 := cell_of_row _ _ 0 _ _ _ r1
        have m1 := cell_of_row _ _ 1 _ _ _ r1
        refine bodyPost_ret (v := .agg #[.int .i64 root, .slice qv t cv]) (by simp [results, Tryz.results22, go_sem, m0, m1]) rfl ⟨_, _, _, rfl, ⟨L', HLN.out, by omega, ?_⟩, HBR.out.trans (below_of_grown g1 (by omega) HBR.out.size)⟩
        have keep : ∀ {T k v n xs}, wr.ownsRow (w.heap.size + 3) T k v n xs → W2.ownsRow (w.heap.size + 3) T k v n xs := fun h => own_keepG h fun g hv => g1.block g (own_lt h g hv).2 (by have := (own_lt h g hv).1; simp; omega)
        exact ⟨own_low (keep HGO.out.row) (by omega), fun f hf => ⟨own_low (keep (HGO.out.nodes f hf).ks) (by omega), own_low (keep (HGO.out.nodes f hf).ds) (by omega), (HGO.out.nodes f hf).k12, (HGO.out.nodes f hf).d12, (HGO.out.nodes f hf).xs, (HGO.out.nodes f hf).kx⟩⟩
    · have i1 : ¬ (t : Int) < (L.size : Int) := by omega
      have d0 : wr.cell? ⟨w.heap.size + 1, 0, none⟩ = some (.int .i64 0) := cell_of_row _ _ 0 _ _ _ X1.out
      have d1 : wr.cell? ⟨w.heap.size + 1, 1, none⟩ = some (.slice none 0 0) := cell_of_row _ _ 1 _ _ _ X1.out
      have h0 : wr.frozen? ⟨w.heap.size + 1, 0, none⟩ = false := frozen_of_row _ _ 0 _ _ X1.out
      have h1 : wr.frozen? ⟨w.heap.size + 1, 1, none⟩ = false := frozen_of_row _ _ 1 _ _ X1.out
      have HL := Lib.hid (Array.getElem?_eq_some_iff.1 X1.out).1
      go_wp2_with fail
      have r1 := heap_setCell_same _ (w.heap.size + 1) 1 _ _ (.slice qv t cv) (heap_setCell_same wr (w.heap.size + 1) 0 _ _ (.int .i64 root) X1.out)
      have g1 : wr.grownBy ((wr.setCell ⟨w.heap.size + 1, 0, none⟩ (.int .i64 root)).setCell ⟨w.heap.size + 1, 1, none⟩ (.slice qv t cv)) (some (w.heap.size + 1)) := gB_setCell (gB_setCell (gB_refl _ _) _ _) _ _
      obtain ⟨W2, hW2⟩ : ∃ W2, (wr.setCell ⟨w.heap.size + 1, 0, none⟩ (.int .i64 root)).setCell ⟨w.heap.size + 1, 1, none⟩ (.slice qv t cv) = W2 := ⟨_, rfl⟩
      rw [hW2] at r1 g1 ⊢
      have m0 := cell_of_row _ _ 0 _ _ _ r1
      have m1 := cell_of_row _ _ 1 _ _ _ r1
      refine bodyPost_ret (v := .agg #[.int .i64 root, .slice qv t cv]) (by simp [results, Tryz.results22, go_sem, m0, m1]) rfl ⟨_, _, _, rfl, ⟨L', HLN.out, by omega, ?_⟩, HBR.out.trans (below_of_grown g1 (by omega) HBR.out.size)⟩
      have keep : ∀ {T k v n xs}, wr.ownsRow (w.heap.size + 3) T k v n xs → W2.ownsRow (w.heap.size + 3) T k v n xs := fun h => own_keepG h fun g hv => g1.block g (own_lt h g hv).2 (by have := (own_lt h g hv).1; simp; omega)
      exact ⟨own_low (keep HGO.out.row) (by omega), fun f hf => ⟨own_low (keep (HGO.out.nodes f hf).ks) (by omega), own_low (keep (HGO.out.nodes f hf).ds) (by omega), (HGO.out.nodes f hf).k12, (HGO.out.nodes f hf).d12, (HGO.out.nodes f hf).xs, (HGO.out.nodes f hf).kx⟩⟩
end Go.Proofs.YtepelpmkmhhokaaGreatDoor
