/- A walker tells a graph's tidy one. Conditions: the graph is right and lies. -/
import Derived.Test.YtadmhlebkaiblaaGreatDoorCpy
import Derived.Test.YtadmhlebkaiblaaGreatDoorPat
import Derived.Deep.AppendLies
import Derived.Deep.RegionLaw
set_option maxRecDepth 100000
namespace Go.Proofs.YtadmhlebkaiblaaGreatDoor
open Go.RowKit Go.Shelf
open Scs Dfs
open Go.Sort (HoldsK)
theorem gl_of {b : Nat} {W : World} {q : Option Addr} {n c : Nat} {L : List Fn} (h : W.ownsRow b 48 6 (.slice q n c) n (flatF L)) (hn : L.length = n) (h2 : n ≤ 1000000) (hs : ∀ f ∈ L, Nl W f) : Gl W q L.toArray := by
  subst hn
  refine ⟨by rw [List.size_toArray]; exact h2, fun t ht => ?_, ?_⟩
  · have ht2 : t < L.length := by simpa using ht
    have e : L.toArray[t]! = L[t] := by rw [getElem!_pos L.toArray t ht]; simp
    rw [e]
    exact hs _ (List.getElem_mem ht2)
  · rcases h with ⟨ha, ⟨h1, h2⟩ | ⟨g, c', cur, hv, hbg, hg, hr⟩⟩
    · exact .inl (by simpa using h2)
    · have hp : q = some ⟨g, 0, none⟩ := by injection hv
      refine .inr ⟨g, 0, hp, (Array.getElem?_eq_some_iff.1 hg).1, ?_⟩
      subst hp
      exact holds_rowF (d := L.toArray) (b := b) (c := c) ⟨ha, .inr ⟨g, c', cur, hv, hbg, hg, hr⟩⟩ (by simp)
/-- nodes whose rows lie in blocks of a set -/
def NdO (On : Nat → Prop) (W : World) (F : Fn) : Prop := Nl W F ∧ InO On F.pk F.keys.size ∧ InO On F.pd F.kids.size
theorem NdO.keep {On : Nat → Prop} {W W' : World} {F : Fn} (h : NdO On W F) (hz : W.heap.size ≤ W'.heap.size) (hk : ∀ k, On k → k < W.heap.size → W'.heap[k]? = W.heap[k]?) : NdO On W' F :=
  ⟨⟨h.1.xs, h.1.ks.keepO h.2.1 hz hk, h.1.ds.keepO h.2.2 hz hk⟩, h.2⟩
theorem NdO.mono {On On' : Nat → Prop} {W : World} {F : Fn} (h : NdO On W F) (hO : ∀ k, On k → On' k) : NdO On' W F := ⟨h.1, h.2.1.mono hO, h.2.2.mono hO⟩
theorem Il.inK {w : World} {q : Option Addr} {l : Array Int} {n K : Nat} {M : List (Int × Value)} (h : Il w q l) (hn : l.size = n) (hK : HasM w K M) : InO (fun k => k ≠ K ∧ k < w.heap.size) q n := by
  subst hn
  by_cases h0 : l.size = 0
  · exact .inl h0
  · obtain ⟨blk, off, rfl, hb, _⟩ := h.at 0 (by omega)
    exact .inr ⟨blk, off, rfl, fun e => h.no_map (by omega) (by rw [e]; exact hK), hb⟩
/-- what a round of the tidy graph's making finds -/
structure Td (L : Array Fn) (l : List Nat) (K X : Nat) (W9 : World) (t : Nat) (qv : Option Addr) (cv : Nat) (Ts : List Fn) (M : List (Int × Value)) (O On : Nat → Prop) (W : World) : Prop where
  box : W.heap[X]? = some (.cells #[.int .i64 0, .slice qv t cv] 24 (0, 0))
  own : W.ownsRow (X + 1) 48 6 (.slice qv t cv) t (flatF Ts)
  len : Ts.length = t
  tidy : ∀ s, s < t → TidyF L[l[s]!]! Ts[s]! l
  nodes : ∀ F ∈ Ts, NdO On W F
  kn : Kn L K M O W
  off : ∀ k, (On k ∨ O k) → k ≠ X ∧ (Value.slice qv t cv).ownBlock ≠ some k ∧ k < W.heap.size
  offK : ∀ k, On k → X < k
  grw : Grw (fun k => k = K ∨ k = X) W9 W
/-- a graph lies in blocks from b on -/
def GlN (b : Nat) (w : World) (q : Option Addr) (T : Array Fn) : Prop := ∀ W : World, w.heap.size ≤ W.heap.size → (∀ k, b ≤ k → k < w.heap.size → W.heap[k]? = w.heap[k]?) → Gl W q T
theorem GlN.gl {b : Nat} {w : World} {q : Option Addr} {T : Array Fn} (h : GlN b w q T) : Gl w q T := h w (Nat.le_refl _) fun _ _ _ => rfl
set_option maxHeartbeats 16000000 in
theorem tidied_any {w0 : World} {L : Array Fn} {r m : Nat} {p : Option Addr} {cap K : Nat} (H : Wkr w0 L r m p cap K) (w : World) (hb : Below w0.heap.size w0 w) (hZ : HasM w K []) :
    Calls Tryz.prog 35 #[.agg #[.int .i64 r, .slice p m cap, .map (some K)]] w fun e w' => ∃ (T : Array Fn) (q : Option Addr) (c : Nat), e = .returned (.agg #[.int .i64 0, .slice q T.size c]) ∧ GlN w.heap.size w' q T ∧ TidyG L T (wk L r) ∧ Grw (fun k => k = K) w w' := by
  obtain ⟨W2, hW2, hz2, hb2, hr0, hr1⟩ := at2 w (.cells #[.int .i64 r, .slice p m cap, .map (some K)] 57) (.cells #[.int .i64 0, .slice none 0 0] 24)
  obtain ⟨W3, hW3, hz3, hb3, hr2⟩ := at1 W2 (.cells #[.int .i64 r, .slice p m cap, .map (some K)] 57)
  rw [hz2] at hz3 hr2
  have hKl : K < w.heap.size := (Array.getElem?_eq_some_iff.1 hZ).1
  have hbw : Below w.heap.size w W3 := hb2.trans (hb3.mono (by omega))
  have hr0' := (hb3.block w.heap.size (by omega)).trans hr0
  have hr1' := (hb3.block (w.heap.size + 1) (by omega)).trans hr1
  obtain ⟨q0, q1, q2⟩ := cell3 hr0
  have hCL := collect31_any H (w.heap.size + 2) W3 (hb.trans (hbw.mono hb.size)) hr2 (hZ.keep (hbw.block K hKl))
  have hlen : (wk L r).length ≤ 200 := Nat.le_trans (few_len _ _ (walk_went (KN_lt H.bad) H.root).few) H.few
  have hnod : (wk L r).Nodup := (walk_went (KN_lt H.bad) H.root).few.1
  have hcp := fun (x Mv : Nat) (hx : x ∈ wk L r) (W : World) hb M O hK hMv hMK => copied_any H x Mv hx W hb M O hK hMv hMK
  have HH := Lib.hid H
  obtain ⟨l, hl⟩ : ∃ l, wk L r = l := ⟨_, rfl⟩
  rw [hl] at hCL hlen hnod hcp
  obtain ⟨n, hn⟩ : ∃ n, l.length = n := ⟨_, rfl⟩
  rw [hn] at hCL hlen hcp
  have HCL := Lib.hid hCL
  have HCP := Lib.hid hcp
  have HNOD := Lib.hid hnod
  have HN := Lib.hid hn
  have HLE := Lib.hid hl
  have HB := Lib.hid hb
  have HW2 := Lib.hid hW2
  have HW3 := Lib.hid hW3
  have HR0 := Lib.hid hr0'
  have HR1 := Lib.hid hr1'
  have HBW := Lib.hid hbw
  have HNA := Lib.hid fun w => nodes_any r m p cap K w
  clear hCL hcp hnod hn hl hb hW2 hW3 hr0 hr1 hr0' hr1' hr2 hb2 hb3 hZ H hbw
  have hmm := @run_makeMap Tryz.prog
  go_enter Tryz.func35, Tryz.ntmps35
  go_upto_region 1 with fail
  rw [HW2.out]
  go_wp2_with (go_at_call 32; refine (HNA.out _).mono ?_; rintro e w' ⟨rfl, rfl⟩)
  rw [HW3.out]
  refine HCL.out.mono ?_
  rintro e w5 ⟨q5, c5, O5, M5, rfl, ho5, hkn5, hO5, hg5⟩
  have hl5 : n = (natI l).length := by rw [natI_len]; exact HN.out.symm
  obtain ⟨p9, c9, e9, hil5⟩ := il_own ho5 hl5 (by omega)
  obtain rfl : q5 = p9 := by injection e9
  have HIL5 := Lib.hid hil5
  have HKN5 := Lib.hid hkn5.lt
  have HO5 := Lib.hid hO5
  have HG5 := Lib.hid hg5
  clear ho5 hkn5 hO5 hg5 hil5 hl5 e9 q0 q1 q2
  go_upto_region 3 with fail
  obtain ⟨W6, hW6, hz6, hb6, hr6⟩ := at1 w5 (.map #[] 0)
  rw [hW6]
  have hKl5 := (Array.getElem?_eq_some_iff.1 HKN5.out.has).1
  have hz5 := HG5.out.size
  have hg36 : Grw (fun k => k = K) W3 W6 := HG5.out.trans (Grw.of_below hb6)
  have hkn6 : Kn L K M5 (fun k => O5 k ∧ k < w5.heap.size) W6 := HKN5.out.keep hb6.size (hb6.block K hKl5) fun k hk _ => hb6.block k hk.2
  have hm6 : HasM W6 w5.heap.size (mvL l 0) := hr6
  have HW6 := Lib.hid hW6
  have HZ6 := Lib.hid hz6
  have HG36 := Lib.hid hg36
  have HKN6 := Lib.hid hkn6
  have HM6 := Lib.hid hm6
  have HIL6 := Lib.hid (HIL5.out.below hb6)
  have HZ5 := Lib.hid hz5
  clear hW6 hz6 hb6 hr6 hKl5 hg36 hkn6 hm6 hz5 hmm
  go_wp2_with fail
  go_loopw [5, 6, 16] (fun _ _ i wr => ∃ t : Nat, t ≤ n ∧ i = .int .i64 t ∧ HasM wr w5.heap.size (mvL l t) ∧ Grw (fun k => k = w5.heap.size) W6 wr) (fun _ _ i _ => n - (intOf i).toNat)
  case atStart => exact ⟨0, by omega, rfl, HM6.out, Grw.refl _ _⟩
  case round =>
    obtain ⟨t, ht, rfl, hmr, hgr⟩ := hrel
    by_cases hlt : t < n
    · have i1 : (t : Int) < (n : Int) := by omega
      have htl : t < l.length := by rw [HN.out]; exact hlt
      have hil := HIL6.out.keepO (HIL6.out.noK rfl HM6.out) hgr.size fun k hk hkl => hgr.block k hkl hk
      obtain ⟨b1, o1, rfl, hb1, x1⟩ := hil.at t (by rw [List.size_toArray, natI_len]; exact htl)
      rw [natI_get l t htl] at x1
      have hnin : l[t]! ∉ l.take t := by
        have h1 := (List.take_sublist (t + 1) l).nodup HNOD.out
        rw [List.take_succ_eq_append_getElem htl, List.nodup_append] at h1
        rw [getElem!_pos l t htl]
        exact fun hin => h1.2.2 _ hin _ (by simp) rfl
      have hfn := (mvL_in HNOD.out t (Nat.le_of_lt htl) l[t]!).2 hnin
      have hsc := mvL_succ l t
      obtain ⟨z, hzz⟩ : ∃ z : Nat, l[t]! = z := ⟨_, rfl⟩
      rw [hzz] at x1 hfn hsc
      have hput := put_int Tryz.underlying89 wr w5.heap.size (z : Int) (.int .i64 t) (mvL l t) hmr hfn
      have hhas := hmr.put ((z : Int), .int .i64 t)
      rw [← hsc] at hhas
      obtain ⟨w8, hw8⟩ : ∃ w8, wr.putObj w5.heap.size (.map (entI (mvL l t ++ [((z : Int), .int .i64 t)]) 0).toArray (mvL l t ++ [((z : Int), Value.int .i64 t)]).length) = w8 := ⟨_, rfl⟩
      rw [hsc, hw8] at hhas
      rw [hw8] at hput
      rw [← hsc] at hhas
      have hg8 : wr.grownBy w8 (some w5.heap.size) := by rw [← hw8]; exact Seqo.turn wr _ _
      have HHAS := Lib.hid hhas
      have HG8 := Lib.hid (hgr.trans (Grw.of_grown (O := fun k => k = w5.heap.size) hg8 rfl))
      clear hhas hg8 hw8 hsc hfn hnin hil hzz htl hmr hgr
      go_wp2_with fail
      go_roundw
      case rel => exact ⟨t + 1, by omega, by go_num, HHAS.out, HG8.out⟩
      case measure => simp [intOf]; omega
    · have i1 : ¬ (t : Int) < (n : Int) := by omega
      have htn : t = n := by omega
      rw [htn] at hmr
      obtain ⟨W9, hW9, hz9, hb9, hr9⟩ := at1 wr (.cells #[.int .i64 0, .slice none 0 0] 24)
      have hz6 := HZ6.out
      have hzr := hgr.size
      have hmvl := (Array.getElem?_eq_some_iff.1 hmr).1
      have hm9 : HasM W9 w5.heap.size (mvL l n) := hmr.keep (hb9.block _ hmvl)
      have hMK : w5.heap.size ≠ K := by have := HG5.out.size; have := HZ5.out; omega
      have hKl6 := (Array.getElem?_eq_some_iff.1 HKN6.out.has).1
      have hg69 : Grw (fun k => k = w5.heap.size) W6 W9 := hgr.trans (Grw.of_below hb9)
      have hkn9 : Kn L K M5 (fun k => O5 k ∧ k < w5.heap.size) W9 := HKN6.out.keep hg69.size (hg69.block K hKl6 (Ne.symm hMK)) fun k hk hkl => hg69.block k hkl (by omega)
      have hil9 := HIL6.out.keepO (HIL6.out.noK rfl HM6.out) hg69.size fun k hk hkl => hg69.block k hkl hk
      have hb39 : Grw (fun k => k = K) W3 W9 := by
        have h1 := HG36.out
        have h2 := HG5.out.size
        exact ⟨hg69.os.trans h1.os, hg69.tape.trans h1.tape, hg69.output.trans h1.output, Nat.le_trans h1.size hg69.size, fun k hk hne => (hg69.block k (by have := h1.size; omega) (by omega)).trans (h1.block k hk hne)⟩
      have hX : w.heap.size + 3 ≤ wr.heap.size := by have := HG36.out.size; omega
      have hin9 : InO (fun k => k ≠ K ∧ k < wr.heap.size) q5 (natI l).toArray.size := by
        have hk := HKN5.out.has
        exact (HIL5.out.inK rfl hk).mono fun k hk => ⟨hk.1, by omega⟩
      have h5r : w5.heap.size < wr.heap.size := hmvl
      obtain ⟨X, hXe⟩ : ∃ X, wr.heap.size = X := ⟨_, rfl⟩
      rw [hXe] at hr9 hX hin9 hz9 h5r
      have HXE := Lib.hid hXe
      have HW9 := Lib.hid hW9
      have HR9 := Lib.hid hr9
      have HM9 := Lib.hid hm9
      have HKN9 := Lib.hid hkn9
      have HIL9 := Lib.hid hil9
      have HIN9 := Lib.hid hin9
      have HB39 := Lib.hid hb39
      have HZ9 := Lib.hid hz9
      clear hmr hgr hXe hW9 hz9 hb9 hr9 hm9 hkn9 hil9 hin9 hb39 hg69 hKl6 hmvl hz6 hzr
      go_upto_region 10 with fail
      rw [HW9.out, HXE.out]
      obtain ⟨wo, rfl⟩ : ∃ W, W = wr := ⟨wr, rfl⟩
      go_loopw [9, 27] (fun _ i wx => ∃ s : Nat, ∃ qv cv Ts M O On, s ≤ n ∧ i = .int .i64 s ∧ Td L l K X W9 s qv cv Ts M O On wx) (fun _ i _ => n - (intOf i).toNat)
      case atStart =>
        refine ⟨0, none, 0, [], M5, _, fun _ => False, by omega, rfl, HR9.out, World.ownsRow_nil _ _ _ _, rfl, fun s hs => absurd hs (Nat.not_lt_zero _), fun F hF => by simp at hF, HKN9.out, fun k hk => ?_, fun _ h => h.elim, Grw.refl _ _⟩
        rcases hk with h | h
        · exact h.elim
        · have := h.2
          have := HZ9.out
          exact ⟨by omega, by simp [Value.ownBlock], by omega⟩
      case round =>
        obtain ⟨s, qv, cv, Ts, M, O, On, hs, rfl, htd⟩ := hrel
        have hz9 := HZ9.out
        have hgx := htd.grw
        have hr0x := hgx.keepAll (HB39.out.keepAll HR0.out (by omega)) (by omega)
        have HTD := Lib.hid htd
        by_cases hls : s < n
        · have i2 : (s : Int) < (n : Int) := by omega
          have hsl : s < l.length := by rw [HN.out]; exact hls
          have hilx := HIL9.out.keepO HIN9.out hgx.size fun k hk hkl => hgx.block k hkl (by omega)
          obtain ⟨b1, o1, rfl, hb1, x1⟩ := hilx.at s (by rw [List.size_toArray, natI_len]; exact hsl)
          rw [natI_get l s hsl] at x1
          have hxl : l[s]! ∈ l := by rw [getElem!_pos l s hsl]; exact List.getElem_mem hsl
          obtain ⟨x, hx⟩ : ∃ x : Nat, l[s]! = x := ⟨_, rfl⟩
          rw [hx] at x1 hxl
          obtain ⟨q0, q1, q2⟩ := cell3 hr0x
          have v1 := cell_of_row _ _ 1 _ _ _ htd.box
          have hbx : Below w0.heap.size w0 wr.drew := by
            have h1 := HB.out
            have h2 := HBW.out
            have h3 := HB39.out
            have h4 := HH.out.new
            have h6 := h1.size
            have h7 := h2.size
            have h8 := h3.size
            exact ⟨hgx.os.trans (h3.os.trans (h2.os.trans h1.os)), hgx.tape.trans (h3.tape.trans (h2.tape.trans h1.tape)), hgx.output.trans (h3.output.trans (h2.output.trans h1.output)), by have := hgx.size; rw [World.size_drew]; omega, fun k hk => (hgx.block k (by omega) (by omega)).trans ((h3.block k (by omega) (by omega)).trans ((h2.block k (by omega)).trans (h1.block k hk)))⟩
          have hmx : HasM wr.drew w5.heap.size (mvL l n) := hgx.keepAll HM9.out (by omega)
          have hknx : Kn L K M O wr.drew := htd.kn.keep (Nat.le_refl _) rfl fun _ _ _ => rfl
          have hcp := HCP.out x w5.heap.size hxl wr.drew hbx M O hknx hmx hMK
          have HCP2 := Lib.hid hcp
          obtain ⟨iN, hiN, hzN0, hzN1, hzN2⟩ := info_parts info47
          have hn200 : s ≤ 200 := by omega
          have hXK : X ≠ K := by omega
          have hXl := (Array.getElem?_eq_some_iff.1 htd.box).1
          have hog := fun g hg => own_lt htd.own g hg
          have HXX := Lib.hid hx
          clear hbx hmx hknx hcp htd hgx hr0x hilx hxl hx hsl hz9
          go_upto_region 12 with fail
          go_region_law (first
              | (refine step_append_lies _ rfl (.tmp 32) (.tmp 37) 22 rfl (X + 1) 48 iN (.agg #[.int .i64 0, .int .i64 0, .int .i64 0, .string ⟨#[]⟩, .slice none 0 0, .slice none 0 0]) 6 88 Tryz.underlying22 hiN hzN0 hzN1 hzN2 rfl (by decide) (.slice qv s cv) s (flatF Ts) (by simp [Act.eval]) (HOZ.out.alloc _) ⟨wz.heap.size, 0, none⟩ 1 1 (encF F) (by simp [Act.eval]) rfl (World.news_of_block (heap_alloc_new wz _)) (by intro u hu; simp [encF] at hu; rcases hu with rfl | rfl | rfl | rfl | rfl | rfl <;> rfl) (by decide) (by unfold maxLen; omega) (by omega) (by simp; omega) _ rfl ?_
                 intro g8 cap8 w8 hown8 hgr8 hat8 hlt8
                 have x8 := (hgr8.block X (by simp; omega) (fun e => by have := (hog _ e.symm).1; omega)).trans ((Below.heap_alloc wz _ X (by omega)).trans XZ.out)
                 have y8 : w8.cell? ⟨X, 1, none⟩ = some (.slice qv s cv) := cell_of_row _ _ 1 _ _ _ x8
                 have k8 : w8.frozen? ⟨X, 1, none⟩ = false := frozen_of_row _ _ 1 _ _ x8
                 have X8 := Lib.hid x8
                 have HOW8 := Lib.hid hown8
                 have HGR8 := Lib.hid hgr8
                 have HAT8 := Lib.hid hat8
                 clear x8 hown8 hgr8 hat8)
              | (go_simp; refine HCP2.out.mono ?_; rintro e wz ⟨F, rfl, htf, hnl, hio1, hio2, hgz, M', O', hknz, hOz⟩
                 have xz := hgz.keepAll (show (World.drew wr).heap[X]? = _ from HTD.out.box) hXK
                 have vz : wz.cell? ⟨X, 1, none⟩ = some (.slice qv s cv) := cell_of_row _ _ 1 _ _ _ xz
                 have hzs : X < wz.heap.size := (Array.getElem?_eq_some_iff.1 xz).1
                 have XZ := Lib.hid xz
                 have HOZ := Lib.hid (show wz.ownsRow (X + 1) 48 6 (.slice qv s cv) s (flatF Ts) from own_keepG HTD.out.own fun g hg => hgz.block g (hog g hg).2 (by have := (hog g hg).1; omega))
                 have HTF := Lib.hid htf
                 have HNL := Lib.hid hnl
                 have HIO1 := Lib.hid hio1
                 have HIO2 := Lib.hid hio2
                 have HGZ := Lib.hid hgz
                 have HKNZ := Lib.hid hknz
                 have HOZZ := Lib.hid hOz
                 clear xz htf hnl hio1 hio2 hgz hknz hOz))
          all_goals
            go_wp2
            go_roundw
            case rel =>
              obtain ⟨w9, hw9⟩ : ∃ w9, w8.setCell ⟨X, 1, none⟩ (.slice (some ⟨g8, 0, none⟩) (s + 1) cap8) = w9 := ⟨_, rfl⟩
              have h9 := heap_setCell_same w8 X 1 _ _ (.slice (some ⟨g8, 0, none⟩) (s + 1) cap8) X8.out
              have hg9 : w8.grownBy w9 (some X) := by rw [← hw9]; exact gB_setCell (gB_refl _ _) _ _
              rw [hw9] at h9 ⊢
              have hgz := HGZ.out
              have hzz := hgz.size
              rw [World.size_drew] at hzz
              have hz8 := HGR8.out.size
              simp only [World.size_alloc] at hz8
              have hz9 := hg9.size
              have hz99 := HZ9.out
              have hgw := HTD.out.grw.size
              have hKK : ∀ k, k < wz.heap.size → k ≠ X → (Value.slice qv s cv).ownBlock ≠ some k → w9.heap[k]? = wz.heap[k]? := fun k hk h1 h2 =>
                (hg9.block k (by omega) (by simpa using h1)).trans ((HGR8.out.block k (by simp; omega) (fun e => h2 e.symm)).trans (Below.heap_alloc wz _ k hk))
              have hwz : ∀ k, k < wr.heap.size → k ≠ K → wz.heap[k]? = wr.heap[k]? := fun k hk hne => hgz.block k hk hne
              have hoff := HTD.out.off
              have hlenT := HTD.out.len
              refine ⟨s + 1, some ⟨g8, 0, none⟩, cap8, Ts ++ [F], M', fun k => O k ∨ (wr.heap.size ≤ k ∧ k < wz.heap.size), fun k => On k ∨ (wr.heap.size ≤ k ∧ k < wz.heap.size), by omega, by go_num, ⟨h9, ?_, by simp [hlenT], fun t ht => ?_, fun F' hF' => ?_, ?_, fun k hk => ?_, fun k hk => ?_, ?_⟩⟩
              · rw [flatF_snoc]
                exact own_keepG HOW8.out fun g hg => hg9.block g (own_lt HOW8.out g hg).2 (by have := (own_lt HOW8.out g hg).1; simp; omega)
              · by_cases hts : t < s
                · have h1 := HTD.out.tidy t hts
                  have htT : t < Ts.length := by omega
                  rw [getElem!_pos Ts t htT] at h1
                  rw [getElem!_pos (Ts ++ [F]) t (by simp; omega), List.getElem_append_left htT]
                  exact h1
                · obtain rfl : t = s := by omega
                  rw [HXX.out, getElem!_pos (Ts ++ [F]) t (by simp; omega), List.getElem_append_right (by omega)]
                  simp only [hlenT, Nat.sub_self, List.getElem_singleton]
                  exact HTF.out
              · rcases List.mem_append.1 hF' with h | h
                · refine ((HTD.out.nodes F' h).keep (by omega) fun k hk hkl => ?_).mono fun k hk => .inl hk
                  have h1 := hoff k (.inl hk)
                  exact (hKK k (by omega) h1.1 h1.2.1).trans (hwz k hkl (by have := HTD.out.offK k hk; omega))
                · rw [List.mem_singleton.1 h]
                  have hnd : NdO (fun k => wr.heap.size ≤ k ∧ k < wz.heap.size) wz F := ⟨HNL.out, HIO1.out, HIO2.out⟩
                  refine (hnd.keep (by omega) fun k hk hkl => hKK k hkl (by omega) fun e => ?_).mono fun k hk => .inr hk
                  have := (hog k e).2
                  omega
              · refine (HKNZ.out.keep (by omega) (hKK K (by have := (Array.getElem?_eq_some_iff.1 HKNZ.out.has).1; exact this) (by omega) fun e => by have := (hog K e).1; omega) fun k hk hkl => hKK k hkl ?_ fun e => ?_).mono fun k hk => HOZZ.out k hk
                · rcases HOZZ.out k hk with h | ⟨h, _⟩
                  · exact (hoff k (.inr h)).1
                  · rw [World.size_drew] at h
                    omega
                · rcases HOZZ.out k hk with h | ⟨h, _⟩
                  · exact (hoff k (.inr h)).2.1 e
                  · rw [World.size_drew] at h
                    have := (hog k e).2
                    omega
              · have hgg : ∀ k, k < wz.heap.size → (Value.slice qv s cv).ownBlock ≠ some k → (Value.slice (some ⟨g8, 0, none⟩) (s + 1) cap8).ownBlock ≠ some k := fun k hk hne e => by
                  injection e with e
                  rcases HAT8.out with h | h
                  · exact hne (by rw [h]; exact congrArg some e)
                  · rw [World.size_alloc] at h
                    have : g8 = k := e
                    omega
                have hold : ∀ k, (On k ∨ O k) → k ≠ X ∧ (Value.slice (some ⟨g8, 0, none⟩) (s + 1) cap8).ownBlock ≠ some k ∧ k < w9.heap.size := fun k h => by
                  obtain ⟨h1, h2, h3⟩ := hoff k h
                  exact ⟨h1, hgg k (by omega) h2, by omega⟩
                have hnew : wr.heap.size ≤ k ∧ k < wz.heap.size → k ≠ X ∧ (Value.slice (some ⟨g8, 0, none⟩) (s + 1) cap8).ownBlock ≠ some k ∧ k < w9.heap.size := fun h =>
                  ⟨by omega, hgg k h.2 (fun e => by have := (hog k e).2; omega), by omega⟩
                rcases hk with (h | h) | (h | h)
                · exact hold k (.inl h)
                · exact hnew h
                · exact hold k (.inr h)
                · exact hnew h
              · rcases hk with h | h
                · exact HTD.out.offK k h
                · omega
              · have h1 := HTD.out.grw
                exact ⟨hg9.os.trans (HGR8.out.os.trans (hgz.os.trans h1.os)), hg9.tape.trans (HGR8.out.tape.trans (hgz.tape.trans h1.tape)), hg9.output.trans (HGR8.out.output.trans (hgz.output.trans h1.output)), by omega, fun k hk hne => (hKK k (by omega) (fun e => hne (.inr e)) (fun e => by have := (hog k e).1; omega)).trans ((hwz k (by omega) fun e => hne (.inl e)).trans (h1.block k hk hne))⟩
            case measure => simp [intOf]; omega
        · have i2 : ¬ (s : Int) < (n : Int) := by omega
          have hsn : s = n := by omega
          have v0 := cell_of_row _ _ 0 _ _ _ htd.box
          have v1 := cell_of_row _ _ 1 _ _ _ htd.box
          have hw9z := HB39.out.size
          have r1 := hgx.keepAll (HB39.out.keepAll HR1.out (by omega)) (by omega)
          have t0 := cell_of_row _ _ 0 _ _ _ r1
          have t1 := cell_of_row _ _ 1 _ _ _ r1
          have g0 := frozen_of_row _ _ 0 _ _ r1
          have g1 := frozen_of_row _ _ 1 _ _ r1
          have R1 := Lib.hid r1
          have HGX := Lib.hid hgx
          have HSN := Lib.hid hsn
          have hXl := (Array.getElem?_eq_some_iff.1 htd.box).1
          clear htd hgx hr0x r1 hsn
          go_wp2_with fail
          obtain ⟨w9, hw9⟩ : ∃ w9, ((wr.setCell ⟨w.heap.size + 1, 0, none⟩ (.int .i64 0)).setCell ⟨w.heap.size + 1, 1, none⟩ (.slice qv s cv)) = w9 := ⟨_, rfl⟩
          rw [hw9]
          have r9 : w9.heap[w.heap.size + 1]? = some (.cells #[.int .i64 0, .slice qv s cv] 24 (0, 0)) := by
            rw [← hw9]
            exact heap_setCell_same _ _ 1 _ _ _ (heap_setCell_same _ _ 0 _ _ _ R1.out)
          have g9 : wr.grownBy w9 (some (w.heap.size + 1)) := by rw [← hw9]; exact gB_setCell (gB_setCell (gB_refl _ _) _ _) _ _
          have m0 := cell_of_row _ _ 0 _ _ _ r9
          have m1 := cell_of_row _ _ 1 _ _ _ r9
          refine bodyPost_ret (v := .agg #[.int .i64 0, .slice qv s cv]) (by simp [results, Tryz.results35, go_sem, m0, m1]) rfl ?_
          have htd := HTD.out
          have hlenT := htd.len
          have how : w9.ownsRow (X + 1) 48 6 (.slice qv s cv) s (flatF Ts) := own_keepG htd.own fun g hg => g9.block g (own_lt htd.own g hg).2 (by have := (own_lt htd.own g hg).1; simp; omega)
          have hgl : GlN w.heap.size w9 qv Ts.toArray := fun W hW hk => by
            have hk2 : ∀ k, X < k → k < wr.heap.size → W.heap[k]? = wr.heap[k]? := fun k h1 h2 => (hk k (by omega) (by have := g9.size; omega)).trans (g9.block k h2 (by simp; omega))
            exact gl_of (own_keepG htd.own fun g hg => hk2 g (by have := (own_lt htd.own g hg).1; omega) (own_lt htd.own g hg).2) hlenT (by omega) fun F hF => ((htd.nodes F hF).keep (by have := g9.size; omega) fun k hk' hkl => hk2 k (htd.offK k hk') hkl).1
          have hsn := HSN.out
          have hln := HN.out
          have hb1 := HBW.out
          have hb2 := HB39.out
          have hgx := HGX.out
          have hz1 := hb1.size
          refine ⟨Ts.toArray, qv, ⟨cv, by rw [List.size_toArray, hlenT]⟩, hgl, ?_, ⟨g9.os.trans (hgx.os.trans (hb2.os.trans hb1.os)), g9.tape.trans (hgx.tape.trans (hb2.tape.trans hb1.tape)), g9.output.trans (hgx.output.trans (hb2.output.trans hb1.output)), by have := hb2.size; have := hgx.size; have := g9.size; omega, fun k hk hne => (g9.block k (by omega) (by simp; omega)).trans ((hgx.block k (by omega) (by omega)).trans ((hb2.block k (by omega) hne).trans (hb1.block k hk)))⟩⟩
          rw [HLE.out]
          refine ⟨by rw [List.size_toArray, hlenT, hln, hsn], fun t ht => ?_⟩
          have h1 := htd.tidy t (by omega)
          have htT : t < Ts.length := by omega
          rw [getElem!_pos Ts t htT] at h1
          rw [getElem!_pos Ts.toArray t (by simpa using htT)]
          simpa using h1
end Go.Proofs.YtadmhlebkaiblaaGreatDoor
