/- The reference tells a graph's tidy one. Conditions: the graph lies. -/
import Derived.Test.YtadmhlebkaiblaaGreatDoorRat
import Derived.Test.YtadmhlebkaiblaaGreatDoorAcx
set_option maxRecDepth 100000
namespace Go.Proofs.YtadmhlebkaiblaaGreatDoor
open Go.RowKit Go.Shelf
open Scs Dfs
open Go.Sort (HoldsK)
/-- a node whose keys and kids lie in rows of their own -/
structure KP (b : Nat) (W : World) (f : Fn) : Prop where
  ks : W.ownsRow b 46 3 (.slice f.pk f.keys.size f.ck) f.keys.size (flatS f.keys.toList)
  ds : W.ownsRow b 3 1 (.slice f.pd f.kids.size f.cd) f.kids.size (ints f.kids.toList)
structure GP (b : Nat) (W : World) (v : Value) (L : List Fn) : Prop where
  row : W.ownsRow b 48 6 v L.length (flatF L)
  nodes : ∀ f ∈ L, KP b W f
theorem KP.keep {b : Nat} {W W' : World} {f : Fn} (h : KP b W f) (hk : ∀ g, b ≤ g → g < W.heap.size → W'.heap[g]? = W.heap[g]?) : KP b W' f :=
  ⟨own_keepG h.ks fun g hv => hk g (own_lt h.ks g hv).1 (own_lt h.ks g hv).2, own_keepG h.ds fun g hv => hk g (own_lt h.ds g hv).1 (own_lt h.ds g hv).2⟩
theorem GP.keep {b : Nat} {W W' : World} {v : Value} {L : List Fn} (h : GP b W v L) (hk : ∀ g, b ≤ g → g < W.heap.size → W'.heap[g]? = W.heap[g]?) : GP b W' v L :=
  ⟨own_keepG h.row fun g hv => hk g (own_lt h.row g hv).1 (own_lt h.row g hv).2, fun f hf => (h.nodes f hf).keep hk⟩
theorem GP.below {b : Nat} {W W' : World} {v : Value} {L : List Fn} (h : GP b W v L) (hb : Below W.heap.size W W') : GP b W' v L := h.keep fun g _ hg => hb.block g hg
theorem GP.nil (b : Nat) (W : World) : GP b W (.slice none 0 0) [] := ⟨World.ownsRow_nil _ _ _ _, fun f hf => by simp at hf⟩
/-- what it takes for such nodes to lie as a graph -/
theorem GP.gl {b : Nat} {W : World} {q : Option Addr} {n c : Nat} {L : List Fn} (h : GP b W (.slice q n c) L) (hn : L.length = n) (h2 : n ≤ 1000000)
    (hs : ∀ f ∈ L, f.x.2.2.size ≤ 1000000 ∧ f.keys.size ≤ 1000000 ∧ f.kids.size ≤ 1000000 ∧ ∀ t, t < f.keys.size → f.keys[t]!.2.2.size ≤ 1000000) : Gl W q L.toArray := by
  subst hn
  refine ⟨by rw [List.size_toArray]; exact h2, fun t ht => ?_, ?_⟩
  · have ht2 : t < L.length := by simpa using ht
    have e : L.toArray[t]! = L[t] := by rw [getElem!_pos L.toArray t ht]; simp
    rw [e]
    obtain ⟨k1, k2⟩ := h.nodes _ (List.getElem_mem ht2)
    obtain ⟨s1, s2, s3, s4⟩ := hs _ (List.getElem_mem ht2)
    refine ⟨s1, ?_, ?_⟩
    · obtain ⟨p, c', hv, hsl⟩ := sl_ownK k1 (by rw [Array.length_toList]) s2 (fun t ht => by simpa using s4 t (by simpa using ht))
      have hp : L[t].pk = p := by injection hv
      rw [hp]
      simpa using hsl
    · obtain ⟨p, c', hv, hil⟩ := il_own k2 (by rw [Array.length_toList]) s3
      have hp : L[t].pd = p := by injection hv
      rw [hp]
      simpa using hil
  · rcases h.row with ⟨_, ⟨h1, h2⟩ | ⟨g, c', cur, hv, hbg, hg, hr⟩⟩
    · exact .inl (by simpa using h2)
    · have hp : q = some ⟨g, 0, none⟩ := by injection hv
      refine .inr ⟨g, 0, hp, (Array.getElem?_eq_some_iff.1 hg).1, ?_⟩
      have h3 := h.row
      rw [hp] at h3
      exact holds_rowF (d := L.toArray) h3 (by simp)
theorem own_shape {W : World} {b T k n : Nat} {v : Value} {xs : List Value} (h : W.ownsRow b T k v n xs) : ∃ p c, v = .slice p n c := by
  rcases h with ⟨_, ⟨h1, h2⟩ | ⟨g, c', cur, hv, _⟩⟩
  · exact ⟨none, 0, by rw [h1, h2]⟩
  · exact ⟨_, _, hv⟩
theorem gl_nil (w : World) (p : Option Addr) : Gl w p #[] := ⟨by decide, fun t ht => absurd ht (Nat.not_lt_zero _), .inl rfl⟩
/-- what a tidy node's texts and rows measure -/
theorem tidy_small {L : Array Fn} {w : World} {p : Option Addr} (hg : Gl w p L) {x : Nat} (hx : x < L.size) {F : Fn} {l : List Nat} (h : TidyF L[x]! F l) :
    F.x.2.2.size ≤ 1000000 ∧ F.keys.size ≤ 1000000 ∧ F.kids.size ≤ 1000000 ∧ ∀ t, t < F.keys.size → F.keys[t]!.2.2.size ≤ 1000000 := by
  obtain ⟨k1, k2⟩ := keysG_small L (x : Int) w p hg
  have k3 := kidsG_len L (x : Int) w p hg
  rw [keys_yes hx] at k1 k2
  rw [kids_yes hx] at k3
  simp only at k1 k2 k3
  rw [← h.keys] at k1 k2
  refine ⟨by rw [h.x]; exact (hg.nodes x hx).xs, by rw [← Array.length_toList]; exact k1, by rw [← Array.length_toList, h.kids, List.length_map]; exact k3, fun t ht => ?_⟩
  have := k2 t (by rw [Array.length_toList]; exact ht)
  simpa using this
set_option maxHeartbeats 16000000 in
theorem Tidy16_in (root : Int) (L : Array Fn) (m : Nat) (p : Option Addr) (cap : Nat) (w : World) (hm : L.size = m) (hg : Gl w p L) :
    Calls Tryz.prog 16 #[.agg #[.int .i64 root, .slice p m cap]] w fun e w' => ∃ (T : Array Fn) (q : Option Addr) (c : Nat), e = .returned (.tuple #[.agg #[.int .i64 0, .slice q T.size c], .int .i64 (checkG root L.toList).2]) ∧ Gl w' q T ∧
      ((checkG root L.toList).2 = 0 → TidyG L T (wk L root.toNat)) ∧ ((checkG root L.toList).2 ≠ 0 → T = #[]) ∧ Below w.heap.size w w' := by
  obtain ⟨W, hW, hz, hb0, hr0, hr1⟩ := at2 w (.cells #[.int .i64 root, .slice p m cap] 24) (.cells #[.int .i64 0, .slice none 0 0] 24)
  have hWK := fun W G => Walk14_any root L p cap W G
  have hsm := hg.small
  rw [hm] at hWK hsm
  have q0 := cell_of_row _ _ 0 _ _ _ hr0
  have q1 := cell_of_row _ _ 1 _ _ _ hr0
  have HG := Lib.hid (hg.below hb0)
  have HW := Lib.hid hW
  have HZ := Lib.hid hz
  have HR0 := Lib.hid hr0
  have HR1 := Lib.hid hr1
  have HB0 := Lib.hid hb0
  have HM := Lib.hid hm
  have HWK := Lib.hid hWK
  have hck := check_right (root := root) (L := L)
  have hwl := walkG_len root L
  have hwg : walkG root L = if (checkG root L.toList).2 = 0 then (wk L root.toNat, 0) else ([], (checkG root L.toList).2) := rfl
  obtain ⟨e1, he1⟩ : ∃ c, (checkG root L.toList).2 = c := ⟨_, rfl⟩
  rw [he1] at hck hwg ⊢
  obtain ⟨⟨l, e2⟩, hwr⟩ : ∃ c, walkG root L = c := ⟨_, rfl⟩
  rw [hwr] at hwg hwl
  clear hWK hW hz hr0 hr1 hb0 hg hm he1
  by_cases he : e1 = 0
  · rw [if_pos he] at hwg
    obtain ⟨rfl, rfl⟩ := Prod.mk.inj hwg
    subst he
    obtain ⟨hb, hroot, hlt, h200⟩ := hck rfl
    have hll := wk_lt hb hlt
    have hcl := wk_closed hb hlt
    obtain ⟨lw, hlw⟩ : ∃ l, wk L root.toNat = l := ⟨_, rfl⟩
    rw [hlw] at hll hcl hwl hwr ⊢
    rw [hwr] at HWK
    obtain ⟨n, hn⟩ : ∃ n, lw.length = n := ⟨_, rfl⟩
    simp only at hwl HWK
    rw [hn] at hwl HWK
    have HLL := Lib.hid hll
    have HCL := Lib.hid hcl
    have HBD := Lib.hid hb
    have HN := Lib.hid hn
    have hnn : n ≤ 1000000 := by omega
    clear hck hwg hb hroot hlt h200 hll hcl hlw hn hwr hwl
    go_enter Tryz.func16, Tryz.ntmps16
    go_upto_region 1 with fail
    rw [HW.out]
    go_wp2_with fail
    refine (HWK.out _ HG.out).mono ?_
    rintro e w5 ⟨q5, c5, rfl, hil5, hb5⟩
    have HR5 := Lib.hid ((hb5.block _ (Array.getElem?_eq_some_iff.1 HR0.out).1).trans HR0.out)
    have HQ5 := Lib.hid ((hb5.block _ (Array.getElem?_eq_some_iff.1 HR1.out).1).trans HR1.out)
    have HG5 := Lib.hid (HG.out.below hb5)
    have HB5 := Lib.hid (HB0.out.trans (hb5.mono HB0.out.size))
    have HIL5 := Lib.hid hil5
    have HZ5 := Lib.hid (show w.heap.size + 2 ≤ w5.heap.size by have := HZ.out; have := hb5.size; omega)
    clear hb5 hil5 q0 q1
    go_upto_region 5 with fail
    obtain ⟨V, hV⟩ : ∃ V, (w5.alloc (.cells #[.int .i64 0, .slice none 0 0] 24)) = V := ⟨_, rfl⟩
    have hv0 : V.heap[w5.heap.size]? = some (.cells #[.int .i64 0, .slice none 0 0] 24 (0, 0)) := by rw [← hV]; exact heap_alloc_new w5 _
    have hvb : Below w5.heap.size w5 V := by rw [← hV]; exact (Below.refl _ w5).alloc (Nat.le_refl _) _
    have hvz : V.heap.size = w5.heap.size + 1 := by rw [← hV]; simp
    rw [hV]
    clear hV
    have HV0 := Lib.hid hv0
    have HVB := Lib.hid hvb
    have HVZ := Lib.hid hvz
    clear hv0 hvb hvz
    go_wp2_with fail
    go_loopw [7, 8, 9, 10, 11, 12] (fun i _ _ _ _ _ wr => ∃ (t : Nat) (qv : Option Addr) (cv : Nat) (Ts : List Fn), t ≤ n ∧ i = .int .i64 t ∧ Ts.length = t ∧ wr.heap[w5.heap.size]? = some (.cells #[.int .i64 0, .slice qv t cv] 24 (0, 0)) ∧ GP V.heap.size wr (.slice qv t cv) Ts ∧ (∀ s, s < t → TidyF L[lw[s]!]! Ts[s]! lw) ∧ Below w5.heap.size w5 wr ∧ V.heap.size ≤ wr.heap.size) (fun i _ _ _ _ _ _ => n - (intOf i).toNat)
    case atStart => exact ⟨0, none, 0, [], by omega, rfl, rfl, HV0.out, GP.nil _ _, fun s hs => absurd hs (Nat.not_lt_zero _), HVB.out, Nat.le_refl _⟩
    case round =>
      obtain ⟨t, qv, cv, Ts, ht, rfl, hts, hbx, hgp, hti, hbw, hzz⟩ := hrel
      have HR := Lib.hid ((hbw.block _ (Array.getElem?_eq_some_iff.1 HR5.out).1).trans HR5.out)
      have HQ := Lib.hid ((hbw.block _ (Array.getElem?_eq_some_iff.1 HQ5.out).1).trans HQ5.out)
      have HBX := Lib.hid hbx
      have HGP := Lib.hid hgp
      have HTI := Lib.hid hti
      have HTS := Lib.hid hts
      have HBW := Lib.hid hbw
      have HZZ := Lib.hid hzz
      clear hts hbx hgp hti hbw hzz
      by_cases htn : t < n
      · have i1 : (t : Int) < (n : Int) := by omega
        have htl : t < lw.length := by rw [HN.out]; exact htn
        have hx : lw[t]! < L.size := HLL.out _ (by rw [getElem!_pos lw t htl]; exact List.getElem_mem htl)
        obtain ⟨b1, o1, rfl, hb1, hc1⟩ := HIL5.out.at t (by rw [List.size_toArray, natI_len, HN.out]; exact htn)
        rw [natI_get lw t htl] at hc1
        have hl1 := (HBW.out.cell (p := ⟨b1, o1 + t, none⟩) hb1).trans hc1
        obtain ⟨x, hxx⟩ : ∃ x, lw[t]! = x := ⟨_, rfl⟩
        rw [hxx] at hl1 hx
        have hxm : (x : Int) < (m : Int) := by have := HM.out; omega
        obtain ⟨g, o, rfl, hgl, hd0, hd1, hd2, hd3, hd4, hd5⟩ := HG5.out.at x hx
        have y0 := (HBW.out.cell (p := ⟨g, o + x * 6, none⟩) hgl).trans hd0
        have y1 := (HBW.out.cell (p := ⟨g, o + x * 6 + 1, none⟩) hgl).trans hd1
        have y2 := (HBW.out.cell (p := ⟨g, o + x * 6 + 2, none⟩) hgl).trans hd2
        have y3 := (HBW.out.cell (p := ⟨g, o + x * 6 + 3, none⟩) hgl).trans hd3
        have y4 := (HBW.out.cell (p := ⟨g, o + x * 6 + 4, none⟩) hgl).trans hd4
        have y5 := (HBW.out.cell (p := ⟨g, o + x * 6 + 5, none⟩) hgl).trans hd5
        have hkey := fun W G => Keys17_own root L (some ⟨g, o, none⟩) cap (x : Int) W G
        have hkid := fun W G => Kids15_own root L (some ⟨g, o, none⟩) cap (x : Int) W G
        rw [keys_yes hx, HM.out] at hkey
        rw [kids_yes hx, HM.out] at hkid
        obtain ⟨f, hf⟩ : ∃ f, L[x]! = f := ⟨_, rfl⟩
        rw [hf] at y0 y1 y2 y3 y4 y5 hkey hkid
        simp only at hkey hkid
        obtain ⟨nk, hnk⟩ : ∃ n, (keysOf f).length = n := ⟨_, rfl⟩
        obtain ⟨nd, hnd⟩ : ∃ n, (kidsOf f).length = n := ⟨_, rfl⟩
        rw [hnk] at hkey
        rw [hnd] at hkid
        have HNK := Lib.hid hnk
        have HND := Lib.hid hnd
        have HKEY : Hid (∀ W, Gl W (some ⟨g, o, none⟩) L → Calls Tryz.prog 36 #[.agg #[.int .i64 root, .slice (some ⟨g, o, none⟩) m cap], .int .i64 (x : Int)] W fun e w' => ∃ pk ck, e = .returned (.tuple #[.slice pk nk ck, .int .i64 0]) ∧ w'.ownsRow W.heap.size 46 3 (.slice pk nk ck) nk (flatS (keysOf f)) ∧ Below W.heap.size W w') :=
          Lib.hid fun W G => (hkey W G).mono fun e w' ⟨v, h1, h2, h3⟩ => by
            obtain ⟨pk, ck, rfl⟩ := own_shape h2
            exact ⟨pk, ck, h1, h2, h3⟩
        have HKID : Hid (∀ W, Gl W (some ⟨g, o, none⟩) L → Calls Tryz.prog 37 #[.agg #[.int .i64 root, .slice (some ⟨g, o, none⟩) m cap], .int .i64 (x : Int)] W fun e w' => ∃ pk ck, e = .returned (.tuple #[.slice pk nd ck, .int .i64 0]) ∧ w'.ownsRow W.heap.size 3 1 (.slice pk nd ck) nd (ints (kidsOf f)) ∧ Below W.heap.size W w') :=
          Lib.hid fun W G => (hkid W G).mono fun e w' ⟨v, h1, h2, h3⟩ => by
            obtain ⟨pk, ck, rfl⟩ := own_shape h2
            exact ⟨pk, ck, h1, h2, h3⟩
        have HXX := Lib.hid hxx
        have HF := Lib.hid hf
        have HX := Lib.hid hx
        have q0 := cell_of_row _ _ 0 _ _ _ HR.out
        have q1 := cell_of_row _ _ 1 _ _ _ HR.out
        have l1 : b1 < wr.heap.size := block_lt_of_cell hl1
        have l2 : g < wr.heap.size := block_lt_of_cell y0
        have l3 : w.heap.size < wr.heap.size := block_lt_of_cell q0
        clear htl hc1 hd0 hd1 hd2 hd3 hd4 hd5 hkey hkid hxx hf hx hnk hnd
        go_upto_region 8 with fail
        go_region
        go_upto_region 10 with fail
        obtain ⟨wy, hwy⟩ : ∃ W, (((wr.alloc (.cells #[.int .i64 f.k, .int .i64 f.x.1, .int .i64 f.x.2.1, .string f.x.2.2, .slice f.pk f.keys.size f.ck, .slice f.pd f.kids.size f.cd] 48)).alloc (.cells #[.int .i64 f.k, .int .i64 f.x.1, .int .i64 f.x.2.1, .string f.x.2.2, .slice none 0 0, .slice none 0 0] 48)).drew) = W := ⟨_, rfl⟩
        have hry : wy.heap[wr.heap.size + 1]? = some (.cells #[.int .i64 f.k, .int .i64 f.x.1, .int .i64 f.x.2.1, .string f.x.2.2, .slice none 0 0, .slice none 0 0] 48 (0, 0)) := by
          rw [← hwy]
          have h := heap_alloc_new (wr.alloc (.cells #[.int .i64 f.k, .int .i64 f.x.1, .int .i64 f.x.2.1, .string f.x.2.2, .slice f.pk f.keys.size f.ck, .slice f.pd f.kids.size f.cd] 48)) (.cells #[.int .i64 f.k, .int .i64 f.x.1, .int .i64 f.x.2.1, .string f.x.2.2, .slice none 0 0, .slice none 0 0] 48)
          rw [World.size_alloc] at h
          exact h
        have hby : Below wr.heap.size wr wy := by rw [← hwy]; exact (((Below.refl _ wr).alloc (Nat.le_refl _) _).alloc (by simp) _).drew
        rw [hwy]
        clear hwy
        have HRY := Lib.hid hry
        have HBY := Lib.hid hby
        have HYB := Lib.hid (HBW.out.trans (hby.mono HBW.out.size))
        have HLY := Lib.hid (Array.getElem?_eq_some_iff.1 hry).1
        have HK := Lib.hid (HKEY.out wy.drew (HG5.out.below HYB.out.drew))
        replace q0 := (hby.cell (p := ⟨w.heap.size, 0, none⟩) l3).trans q0
        replace q1 := (hby.cell (p := ⟨w.heap.size, 1, none⟩) l3).trans q1
        have HL1 := Lib.hid hl1
        replace hl1 := (hby.cell (p := ⟨b1, o1 + t, none⟩) l1).trans hl1
        clear hry hby y0 y1 y2 y3 y4 y5
        have HYZ := Lib.hid (show wr.heap.size + 2 ≤ wy.heap.size by have := HLY.out; omega)
        go_cut [7] from 42 to 51 (fun i wx => i = .int .i64 (t : Int) ∧ ∃ pk ck, wx.heap[wr.heap.size + 1]? = some (.cells #[.int .i64 f.k, .int .i64 f.x.1, .int .i64 f.x.2.1, .string f.x.2.2, .slice pk nk ck, .slice none 0 0] 48 (0, 0)) ∧ wx.ownsRow (wr.heap.size + 2) 46 3 (.slice pk nk ck) nk (flatS (keysOf f)) ∧ Below wr.heap.size wr wx)
        case first =>
          go_region_with (first
            | ((with_reducible refine HK.out.mono ?_)
               rintro e wq ⟨pk, ck, rfl, hownk, hbk⟩
               have rk := (hbk.block (wr.heap.size + 1) HLY.out).trans HRY.out
               have c4k := cell_of_row _ _ 4 _ _ _ rk
               have f4k := frozen_of_row _ _ 4 _ _ rk
               have HBK := Lib.hid hbk
               have HOK := Lib.hid hownk
               have RK := Lib.hid rk
               clear hbk hownk rk))
          all_goals
            go_wp2
            go_meet
            have g9 : wq.grownBy (wq.setCell ⟨wr.heap.size + 1, 4, none⟩ (.slice pk nk ck)) (some (wr.heap.size + 1)) := gB_setCell (gB_refl _ _) _ _
            have hk2 := own_low HOK.out (b' := wr.heap.size + 2) HYZ.out
            have hbb : Below wr.heap.size wr wq := HBY.out.drew.trans (HBK.out.mono (by have := HYZ.out; simp; omega))
            refine ⟨rfl, pk, ck, heap_setCell_same wq (wr.heap.size + 1) 4 _ _ _ RK.out, own_keepG hk2 fun q hq => g9.block q (own_lt hk2 q hq).2 (by have := (own_lt hk2 q hq).1; simp; omega), hbb.trans (below_of_grown g9 (by omega) hbb.size)⟩
        case rest =>
          obtain ⟨rfl, pk, ck, hrk, hok, hbk⟩ := hcut
          obtain ⟨wk, rfl⟩ : ∃ W, W = wc := ⟨wc, rfl⟩
          have HRK := Lib.hid hrk
          have HOK := Lib.hid hok
          have HBK := Lib.hid hbk
          have HLK := Lib.hid (Array.getElem?_eq_some_iff.1 hrk).1
          have HD := Lib.hid (HKID.out wk.drew (HG5.out.below (HBW.out.trans (hbk.mono HBW.out.size)).drew))
          have u0 := cell_of_row _ _ 0 _ _ _ ((hbk.block _ (Array.getElem?_eq_some_iff.1 HR.out).1).trans HR.out)
          have u1 := cell_of_row _ _ 1 _ _ _ ((hbk.block _ (Array.getElem?_eq_some_iff.1 HR.out).1).trans HR.out)
          have ul := (hbk.cell (p := ⟨b1, o1 + t, none⟩) l1).trans HL1.out
          clear hrk hok hbk q0 q1 hl1
          go_upto_region 11 with fail
          go_cut [7, 10, 11] from 52 to 60 (fun i kd _ wx => i = .int .i64 (t : Int) ∧ ∃ pd cd, kd = .slice pd nd cd ∧ wx.heap[wr.heap.size + 1]? = some (.cells #[.int .i64 f.k, .int .i64 f.x.1, .int .i64 f.x.2.1, .string f.x.2.2, .slice pk nk ck, .slice none 0 0] 48 (0, 0)) ∧ wx.ownsRow (wr.heap.size + 2) 46 3 (.slice pk nk ck) nk (flatS (keysOf f)) ∧ wx.ownsRow (wr.heap.size + 2) 3 1 (.slice pd nd cd) nd (ints (kidsOf f)) ∧ Below wr.heap.size wr wx)
          case first =>
            go_region_with (first
              | ((with_reducible refine HD.out.mono ?_)
                 rintro e wq ⟨pd, cd, rfl, hownd, hbd⟩
                 have HBD2 := Lib.hid hbd
                 have HOD := Lib.hid hownd
                 clear hbd hownd))
            all_goals
              go_wp2
              go_meet
              have hbb : Below wk.heap.size wk wq := ((Below.refl _ wk).drew).trans (HBD2.out.mono (by simp))
              exact ⟨rfl, pd, cd, rfl, (hbb.block _ HLK.out).trans HRK.out, own_keepG HOK.out fun q hq => hbb.block q (own_lt HOK.out q hq).2, own_low HOD.out (by have := HLK.out; simp; omega), HBK.out.trans (hbb.mono HBK.out.size)⟩
          case rest =>
            obtain ⟨rfl, pd, cd, rfl, hrk, hok, hod, hbk⟩ := hcut
            obtain ⟨wd, rfl⟩ : ∃ W, W = wc := ⟨wc, rfl⟩
            have hRf : rightF f L.size = true := by have h := right_at HBD.out HX.out; rw [HF.out] at h; exact h
            have hmem : ∀ z ∈ kidsOf f, z.toNat ∈ lw ∧ 0 ≤ z := fun z hz => by
              have hxl : x ∈ lw := by rw [← HXX.out, getElem!_pos lw t (by rw [HN.out]; exact htn)]; exact List.getElem_mem _
              exact ⟨HCL.out x hxl z (by rw [HF.out]; exact hz), (kidsOf_mem hRf z hz).1⟩
            obtain ⟨KD, hKD⟩ : ∃ KD, (kidsOf f).map (fun z => ((idx lw z.toNat : Nat) : Int)) = KD := ⟨_, rfl⟩
            have hkdl : KD.length = nd := by rw [← hKD, List.length_map, HND.out]
            have hst : ∀ s, s < nd → inI (natI lw) (kidsOf f)[s]! = ((idx lw (kidsOf f)[s]!.toNat : Nat) : Int) ∧ KD.take (s + 1) = KD.take s ++ [((idx lw (kidsOf f)[s]!.toNat : Nat) : Int)] := fun s hs => by
              have hsl : s < (kidsOf f).length := by rw [HND.out]; exact hs
              obtain ⟨h1, h2⟩ := hmem (kidsOf f)[s]! (by rw [getElem!_pos (kidsOf f) s hsl]; exact List.getElem_mem hsl)
              constructor
              · have := inI_places (l := lw) (x := (kidsOf f)[s]!.toNat)
                rw [if_pos h1, Int.toNat_of_nonneg h2] at this
                exact this
              · rw [List.take_add_one, List.getElem?_eq_getElem (by rw [hkdl]; exact hs)]
                have e : KD[s]'(by rw [hkdl]; exact hs) = ((idx lw (kidsOf f)[s]!.toNat : Nat) : Int) := by
                  simp only [← hKD, List.getElem_map, getElem!_pos (kidsOf f) s hsl]
                rw [e]
                rfl
            have hndn : nd ≤ 1000000 := by
              have h := kidsG_len L (x : Int) w5 _ HG5.out
              rw [kids_yes HX.out, HF.out] at h
              simp only at h
              rw [HND.out] at h
              exact h
            obtain ⟨pd', cd', he, hil⟩ := il_own hod HND.out.symm hndn
            obtain ⟨rfl, rfl⟩ : pd = pd' ∧ cd = cd' := by injection he with h1 _ h2; exact ⟨h1, h2⟩
            have HIL := Lib.hid hil
            have HRD := Lib.hid hrk
            have HOKd := Lib.hid hok
            have HODd := Lib.hid hod
            have HBKd := Lib.hid hbk
            have HST := Lib.hid hst
            have HKDL := Lib.hid hkdl
            have HKD := Lib.hid hKD
            have HLD := Lib.hid (Array.getElem?_eq_some_iff.1 hrk).1
            obtain ⟨i0, hi0, hz0, hz1, hz2⟩ := info_parts info3
            clear hrk hok hod hbk hst hkdl hKD hil hmem hRf u0 u1 ul he
            obtain ⟨wo, rfl⟩ : ∃ W, W = wr := ⟨wr, rfl⟩
            go_wp2_with fail
            go_loopw [12] (fun k wz => ∃ (s : Nat) (pz : Option Addr) (cz : Nat), s ≤ nd ∧ k = .int .i64 s ∧ wz.heap[wo.heap.size + 1]? = some (.cells #[.int .i64 f.k, .int .i64 f.x.1, .int .i64 f.x.2.1, .string f.x.2.2, .slice pk nk ck, .slice pz s cz] 48 (0, 0)) ∧ wz.ownsRow wd.heap.size 3 1 (.slice pz s cz) s (ints (KD.take s)) ∧ wd.grownBy wz (some (wo.heap.size + 1))) (fun k _ => nd - (intOf k).toNat)
            case atStart => exact ⟨0, none, 0, by omega, rfl, HRD.out, World.ownsRow_nil _ _ _ _, gB_refl _ _⟩
            case round =>
              obtain ⟨s, pz, cz, hs, rfl, hrz, hoz, hgz⟩ := hrel
              have HRZ := Lib.hid hrz
              have HOZ := Lib.hid hoz
              have HGZ := Lib.hid hgz
              have y5 := cell_of_row _ _ 5 _ _ _ hrz
              have f5 := frozen_of_row _ _ 5 _ _ hrz
              have ly := (Array.getElem?_eq_some_iff.1 hrz).1
              have hbwz : Below wo.heap.size wo wr := HBKd.out.trans (below_of_grown hgz (by omega) HBKd.out.size)
              have HBZ := Lib.hid hbwz
              clear hrz hoz hgz hbwz
              by_cases hsn : s < nd
              · have i2 : (s : Int) < (nd : Int) := by omega
                have hsl : s < (kidsOf f).length := by rw [HND.out]; exact hsn
                obtain ⟨hin, hst⟩ := HST.out s hsn
                obtain ⟨b3, o3, rfl, hb3, hc3⟩ := HIL.out.at s (by rw [List.size_toArray]; exact hsl)
                have hb3n : b3 ≠ wo.heap.size + 1 := by
                  have := (own_lt HODd.out b3 rfl).1
                  omega
                have x3 : wr.cell? ⟨b3, o3 + s, none⟩ = some (.int .i64 (kidsOf f).toArray[s]!) := (World.cell?_of_block (w := wd) (HGZ.out.block b3 hb3 (fun e => hb3n (Option.some.inj e)))).trans hc3
                have ez : (kidsOf f).toArray[s]! = (kidsOf f)[s]! := by rw [getElem!_pos _ s (by rw [List.size_toArray]; exact hsl), getElem!_pos (kidsOf f) s hsl]; simp
                rw [ez] at x3
                obtain ⟨z, hz⟩ : ∃ z, (kidsOf f)[s]! = z := ⟨_, rfl⟩
                obtain ⟨y, hy⟩ : ∃ y, ((idx lw z.toNat : Nat) : Int) = y := ⟨_, rfl⟩
                rw [hz] at x3 hin hst
                rw [hy] at hin hst
                have hil9 := HIL5.out.below (HBW.out.trans (HBZ.out.mono HBW.out.size))
                have hI : ∀ W' : World, W'.heap = wr.heap → Calls Tryz.prog 27 #[.slice (some ⟨b1, o1, none⟩) n c5, .int .i64 z] W' fun e w' => e = .returned (.int .i64 y) ∧ w' = W' := fun W' e1 => by
                  have h := In27_any (natI lw).toArray z (some ⟨b1, o1, none⟩) c5 W' ⟨hil9.small, by
                    rcases hil9.lies with h | ⟨bb, oo, h1, h2, h3⟩
                    · exact .inl h
                    · exact .inr ⟨bb, oo, h1, by rw [e1]; exact h2, fun j hj => (World.cell?_of_block (w := wr) (by rw [e1])).trans (h3 j hj)⟩⟩
                  rw [List.size_toArray, natI_len, HN.out, List.toList_toArray, hin] at h
                  exact h
                have HI := Lib.hid (hI wr.drew rfl)
                have HSTT := Lib.hid hst
                have l5 : b3 < wr.heap.size := block_lt_of_cell x3
                have qy := ((fun (o0 : Obj) => (Below.refl wr.heap.size wr).alloc (Nat.le_refl _) o0) (.cells #[.int .i64 y] 3) |>.cell (p := ⟨wo.heap.size + 1, 5, none⟩) ly).trans y5
                clear hin hst hc3 hz hy hil9 hI ez hb3n hsl
                go_wp2_with fail
                go_region_law (first
                  | (refine step_append_lies _ rfl (.tmp 68) (.tmp 75) 25 rfl wd.heap.size 3 i0 (.int .i64 0) 1 8 Tryz.underlying25 hi0 hz0 hz1 hz2 rfl (by decide) (.slice pz s cz) s (ints (KD.take s)) (by simp [Act.eval]) (own_keepG (HOZ.out.alloc (.cells #[.int .i64 y] 3)) (fun _ _ => rfl)) ⟨wr.heap.size, 0, none⟩ 1 1 [.int .i64 y] (by simp [Act.eval]) rfl (World.news_of_block (heap_alloc_new wr _)) (by intro u hu; simp at hu; rcases hu with rfl; rfl) (by decide) (by unfold maxLen; omega) (by omega) (by have := HGZ.out.size; simp; omega) _ rfl ?_
                     intro g8 cap8 w8 hown8 hgr8 _ hlt8
                     have x8 := (hgr8.block (wo.heap.size + 1) (by simp; omega) (fun e => by have := (own_lt HOZ.out _ e.symm).1; have := HLD.out; omega)).trans ((Below.heap_alloc wr (.cells #[.int .i64 y] 3) (wo.heap.size + 1) ly).trans HRZ.out)
                     have y8 : w8.cell? ⟨wo.heap.size + 1, 5, none⟩ = some (.slice pz s cz) := cell_of_row _ _ 5 _ _ _ x8
                     have k8 : w8.frozen? ⟨wo.heap.size + 1, 5, none⟩ = false := frozen_of_row _ _ 5 _ _ x8
                     have X8 := Lib.hid x8
                     have HOW8 := Lib.hid hown8
                     have HGR8 := Lib.hid hgr8
                     clear x8 hown8 hgr8)
                  | (try go_simp; refine HI.out.mono ?_; rintro e w' ⟨rfl, rfl⟩))
                all_goals
                  go_wp2
                  go_roundw
                  case rel =>
                    have g9 : w8.grownBy (w8.setCell ⟨wo.heap.size + 1, 5, none⟩ (.slice (some ⟨g8, 0, none⟩) (s + 1) cap8)) (some (wo.heap.size + 1)) := gB_setCell (gB_refl _ _) _ _
                    refine ⟨s + 1, some ⟨g8, 0, none⟩, cap8, by omega, by go_num, heap_setCell_same w8 (wo.heap.size + 1) 5 _ _ _ X8.out, ?_, ?_⟩
                    · rw [HSTT.out, ints_snoc]
                      exact own_keepG HOW8.out fun q hq => g9.block q (own_lt HOW8.out q hq).2 (by have := (own_lt HOW8.out q hq).1; have := HLD.out; simp; omega)
                    · have ha : wd.grownBy (wr.alloc (.cells #[.int .i64 y] 3)) (some (wo.heap.size + 1)) := gB_alloc HGZ.out _
                      have hb : wd.grownBy w8 (some (wo.heap.size + 1)) := grown_trans ha ⟨HGR8.out.os, HGR8.out.tape, HGR8.out.output, HGR8.out.size, HGR8.out.block⟩ fun q hq => .inr (own_lt HOZ.out q hq).1
                      exact grown_trans hb g9 fun q hq => .inl hq
                  case measure => simp [intOf]; omega
              · have i2 : ¬ (s : Int) < (nd : Int) := by omega
                obtain rfl : s = nd := by omega
                have hall : KD.take s = KD := List.take_of_length_le (by rw [HKDL.out]; exact Nat.le_refl _)
                have hoz := HOZ.out
                rw [hall] at hoz
                have hokz : wr.ownsRow (wo.heap.size + 2) 46 3 (.slice pk nk ck) nk (flatS (keysOf f)) := own_keepG HOKd.out fun q hq => HGZ.out.block q (own_lt HOKd.out q hq).2 (by have := (own_lt HOKd.out q hq).1; simp; omega)
                have hgz := HGP.out.below HBZ.out
                have hx := (HBZ.out.block w5.heap.size (Array.getElem?_eq_some_iff.1 HBX.out).1).trans HBX.out
                have e1 : wr.cell? ⟨w5.heap.size, 1, none⟩ = some (.slice qv t cv) := cell_of_row _ _ 1 _ _ _ hx
                have hl2 : w5.heap.size < wr.heap.size := (Array.getElem?_eq_some_iff.1 hx).1
                obtain ⟨p0, p1, p2, p3, p4, p5⟩ := cell6 HRZ.out
                have hrow := hgz.row
                rw [HTS.out] at hrow
                have HOZZ := Lib.hid hoz
                have HOKZ := Lib.hid hokz
                have HGPZ := Lib.hid hgz
                have HXZ := Lib.hid hx
                have HROW := Lib.hid hrow
                have HVZZ := Lib.hid (show V.heap.size ≤ wr.heap.size from Nat.le_trans HZZ.out HBZ.out.size)
                obtain ⟨iN, hiN, hzN0, hzN1, hzN2⟩ := info_parts info47
                clear hall hoz hokz hgz hx hrow y5 f5
                go_wp2_with (first
                  | (at_builtin
                     refine wpList_append_lies _ rfl _ _ 22 rfl V.heap.size 48 iN (.agg #[.int .i64 0, .int .i64 0, .int .i64 0, .string ⟨#[]⟩, .slice none 0 0, .slice none 0 0]) 6 88 Tryz.underlying22 hiN hzN0 hzN1 hzN2 rfl (by decide) _ _ _ rfl (HROW.out.alloc _) ⟨wr.heap.size, 0, none⟩ 1 1 [.int .i64 f.k, .int .i64 f.x.1, .int .i64 f.x.2.1, .string f.x.2.2, .slice pk nk ck, .slice pz s cz] rfl rfl (World.news_of_block (heap_alloc_new wr _)) (by intro u hu; simp at hu; rcases hu with rfl | rfl | rfl | rfl | rfl | rfl <;> rfl) (by decide) (by unfold maxLen; omega) (by omega) (by have := HVZZ.out; simp; omega) _ rfl ?_
                     intro g8 cap8 w8 hown8 hgr8 _ hlt8
                     have x8 := (hgr8.block w5.heap.size (by simp; omega) (fun e => by have := (own_lt HROW.out _ e.symm).1; have := HVZ.out; omega)).trans ((Below.heap_alloc wr (.cells #[.int .i64 f.k, .int .i64 f.x.1, .int .i64 f.x.2.1, .string f.x.2.2, .slice pk nk ck, .slice pz s cz] 48) _ hl2).trans HXZ.out)
                     have y8 : w8.cell? ⟨w5.heap.size, 1, none⟩ = some (.slice qv t cv) := cell_of_row _ _ 1 _ _ _ x8
                     have k8 : w8.frozen? ⟨w5.heap.size, 1, none⟩ = false := frozen_of_row _ _ 1 _ _ x8
                     have X8 := Lib.hid x8
                     have HOW8 := Lib.hid hown8
                     have HGR8 := Lib.hid hgr8
                     clear x8 hown8 hgr8))
                go_roundw
                case rel =>
                  obtain ⟨w9, hw9⟩ : ∃ w9, w8.setCell ⟨w5.heap.size, 1, none⟩ (.slice (some ⟨g8, 0, none⟩) (t + 1) cap8) = w9 := ⟨_, rfl⟩
                  have g9 : w8.grownBy w9 (some w5.heap.size) := by rw [← hw9]; exact gB_setCell (gB_refl _ _) _ _
                  have x9 := heap_setCell_same w8 w5.heap.size 1 _ _ (.slice (some ⟨g8, 0, none⟩) (t + 1) cap8) X8.out
                  rw [hw9] at x9 ⊢
                  have hvz := HVZ.out
                  have far : ∀ g, g < wr.heap.size → g ≠ w5.heap.size → (∀ g', (Value.slice qv t cv).ownBlock = some g' → g ≠ g') → w9.heap[g]? = wr.heap[g]? := fun g h1 h2 h3 => by
                    refine (g9.block g (Nat.lt_of_lt_of_le (by simp; omega) HGR8.out.size) (by simp; omega)).trans ((HGR8.out.block g (by simp; omega) (fun e => h3 g e.symm rfl)).trans (Below.heap_alloc wr _ g h1))
                  have keepR : ∀ {b T k v n xs}, V.heap.size ≤ b → T ≠ 48 → wr.ownsRow b T k v n xs → w9.ownsRow b T k v n xs := fun hb hT h => own_keepG h fun g hv => far g (own_lt h g hv).2 (by have := (own_lt h g hv).1; omega) fun g' hg' => own_ne h HROW.out hT hv hg'
                  have hzo := HZZ.out
                  have hld := HLD.out
                  refine ⟨t + 1, some ⟨g8, 0, none⟩, cap8, Ts ++ [⟨f.k, f.x, pk, ck, (keysOf f).toArray, pz, cz, KD.toArray⟩], by omega, by go_num, by rw [List.length_append, HTS.out]; rfl, x9, ⟨?_, ?_⟩, ?_, ?_, ?_⟩
                  · have h8 : w8.ownsRow V.heap.size 48 6 (.slice (some ⟨g8, 0, none⟩) (t + 1) cap8) (t + 1) (flatF Ts ++ [.int .i64 f.k, .int .i64 f.x.1, .int .i64 f.x.2.1, .string f.x.2.2, .slice pk nk ck, .slice pz s cz]) := HOW8.out
                    rw [flatF_snoc, List.length_append, HTS.out]
                    have e : encF ⟨f.k, f.x, pk, ck, (keysOf f).toArray, pz, cz, KD.toArray⟩ = [.int .i64 f.k, .int .i64 f.x.1, .int .i64 f.x.2.1, .string f.x.2.2, .slice pk nk ck, .slice pz s cz] := by
                      unfold encF
                      simp only [List.size_toArray, HNK.out, HKDL.out]
                    rw [e]
                    exact own_keepG h8 fun g hv => g9.block g (own_lt h8 g hv).2 (by have := (own_lt h8 g hv).1; simp; omega)
                  · intro fn hfn
                    rcases List.mem_append.1 hfn with h | h
                    · have hk := HGPZ.out.nodes fn h
                      exact ⟨keepR (Nat.le_refl _) (by decide) hk.ks, keepR (Nat.le_refl _) (by decide) hk.ds⟩
                    · rw [List.mem_singleton.1 h]
                      have h1 := own_low (keepR (by omega) (by decide) HOKZ.out) (b' := V.heap.size) (by omega)
                      have h2 := own_low (keepR (by omega) (by decide) HOZZ.out) (b' := V.heap.size) (by omega)
                      refine ⟨?_, ?_⟩
                      · simpa [HNK.out] using h1
                      · simpa [HKDL.out] using h2
                  · intro j hj
                    have htl : Ts.length = t := HTS.out
                    rcases Nat.lt_or_ge j t with h | h
                    · have e : (Ts ++ [(⟨f.k, f.x, pk, ck, (keysOf f).toArray, pz, cz, KD.toArray⟩ : Fn)])[j]! = Ts[j]! := by
                        rw [getElem!_pos _ j (by simp; omega), getElem!_pos Ts j (by omega), List.getElem_append_left (by omega)]
                      rw [e]
                      exact HTI.out j h
                    · obtain rfl : j = t := by omega
                      have e : (Ts ++ [(⟨f.k, f.x, pk, ck, (keysOf f).toArray, pz, cz, KD.toArray⟩ : Fn)])[j]! = ⟨f.k, f.x, pk, ck, (keysOf f).toArray, pz, cz, KD.toArray⟩ := by
                        rw [getElem!_pos _ j (by simp; omega), List.getElem_append_right (by omega)]
                        simp [htl]
                      rw [e, HXX.out, HF.out]
                      exact ⟨rfl, rfl, by simp, by simp [← HKD.out]⟩
                  · have hb8 : Below w5.heap.size w5 w8 := ((HBW.out.trans (HBZ.out.mono HBW.out.size)).alloc (by omega) _).grown HGR8.out (by simp; omega) fun g hv => by have := (own_lt HROW.out g hv).1; omega
                    exact hb8.trans (below_of_grown g9 (Nat.le_refl _) hb8.size)
                  · have h1 := g9.size
                    have h2 := HGR8.out.size
                    simp only [World.size_alloc] at h2
                    omega
                case measure => simp [intOf]; omega
      · have i1 : ¬ (t : Int) < (n : Int) := by omega
        obtain rfl : t = n := by omega
        have r1 := HQ.out
        have rb := HBX.out
        have m0 := cell_of_row _ _ 0 _ _ _ r1
        have m1 := cell_of_row _ _ 1 _ _ _ r1
        have f0 := frozen_of_row _ _ 0 _ _ r1
        have f1 := frozen_of_row _ _ 1 _ _ r1
        have e0 := cell_of_row _ _ 0 _ _ _ rb
        have e1 := cell_of_row _ _ 1 _ _ _ rb
        have HBR := Lib.hid (HB5.out.trans (HBW.out.mono HB5.out.size))
        clear r1 rb
        go_wp2_with fail
        have r2 := heap_setCell_same _ (w.heap.size + 1) 1 _ _ (.slice qv t cv) (heap_setCell_same wr (w.heap.size + 1) 0 _ _ (.int .i64 0) HQ.out)
        have g2 : wr.grownBy ((wr.setCell ⟨w.heap.size + 1, 0, none⟩ (.int .i64 0)).setCell ⟨w.heap.size + 1, 1, none⟩ (.slice qv t cv)) (some (w.heap.size + 1)) := gB_setCell (gB_setCell (gB_refl _ _) _ _) _ _
        obtain ⟨W2, hW2⟩ : ∃ W2, (wr.setCell ⟨w.heap.size + 1, 0, none⟩ (.int .i64 0)).setCell ⟨w.heap.size + 1, 1, none⟩ (.slice qv t cv) = W2 := ⟨_, rfl⟩
        rw [hW2] at r2 g2 ⊢
        have n0 := cell_of_row _ _ 0 _ _ _ r2
        have n1 := cell_of_row _ _ 1 _ _ _ r2
        have htl : Ts.length = t := HTS.out
        have hvz := HVZ.out
        have hz5 := HZ5.out
        have hgp : GP V.heap.size W2 (.slice qv t cv) Ts := HGP.out.keep fun q h1 h2 => g2.block q h2 (by simp; omega)
        have hsm2 : ∀ f ∈ Ts, f.x.2.2.size ≤ 1000000 ∧ f.keys.size ≤ 1000000 ∧ f.kids.size ≤ 1000000 ∧ ∀ t, t < f.keys.size → f.keys[t]!.2.2.size ≤ 1000000 := fun f hf => by
          obtain ⟨j, hj, rfl⟩ := List.getElem_of_mem hf
          have hjt : j < t := by omega
          have h1 := HTI.out j hjt
          rw [getElem!_pos Ts j hj] at h1
          exact tidy_small HG5.out (HLL.out _ (by rw [getElem!_pos lw j (by rw [HN.out]; exact hjt)]; exact List.getElem_mem _)) h1
        have hgl := hgp.gl htl hnn hsm2
        have hT : TidyG L Ts.toArray lw := by
          refine ⟨by rw [List.size_toArray, htl, HN.out], fun j hj => ?_⟩
          have hjt : j < t := by rw [← HN.out]; exact hj
          have e : Ts.toArray[j]! = Ts[j]! := by rw [getElem!_pos _ j (by simp; omega), getElem!_pos Ts j (by omega)]; simp
          rw [e]
          exact HTI.out j hjt
        refine bodyPost_ret (v := .tuple #[.agg #[.int .i64 0, .slice qv t cv], .int .i64 0]) (by simp [results, Tryz.results16, go_sem, n0, n1]) rfl ⟨Ts.toArray, qv, ⟨cv, by rw [List.size_toArray, htl]⟩, hgl, hT, HBR.out.trans (below_of_grown g2 (by omega) HBR.out.size)⟩
  · rw [if_neg he] at hwg
    obtain ⟨rfl, rfl⟩ := Prod.mk.inj hwg
    have hk : (e2 != 0) = true := by simp [he]
    have HE := Lib.hid he
    clear he hwg hck hwl
    go_enter Tryz.func16, Tryz.ntmps16
    go_upto_region 1 with fail
    rw [HW.out]
    rw [hwr] at HWK
    go_wp2_with fail
    refine (HWK.out _ HG.out).mono ?_
    rintro e w5 ⟨q5, c5, rfl, hil5, hb5⟩
    have r1 := (hb5.block _ (Array.getElem?_eq_some_iff.1 HR1.out).1).trans HR1.out
    have HR1b := Lib.hid r1
    have HB5 := Lib.hid (HB0.out.trans (hb5.mono HB0.out.size))
    have m0 := cell_of_row _ _ 0 _ _ _ r1
    have m1 := cell_of_row _ _ 1 _ _ _ r1
    have f0 := frozen_of_row _ _ 0 _ _ r1
    have f1 := frozen_of_row _ _ 1 _ _ r1
    clear hb5 hil5 q0 q1 r1
    go_wp2_with fail
    have r2 := heap_setCell_same _ (w.heap.size + 1) 1 _ _ (.slice none 0 0) (heap_setCell_same w5 (w.heap.size + 1) 0 _ _ (.int .i64 0) HR1b.out)
    have g2 : w5.grownBy ((w5.setCell ⟨w.heap.size + 1, 0, none⟩ (.int .i64 0)).setCell ⟨w.heap.size + 1, 1, none⟩ (.slice none 0 0)) (some (w.heap.size + 1)) := gB_setCell (gB_setCell (gB_refl _ _) _ _) _ _
    obtain ⟨W2, hW2⟩ : ∃ W2, (w5.setCell ⟨w.heap.size + 1, 0, none⟩ (.int .i64 0)).setCell ⟨w.heap.size + 1, 1, none⟩ (.slice none 0 0) = W2 := ⟨_, rfl⟩
    rw [hW2] at r2 g2 ⊢
    have n0 := cell_of_row _ _ 0 _ _ _ r2
    have n1 := cell_of_row _ _ 1 _ _ _ r2
    refine bodyPost_ret (v := .tuple #[.agg #[.int .i64 0, .slice none 0 0], .int .i64 e2]) (by simp [results, Tryz.results16, go_sem, n0, n1]) rfl ⟨#[], none, 0, rfl, gl_nil _ _, fun h => absurd h HE.out, fun _ => rfl, HB5.out.trans (below_of_grown g2 (by omega) HB5.out.size)⟩
theorem Tidy16_any (root : Int) (L : Array Fn) (p : Option Addr) (cap : Nat) (w : World) (hg : Gl w p L) :
    Calls Tryz.prog 16 #[.agg #[.int .i64 root, .slice p L.size cap]] w fun e w' => ∃ (T : Array Fn) (q : Option Addr) (c : Nat), e = .returned (.tuple #[.agg #[.int .i64 0, .slice q T.size c], .int .i64 (checkG root L.toList).2]) ∧ Gl w' q T ∧
      ((checkG root L.toList).2 = 0 → TidyG L T (wk L root.toNat)) ∧ ((checkG root L.toList).2 ≠ 0 → T = #[]) ∧ Below w.heap.size w w' :=
  Tidy16_in root L L.size p cap w rfl hg
end Go.Proofs.YtadmhlebkaiblaaGreatDoor
