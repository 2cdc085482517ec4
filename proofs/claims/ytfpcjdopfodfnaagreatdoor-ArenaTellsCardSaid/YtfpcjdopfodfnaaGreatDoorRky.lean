/- The reference tells a map's keys. Conditions: the graph lies. -/
import Derived.Test.YtfpcjdopfodfnaaGreatDoorRkd
set_option maxRecDepth 100000
namespace Go.Proofs.YtfpcjdopfodfnaaGreatDoor
open Go.RowKit Go.Shelf
open Scs
theorem keys_no {L : Array Fn} {i : Int} (h : plB i L.size = false) : keysG L i = ([], 2) := by unfold keysG; rw [h]; rfl
theorem keys_yes {L : Array Fn} {t : Nat} (h : t < L.size) : keysG L t = (keysOf L[t]!, 0) := by unfold keysG; rw [plB_iff.2 ⟨by omega, by omega⟩]; rfl
theorem sl_ownK {W : World} {b n : Nat} {v : Value} {l : List Sc} (h : W.ownsRow b 26 3 v n (flatS l)) (hn : n = l.length) (hs : n ≤ 1000000) (hz : ∀ t, t < l.length → l.toArray[t]!.2.2.size ≤ 1000000) : ∃ p c, v = .slice p n c ∧ Sl W p l.toArray := by
  subst hn
  have h' := h
  rcases h with ⟨ha, ⟨h1, h2⟩ | ⟨g, c', cur, hv, hbg, hg, hnc, hcm, hcs, htake⟩⟩
  · exact ⟨none, 0, by rw [h1, h2], by rw [List.size_toArray]; exact hs, fun t ht => hz t (by simpa using ht), .inl (by rw [List.size_toArray]; exact h2)⟩
  · refine ⟨some ⟨g, 0, none⟩, c', hv, by rw [List.size_toArray]; exact hs, fun t ht => hz t (by simpa using ht), .inr ⟨g, 0, rfl, (Array.getElem?_eq_some_iff.1 hg).1, ?_⟩⟩
    rw [hv] at h'
    exact holds_row (d := l.toArray) h' (by simp)
set_option maxHeartbeats 8000000 in
theorem Keys17_in (root : Int) (L : Array Fn) (m : Nat) (p : Option Addr) (cap : Nat) (i : Int) (r : List Sc × Int) (w : World) (hm : L.size = m) (hg : Gl w p L) (hr : keysG L i = r) :
    Calls Tryz.prog 17 #[.agg #[.int .i64 root, .slice p m cap], .int .i64 i] w fun e w' => ∃ q c, e = .returned (.tuple #[.slice q r.1.length c, .int .i64 r.2]) ∧ Sl w' q r.1.toArray ∧ Below w.heap.size w w' := by
  obtain ⟨W, hW⟩ : ∃ W, (w.alloc (.cells #[.int .i64 root, .slice p m cap] 24)) = W := ⟨_, rfl⟩
  have hr0 : W.heap[w.heap.size]? = some (.cells #[.int .i64 root, .slice p m cap] 24 (0, 0)) := by rw [← hW]; exact heap_alloc_new w _
  have hb0 : Below w.heap.size w W := by rw [← hW]; exact (Below.refl _ w).alloc (Nat.le_refl _) _
  have hsm := hg.small
  rw [hm] at hsm
  have q0 := cell_of_row _ _ 0 _ _ _ hr0
  have q1 := cell_of_row _ _ 1 _ _ _ hr0
  have HG := Lib.hid (hg.below hb0)
  have HM := Lib.hid hm
  have HW := Lib.hid hW
  have HR0 := Lib.hid hr0
  have HB0 := Lib.hid hb0
  clear hW hr0 hb0
  by_cases h0 : i < 0
  · have hp : plB i L.size = false := by
      cases hq : plB i L.size
      · rfl
      · have := plB_iff.1 hq; omega
    rw [keys_no hp] at hr
    subst hr
    clear hp hg hm
    go_enter Tryz.func17, Tryz.ntmps17
    go_upto_region 1 with fail
    rw [HW.out]
    go_wp2_with fail
    go_ret2
    first | exact ⟨_, _, rfl, Sl.nil _ _, HB0.out⟩ | exact ⟨_, ⟨_, rfl⟩, Sl.nil _ _, HB0.out⟩
  · by_cases h1 : i < (m : Int)
    · obtain ⟨t, rfl⟩ : ∃ t : Nat, i = t := ⟨i.toNat, by omega⟩
      have hlt : t < L.size := by omega
      obtain ⟨g, o, rfl, hgl, hc0, hc1, hc2, hc3, hc4, hc5⟩ := HG.out.at t hlt
      have hNl := HG.out.nodes t hlt
      have hyes := keys_yes hlt
      rw [hr] at hyes
      obtain ⟨f, hf⟩ : ∃ f, L[t]! = f := ⟨_, rfl⟩
      rw [hf] at hNl hc0 hc1 hc2 hc3 hc4 hc5 hyes
      have g1 : ¬ ((t : Int) ≥ (m : Int)) := by omega
      have g0 : decide ((t : Int) < 0) = false := decide_eq_false (by omega)
      have HNL := Lib.hid hNl
      have HY := Lib.hid hyes
      have HIM := Lib.hid fun w => isMap31_any f w
      unfold nV at HIM
      clear hg hm hr hf h0 hlt hyes hNl
      cases hpb : pairedB f
      · rw [hpb] at HIM
        have hko : keysOf f = [] := by
          unfold keysOf
          rw [hpb, if_neg (by decide)]
        have HRX := Lib.hid (show r = ([], 0) by rw [HY.out, hko])
        clear hko hpb
        go_enter Tryz.func17, Tryz.ntmps17
        go_upto_region 1 with fail
        rw [HW.out]
        go_wp2_with fail
        refine (HIM.out _).mono ?_
        rintro e w5 ⟨rfl, hb5⟩
        have HB5 := Lib.hid (HB0.out.trans (hb5.mono HB0.out.size))
        clear hb5 hc0 hc1 hc2 hc3 hc4 hc5 q0 q1
        go_wp2_with fail
        go_ret2
        first
          | (refine ⟨none, 0, ?_, ?_, HB5.out⟩
             · rw [HRX.out]; rfl
             · rw [HRX.out]; exact Sl.nil _ _)
          | (refine ⟨none, ⟨0, ?_⟩, ?_, HB5.out⟩
             · rw [HRX.out]; rfl
             · rw [HRX.out]; exact Sl.nil _ _)
      · rw [hpb] at HIM
        have hko := orderN_keys hpb
        obtain ⟨n, hn⟩ : ∃ n, f.keys.size = n := ⟨_, rfl⟩
        have hol := orderN_len f n
        have holt := orderN_lt f n
        rw [hn] at hko
        obtain ⟨O, hO⟩ : ∃ O, orderN f n = O := ⟨_, rfl⟩
        have hOR : ∀ w, Nl w f → Calls Tryz.prog 32 #[nV f] w fun e w' => ∃ v, e = .returned v ∧ w'.ownsRow w.heap.size 3 1 v n (ints (natI O)) ∧ Below w.heap.size w w' :=
          fun w h => (order32_any f w h).mono fun e w' ⟨v, h1, h2, h3⟩ => ⟨v, h1, by rw [hn, hO] at h2; exact h2, h3⟩
        unfold nV at hOR
        rw [hO] at hko hol holt
        obtain ⟨KL, hKL⟩ : ∃ KL, O.map (fun i => f.keys[i]!) = KL := ⟨_, rfl⟩
        rw [hKL] at hko
        have hkl : KL.length = n := by rw [← hKL, List.length_map]; exact hol
        have hst : ∀ s, s < n → O[s]! < n ∧ KL.take (s + 1) = KL.take s ++ [f.keys[O[s]!]!] := fun s hs => by
          have hsO : s < O.length := by rw [hol]; exact hs
          refine ⟨holt _ (by rw [getElem!_pos O s hsO]; exact List.getElem_mem hsO), ?_⟩
          rw [List.take_add_one, List.getElem?_eq_getElem (by rw [hkl]; exact hs)]
          have e : KL[s]'(by rw [hkl]; exact hs) = f.keys[O[s]!]! := by
            simp only [← hKL, List.getElem_map, getElem!_pos O s hsO]
          rw [e]
          rfl
        have hsh : ∀ t, t < KL.length → KL.toArray[t]!.2.2.size ≤ 1000000 := fun t ht => by
          have hp : KL.toArray[t]! ∈ f.keys.toList := by
            have h1 : KL.toArray[t]! ∈ KL := by rw [getElem!_pos KL.toArray t (by simpa using ht)]; simp
            rw [← hKL] at h1
            obtain ⟨j, hj, e⟩ := List.mem_map.1 h1
            have hjn : j < f.keys.size := by rw [hn]; exact holt j hj
            rw [hKL] at e
            rw [← e, getElem!_pos f.keys j hjn]
            exact Array.getElem_mem_toList hjn
          obtain ⟨j, hj, e⟩ := List.getElem_of_mem hp
          rw [Array.length_toList] at hj
          have := HNL.out.ks.short j hj
          rw [getElem!_pos f.keys j hj] at this
          rw [← e]
          simpa using this
        have HRX := Lib.hid (show r = (KL, 0) by rw [HY.out, ← hko])
        have HKL := Lib.hid hkl
        have HST := Lib.hid hst
        have HOL := Lib.hid hol
        have HOR := Lib.hid hOR
        have HN := Lib.hid hn
        have HSH := Lib.hid hsh
        obtain ⟨i0, hi, hz0, hz1, hz2⟩ := info_parts info23
        have hnn : n ≤ 1000000 := by have := HNL.out.ks.small; rw [hn] at this; exact this
        clear hn hko hpb hO hKL hkl hst hol holt hOR hsh
        go_enter Tryz.func17, Tryz.ntmps17
        go_upto_region 1 with fail
        rw [HW.out]
        go_wp2_with fail
        refine (HIM.out _).mono ?_
        rintro e w5 ⟨rfl, hb5⟩
        have HB5 := Lib.hid (HB0.out.trans (hb5.mono HB0.out.size))
        have HWB := Lib.hid hb5
        have HN5 := Lib.hid (HNL.out.below hb5)
        have HR5 := Lib.hid ((hb5.block _ (Array.getElem?_eq_some_iff.1 HR0.out).1).trans HR0.out)
        have HC4 := Lib.hid hc4
        replace hc0 := (hb5.cell (p := ⟨g, o + t * 6, none⟩) hgl).trans hc0
        replace hc1 := (hb5.cell (p := ⟨g, o + t * 6 + 1, none⟩) hgl).trans hc1
        replace hc2 := (hb5.cell (p := ⟨g, o + t * 6 + 2, none⟩) hgl).trans hc2
        replace hc3 := (hb5.cell (p := ⟨g, o + t * 6 + 3, none⟩) hgl).trans hc3
        replace hc4 := (hb5.cell (p := ⟨g, o + t * 6 + 4, none⟩) hgl).trans hc4
        replace hc5 := (hb5.cell (p := ⟨g, o + t * 6 + 5, none⟩) hgl).trans hc5
        clear q0 q1
        have q1 := cell_of_row _ _ 1 _ _ _ HR5.out
        clear hb5
        go_wp2_with fail
        refine (HOR.out _ HN5.out).mono ?_
        rintro e w6 ⟨v, rfl, ho, hb6⟩
        have HB6 := Lib.hid (HB5.out.trans (hb6.mono HB5.out.size))
        have HWB6 := Lib.hid (HWB.out.trans (hb6.mono HWB.out.size))
        have HN6 := Lib.hid (HN5.out.below hb6)
        have HR6 := Lib.hid ((hb6.block _ (Array.getElem?_eq_some_iff.1 HR5.out).1).trans HR5.out)
        obtain ⟨p8, c8, rfl, hil⟩ := il_own ho (by rw [natI_len, HOL.out]) hnn
        have HIL := Lib.hid hil
        clear hb6 ho hil hc0 hc1 hc2 hc3 hc4 hc5 q1
        go_wp2_with fail
        go_loopw [6, 8] (fun v i wr => ∃ s : Nat, s ≤ n ∧ i = .int .i64 s ∧ wr.ownsRow w6.heap.size 26 3 v s (flatS (KL.take s)) ∧ Below w6.heap.size w6 wr) (fun _ i _ => n - (intOf i).toNat)
        case atStart => exact ⟨0, by omega, rfl, World.ownsRow_nil _ _ _ _, Below.refl _ _⟩
        case round =>
          obtain ⟨s, hs, rfl, hown, hb⟩ := hrel
          have HB := Lib.hid hb
          have HOW := Lib.hid hown
          have hrr := (hb.block _ (Array.getElem?_eq_some_iff.1 HR6.out).1).trans HR6.out
          have q1 := cell_of_row _ _ 1 _ _ _ hrr
          have HWR := Lib.hid (HWB6.out.trans (hb.mono HWB6.out.size))
          clear hb hown hrr
          by_cases hsn : s < n
          · have i1 : (s : Int) < (n : Int) := by omega
            obtain ⟨hyn, hst⟩ := HST.out s hsn
            obtain ⟨g3, o3, rfl, hg3, hd0⟩ := HIL.out.at s (by rw [List.size_toArray, natI_len, HOL.out]; exact hsn)
            rw [natI_get O s (by rw [HOL.out]; exact hsn)] at hd0
            obtain ⟨y, hy⟩ : ∃ y, O[s]! = y := ⟨_, rfl⟩
            rw [hy] at hd0 hyn hst
            have hyk : y < f.keys.size := by rw [HN.out]; exact hyn
            obtain ⟨bk, ok, hpk, hbk, e0, e1, e2⟩ := HN6.out.ks.at y hyk
            obtain ⟨⟨x0, x1, x2⟩, hz⟩ : ∃ z, f.keys[y]! = z := ⟨_, rfl⟩
            rw [hz] at e0 e1 e2 hst
            have c4 := (HWR.out.cell (p := ⟨g, o + t * 6 + 4, none⟩) hgl).trans HC4.out
            rw [hpk] at c4
            have d0 := (HB.out.cell (p := ⟨g3, o3 + s, none⟩) hg3).trans hd0
            have z0 := (HB.out.cell (p := ⟨bk, ok + y * 3, none⟩) hbk).trans e0
            have z1 := (HB.out.cell (p := ⟨bk, ok + y * 3 + 1, none⟩) hbk).trans e1
            have z2 := (HB.out.cell (p := ⟨bk, ok + y * 3 + 2, none⟩) hbk).trans e2
            have hyi : (y : Int) < (f.keys.size : Int) := by omega
            have l1 : g3 < wr.heap.size := block_lt_of_cell d0
            have l2 : bk < wr.heap.size := block_lt_of_cell z0
            have l3 : w.heap.size < wr.heap.size := block_lt_of_cell q1
            have l4 : g < wr.heap.size := block_lt_of_cell c4
            have HSTT := Lib.hid hst
            clear hst hd0 e0 e1 e2 hpk hz hy hyk
            simp only at z0 z1 z2
            go_upto_region 9 with fail
            go_region_law (first
              | (refine step_append_lies _ rfl (.tmp 36) (.tmp 49) 36 rfl w6.heap.size 26 i0 (.agg #[.int .i64 0, .int .i64 0, .string ⟨#[]⟩]) 3 32 Tryz.underlying36 hi hz0 hz1 hz2 rfl (by decide) _ s (flatS (KL.take s)) (by simp [Act.eval]) (own_keepG (HOW.out.alloc (.cells #[.int .i64 x0, .int .i64 x1, .string x2] 26)) (fun _ _ => rfl)) ⟨wr.heap.size, 0, none⟩ 1 1 [.int .i64 x0, .int .i64 x1, .string x2] (by simp [Act.eval]) rfl (World.news_of_block (heap_alloc_new wr _)) (by intro u hu; simp at hu; rcases hu with rfl | rfl | rfl <;> rfl) (by decide) (by unfold maxLen; omega) (by omega) (by have := HB.out.size; simp; omega) _ rfl ?_
                 intro g8 cap8 w8 hown8 hgr8 _ hlt8
                 have HOW8 := Lib.hid hown8
                 have HGR8 := Lib.hid hgr8
                 clear hown8 hgr8))
            all_goals
              go_wp2
              go_roundw
              case rel =>
                refine ⟨s + 1, by omega, by go_num, ?_, ?_⟩
                · rw [HSTT.out, flatS_snoc]
                  exact HOW8.out
                · exact ((HB.out.alloc HB.out.size (.cells #[.int .i64 x0, .int .i64 x1, .string x2] 26)).drew).grown HGR8.out (by have := HB.out.size; simp; omega) fun q hq => (own_lt HOW.out q hq).1
              case measure => simp [intOf]; omega
          · have i1 : ¬ (s : Int) < (n : Int) := by omega
            obtain rfl : s = n := by omega
            have hall : KL.take s = KL := List.take_of_length_le (by rw [HKL.out]; exact Nat.le_refl _)
            have how := HOW.out
            rw [hall] at how
            obtain ⟨p9, c9, rfl, hil⟩ := sl_ownK how HKL.out.symm hnn HSH.out
            have HIL9 := Lib.hid hil
            clear hil hall how
            go_wp2_with fail
            go_ret2
            first
              | (refine ⟨p9, ⟨c9, ?_⟩, ?_, HB6.out.trans (HB.out.mono HB6.out.size)⟩
                 · rw [HRX.out, HKL.out]; rfl
                 · rw [HRX.out]; exact HIL9.out)
              | (refine ⟨p9, c9, ?_, ?_, HB6.out.trans (HB.out.mono HB6.out.size)⟩
                 · rw [HRX.out, HKL.out]; rfl
                 · rw [HRX.out]; exact HIL9.out)
    · have hp : plB i L.size = false := by
        cases hq : plB i L.size
        · rfl
        · have := plB_iff.1 hq; omega
      rw [keys_no hp] at hr
      subst hr
      have g1 : (i ≥ (m : Int)) := by omega
      clear hp hg hm h1
      go_enter Tryz.func17, Tryz.ntmps17
      go_upto_region 1 with fail
      rw [HW.out]
      go_wp2_with fail
      go_ret2
      first | exact ⟨_, _, rfl, Sl.nil _ _, HB0.out⟩ | exact ⟨_, ⟨_, rfl⟩, Sl.nil _ _, HB0.out⟩
theorem Keys17_any (root : Int) (L : Array Fn) (p : Option Addr) (cap : Nat) (i : Int) (w : World) (hg : Gl w p L) :
    Calls Tryz.prog 17 #[.agg #[.int .i64 root, .slice p L.size cap], .int .i64 i] w fun e w' => ∃ q c, e = .returned (.tuple #[.slice q (keysG L i).1.length c, .int .i64 (keysG L i).2]) ∧ Sl w' q (keysG L i).1.toArray ∧ Below w.heap.size w w' :=
  Keys17_in root L L.size p cap i _ w rfl hg rfl
end Go.Proofs.YtfpcjdopfodfnaaGreatDoor
