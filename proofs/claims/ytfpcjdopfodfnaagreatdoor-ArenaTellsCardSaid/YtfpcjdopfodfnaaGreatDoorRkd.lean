/- The reference tells a node's kids. Conditions: the graph lies. -/
import Derived.Test.YtfpcjdopfodfnaaGreatDoorRod
import Derived.Deep.RegionLaw
import Derived.Deep.AppendLies
import Derived.Laws.AppendOwn
set_option maxRecDepth 100000
namespace Go.Proofs.YtfpcjdopfodfnaaGreatDoor
open Go.RowKit Go.Shelf
open Scs
theorem order32_any (f : Fn) (w : World) (hf : Nl w f) :
    Calls Tryz.prog 32 #[nV f] w fun e w' => ∃ v, e = .returned v ∧ w'.ownsRow w.heap.size 3 1 v f.keys.size (ints (natI (orderN f f.keys.size))) ∧ Below w.heap.size w w' :=
  order32_in f f.keys.size f.pk f.ck f.pd f.kids.size f.cd w rfl hf.ks
theorem isMap31_any (f : Fn) (w : World) : Calls Tryz.prog 31 #[nV f] w fun e w' => e = .returned (.bool (pairedB f)) ∧ Below w.heap.size w w' := by
  unfold pairedB nV
  by_cases h : f.k = 2
  all_goals
    first | rw [if_pos h] | rw [if_neg h]
    first
      | (have h1 : (f.k == 2) = true := by simp [h]; done)
      | skip
    go_enter Tryz.func31, Tryz.ntmps31
    go_wp2_with fail
    all_goals
      go_ret
      refine ⟨ret_bool ?_, (Below.refl _ _).alloc (Nat.le_refl _) _⟩
      first | rfl | (rw [Bool.eq_iff_iff]; simp; done) | (rw [Bool.eq_iff_iff]; simp; omega)
theorem run_appI (w : World) (p : Option Addr) (c m : Nat) (d : Array Int) (hd : d.size = m) (hs : Il w p d) (hm : m ≤ 1000000) (ty : TypeId) :
    ∃ v' w', (Builtin.append_ #[33, 33] ty #[.slice none 0 0, .slice p m c]).run Tryz.prog w = .ok v' w' ∧ w'.ownsRow w.heap.size 3 1 v' m (ints d.toList) ∧ w.grownBy w' none := by
  obtain ⟨i0, hi, hz0, hz1, hz2⟩ := info_parts info3
  have hil : (ints d.toList).length = m * 1 := by unfold ints; rw [List.length_map, Array.length_toList, hd, Nat.mul_one]
  have hone : ∀ u ∈ ints d.toList, u.oneCell' = true := fun u hu => by
    unfold ints at hu
    obtain ⟨z, _, rfl⟩ := List.mem_map.1 hu
    rfl
  cases p with
  | none =>
    have h0 : m = 0 := by
      rcases hs.lies with h0 | ⟨g, o, h, _⟩
      · omega
      · cases h
    subst h0
    have hl : d.toList = [] := by rw [← List.length_eq_zero_iff, Array.length_toList]; exact hd
    rw [hl]
    refine ⟨.slice none 0 0, w, by kernel_rfl, World.ownsRow_nil _ _ _ _, .refl _ _⟩
  | some a =>
    have hcell : ∀ j u, (ints d.toList)[j]? = some u → w.cell? (a.add j) = some u := fun j u hu => by
      have hj : j < d.size := by
        have h1 := (List.getElem?_eq_some_iff.1 hu).1
        rw [hil] at h1; omega
      obtain ⟨blk, off, h1, _, h2⟩ := hs.at j hj
      injection h1 with h1
      subst h1
      rw [Go.WideShapes.add_plain, h2]
      unfold ints at hu
      rw [List.getElem?_map, List.getElem?_eq_getElem (by rw [Array.length_toList]; exact hj)] at hu
      rw [getElem!_pos d j hj]
      simpa using hu
    obtain ⟨v', w', hr, h2, h3, _, _⟩ := run_append_own_at (P := Tryz.prog) w w.heap.size 33 ty 3 i0 (.int .i64 0) 1 8 Tryz.underlying33 hi hz0 hz1 hz2 rfl (by decide) (.slice none 0 0) 0 [] (World.ownsRow_nil _ _ _ _) a m c (ints d.toList) hil hcell hone (by unfold maxLen; omega) (by omega) (Nat.le_refl _)
    exact ⟨v', w', hr, by simpa using h2, h3⟩
theorem wpList_appI {w : World} {ops : Array Oper} {rest : List Oper} {o : Oper} {a : Act} {Q : Exit → Act → World → Prop} (hgd : o.guard = none) (s x : Operand)
    (ho : o.op = .call { callee := .builtin .append, args := #[s, x], argTypes := #[33, 33] })
    (hs : a.eval s = .slice none 0 0) (p : Option Addr) (c m : Nat) (d : Array Int) (hx : a.eval x = .slice p m c) (hd : d.size = m) (hsl : Il w p d) (hm : m ≤ 1000000)
    (h : ∀ v' w', w'.ownsRow w.heap.size 3 1 v' m (ints d.toList) → w.grownBy w' none → wpList Tryz.prog ops Q rest (a.put o.dst v') w') : wpList Tryz.prog ops Q (o :: rest) a w :=
  wpList_plain hgd fun _ hK => by
    obtain ⟨v', w', hr, h2, h3⟩ := run_appI w p c m d hd hsl hm o.type
    have hK' := hK _ _ (h v' w' h2 h3)
    unfold Oper.wp execOp
    simp only [ho, resolve, invoke, builtin, Sem.run_bind, Sem.run_pure, Result.andThen_ok, List.map_toArray, List.map_cons, List.map_nil, hs, hx, hr]
    exact hK'
theorem kids_no {L : Array Fn} {i : Int} (h : plB i L.size = false) : kidsG L i = ([], 2) := by unfold kidsG; rw [h]; rfl
theorem kids_yes {L : Array Fn} {t : Nat} (h : t < L.size) : kidsG L t = (kidsOf L[t]!, 0) := by unfold kidsG; rw [plB_iff.2 ⟨by omega, by omega⟩]; rfl
set_option maxHeartbeats 8000000 in
theorem Kids15_in (root : Int) (L : Array Fn) (m : Nat) (p : Option Addr) (cap : Nat) (i : Int) (r : List Int × Int) (w : World) (hm : L.size = m) (hg : Gl w p L) (hr : kidsG L i = r) :
    Calls Tryz.prog 15 #[.agg #[.int .i64 root, .slice p m cap], .int .i64 i] w fun e w' => ∃ q c, e = .returned (.tuple #[.slice q r.1.length c, .int .i64 r.2]) ∧ Il w' q r.1.toArray ∧ Below w.heap.size w w' := by
  obtain ⟨W, hW⟩ : ∃ W, (w.alloc (.cells #[.int .i64 root, .slice p m cap] 24)) = W := ⟨_, rfl⟩
  have hr0 : W.heap[w.heap.size]? = some (.cells #[.int .i64 root, .slice p m cap] 24 (0, 0)) := by rw [← hW]; exact heap_alloc_new w _
  have hb0 : Below w.heap.size w W := by rw [← hW]; exact (Below.refl _ w).alloc (Nat.le_refl _) _
  have hsm := hg.small
  rw [hm] at hsm
  have q0 := cell_of_row _ _ 0 _ _ _ hr0
  have q1 := cell_of_row _ _ 1 _ _ _ hr0
  have HG := Lib.hid (hg.below hb0)
  have HM := Lib.hid hm
  have HW := Lib.hid hW
  have HR0 := Lib.hid hr0
  have HB0 := Lib.hid hb0
  clear hW hr0 hb0
  by_cases h0 : i < 0
  · have hp : plB i L.size = false := by
      cases hq : plB i L.size
      · rfl
      · have := plB_iff.1 hq; omega
    rw [kids_no hp] at hr
    subst hr
    clear hp hg hm
    go_enter Tryz.func15, Tryz.ntmps15
    go_upto_region 1 with fail
    rw [HW.out]
    go_wp2_with fail
    go_ret2
    exact ⟨_, _, rfl, Il.nil _ _, HB0.out⟩
  · by_cases h1 : i < (m : Int)
    · obtain ⟨t, rfl⟩ : ∃ t : Nat, i = t := ⟨i.toNat, by omega⟩
      have hlt : t < L.size := by omega
      obtain ⟨g, o, rfl, hgl, hc0, hc1, hc2, hc3, hc4, hc5⟩ := HG.out.at t hlt
      have hNl := HG.out.nodes t hlt
      have hyes := kids_yes hlt
      rw [hr] at hyes
      obtain ⟨f, hf⟩ : ∃ f, L[t]! = f := ⟨_, rfl⟩
      rw [hf] at hNl hc0 hc1 hc2 hc3 hc4 hc5 hyes
      have g1 : ¬ ((t : Int) ≥ (m : Int)) := by omega
      have g0 : decide ((t : Int) < 0) = false := decide_eq_false (by omega)
      obtain ⟨V, hV⟩ : ∃ V, (W.alloc (nR f)) = V := ⟨_, rfl⟩
      have hv0 : V.heap[W.heap.size]? = some (nR f) := by rw [← hV]; exact heap_alloc_new W _
      have hbv : Below W.heap.size W V := by rw [← hV]; exact (Below.refl _ W).alloc (Nat.le_refl _) _
      have HV := Lib.hid hV
      have HV0 := Lib.hid hv0
      have HBV := Lib.hid (HB0.out.trans (hbv.mono HB0.out.size))
      have HNL := Lib.hid (hNl.below hbv)
      obtain ⟨v0, v1, v2, v3, v4, v5⟩ := cell6 hv0
      have HY := Lib.hid hyes
      clear hg hm hr hf h0 hlt hyes hV hv0 hbv hNl
      by_cases hk1 : f.k = 1
      · have hkk : (f.k == 1) = true := by simp [hk1]
        have hko : kidsOf f = f.kids.toList := by
          unfold kidsOf
          rw [paired_no (by omega), if_neg (by decide), if_pos hk1]
        have HRX := Lib.hid (show r = (f.kids.toList, 0) by rw [HY.out, hko])
        have HDS := Lib.hid HNL.out.ds
        have hsd := HNL.out.ds.small
        clear hk1 hko
        go_enter Tryz.func15, Tryz.ntmps15
        go_upto_region 1 with fail
        rw [HW.out]
        go_upto_region 4 with fail
        rw [HV.out]
        clear hc0 hc1 hc2 hc3 hc4 hc5 q0 q1
        go_wp2_with (first
          | (at_builtin
             refine wpList_appI rfl _ _ rfl rfl f.pd f.cd f.kids.size f.kids rfl rfl HDS.out hsd ?_
             intro v6 w6 hown6 hgr6
             have HOW6 := Lib.hid hown6
             have HGR6 := Lib.hid (HBV.out.grown hgr6 HBV.out.size fun q hq => by cases hq)
             clear hown6 hgr6))
        obtain ⟨p6, c6, rfl, hil⟩ := il_own HOW6.out (by rw [Array.length_toList]) hsd
        go_ret2
        refine ⟨p6, ⟨c6, ?_⟩, ?_, HGR6.out⟩
        · rw [HRX.out, Array.length_toList]; rfl
        · rw [HRX.out]; exact hil
      · have hkk : (f.k == 1) = false := beq_eq_false_iff_ne.2 hk1
        have HIM := Lib.hid fun w => isMap31_any f w
        unfold nV at HIM
        cases hpb : pairedB f
        · rw [hpb] at HIM
          have hko : kidsOf f = [] := by
            unfold kidsOf
            rw [hpb, if_neg (by decide), if_neg hk1]
          have HRX := Lib.hid (show r = ([], 0) by rw [HY.out, hko])
          clear hk1 hko hpb
          go_enter Tryz.func15, Tryz.ntmps15
          go_upto_region 1 with fail
          rw [HW.out]
          go_upto_region 4 with fail
          rw [HV.out]
          clear hc0 hc1 hc2 hc3 hc4 hc5 q0 q1
          go_wp2_with fail
          refine (HIM.out _).mono ?_
          rintro e w5 ⟨rfl, hb5⟩
          have HB5 := Lib.hid (HBV.out.trans (hb5.mono HBV.out.size))
          clear hb5 v0 v1 v2 v3 v4 v5
          go_wp2_with fail
          go_ret2
          refine ⟨none, 0, ?_, ?_, HB5.out⟩
          · rw [HRX.out]; rfl
          · rw [HRX.out]; exact Il.nil _ _
        · rw [hpb] at HIM
          obtain ⟨hk2, hsz, hpn⟩ := paired_n hpb
          have hko := orderN_kids' hpb
          obtain ⟨n, hn⟩ : ∃ n, f.keys.size = n := ⟨_, rfl⟩
          have hol := orderN_len f n
          have holt := orderN_lt f n
          rw [hn] at hko hsz
          obtain ⟨O, hO⟩ : ∃ O, orderN f n = O := ⟨_, rfl⟩
          have hOR : ∀ w, Nl w f → Calls Tryz.prog 32 #[nV f] w fun e w' => ∃ v, e = .returned v ∧ w'.ownsRow w.heap.size 3 1 v n (ints (natI O)) ∧ Below w.heap.size w w' :=
            fun w h => (order32_any f w h).mono fun e w' ⟨v, h1, h2, h3⟩ => ⟨v, h1, by rw [hn, hO] at h2; exact h2, h3⟩
          unfold nV at hOR
          rw [hO] at hko hol holt
          obtain ⟨KL, hKL⟩ : ∃ KL, O.map (fun i => f.kids[i]!) = KL := ⟨_, rfl⟩
          rw [hKL] at hko
          have hkl : KL.length = n := by rw [← hKL, List.length_map]; exact hol
          have hst : ∀ s, s < n → O[s]! < n ∧ KL.take (s + 1) = KL.take s ++ [f.kids[O[s]!]!] := fun s hs => by
            have hsO : s < O.length := by rw [hol]; exact hs
            refine ⟨holt _ (by rw [getElem!_pos O s hsO]; exact List.getElem_mem hsO), ?_⟩
            rw [List.take_add_one, List.getElem?_eq_getElem (by rw [hkl]; exact hs)]
            have e : KL[s]'(by rw [hkl]; exact hs) = f.kids[O[s]!]! := by
              simp only [← hKL, List.getElem_map, getElem!_pos O s hsO]
            rw [e]
            rfl
          have HRX := Lib.hid (show r = (KL, 0) by rw [HY.out, ← hko])
          have HKL := Lib.hid hkl
          have HST := Lib.hid hst
          have HOL := Lib.hid hol
          have HSZ := Lib.hid hsz
          have HOR := Lib.hid hOR
          have HN := Lib.hid hn
          obtain ⟨i0, hi, hz0, hz1, hz2⟩ := info_parts info3
          have hnn : n ≤ 1000000 := by have := HNL.out.ks.small; rw [hn] at this; exact this
          clear hk1 hn hko hpb hO hKL hkl hst hol holt hsz hOR hk2 hpn
          go_enter Tryz.func15, Tryz.ntmps15
          go_upto_region 1 with fail
          rw [HW.out]
          go_upto_region 4 with fail
          rw [HV.out]
          clear hc0 hc1 hc2 hc3 hc4 hc5 q0 q1
          go_wp2_with fail
          refine (HIM.out _).mono ?_
          rintro e w5 ⟨rfl, hb5⟩
          have HB5 := Lib.hid (HBV.out.trans (hb5.mono HBV.out.size))
          have HN5 := Lib.hid (HNL.out.below hb5)
          have HV5 := Lib.hid ((hb5.block _ (Array.getElem?_eq_some_iff.1 HV0.out).1).trans HV0.out)
          replace v0 := (hb5.cell (p := ⟨W.heap.size, 0, none⟩) (block_lt_of_cell v0)).trans v0
          replace v1 := (hb5.cell (p := ⟨W.heap.size, 1, none⟩) (block_lt_of_cell v1)).trans v1
          replace v2 := (hb5.cell (p := ⟨W.heap.size, 2, none⟩) (block_lt_of_cell v2)).trans v2
          replace v3 := (hb5.cell (p := ⟨W.heap.size, 3, none⟩) (block_lt_of_cell v3)).trans v3
          replace v4 := (hb5.cell (p := ⟨W.heap.size, 4, none⟩) (block_lt_of_cell v4)).trans v4
          replace v5 := (hb5.cell (p := ⟨W.heap.size, 5, none⟩) (block_lt_of_cell v5)).trans v5
          clear hb5
          go_wp2_with fail
          refine (HOR.out _ HN5.out).mono ?_
          rintro e w6 ⟨v, rfl, ho, hb6⟩
          have HB6 := Lib.hid (HB5.out.trans (hb6.mono HB5.out.size))
          have HN6 := Lib.hid (HN5.out.below hb6)
          have HV6 := Lib.hid ((hb6.block _ (Array.getElem?_eq_some_iff.1 HV5.out).1).trans HV5.out)
          obtain ⟨p8, c8, rfl, hil⟩ := il_own ho (by rw [natI_len, HOL.out]) hnn
          have HIL := Lib.hid hil
          clear hb6 ho hil v0 v1 v2 v3 v4 v5
          go_wp2_with fail
          go_loopw [7, 9] (fun v i wr => ∃ s : Nat, s ≤ n ∧ i = .int .i64 s ∧ wr.ownsRow w6.heap.size 3 1 v s (ints (KL.take s)) ∧ Below w6.heap.size w6 wr) (fun _ i _ => n - (intOf i).toNat)
          case atStart => exact ⟨0, by omega, rfl, World.ownsRow_nil _ _ _ _, Below.refl _ _⟩
          case round =>
            obtain ⟨s, hs, rfl, hown, hb⟩ := hrel
            have HB := Lib.hid hb
            have HOW := Lib.hid hown
            have hrr := (hb.block _ (Array.getElem?_eq_some_iff.1 HV6.out).1).trans HV6.out
            have v5 := cell_of_row _ _ 5 _ _ _ hrr
            clear hb hown hrr
            by_cases hsn : s < n
            · have i1 : (s : Int) < (n : Int) := by omega
              obtain ⟨hyn, hst⟩ := HST.out s hsn
              obtain ⟨g3, o3, rfl, hg3, hd0⟩ := HIL.out.at s (by rw [List.size_toArray, natI_len, HOL.out]; exact hsn)
              rw [natI_get O s (by rw [HOL.out]; exact hsn)] at hd0
              obtain ⟨y, hy⟩ : ∃ y, O[s]! = y := ⟨_, rfl⟩
              rw [hy] at hd0 hyn hst
              have hyk : y < f.kids.size := by rw [← HSZ.out]; exact hyn
              obtain ⟨bd, od, hpd, hbd, e0⟩ := HN6.out.ds.at y hyk
              obtain ⟨z, hz⟩ : ∃ z, f.kids[y]! = z := ⟨_, rfl⟩
              rw [hz] at e0 hst
              rw [hpd] at v5
              have d0 := (HB.out.cell (p := ⟨g3, o3 + s, none⟩) hg3).trans hd0
              have z0 := (HB.out.cell (p := ⟨bd, od + y, none⟩) hbd).trans e0
              have hyi : (y : Int) < (f.kids.size : Int) := by omega
              have l1 : g3 < wr.heap.size := block_lt_of_cell d0
              have l2 : bd < wr.heap.size := block_lt_of_cell z0
              have l3 : W.heap.size < wr.heap.size := block_lt_of_cell v5
              have HSTT := Lib.hid hst
              clear hst hd0 e0 hpd hz hy hyk
              go_upto_region 12 with fail
              go_region_law (first
                | (refine step_append_lies _ rfl (.tmp 41) (.tmp 50) 33 rfl w6.heap.size 3 i0 (.int .i64 0) 1 8 Tryz.underlying33 hi hz0 hz1 hz2 rfl (by decide) _ s (ints (KL.take s)) (by simp [Act.eval]) (own_keepG (HOW.out.alloc (.cells #[.int .i64 z] 3)) (fun _ _ => rfl)) ⟨wr.heap.size, 0, none⟩ 1 1 [.int .i64 z] (by simp [Act.eval]) rfl (World.news_of_block (heap_alloc_new wr _)) (by intro u hu; simp at hu; rcases hu with rfl; rfl) (by decide) (by unfold maxLen; omega) (by omega) (by have := HB.out.size; simp; omega) _ rfl ?_
                   intro g8 cap8 w8 hown8 hgr8 _ hlt8
                   have HOW8 := Lib.hid hown8
                   have HGR8 := Lib.hid hgr8
                   clear hown8 hgr8))
              all_goals
                go_wp2
                go_roundw
                case rel =>
                  refine ⟨s + 1, by omega, by go_num, ?_, ?_⟩
                  · rw [HSTT.out, ints_snoc]
                    exact HOW8.out
                  · exact ((HB.out.alloc HB.out.size (.cells #[.int .i64 z] 3)).drew).grown HGR8.out (by have := HB.out.size; simp; omega) fun q hq => (own_lt HOW.out q hq).1
                case measure => simp [intOf]; omega
            · have i1 : ¬ (s : Int) < (n : Int) := by omega
              obtain rfl : s = n := by omega
              obtain ⟨p9, c9, rfl, hil⟩ := il_own HOW.out (by rw [List.length_take, HKL.out, Nat.min_self]) hnn
              have hall : KL.take s = KL := List.take_of_length_le (by rw [HKL.out]; exact Nat.le_refl _)
              rw [hall] at hil
              have HIL9 := Lib.hid hil
              clear hil hall
              go_wp2_with fail
              go_ret2
              refine ⟨p9, ⟨c9, ?_⟩, ?_, HB6.out.trans (HB.out.mono HB6.out.size)⟩
              · rw [HRX.out, HKL.out]; rfl
              · rw [HRX.out]; exact HIL9.out
    · have hp : plB i L.size = false := by
        cases hq : plB i L.size
        · rfl
        · have := plB_iff.1 hq; omega
      rw [kids_no hp] at hr
      subst hr
      have g1 : (i ≥ (m : Int)) := by omega
      clear hp hg hm h1
      go_enter Tryz.func15, Tryz.ntmps15
      go_upto_region 1 with fail
      rw [HW.out]
      go_wp2_with fail
      go_ret2
      exact ⟨_, ⟨_, rfl⟩, Il.nil _ _, HB0.out⟩
theorem Kids15_any (root : Int) (L : Array Fn) (p : Option Addr) (cap : Nat) (i : Int) (w : World) (hg : Gl w p L) :
    Calls Tryz.prog 15 #[.agg #[.int .i64 root, .slice p L.size cap], .int .i64 i] w fun e w' => ∃ q c, e = .returned (.tuple #[.slice q (kidsG L i).1.length c, .int .i64 (kidsG L i).2]) ∧ Il w' q (kidsG L i).1.toArray ∧ Below w.heap.size w w' :=
  Kids15_in root L L.size p cap i _ w rfl hg rfl
end Go.Proofs.YtfpcjdopfodfnaaGreatDoor
