/- The reader's iterator yields all that is met in a text from a place on, each with the place behind it, and comes to an end. Conditions: what is looked at is told as the looker tells it; the boxes stay as they are. -/
import Derived.Test.YtkliecngkcjieaaGreatDoorMta
import Derived.Sort.CutIn
set_option maxRecDepth 100000
namespace Go.Proofs.YtkliecngkcjieaaGreatDoor
open Go.RowKit Go.Shelf
open Pl Quo Seqx
open Seqo (turn)
attribute [local go_sem] Oper.semAt_some
set_option maxHeartbeats 8000000 in
theorem meetings_in (s : ByteArray) (hs : s.size ≤ 1000000) (a : Nat) (ha : a ≤ s.size) (L : List UInt8) (hL : s.data.toList.drop a = L) (hv : Go.Lib.validD L = true) (Bs Bf Bl Bm : Nat) (S : World → Prop)
    (hSc : ∀ A, S A → A.cell? ⟨Bs, 0, none⟩ = some (.string s) ∧ A.cell? ⟨Bf, 0, none⟩ = some (.int .i64 a) ∧ A.cell? ⟨Bl, 0, none⟩ = some (lookV Bm))
    (hlook : ∀ A (R : ByteArray), S A → R.data.toList ≠ [] → R.size ≤ 1000000 → Go.Lib.validD R.data.toList = true → Calls Tryz.prog 112 #[.string R, .int .i32 ((Go.Lib.decodeL R.data.toList).1 : Int), .pointer (some ⟨Bm, 0, none⟩)] A fun e w' => e = .returned (lookM R.data.toList).val ∧ Below A.heap.size A w')
    (l : Nat) (J : Nat → List Nat → World → Prop) (Jx : List Nat → World → Prop) (W : World)
    (hJ : Stab J) (hLx : LeftO Jx) (hS : ∀ t O A, J t O A → S A)
    (hY : ∀ t O A, t < (mets L).length → J t O A → YieldAt Fence.wide 4 Tryz.prog l (metV a (mets L) t) A fun e B =>
      KeepsO O A B ∧ ((e = .returned (.bool true) ∧ J (t + 1) O B) ∨ (e = .returned (.bool false) ∧ Jx O B)))
    (h0 : J 0 [] W) :
    CallsIn Fence.wide 5 Tryz.prog 133 #[.func (.yield l) #[] #[], .pointer (some ⟨Bf, 0, none⟩), .pointer (some ⟨Bs, 0, none⟩), .pointer (some ⟨Bl, 0, none⟩)] W fun e W' => (∃ v, e = .returned v) ∧ ((∃ O, J (mets L).length O W') ∨ ∃ O, Jx O W') := by
  obtain ⟨cs, cf, cl⟩ := hSc W (hS 0 [] W h0)
  have ls := block_lt_of_cell cs
  have lf := block_lt_of_cell cf
  have ll := block_lt_of_cell cl
  simp only at ls lf ll
  have HJ := Lib.hid hJ
  have HLX := Lib.hid hLx
  have HS := Lib.hid hS
  have HY := Lib.hid hY
  have H0 := Lib.hid h0
  have HSC := Lib.hid hSc
  have HLK := Lib.hid hlook
  clear hJ hLx hS hY h0 hSc hlook
  have g1 : (0 : Int) ≤ (a : Int) := by omega
  have g2 : (a : Int) ≤ (s.size : Int) := by omega
  refine callsIn_of_wp_marks Tryz.func133 rfl trivial ?_ rfl
  simp only [Tryz.ntmps133, List.size_toArray, List.length_cons, List.length_nil, Nat.reduceAdd, Nat.reduceSub, Array.replicate_succ, Array.replicate_zero, List.push_toArray, List.append_toArray, List.nil_append, List.cons_append]
  refine wpIn_wide.2 ?_
  go_wp2_with (go_at_call 103; refine (signs_any _ _).mono ?_; rintro e w' ⟨rfl, rfl⟩)
  obtain ⟨Y, hYe⟩ : ∃ Y, W.heap.size = Y := ⟨_, rfl⟩
  obtain ⟨sub, hsub⟩ : ∃ sub, s.extract a s.size = sub := ⟨_, rfl⟩
  have hsl : sub.data.toList = L := by rw [← hsub, Go.Lib.ext_list, hL]
  have hsz : sub.size ≤ 1000000 := by rw [← hsub]; simp; omega
  obtain ⟨W3, hW3⟩ : ∃ W3, (((W.alloc (.cells #[.func (.yield l) #[] #[]] 162)).alloc (.cells #[.int .i64 a] 3)).alloc (.cells #[.string (s.extract a s.size)] 9)) = W3 := ⟨_, rfl⟩
  rw [hW3, hYe, hsub]
  rw [hsub] at hW3
  have hz3 : W3.heap.size = Y + 3 := by rw [← hW3, ← hYe]; simp
  have y0 : W3.heap[Y]? = some (.cells #[.func (.yield l) #[] #[]] 162 (0, 0)) := by
    rw [← hW3]
    iterate 2 rw [Below.heap_alloc _ _ _ (by simp [hYe]; try omega)]
    rw [← hYe]; exact heap_alloc_new W _
  have y1 : W3.heap[Y + 1]? = some (.cells #[.int .i64 a] 3 (0, 0)) := by
    rw [← hW3]
    iterate 1 rw [Below.heap_alloc _ _ _ (by simp [hYe]; try omega)]
    have h := heap_alloc_new (W.alloc (.cells #[.func (.yield l) #[] #[]] 162)) (.cells #[.int .i64 a] 3)
    rwa [World.size_alloc, hYe] at h
  have y2 : W3.heap[Y + 2]? = some (.cells #[.string sub] 9 (0, 0)) := by
    rw [← hW3]
    have h := heap_alloc_new ((W.alloc (.cells #[.func (.yield l) #[] #[]] 162)).alloc (.cells #[.int .i64 a] 3)) (.cells #[.string sub] 9)
    rwa [World.size_alloc, World.size_alloc, hYe] at h
  have hJ3 : J 0 [Y + 2, Y + 1, Y] W3 := by
    have k1 := HJ.out.new 0 [] W (W.alloc (.cells #[.func (.yield l) #[] #[]] 162)) Y H0.out (gB_alloc (gB_refl _ _) _) (by omega) (by rw [World.size_alloc]; omega) (nb_cells (by rw [← hYe]; exact heap_alloc_new W _) (by decide))
    have k2 := HJ.out.new 0 [Y] _ ((W.alloc (.cells #[.func (.yield l) #[] #[]] 162)).alloc (.cells #[.int .i64 a] 3)) (Y + 1) k1 (gB_alloc (gB_refl _ _) _) (by rw [World.size_alloc]; omega) (by simp; omega) (nb_cells (by
      have h := heap_alloc_new (W.alloc (.cells #[.func (.yield l) #[] #[]] 162)) (.cells #[.int .i64 a] 3)
      rwa [World.size_alloc, hYe] at h) (by decide))
    exact HJ.out.new 0 [Y + 1, Y] _ W3 (Y + 2) k2 (by rw [← hW3]; exact gB_alloc (gB_refl _ _) _) (by simp; omega) (by omega) (nb_cells y2 (by decide))
  have hM0 : MI J L a l Y sub 0 [] W3 := ⟨0, 0, L.length + 1, by omega, by omega, ⟨0, rfl⟩, hv, rfl, hJ3, y0, y1, y2, by omega, fun k hk => absurd hk (by simp)⟩
  have HYE := Lib.hid hYe
  have hsq := (signs_run 4 sub (by omega) (Y + 1 + 1)).toQ
  rw [hsl] at hsq
  have hN : (runesOf L).length = (runesOf L).length := rfl
  clear hsl cs cf cl hW3 y0 y1 y2 hJ3 H0 hYe
  refine (wpIn_wide (n := 5)).1 ?_
  refine wpIn_rangeFunc_seqy (Qx := fun _ => True) rfl (by decide) (gf := 128) (lb := #[.pointer (some ⟨Y + 1 + 1, 0, none⟩)]) rfl trivial (enters_of Tryz.func128 (by kernel_rfl) rfl)
    hsq (fun _ => rfl) (MI J L a l Y sub)
    (fun c O W' => c = .ret ∧ (J (mets L).length (O ++ [Y + 2, Y + 1, Y]) W' ∨ Jx (O ++ [Y + 2, Y + 1, Y]) W')) (MI_stab HJ.out L a l Y sub) ?hIx (fun _ => trivial)
    (fun t O A h => by
      obtain ⟨j, b, f, _, _, _, _, _, _, _, _, h9, _⟩ := h
      exact cell_of_row A _ 0 _ _ _ h9) hM0
    (fun t => { tmps := #[.func (.yield l) #[] #[], .pointer (some ⟨Bf, 0, none⟩), .pointer (some ⟨Bs, 0, none⟩), .pointer (some ⟨Bl, 0, none⟩), .pointer (some ⟨Y, 0, none⟩), .pointer (some ⟨Y + 1, 0, none⟩), .int .i64 (posAt L t), .int .i32 (at0 (runesOf L) t), undef, undef, undef, undef, .int .i64 a, .string s, .int .i64 a, .string sub, .func (.func 128) #[] #[.pointer (some ⟨Y + 1 + 1, 0, none⟩)],
      .int .i64 (posAt L t), .int .i32 (at0 (runesOf L) t), undef, undef, undef, undef, undef, undef, undef, undef, undef, undef, undef, undef, undef, undef, undef, undef, undef, undef, undef, undef, undef, undef, undef, undef, undef, undef, undef, undef, undef, undef, undef, undef, undef, undef, undef], defers := [] })
    ?hassign ?hbody ?hdone ?hstop
  case hIx =>
    rintro c O A B r ⟨hc, h⟩ hg hr hn
    refine ⟨hc, ?_⟩
    rcases h with h | h
    · exact .inl (HJ.out.own _ _ _ _ _ h hg (List.mem_append_left _ hr) hn)
    · exact .inr (HLX.out _ _ _ _ h hg (List.mem_append_left _ hr) hn)
  case hassign =>
    intro l2 t W' K ht hK
    unfold signV
    have HKK := Lib.hid hK
    clear hK hM0
    gi_wp2
    exact HKK.out
  case hbody =>
    rintro l2 t O W' ht ⟨j, b, f, m1, m2, m3, m4, m5, m6, m7, m8, m9, m10, m11⟩ hD hD1 hz
    rw [hz3] at hD hD1 hz
    have hSW := HS.out _ _ _ m6
    obtain ⟨cs, cf, cl⟩ := HSC.out W' hSW
    have c1 : W'.cell? ⟨Y + 1, 0, none⟩ = some (.int .i64 ((a + b : Nat) : Int)) := cell_of_row _ _ 0 _ _ _ m8
    have hpl := posAt_le t L
    have hLs : L.length ≤ 1000000 := by
      rw [← hL, List.length_drop, Array.length_toList]
      have : s.data.size = s.size := rfl
      omega
    have hpb : (posAt L t : Int) ≤ 1000000 := by omega
    have hab : (a : Int) ≤ 1000000 := by omega
    by_cases hlt : posAt L t < b
    · have i1 : (a : Int) + (posAt L t : Int) < ((a + b : Nat) : Int) := by omega
      have HM := Lib.hid (show MI J L a l Y sub (t + 1) O W' from ⟨j, b, f, m1, m2, m3.skip hlt, m4, m5, m6, m7, m8, m9, m10, m11⟩)
      clear m1 m2 m3 m4 m5 m6 m7 m8 m9 m10 m11 hM0 hSW cs cl hlt hD hD1 hz
      gi_wp2
      exact ⟨⟨Nat.le_refl _, fun _ _ => rfl⟩, HM.out⟩
    · have hpe := m3.here hlt
      rw [hpe] at hpb ⊢
      have i1 : ¬ (a : Int) + (b : Int) < ((a + b : Nat) : Int) := by omega
      have hbl : b < L.length := by
        rcases Nat.lt_or_ge b L.length with h | h
        · exact h
        · exfalso
          have h1 := posAt_drop t L
          rw [hpe, List.drop_of_length_le h, runesOf_nil] at h1
          have h2 := congrArg List.length h1
          rw [List.length_drop, List.length_nil] at h2
          rw [hN] at ht
          omega
      obtain ⟨f', rfl⟩ : ∃ f', f = f' + 1 := ⟨f - 1, by omega⟩
      have hLl : L.length = s.size - a := by
        rw [← hL, List.length_drop, Array.length_toList]
        rfl
      have hne : L.drop b ≠ [] := by
        intro h
        have := congrArg List.length h
        rw [List.length_drop, List.length_nil] at this
        omega
      have hel : (s.extract (a + b) s.size).data.toList = L.drop b := by rw [Go.Lib.ext_list, ← hL, List.drop_drop]
      have md := HJ.out.own _ _ _ _ (Y + 1) m6 (gB_drew (gB_refl W' (Y + 1))) (by simp) (nb_cells m8 (by decide))
      have hLook := HLK.out W'.drew (s.extract (a + b) s.size) (HS.out _ _ _ md) (by rw [hel]; exact hne) (by simp; omega) (by rw [hel]; exact m4)
      have hr : at0 (runesOf L) t = ((Go.Lib.decodeL (L.drop b)).1 : Int) := by
        have h1 := posAt_drop t L
        rw [hpe, runesOf_step _ hne] at h1
        unfold at0
        have := congrArg (fun l : List Int => l[0]?) h1
        simp only [List.getElem?_drop, Nat.add_zero, List.getElem?_cons_zero] at this
        rw [List.getD_eq_getElem?_getD, ← this]; rfl
      rw [hr]
      rw [hel] at hLook
      have hnx := fun r k h => Bd.next (r := r) (k := k) hpe hbl m4 h
      have hmf : metsF (f' + 1) L b = match lookM (L.drop b) with
        | .sgn r k => (b + k, .sgn r k) :: metsF f' L (b + k)
        | .last => [(b + 1, .last)]
        | .fault e => [(b, .fault e)] := by
        conv => lhs; unfold metsF
        rw [if_neg (by omega)]
        rfl
      rw [hmf] at m5
      obtain ⟨P, hP⟩ : ∃ P, a + b = P := ⟨_, rfl⟩
      have eP : (a : Int) + (b : Int) = (P : Int) := by omega
      have p1 : (0 : Int) ≤ (P : Int) := by omega
      have p2 : (P : Int) ≤ (s.size : Int) := by omega
      rw [hP] at hLook c1 m8 i1
      obtain ⟨M, hM⟩ : ∃ M, lookM (L.drop b) = M := ⟨_, rfl⟩
      obtain ⟨q, hq⟩ : ∃ q, (Go.Lib.decodeL (L.drop b)).1 = q := ⟨_, rfl⟩
      rw [hM] at hLook hnx m5
      rw [hq] at hLook ⊢
      have HLO := Lib.hid hLook
      have HNX := Lib.hid hnx
      have HM5 := Lib.hid m5
      have HM6 := Lib.hid m6
      have HMD := Lib.hid md
      have HM7 := Lib.hid m7
      have HM8 := Lib.hid m8
      have HM9 := Lib.hid m9
      have HM11 := Lib.hid m11
      have HD := Lib.hid hD
      have HD1 := Lib.hid hD1
      unfold lookV at cl
      clear hLook hnx m5 m6 md m7 m8 m9 m11 hD hD1 hmf hM hq hel hne hM0 hSW m3 m4 hr hpe
      have h112 : Fence.wide.fn 112 := trivial
      have h177 : Fence.wide.fn 177 := trivial
      have h178 : Fence.wide.fn 178 := trivial
      have h179 : Fence.wide.fn 179 := trivial
      gi_wp2
      gi_cut [9] from 25 (fun s9 wr => s9 = M.val ∧ Below W'.drew.heap.size W'.drew wr)
      case first =>
        clear HS HJ HLX HY HNX HM5 HM6 HMD HM7 HM8 HM9 HM11 HD HD1 HSC HLK ht hz
        gi_region_with (gi_at_call 112; refine (CallsIn.inRound l2 (callsIn_wide.2 HLO.out)).mono ?_; rintro e w' ⟨rfl, hbw⟩)
        all_goals
          gi_wp2
          gi_meet
          case rel => exact ⟨rfl, hbw⟩
      case rest =>
        obtain ⟨rfl, hbw⟩ := hcut
        have k1 := (hbw.block (Y + 1) (by simp; omega)).trans HM8.out
        have c1' := cell_of_row _ _ 0 _ _ _ k1
        have f1' := frozen_of_row _ (Y + 1) 0 _ _ k1
        have HBW := Lib.hid hbw
        have HK1 := Lib.hid k1
        clear hbw k1 c1 cs cl cf
        cases M with
        | sgn r k =>
          have hnx := HNX.out r k rfl
          have hkb : (k : Int) ≤ 1000000 := by have := hnx.2.1; omega
          have HN := Lib.hid hnx
          clear hnx
          have ht0 : ∀ w, (Instr.typeAssert (.iface 139 (.agg #[.int .i32 r, .int .i64 k])) 137 139 true).run Tryz.prog w = .ok (.tuple #[.agg #[.int .i32 r, .int .i64 k], .bool true]) w := fun _ => by kernel_rfl
          have hmt : ∀ w, (method 309 139 (.agg #[.int .i32 r, .int .i64 k]) "sigillary/quote.size").run Tryz.prog w = .ok (177, .agg #[.int .i32 r, .int .i64 k]) w := fun _ => by kernel_rfl
          simp only [Quo.Met.val] at HM5 ⊢
          gi_upto_region 10 with (gi_at_call 177; refine (CallsIn.inRound l2 (callsIn_wide.2 (size_sgn r k _))).mono ?_; rintro e w2 ⟨rfl, hbw2⟩; have k2 := (hbw2.block (Y + 1) (by have := (Array.getElem?_eq_some_iff.1 HK1.out).1; omega)).trans HK1.out; have c2 := cell_of_row _ _ 0 _ _ _ k2; have f2 := frozen_of_row _ (Y + 1) 0 _ _ k2)
          obtain ⟨g5, y5⟩ := to_w5 HBW.out hbw2 k2 (.int .i64 ((P : Int) + (k : Int))) (.cells #[.int .i32 r, .int .i64 k] 139)
          obtain ⟨w5, hw5⟩ : ∃ w5, (w2.setCell ⟨Y + 1, 0, none⟩ (.int .i64 ((P : Int) + (k : Int)))).alloc (.cells #[.int .i32 r, .int .i64 k] 139) = w5 := ⟨_, rfl⟩
          rw [hw5] at g5 y5 ⊢
          have hdc := drop_cons HM5.out
          have J5 := HJ.out.own _ _ _ _ _ HM6.out g5 (by simp) (nb_cells y5 (by decide))
          obtain ⟨fn, tmps, assign, body, hy, hRd⟩ := YieldAt_wide (l' := l2) (m' := 2) (HY.out j _ w5 hdc.2.1 J5)
          have eb : ((a + (b + k) : Nat) : Int) = (P : Int) + (k : Int) := by omega
          rw [metV_at HM5.out, eb] at hy
          simp only [Quo.Met.val] at hy
          have yk : ∀ k, k < W'.heap.size → k ≠ Y + 1 → w5.heap[k]? = W'.heap[k]? := fun k hk hne => g5.block k hk (by simpa using hne)
          have z7 := (yk Y (by omega) (by omega)).trans HM7.out
          have z9 := (yk (Y + 2) (by omega) (by omega)).trans HM9.out
          have kO : KeepsO O W' w5 := ⟨g5.size, fun k hk => yk k (HM11.out k hk).2 (by have := (HM11.out k hk).1; omega)⟩
          have q0 := cell_of_row _ _ 0 _ _ _ z7
          have q1 := cell_of_row _ _ 0 _ _ _ y5
          have HRD := Lib.hid hRd
          have Z7 := Lib.hid z7
          have Z9 := Lib.hid z9
          have Y5 := Lib.hid y5
          have KO := Lib.hid kO
          have HDC := Lib.hid hdc
          clear hw5 g5 y5 J5 hRd yk z7 z9 kO hbw2 k2 c2 f2 ht0 hmt hdc
          gi_wp2
          refine HRD.out.mono ?_
          rintro e B ⟨hk, (⟨rfl, hJB⟩ | ⟨rfl, hJB⟩)⟩
          · have HKB := Lib.hid hk
            have HJB := Lib.hid hJB
            clear hk hJB hy
            gi_wp2
            have hn := HN.out
            refine ⟨KO.out.trans ⟨HKB.out.1, fun k hk => HKB.out.2 k (List.mem_append_left _ hk)⟩, j + 1, b + k, f', by omega, hn.2.1, hn.1, hn.2.2.2, HDC.out.2.2, HJB.out, (HKB.out.2 Y (by simp)).trans Z7.out, ?_, (HKB.out.2 (Y + 2) (by simp)).trans Z9.out, by have := KO.out.1; have := HKB.out.1; omega, fun k hk => ⟨(HM11.out k hk).1, by have := (HM11.out k hk).2; have := KO.out.1; have := HKB.out.1; omega⟩⟩
            rw [eb]
            exact (HKB.out.2 (Y + 1) (by simp)).trans Y5.out
          · have HKB := Lib.hid hk
            have HJB := Lib.hid hJB
            clear hk hJB hy
            gi_wp2
            exact ⟨KO.out.trans ⟨HKB.out.1, fun k hk => HKB.out.2 k (List.mem_append_left _ hk)⟩, rfl, .inr HJB.out⟩
        | last =>
          have ht0 : ∀ w, (Instr.typeAssert (.iface 140 (.agg #[])) 137 139 true).run Tryz.prog w = .ok (.tuple #[.agg #[.int .i32 0, .int .i64 0], .bool false]) w := fun _ => by kernel_rfl
          have hmt : ∀ w, (method 309 140 (.agg #[]) "sigillary/quote.size").run Tryz.prog w = .ok (178, .agg #[]) w := fun _ => by kernel_rfl
          simp only [Quo.Met.val] at HM5 ⊢
          gi_upto_region 10 with (gi_at_call 178; refine (CallsIn.inRound l2 (callsIn_wide.2 (size_last _))).mono ?_; rintro e w2 ⟨rfl, hbw2⟩; have k2 := (hbw2.block (Y + 1) (by have := (Array.getElem?_eq_some_iff.1 HK1.out).1; omega)).trans HK1.out; have c2 := cell_of_row _ _ 0 _ _ _ k2; have f2 := frozen_of_row _ (Y + 1) 0 _ _ k2)
          obtain ⟨g5, y5⟩ := to_w5 HBW.out hbw2 k2 (.int .i64 ((P : Int) + 1)) (.cells #[.int .i32 0, .int .i64 0] 139)
          obtain ⟨w5, hw5⟩ : ∃ w5, (w2.setCell ⟨Y + 1, 0, none⟩ (.int .i64 ((P : Int) + 1))).alloc (.cells #[.int .i32 0, .int .i64 0] 139) = w5 := ⟨_, rfl⟩
          rw [hw5] at g5 y5 ⊢
          have hdc := drop_cons HM5.out
          have J5 := HJ.out.own _ _ _ _ _ HM6.out g5 (by simp) (nb_cells y5 (by decide))
          obtain ⟨fn, tmps, assign, body, hy, hRd⟩ := YieldAt_wide (l' := l2) (m' := 2) (HY.out j _ w5 hdc.2.1 J5)
          have eb : ((a + (b + 1) : Nat) : Int) = (P : Int) + 1 := by omega
          rw [metV_at HM5.out, eb] at hy
          simp only [Quo.Met.val] at hy
          have yk : ∀ k, k < W'.heap.size → k ≠ Y + 1 → w5.heap[k]? = W'.heap[k]? := fun k hk hne => g5.block k hk (by simpa using hne)
          have z7 := (yk Y (by omega) (by omega)).trans HM7.out
          have z9 := (yk (Y + 2) (by omega) (by omega)).trans HM9.out
          have kO : KeepsO O W' w5 := ⟨g5.size, fun k hk => yk k (HM11.out k hk).2 (by have := (HM11.out k hk).1; omega)⟩
          have q0 := cell_of_row _ _ 0 _ _ _ z7
          have q1 := cell_of_row _ _ 0 _ _ _ y5
          have HRD := Lib.hid hRd
          have Z7 := Lib.hid z7
          have Z9 := Lib.hid z9
          have Y5 := Lib.hid y5
          have KO := Lib.hid kO
          have HDC := Lib.hid hdc
          clear hw5 g5 y5 J5 hRd yk z7 z9 kO hbw2 k2 c2 f2 ht0 hmt hdc
          gi_wp2
          refine HRD.out.mono ?_
          rintro e B ⟨hk, (⟨rfl, hJB⟩ | ⟨rfl, hJB⟩)⟩
          · have HKB := Lib.hid hk
            have HJB := Lib.hid hJB
            clear hk hJB hy
            gi_wp2
            refine ⟨KO.out.trans ⟨HKB.out.1, fun k hk => HKB.out.2 k (List.mem_append_left _ hk)⟩, rfl, .inl ?_⟩
            have hlen : (mets L).length = j + 1 := by
              have h1 := HDC.out.2.1
              have h2 := congrArg List.length HDC.out.2.2
              rw [List.length_drop, List.length_nil] at h2
              omega
            rw [hlen]
            exact HJB.out
          · have HKB := Lib.hid hk
            have HJB := Lib.hid hJB
            clear hk hJB hy
            gi_wp2
            exact ⟨KO.out.trans ⟨HKB.out.1, fun k hk => HKB.out.2 k (List.mem_append_left _ hk)⟩, rfl, .inr HJB.out⟩
        | fault er =>
          have ht0 : ∀ w, (Instr.typeAssert (.iface 141 (.int .i64 er)) 137 139 true).run Tryz.prog w = .ok (.tuple #[.agg #[.int .i32 0, .int .i64 0], .bool false]) w := fun _ => by kernel_rfl
          have hmt : ∀ w, (method 309 141 (.int .i64 er) "sigillary/quote.size").run Tryz.prog w = .ok (179, .int .i64 er) w := fun _ => by kernel_rfl
          simp only [Quo.Met.val] at HM5 ⊢
          gi_upto_region 10 with (gi_at_call 179; refine (CallsIn.inRound l2 (callsIn_wide.2 (size_fault er _))).mono ?_; rintro e w2 ⟨rfl, hbw2⟩; have k2 := (hbw2.block (Y + 1) (by have := (Array.getElem?_eq_some_iff.1 HK1.out).1; omega)).trans HK1.out; have c2 := cell_of_row _ _ 0 _ _ _ k2; have f2 := frozen_of_row _ (Y + 1) 0 _ _ k2)
          obtain ⟨g5, y5⟩ := to_w5 HBW.out hbw2 k2 (.int .i64 (P : Int)) (.cells #[.int .i32 0, .int .i64 0] 139)
          obtain ⟨w5, hw5⟩ : ∃ w5, (w2.setCell ⟨Y + 1, 0, none⟩ (.int .i64 (P : Int))).alloc (.cells #[.int .i32 0, .int .i64 0] 139) = w5 := ⟨_, rfl⟩
          rw [hw5] at g5 y5 ⊢
          have hdc := drop_cons HM5.out
          have J5 := HJ.out.own _ _ _ _ _ HM6.out g5 (by simp) (nb_cells y5 (by decide))
          obtain ⟨fn, tmps, assign, body, hy, hRd⟩ := YieldAt_wide (l' := l2) (m' := 2) (HY.out j _ w5 hdc.2.1 J5)
          have eb : ((a + b : Nat) : Int) = (P : Int) := by omega
          rw [metV_at HM5.out, eb] at hy
          simp only [Quo.Met.val] at hy
          have yk : ∀ k, k < W'.heap.size → k ≠ Y + 1 → w5.heap[k]? = W'.heap[k]? := fun k hk hne => g5.block k hk (by simpa using hne)
          have z7 := (yk Y (by omega) (by omega)).trans HM7.out
          have z9 := (yk (Y + 2) (by omega) (by omega)).trans HM9.out
          have kO : KeepsO O W' w5 := ⟨g5.size, fun k hk => yk k (HM11.out k hk).2 (by have := (HM11.out k hk).1; omega)⟩
          have q0 := cell_of_row _ _ 0 _ _ _ z7
          have q1 := cell_of_row _ _ 0 _ _ _ y5
          have HRD := Lib.hid hRd
          have Z7 := Lib.hid z7
          have Z9 := Lib.hid z9
          have Y5 := Lib.hid y5
          have KO := Lib.hid kO
          have HDC := Lib.hid hdc
          clear hw5 g5 y5 J5 hRd yk z7 z9 kO hbw2 k2 c2 f2 ht0 hmt hdc
          gi_wp2
          refine HRD.out.mono ?_
          rintro e B ⟨hk, (⟨rfl, hJB⟩ | ⟨rfl, hJB⟩)⟩
          · have HKB := Lib.hid hk
            have HJB := Lib.hid hJB
            clear hk hJB hy
            gi_wp2
            refine ⟨KO.out.trans ⟨HKB.out.1, fun k hk => HKB.out.2 k (List.mem_append_left _ hk)⟩, rfl, .inl ?_⟩
            have hlen : (mets L).length = j + 1 := by
              have h1 := HDC.out.2.1
              have h2 := congrArg List.length HDC.out.2.2
              rw [List.length_drop, List.length_nil] at h2
              omega
            rw [hlen]
            exact HJB.out
          · have HKB := Lib.hid hk
            have HJB := Lib.hid hJB
            clear hk hJB hy
            gi_wp2
            exact ⟨KO.out.trans ⟨HKB.out.1, fun k hk => HKB.out.2 k (List.mem_append_left _ hk)⟩, rfl, .inr HJB.out⟩
  case hdone =>
    rintro O W' ⟨j, b, f, m1, m2, m3, m4, m5, m6, m7, m8, m9, m10, m11⟩ hD hD1 hK
    rw [hz3] at hD hD1 hK
    have hb := m3.done m2
    subst hb
    obtain ⟨f', rfl⟩ : ∃ f', f = f' + 1 := ⟨f - 1, by omega⟩
    have hmf : metsF (f' + 1) L L.length = [(L.length, .fault 42)] := by
      unfold metsF
      rw [if_pos (Nat.le_refl _)]
    rw [hmf] at m5
    have hdc := drop_cons m5
    obtain ⟨cs, cf, cl⟩ := HSC.out W' (HS.out _ _ _ m6)
    have hLl : L.length = s.size - a := by
      rw [← hL, List.length_drop, Array.length_toList]
      rfl
    obtain ⟨fn, tmps, assign, body, hy, hRd⟩ := YieldAt_deep (m' := 4) (HY.out j _ W' hdc.2.1 m6)
    have eb : ((a + L.length : Nat) : Int) = (s.size : Int) := by omega
    rw [metV_at m5, eb] at hy
    simp only [Quo.Met.val] at hy
    have q0 := cell_of_row _ _ 0 _ _ _ m7
    have hlen : (mets L).length = j + 1 := by
      have h1 := hdc.2.1
      have h2 := congrArg List.length hdc.2.2
      rw [List.length_drop, List.length_nil] at h2
      omega
    have HLE := Lib.hid hlen
    have HRD := Lib.hid hRd
    have HK := Lib.hid hK
    have HD := Lib.hid hD
    clear hRd hK hD hD1 m1 m2 m3 m4 m5 m6 m7 m8 m9 m11 hdc hmf hM0 eb hlen
    rw [hz3]
    go_upto_region 11 with (fail)
    refine (wpIn_wide (n := 5)).1 ?_
    gi_wp2
    refine HRD.out.mono ?_
    rintro e B ⟨hk, h⟩
    have hKB := (hk.2 (Y + 3) (List.mem_append_left [Y + 2, Y + 1, Y] HD.out)).trans HK.out
    have hlt := (Array.getElem?_eq_some_iff.1 hKB).1
    have hg := turn B (Y + 3) (.deferred none)
    have hnb : NB (B.putObj (Y + 3) (.deferred none)) (Y + 3) := fun cs fr h => by rw [World.putObj_heap_same hlt] at h; cases h
    have hend : (∃ v, e = .returned (.bool v)) ∧ ((∃ O, J (mets L).length O (B.putObj (Y + 3) (.deferred none))) ∨ ∃ O, Jx O (B.putObj (Y + 3) (.deferred none))) := by
      rcases h with ⟨rfl, h⟩ | ⟨rfl, h⟩
      · refine ⟨⟨_, rfl⟩, .inl ⟨O ++ [Y + 2, Y + 1, Y], ?_⟩⟩
        rw [HLE.out]
        exact HJ.out.own _ (O ++ [Y + 2, Y + 1, Y]) _ _ _ h hg (List.mem_append_left _ HD.out) hnb
      · exact ⟨⟨_, rfl⟩, .inr ⟨O ++ [Y + 2, Y + 1, Y], HLX.out _ _ _ _ h hg (List.mem_append_left _ HD.out) hnb⟩⟩
    obtain ⟨⟨v, rfl⟩, hend⟩ := hend
    have HKB := Lib.hid hKB
    have HE := Lib.hid hend
    clear hk h hKB hg hnb hend hy
    gi_wp2
    refine ⟨by simp, .inl ⟨_, _, rfl, run_takeDeferred HKB.out, ?_⟩⟩
    exact ⟨_, results_none rfl _ _ _, ⟨_, rfl⟩, HE.out⟩
  case hstop =>
    rintro c O W' ⟨rfl, h⟩ hD hD1 hK
    rw [hz3] at hK hD ⊢
    have hlt := (Array.getElem?_eq_some_iff.1 hK).1
    have hg := turn W' (Y + 3) (.deferred none)
    have hnb : NB (W'.putObj (Y + 3) (.deferred none)) (Y + 3) := fun cs fr h => by rw [World.putObj_heap_same hlt] at h; cases h
    have HH := Lib.hid h
    have HK := Lib.hid hK
    have HG := Lib.hid hg
    have HNB := Lib.hid hnb
    have HD := Lib.hid hD
    clear hK hg hnb h hM0 hD hD1
    gi_wp2
    refine ⟨by simp, .inl ⟨_, _, rfl, run_takeDeferred HK.out, ?_⟩⟩
    refine ⟨_, results_none rfl _ _ _, ⟨_, rfl⟩, ?_⟩
    rcases HH.out with h | h
    · exact .inl ⟨_, HJ.out.own _ _ _ _ _ h HG.out (List.mem_append_left _ HD.out) HNB.out⟩
    · exact .inr ⟨_, HLX.out _ _ _ _ h HG.out (List.mem_append_left _ HD.out) HNB.out⟩
theorem meetings_run (s : ByteArray) (hs : s.size ≤ 1000000) (a : Nat) (ha : a ≤ s.size) (L : List UInt8) (hL : s.data.toList.drop a = L) (hv : Go.Lib.validD L = true) (Bs Bf Bl Bm : Nat) (S : World → Prop)
    (hSc : ∀ A, S A → A.cell? ⟨Bs, 0, none⟩ = some (.string s) ∧ A.cell? ⟨Bf, 0, none⟩ = some (.int .i64 a) ∧ A.cell? ⟨Bl, 0, none⟩ = some (lookV Bm))
    (hlook : ∀ A (R : ByteArray), S A → R.data.toList ≠ [] → R.size ≤ 1000000 → Go.Lib.validD R.data.toList = true → Calls Tryz.prog 112 #[.string R, .int .i32 ((Go.Lib.decodeL R.data.toList).1 : Int), .pointer (some ⟨Bm, 0, none⟩)] A fun e w' => e = .returned (lookM R.data.toList).val ∧ Below A.heap.size A w') :
    SeqY Fence.wide 5 Tryz.prog 133 #[.pointer (some ⟨Bf, 0, none⟩), .pointer (some ⟨Bs, 0, none⟩), .pointer (some ⟨Bl, 0, none⟩)] (metV a (mets L)) (mets L).length S :=
  fun l J Jx W hJ hLx hS hY h0 => meetings_in s hs a ha L hL hv Bs Bf Bl Bm S hSc hlook l J Jx W hJ hLx hS hY h0
end Go.Proofs.YtkliecngkcjieaaGreatDoor
