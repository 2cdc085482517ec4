/- All places of a text follow some rules, or not, as the rules tell of each. Conditions: each rule tells what it tells, and the rules lie in a row. -/
import Derived.Test.YtkliecngkcjieaaGreatDoorRls
set_option maxRecDepth 100000
namespace Go.Proofs.YtkliecngkcjieaaGreatDoor
open Go.RowKit Go.Shelf
open Pl Seqo
attribute [local go_sem] Oper.semAt_some
abbrev Trip := Int → Int → Int → Bool
def allF (fs : List Trip) : Trip := fun a s b => fs.all fun f => f a s b
/-- a function value that tells a rule -/
def RuleOf (w : World) (v : Value) (f : Trip) : Prop := ∃ g lb, v = .func (.func g) #[] lb ∧ (∀ args w, (callFunc g args).run Tryz.prog w = .ok (.enter g args) w) ∧
  ∀ W, Below w.heap.size w W → ∀ a s b, Calls Tryz.prog g (#[.agg #[.int .i32 a, .int .i32 s, .int .i32 b]] ++ lb) W fun e W' => e = .returned (.bool (f a s b)) ∧ Below W.heap.size W W'
theorem RuleOf.below {w w' : World} {v : Value} {f : Trip} (h : RuleOf w v f) (hb : Below w.heap.size w w') : RuleOf w' v f := by
  obtain ⟨g, lb, h1, h2, h3⟩ := h
  exact ⟨g, lb, h1, h2, fun W hW => h3 W (hb.trans (hW.mono hb.size))⟩
/-- a row of rules -/
def Rules (br : Nat) (fs : List Trip) (w : World) : Prop := ∀ j (hj : j < fs.length), ∃ v, w.cell? ⟨br, j, none⟩ = some v ∧ RuleOf w v fs[j]
theorem Rules.below {br : Nat} {fs : List Trip} {w w' : World} (h : Rules br fs w) (hb : Below w.heap.size w w') : Rules br fs w' := fun j hj => by
  obtain ⟨v, h1, h2⟩ := h j hj
  exact ⟨v, (hb.cell (p := ⟨br, j, none⟩) (World.block_lt_of_cell? w ⟨br, j, none⟩ (by rw [h1]))).trans h1, h2.below hb⟩
theorem places_any (s : ByteArray) (w : World) : Calls Tryz.prog 91 #[.string s] w fun e w' => e = .returned (.func (.func 119) #[] #[.pointer (some ⟨w.heap.size, 0, none⟩)]) ∧ w' = w.alloc (.cells #[.string s] 9) := by
  go_enter Tryz.func91, Tryz.ntmps91
  go_wp2
  go_ret
  exact ⟨rfl, rfl⟩
/-- what is left of the places from turn t on -/
def leftT (f : Trip) (rs : List Int) (t : Nat) : Bool := allT f (if t = 0 then -1 else at0 rs (t - 1)) (rs.drop t)
theorem leftT_step (f : Trip) (rs : List Int) (t : Nat) (h : t < rs.length) : leftT f rs t = (f (if t = 0 then -1 else at0 rs (t - 1)) (at0 rs t) (at0 rs (t + 1)) && leftT f rs (t + 1)) := by
  unfold leftT
  have e : rs.drop t = at0 rs t :: rs.drop (t + 1) := by
    rw [List.drop_eq_getElem_cons h]
    congr 1
    unfold at0
    rw [List.getD_eq_getElem?_getD, List.getElem?_eq_getElem h]; rfl
  have e2 : (rs.drop (t + 1)).headD (-1) = at0 rs (t + 1) := by
    unfold at0
    rw [List.headD_eq_head?_getD, List.head?_drop, List.getD_eq_getElem?_getD]
  rw [e]
  show (f _ _ _ && allT f _ _) = _
  rw [e2, if_neg (Nat.succ_ne_zero t), Nat.add_sub_cancel]
theorem leftT_end (f : Trip) (rs : List Int) : leftT f rs rs.length = true := by
  unfold leftT; rw [List.drop_length]; rfl
set_option maxRecDepth 100000 in
set_option maxHeartbeats 4000000 in
theorem follows_in (s : ByteArray) (hs : s.size ≤ 1099511627776) (br c : Nat) (fs : List Trip) (hm : fs.length ≤ 1000) (w : World) (hR : Rules br fs w) :
    CallsIn Fence.wide 6 Tryz.prog 63 #[.string s, .slice (some ⟨br, 0, none⟩) fs.length c] w fun e w' => e = .returned (.bool (allT (allF fs) (-1) (runesOf s.data.toList))) ∧ Below w.heap.size w w' := by
  obtain ⟨rs, hrs⟩ : ∃ rs, runesOf s.data.toList = rs := ⟨_, rfl⟩
  have HRU := Lib.hid hR
  obtain ⟨A, hA⟩ : ∃ A, allT (allF fs) (-1) rs = A := ⟨_, rfl⟩
  have hl0 : leftT (allF fs) rs 0 = A := hA
  rw [hrs, hA]
  have hN := leftT_end (allF fs) rs
  have HL0 := Lib.hid hl0
  have HNN := Lib.hid hN
  clear hR hA hl0 hN
  refine callsIn_of_wp_marks Tryz.func63 rfl trivial ?_ rfl
  simp only [Tryz.ntmps63, List.size_toArray, List.length_cons, List.length_nil, Nat.reduceAdd, Nat.reduceSub, Array.replicate_succ, Array.replicate_zero, List.push_toArray, List.append_toArray, List.nil_append, List.cons_append]
  refine wpIn_wide.2 ?_
  go_wp2_with fail
  go_step3
  go_wp2_with fail
  go_step3
  go_wp2_with (go_at_call 91; refine (places_any s _).mono ?_; rintro e w' ⟨rfl, rfl⟩)
  obtain ⟨w3, hw3⟩ : ∃ w3, (((w.alloc (.cells #[.slice (some ⟨br, 0, none⟩) fs.length c] 77)).alloc (.cells #[.bool false] 4)).alloc (.cells #[.string s] 9)) = w3 := ⟨_, rfl⟩
  rw [hw3]
  have hz3 : w3.heap.size = w.heap.size + 3 := by rw [← hw3]; simp
  have hx3 : w3.heap[w.heap.size]? = some (.cells #[.slice (some ⟨br, 0, none⟩) fs.length c] 77 (0, 0)) := by
    rw [← hw3, Below.heap_alloc _ _ _ (by simp; omega), Below.heap_alloc _ _ _ (by simp)]; exact heap_alloc_new w _
  have hb3 : w3.heap[w.heap.size + 1]? = some (.cells #[.bool false] 4 (0, 0)) := by
    rw [← hw3, Below.heap_alloc _ _ _ (by simp)]
    have h := heap_alloc_new (w.alloc (.cells #[.slice (some ⟨br, 0, none⟩) fs.length c] 77)) (.cells #[.bool false] 4)
    rwa [World.size_alloc] at h
  have hs3 : w3.heap[w.heap.size + 2]? = some (.cells #[.string s] 9 (0, 0)) := by
    rw [← hw3]
    have h := heap_alloc_new ((w.alloc (.cells #[.slice (some ⟨br, 0, none⟩) fs.length c] 77)).alloc (.cells #[.bool false] 4)) (.cells #[.string s] 9)
    rwa [World.size_alloc, World.size_alloc] at h
  have hbl3 : Below w.heap.size w w3 := by rw [← hw3]; exact (((Below.refl _ w).alloc (Nat.le_refl _) _).alloc (by simp) _).alloc (by simp; omega) _
  clear hw3
  refine (wpIn_wide (n := 6)).1 ?_
  refine wpIn_rangeFunc_seqo rfl (by decide) (gf := 119) (lb := #[.pointer (some ⟨w.heap.size + 1 + 1, 0, none⟩)]) rfl trivial (enters_of Tryz.func119 (by kernel_rfl) rfl)
    (places_run 5 s hs (w.heap.size + 1 + 1)) (fun _ => rfl) (.exit 0)
    (fun t W => W.heap[w.heap.size]? = some (.cells #[.slice (some ⟨br, 0, none⟩) fs.length c] 77 (0, 0)) ∧ W.heap[w.heap.size + 1]? = some (.cells #[.bool false] 4 (0, 0)) ∧ W.heap[w.heap.size + 2]? = some (.cells #[.string s] 9 (0, 0)) ∧ leftT (allF fs) rs t = A ∧ Below w.heap.size w W ∧ w3.heap.size ≤ W.heap.size)
    (fun W => W.heap[w.heap.size + 1]? = some (.cells #[.bool true] 4 (0, 0)) ∧ A = false ∧ Below w.heap.size w W ∧ w3.heap.size ≤ W.heap.size)
    ?hI ?hIx (fun t A h => cell_of_row A _ 0 _ _ _ h.2.2.1) ⟨hx3, hb3, hs3, HL0.out, hbl3, Nat.le_refl _⟩
    (fun t a' W => ∃ Bx, W.heap[Bx]? = some (.cells #[.int .i32 (if t = 0 then -1 else at0 rs (t - 1)), .int .i32 (at0 rs t), .int .i32 (at0 rs (t + 1))] 114 (0, 0)) ∧
      a' = { tmps := #[.string s, .slice (some ⟨br, 0, none⟩) fs.length c, undef, .pointer (some ⟨w.heap.size, 0, none⟩), .bool false, .pointer (some ⟨w.heap.size + 1, 0, none⟩), .pointer (some ⟨Bx, 0, none⟩), undef, undef, .string s, .func (.func 119) #[] #[.pointer (some ⟨w.heap.size + 1 + 1, 0, none⟩)], placeV rs t, undef, undef, undef, undef, undef, undef, undef, undef, undef, undef, undef, undef, undef], defers := [] })
    ?hAx ?hassign ?hbody ?hdone ?hstop
  case hI =>
    rintro t A D r ⟨h1, h2, h3, h4, h5, h6⟩ hg hr
    exact ⟨(hg.block _ (by omega) (by simp; omega)).trans h1, (hg.block _ (by omega) (by simp; omega)).trans h2, (hg.block _ (by omega) (by simp; omega)).trans h3, h4, h5.trans (below_of_grown hg (by omega) (by omega)), Nat.le_trans h6 hg.size⟩
  case hIx =>
    rintro A D r ⟨h1, h2, h3, h4⟩ hg hr
    exact ⟨(hg.block _ (by omega) (by simp; omega)).trans h1, h2, h3.trans (below_of_grown hg (by omega) (by omega)), Nat.le_trans h4 hg.size⟩
  case hAx =>
    rintro t a A D r ⟨Bx, h1, h2⟩ hg hne
    refine ⟨Bx, (hg.block Bx (Array.getElem?_eq_some_iff.1 h1).1 (fun e => ?_)).trans h1, h2⟩
    obtain rfl : Bx = r := by simpa using e
    exact hne _ _ _ h1
  case hassign =>
    intro l t W K ht hi hK
    rw [hrs]
    unfold placeV at hK ⊢
    obtain ⟨pa, hpa⟩ : ∃ A : Int, (if t = 0 then -1 else at0 rs (t - 1)) = A := ⟨_, rfl⟩
    obtain ⟨pg, hpg⟩ : ∃ A : Int, at0 rs t = A := ⟨_, rfl⟩
    obtain ⟨pb, hpb⟩ : ∃ A : Int, at0 rs (t + 1) = A := ⟨_, rfl⟩
    rw [hpa, hpg, hpb] at hK ⊢
    have HKK := Lib.hid hK
    clear hK hi hpa hpg hpb hrs
    gi_wp2
    exact HKK.out _ _ (gB_of_below ((Below.refl _ W).alloc (Nat.le_refl _) _) none) ⟨W.heap.size, heap_alloc_new W _, rfl⟩
  case hbody =>
    rintro l t a' W ht ⟨h1, h2, h3, h4, h5, h6⟩ ⟨Bx, hbx, rfl⟩
    rw [hrs] at ht
    rw [leftT_step _ _ _ ht] at h4
    unfold placeV
    obtain ⟨pa, hpa⟩ : ∃ A : Int, (if t = 0 then -1 else at0 rs (t - 1)) = A := ⟨_, rfl⟩
    obtain ⟨pg, hpg⟩ : ∃ A : Int, at0 rs t = A := ⟨_, rfl⟩
    obtain ⟨pb, hpb⟩ : ∃ A : Int, at0 rs (t + 1) = A := ⟨_, rfl⟩
    rw [hpa, hpg, hpb] at hbx h4 ⊢
    have hc1 : W.cell? ⟨w.heap.size, 0, none⟩ = some (.slice (some ⟨br, 0, none⟩) fs.length c) := cell_of_row _ _ 0 _ _ _ h1
    have H1 := Lib.hid h1
    have H2 := Lib.hid h2
    have H3 := Lib.hid h3
    have H4 := Lib.hid h4
    have H5 := Lib.hid h5
    have H6 := Lib.hid h6
    have HBX := Lib.hid hbx
    have hRW := HRU.out.below h5
    have HRW := Lib.hid hRW
    clear hRW h1 h2 h3 h4 h5 h6 hbx hpa hpg hpb hx3 hb3 hs3 hbl3 hrs
    gi_wp2
    gi_loopw [14] (fun i wr => ∃ j : Nat, j ≤ fs.length ∧ i = .int .i64 j ∧ (∀ k (hk : k < fs.length), k < j → fs[k] pa pg pb = true) ∧ Below W.heap.size W wr) (fun i _ => fs.length - (intOf i).toNat)
    case atStart => exact ⟨0, Nat.zero_le _, rfl, fun k _ h => absurd h (Nat.not_lt_zero _), Below.refl _ _⟩
    case round =>
      obtain ⟨j, hj, rfl, hok, hbw⟩ := hrel
      have HOK := Lib.hid hok
      clear hok hc1
      by_cases hlt : j < fs.length
      · obtain ⟨v, hv, hrule⟩ := HRW.out.below hbw j hlt
        obtain ⟨g, lb, rfl, eg, hC⟩ := hrule
        have hC2 := hC wr (Below.refl _ _) pa pg pb
        have hb3 := (hbw.block Bx (Array.getElem?_eq_some_iff.1 HBX.out).1).trans HBX.out
        have p0 : wr.cell? ⟨Bx, 0, none⟩ = some (.int .i32 pa) := cell_of_row _ _ 0 _ _ _ hb3
        have p1 : wr.cell? ⟨Bx, 1, none⟩ = some (.int .i32 pg) := cell_of_row _ _ 1 _ _ _ hb3
        have p2 : wr.cell? ⟨Bx, 2, none⟩ = some (.int .i32 pb) := cell_of_row _ _ 2 _ _ _ hb3
        obtain ⟨f, hf⟩ : ∃ f, fs[j] = f := ⟨_, rfl⟩
        rw [hf] at hC2
        have HF := Lib.hid hf
        have HC := Lib.hid hC2
        have HBW := Lib.hid hbw
        clear hC hC2 hf hb3 hbw
        gi_wp2
        refine ⟨trivial, ?_⟩
        refine (CallsIn.inRound l (callsIn_wide.2 HC.out)).mono ?_
        rintro e w5 ⟨rfl, hb5⟩
        have hbw5 := HBW.out.trans (hb5.mono HBW.out.size)
        have HB5 := Lib.hid hbw5
        have hx5 := (hbw5.block _ (by have := H6.out; omega)).trans H2.out
        have hc5 : w5.cell? ⟨w.heap.size + 1, 0, none⟩ = some (.bool false) := cell_of_row _ _ 0 _ _ _ hx5
        have hf5 := frozen_of_row _ _ 0 _ _ hx5
        have HX5 := Lib.hid hx5
        clear hb5 hbw5 hx5
        cases hfv : f pa pg pb
        · have HFV := Lib.hid hfv
          clear hfv
          gi_wp2
          have hz6 := H6.out
          have hw5 := HB5.out.size
          have hg : w5.grownBy (w5.setCell ⟨w.heap.size + 1, 0, none⟩ (.bool true)) (some (w.heap.size + 1)) := gB_setCell (gB_refl _ _) _ _
          refine ⟨rfl, (Keeps.of_below HB5.out).trans (Keeps.of_grown hg (by omega)), heap_setCell_same w5 _ 0 _ _ _ HX5.out, ?_, (H5.out.trans (HB5.out.mono H5.out.size)).trans (below_of_grown hg (by omega) (by omega)), Nat.le_trans hz6 (Nat.le_trans hw5 hg.size)⟩
          have h4 := H4.out
          rw [← h4, show allF fs pa pg pb = false from ?_, Bool.false_and]
          unfold allF
          rw [List.all_eq_false]
          exact ⟨fs[j], List.getElem_mem _, by rw [HF.out, HFV.out]; decide⟩
        · have HFV := Lib.hid hfv
          clear hfv
          gi_wp2
          refine ⟨⟨j + 1, by omega, by go_num, fun k hk hkj => ?_, HB5.out⟩, ?_⟩
          · rcases Nat.lt_or_ge k j with h | h
            · exact HOK.out k hk h
            · obtain rfl : k = j := by omega
              rw [HF.out]; exact HFV.out
          · simp [intOf]; omega
      · have HBW := Lib.hid hbw
        clear hbw
        gi_wp2
        have hbb := HBW.out
        refine ⟨Keeps.of_below hbb, (hbb.block _ (by have := H6.out; omega)).trans H1.out, (hbb.block _ (by have := H6.out; omega)).trans H2.out, (hbb.block _ (by have := H6.out; omega)).trans H3.out, ?_, H5.out.trans (hbb.mono H5.out.size), Nat.le_trans H6.out hbb.size⟩
        have h4 := H4.out
        rw [show allF fs pa pg pb = true from ?_, Bool.true_and] at h4
        · exact h4
        · unfold allF
          rw [List.all_eq_true]
          intro g hg
          obtain ⟨k, hk, rfl⟩ := List.getElem_of_mem hg
          exact HOK.out k hk (by omega)
  case hdone =>
    rintro D W hD ⟨h1, h2, h3, h4, h5, h6⟩ hK
    rw [hrs, HNN.out] at h4
    have hcx : W.cell? ⟨w.heap.size + 1, 0, none⟩ = some (.bool false) := cell_of_row _ _ 0 _ _ _ h2
    have H4 := Lib.hid h4
    have H5 := Lib.hid h5
    have HK := Lib.hid hK
    clear h1 h2 h3 h4 h5 h6 hK hx3 hb3 hs3 hbl3 hrs
    go_wp2
    rw [Exit.noGoto_ret]
    refine ⟨by simp, .inl ⟨_, _, rfl, run_takeDeferred HK.out, ?_⟩⟩
    refine ⟨.bool true, by simp [results, Tryz.results63, go_sem], by rw [H4.out], H5.out.trans (below_of_grown (turn W D _) (by omega) (by have := H5.out.size; omega))⟩
  case hstop =>
    rintro D W hD ⟨h1, h2, h3, h4⟩ hK
    have hcx : W.cell? ⟨w.heap.size + 1, 0, none⟩ = some (.bool true) := cell_of_row _ _ 0 _ _ _ h1
    have H2 := Lib.hid h2
    have H3 := Lib.hid h3
    have HK := Lib.hid hK
    clear h1 h2 h3 h4 hK hx3 hb3 hs3 hbl3 hrs
    refine wpIn_wide.2 ?_
    go_wp2_with fail
    rw [Exit.noGoto_ret]
    refine ⟨by simp, .inl ⟨_, _, rfl, run_takeDeferred HK.out, ?_⟩⟩
    refine ⟨.bool false, by simp [results, Tryz.results63, go_sem], by rw [H2.out], H3.out.trans (below_of_grown (turn W D _) (by omega) (by have := H3.out.size; omega))⟩
theorem follows_any (s : ByteArray) (hs : s.size ≤ 1099511627776) (br c : Nat) (fs : List Trip) (hm : fs.length ≤ 1000) (w : World) (hR : Rules br fs w) :
    Calls Tryz.prog 63 #[.string s, .slice (some ⟨br, 0, none⟩) fs.length c] w fun e w' => e = .returned (.bool (allT (allF fs) (-1) (runesOf s.data.toList))) ∧ Below w.heap.size w w' :=
  callsIn_wide.1 (follows_in s hs br c fs hm w hR)
end Go.Proofs.YtkliecngkcjieaaGreatDoor
