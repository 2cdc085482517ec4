/- A text of a scalar that is no Str may stand plain, a Str's may not: the walks of the law. Conditions: the contracts of what is called. -/
import Derived.Test.YtkliecngkcjieaaGreatDoorDoor
import Derived.Test.YtkliecngkcjieaaGreatDoorBox
set_option maxRecDepth 100000
namespace Go.Proofs.YtkliecngkcjieaaGreatDoor
open Go.ChangeShapes Go.WideShapes Go.ChangeAt Go.RowKit Go.Shelf
open Go.ChangeMaps (open_string shut_string)
open Pl Quo Scs
set_option maxHeartbeats 8000000 in
theorem plain_bad (x X : Sc) (S : ByteArray) (hx : ∀ w, Calls Tryz.prog 12 #[.agg #[.int .i64 x.1, .int .i64 x.2.1, .string x.2.2]] w fun e w' => e = .returned (.agg #[.int .i64 X.1, .int .i64 X.2.1, .string X.2.2]) ∧ Below w.heap.size w w')
    (g1 : ∀ w, Env w → Calls Tryz.prog 14 #[.agg #[.int .i64 X.1, .int .i64 X.2.1, .string X.2.2]] w fun e w' => e = .returned (.tuple #[.string ⟨#[]⟩, .int .i64 60]) ∧ Below w.heap.size w w')
    (w : World) (E : Env w) :
    Calls Tryz.prog 10 #[.agg #[.int .i64 x.1, .int .i64 x.2.1, .string x.2.2]] w fun e w' => e = .returned (.bool true) ∧ Below w.heap.size w w' := by
  have qg := guard_sc
  have HEE := Lib.hid E
  have HX := Lib.hid hx
  have G1 := Lib.hid g1
  clear hx g1
  go_enter Tryz.func10, Tryz.ntmps10
  go_wp2_with fail
  obtain ⟨v0, hv0⟩ : ∃ v, w.alloc (scO x) = v := ⟨_, rfl⟩
  have hb0 : Below w.heap.size w v0 := by rw [← hv0]; exact ((Below.refl _ w).alloc (Nat.le_refl _) _)
  have r0_0 : v0.heap[w.heap.size]? = some (scO x) := by rw [← hv0]; exact (by simpa [World.size_alloc] using box_at1_0 w (scO x))
  have R0_0 := Lib.hid r0_0
  have HE0 := Lib.hid (E.below hb0)
  have HB0 := Lib.hid hb0
  rw [hv0]
  clear hv0 hb0 r0_0 E
  refine (shown_any _ HE0.out).mono ?_
  rintro e v1 ⟨rfl, hb⟩
  have R1_0 := Lib.hid ((hb.block _ (Array.getElem?_eq_some_iff.1 R0_0.out).1).trans R0_0.out)
  have HE1 := Lib.hid (HE0.out.below hb)
  have HB1 := Lib.hid (HB0.out.trans (hb.mono HB0.out.size))
  clear hb
  obtain ⟨c00, c01, c02, f00, f01, f02⟩ := box_cells R1_0.out
  go_wp2_with fail
  refine (HX.out _).mono ?_
  rintro e v2 ⟨rfl, hb⟩
  clear c00 c01 c02 f00 f01 f02
  have R2_0 := Lib.hid ((hb.block _ (Array.getElem?_eq_some_iff.1 R1_0.out).1).trans R1_0.out)
  have HE2 := Lib.hid (HE1.out.below hb)
  have HB2 := Lib.hid (HB1.out.trans (hb.mono HB1.out.size))
  clear hb
  obtain ⟨c00, c01, c02, f00, f01, f02⟩ := box_cells R2_0.out
  go_upto_region 3 with (fail)
  obtain ⟨v3, hv3⟩ : ∃ v, ((v2.setCell ⟨w.heap.size, 0, none⟩ (.int .i64 X.1)).setCell ⟨w.heap.size, 1, none⟩ (.int .i64 X.2.1)).setCell ⟨w.heap.size, 2, none⟩ (.string X.2.2) = v := ⟨_, rfl⟩
  rw [hv3]
  obtain ⟨hr, hg⟩ := box_store R2_0.out X
  rw [hv3] at hr hg
  have hbs : Below w.heap.size v2 v3 := below_of_grown hg (by omega) HB2.out.size
  have R3_0 := Lib.hid hr
  have HE3 := Lib.hid (HEE.out.below (HB2.out.trans hbs))
  have HB3 := Lib.hid (HB2.out.trans hbs)
  clear hv3 hr hg hbs
  clear c00 c01 c02 f00 f01 f02
  obtain ⟨c00, c01, c02, f00, f01, f02⟩ := box_cells R3_0.out
  go_wp2_with fail
  refine (G1.out _ HE3.out).mono ?_
  rintro e v4 ⟨rfl, hb⟩
  clear c00 c01 c02 f00 f01 f02
  have R4_0 := Lib.hid ((hb.block _ (Array.getElem?_eq_some_iff.1 R3_0.out).1).trans R3_0.out)
  have HE4 := Lib.hid (HE3.out.below hb)
  have HB4 := Lib.hid (HB3.out.trans (hb.mono HB3.out.size))
  clear hb
  go_wp2_with fail
  go_ret
  exact ⟨rfl, HB4.out⟩
set_option maxHeartbeats 8000000 in
theorem plain_str (x X : Sc) (S : ByteArray) (hx : ∀ w, Calls Tryz.prog 12 #[.agg #[.int .i64 x.1, .int .i64 x.2.1, .string x.2.2]] w fun e w' => e = .returned (.agg #[.int .i64 X.1, .int .i64 X.2.1, .string X.2.2]) ∧ Below w.heap.size w w')
    (g1 : ∀ w, Env w → Calls Tryz.prog 14 #[.agg #[.int .i64 X.1, .int .i64 X.2.1, .string X.2.2]] w fun e w' => e = .returned (.tuple #[.string S, .int .i64 0]) ∧ Below w.heap.size w w')
    (g3 : ∀ w, Env w → Calls Tryz.prog 27 #[.string S, .bool true] w fun e w' => e = .returned (.tuple #[.agg #[.int .i64 0, .int .i64 0, .string ⟨#[]⟩], .int .i64 51]) ∧ Below w.heap.size w w')
    (hk : (X.1 == 3) = true) (w : World) (E : Env w) :
    Calls Tryz.prog 10 #[.agg #[.int .i64 x.1, .int .i64 x.2.1, .string x.2.2]] w fun e w' => e = .returned (.bool true) ∧ Below w.heap.size w w' := by
  have qg := guard_sc
  have HEE := Lib.hid E
  have HX := Lib.hid hx
  have G1 := Lib.hid g1
  have G3 := Lib.hid g3
  clear g3
  clear hx g1
  go_enter Tryz.func10, Tryz.ntmps10
  go_wp2_with fail
  obtain ⟨v0, hv0⟩ : ∃ v, w.alloc (scO x) = v := ⟨_, rfl⟩
  have hb0 : Below w.heap.size w v0 := by rw [← hv0]; exact ((Below.refl _ w).alloc (Nat.le_refl _) _)
  have r0_0 : v0.heap[w.heap.size]? = some (scO x) := by rw [← hv0]; exact (by simpa [World.size_alloc] using box_at1_0 w (scO x))
  have R0_0 := Lib.hid r0_0
  have HE0 := Lib.hid (E.below hb0)
  have HB0 := Lib.hid hb0
  rw [hv0]
  clear hv0 hb0 r0_0 E
  refine (shown_any _ HE0.out).mono ?_
  rintro e v1 ⟨rfl, hb⟩
  have R1_0 := Lib.hid ((hb.block _ (Array.getElem?_eq_some_iff.1 R0_0.out).1).trans R0_0.out)
  have HE1 := Lib.hid (HE0.out.below hb)
  have HB1 := Lib.hid (HB0.out.trans (hb.mono HB0.out.size))
  clear hb
  obtain ⟨c00, c01, c02, f00, f01, f02⟩ := box_cells R1_0.out
  go_wp2_with fail
  refine (HX.out _).mono ?_
  rintro e v2 ⟨rfl, hb⟩
  clear c00 c01 c02 f00 f01 f02
  have R2_0 := Lib.hid ((hb.block _ (Array.getElem?_eq_some_iff.1 R1_0.out).1).trans R1_0.out)
  have HE2 := Lib.hid (HE1.out.below hb)
  have HB2 := Lib.hid (HB1.out.trans (hb.mono HB1.out.size))
  clear hb
  obtain ⟨c00, c01, c02, f00, f01, f02⟩ := box_cells R2_0.out
  go_upto_region 3 with (fail)
  obtain ⟨v3, hv3⟩ : ∃ v, ((v2.setCell ⟨w.heap.size, 0, none⟩ (.int .i64 X.1)).setCell ⟨w.heap.size, 1, none⟩ (.int .i64 X.2.1)).setCell ⟨w.heap.size, 2, none⟩ (.string X.2.2) = v := ⟨_, rfl⟩
  rw [hv3]
  obtain ⟨hr, hg⟩ := box_store R2_0.out X
  rw [hv3] at hr hg
  have hbs : Below w.heap.size v2 v3 := below_of_grown hg (by omega) HB2.out.size
  have R3_0 := Lib.hid hr
  have HE3 := Lib.hid (HEE.out.below (HB2.out.trans hbs))
  have HB3 := Lib.hid (HB2.out.trans hbs)
  clear hv3 hr hg hbs
  clear c00 c01 c02 f00 f01 f02
  obtain ⟨c00, c01, c02, f00, f01, f02⟩ := box_cells R3_0.out
  go_wp2_with fail
  refine (G1.out _ HE3.out).mono ?_
  rintro e v4 ⟨rfl, hb⟩
  clear c00 c01 c02 f00 f01 f02
  have R4_0 := Lib.hid ((hb.block _ (Array.getElem?_eq_some_iff.1 R3_0.out).1).trans R3_0.out)
  have HE4 := Lib.hid (HE3.out.below hb)
  have HB4 := Lib.hid (HB3.out.trans (hb.mono HB3.out.size))
  clear hb
  go_wp2_with fail
  refine (G3.out _ HE4.out).mono ?_
  rintro e v5 ⟨rfl, hb⟩
  have R5_0 := Lib.hid ((hb.block _ (Array.getElem?_eq_some_iff.1 R4_0.out).1).trans R4_0.out)
  have HE5 := Lib.hid (HE4.out.below hb)
  have HB5 := Lib.hid (HB4.out.trans (hb.mono HB4.out.size))
  clear hb
  obtain ⟨c00, c01, c02, f00, f01, f02⟩ := box_cells R5_0.out
  have hlt : w.heap.size < v5.heap.size := (Array.getElem?_eq_some_iff.1 R5_0.out).1
  go_wp2_with fail
  go_ret
  exact ⟨rfl, HB5.out.alloc HB5.out.size _⟩
set_option maxHeartbeats 8000000 in
theorem plain_good (x X : Sc) (S : ByteArray) (hx : ∀ w, Calls Tryz.prog 12 #[.agg #[.int .i64 x.1, .int .i64 x.2.1, .string x.2.2]] w fun e w' => e = .returned (.agg #[.int .i64 X.1, .int .i64 X.2.1, .string X.2.2]) ∧ Below w.heap.size w w')
    (g1 : ∀ w, Env w → Calls Tryz.prog 14 #[.agg #[.int .i64 X.1, .int .i64 X.2.1, .string X.2.2]] w fun e w' => e = .returned (.tuple #[.string S, .int .i64 0]) ∧ Below w.heap.size w w')
    (g3 : ∀ w, Env w → Calls Tryz.prog 27 #[.string S, .bool true] w fun e w' => e = .returned (.tuple #[.agg #[.int .i64 X.1, .int .i64 X.2.1, .string X.2.2], .int .i64 0]) ∧ Below w.heap.size w w')
    (hk : (X.1 == 3) = false) (q : ∀ w, (Op.equalIn 10000 23 (.agg #[.int .i64 X.1, .int .i64 X.2.1, .string X.2.2]) (.agg #[.int .i64 X.1, .int .i64 X.2.1, .string X.2.2])).run Tryz.prog w = .ok true w)
    (w : World) (E : Env w) :
    Calls Tryz.prog 10 #[.agg #[.int .i64 x.1, .int .i64 x.2.1, .string x.2.2]] w fun e w' => e = .returned (.bool true) ∧ Below w.heap.size w w' := by
  have qg := guard_sc
  have HEE := Lib.hid E
  have HX := Lib.hid hx
  have G1 := Lib.hid g1
  have G3 := Lib.hid g3
  clear g3
  clear hx g1
  go_enter Tryz.func10, Tryz.ntmps10
  go_wp2_with fail
  obtain ⟨v0, hv0⟩ : ∃ v, w.alloc (scO x) = v := ⟨_, rfl⟩
  have hb0 : Below w.heap.size w v0 := by rw [← hv0]; exact ((Below.refl _ w).alloc (Nat.le_refl _) _)
  have r0_0 : v0.heap[w.heap.size]? = some (scO x) := by rw [← hv0]; exact (by simpa [World.size_alloc] using box_at1_0 w (scO x))
  have R0_0 := Lib.hid r0_0
  have HE0 := Lib.hid (E.below hb0)
  have HB0 := Lib.hid hb0
  rw [hv0]
  clear hv0 hb0 r0_0 E
  refine (shown_any _ HE0.out).mono ?_
  rintro e v1 ⟨rfl, hb⟩
  have R1_0 := Lib.hid ((hb.block _ (Array.getElem?_eq_some_iff.1 R0_0.out).1).trans R0_0.out)
  have HE1 := Lib.hid (HE0.out.below hb)
  have HB1 := Lib.hid (HB0.out.trans (hb.mono HB0.out.size))
  clear hb
  obtain ⟨c00, c01, c02, f00, f01, f02⟩ := box_cells R1_0.out
  go_wp2_with fail
  refine (HX.out _).mono ?_
  rintro e v2 ⟨rfl, hb⟩
  clear c00 c01 c02 f00 f01 f02
  have R2_0 := Lib.hid ((hb.block _ (Array.getElem?_eq_some_iff.1 R1_0.out).1).trans R1_0.out)
  have HE2 := Lib.hid (HE1.out.below hb)
  have HB2 := Lib.hid (HB1.out.trans (hb.mono HB1.out.size))
  clear hb
  obtain ⟨c00, c01, c02, f00, f01, f02⟩ := box_cells R2_0.out
  go_upto_region 3 with (fail)
  obtain ⟨v3, hv3⟩ : ∃ v, ((v2.setCell ⟨w.heap.size, 0, none⟩ (.int .i64 X.1)).setCell ⟨w.heap.size, 1, none⟩ (.int .i64 X.2.1)).setCell ⟨w.heap.size, 2, none⟩ (.string X.2.2) = v := ⟨_, rfl⟩
  rw [hv3]
  obtain ⟨hr, hg⟩ := box_store R2_0.out X
  rw [hv3] at hr hg
  have hbs : Below w.heap.size v2 v3 := below_of_grown hg (by omega) HB2.out.size
  have R3_0 := Lib.hid hr
  have HE3 := Lib.hid (HEE.out.below (HB2.out.trans hbs))
  have HB3 := Lib.hid (HB2.out.trans hbs)
  clear hv3 hr hg hbs
  clear c00 c01 c02 f00 f01 f02
  obtain ⟨c00, c01, c02, f00, f01, f02⟩ := box_cells R3_0.out
  go_wp2_with fail
  refine (G1.out _ HE3.out).mono ?_
  rintro e v4 ⟨rfl, hb⟩
  clear c00 c01 c02 f00 f01 f02
  have R4_0 := Lib.hid ((hb.block _ (Array.getElem?_eq_some_iff.1 R3_0.out).1).trans R3_0.out)
  have HE4 := Lib.hid (HE3.out.below hb)
  have HB4 := Lib.hid (HB3.out.trans (hb.mono HB3.out.size))
  clear hb
  go_wp2_with fail
  refine (G3.out _ HE4.out).mono ?_
  rintro e v5 ⟨rfl, hb⟩
  have R5_0 := Lib.hid ((hb.block _ (Array.getElem?_eq_some_iff.1 R4_0.out).1).trans R4_0.out)
  have HE5 := Lib.hid (HE4.out.below hb)
  have HB5 := Lib.hid (HB4.out.trans (hb.mono HB4.out.size))
  clear hb
  obtain ⟨c00, c01, c02, f00, f01, f02⟩ := box_cells R5_0.out
  have hlt : w.heap.size < v5.heap.size := (Array.getElem?_eq_some_iff.1 R5_0.out).1
  go_wp2_with fail
  go_ret
  exact ⟨rfl, HB5.out.alloc HB5.out.size _⟩
theorem may_quoted (flow : Bool) (l : List UInt8) : mayR flow (34 :: l) = false := by
  apply may_of_bytes
  show (okB flow (-1) 34 ((bytesOf l).headD (-1)) && allT (okB flow) 34 (bytesOf l)) = false
  rw [show okB flow (-1) 34 ((bytesOf l).headD (-1)) = false from allF_false (in_rules flow _ mem_first) rfl, Bool.false_and]
theorem may_itoa (n : Int) : mayR true (Go.Lib.itoa n) = true := by
  have hf : anyFlow (Go.Lib.itoa n) = false := by
    unfold anyFlow bytesOf
    rw [List.any_eq_false]
    intro x hx
    obtain ⟨b, hb, rfl⟩ := List.mem_map.1 hx
    rw [Bool.not_eq_true]
    refine has_no fun hm => ?_
    simp only [flows, List.mem_cons, List.not_mem_nil, or_false] at hm
    rcases itoa_mem n b hb with rfl | h
    · revert hm; decide
    · unfold isDig at h; omega
  rw [may_flow, hf, Bool.not_false, Bool.and_true]
  unfold Go.Lib.itoa
  split
  · obtain ⟨b, t, e, hb⟩ := head_dig n.natAbs
    rw [e]
    exact may_minus b t (by rw [← e]; exact digits_N _)
  · obtain ⟨b, t, e, hb⟩ := head_dig n.toNat
    exact may_num _ (by rw [e]; simp) (digits_N _)
theorem read_plain_good {X : Sc} (h : rightS X = true) (hk : X.1 ≠ 3) : readR (ofL (textL X)) true = ⟨X.1, X.2.1, X.2.2, 0⟩ := by
  have key : mayR true (textL X) = true → resolveR (ofL (textL X)) = ⟨X.1, X.2.1, X.2.2, 0⟩ → readR (ofL (textL X)) true = ⟨X.1, X.2.1, X.2.2, 0⟩ := fun h1 h2 => by
    unfold readR
    rw [if_neg (by rw [ofL_list, h1]; decide), h2]
  rcases right_cases h with rfl | rfl | rfl | ⟨n, h1, h2, rfl⟩ | ⟨s, _, rfl⟩
  · refine key (by decide +kernel) ?_
    unfold resolveR
    rw [if_neg (fun h => by have := h.2; rw [show mayR false (ofL (textL (0, 0, ⟨#[]⟩))).data.toList = true by decide +kernel] at this; cases this)]
    rfl
  · refine key (by decide +kernel) ?_
    unfold resolveR
    rw [if_neg (fun h => by have := h.2; rw [show mayR false (ofL (textL (1, 0, ⟨#[]⟩))).data.toList = true by decide +kernel] at this; cases this)]
    rfl
  · refine key (by decide +kernel) ?_
    unfold resolveR
    rw [if_neg (fun h => by have := h.2; rw [show mayR false (ofL (textL (1, 1, ⟨#[]⟩))).data.toList = true by decide +kernel] at this; cases this)]
    rfl
  · have e : textL (2, n, ⟨#[]⟩) = Go.Lib.itoa n := by unfold textL; simp
    refine key (by rw [e]; exact may_itoa n) (by rw [e]; exact res_itoa n h1 h2)
  · exact absurd rfl hk
theorem text_size {X : Sc} (h : rightS X = true) (hs : X.2.2.size ≤ 100) : (ofL (textL X)).size ≤ 402 := by
  have := text_len h hs
  show (textL X).toArray.size ≤ 402
  rw [List.size_toArray]
  exact this
theorem walkScalPlain (k0 n0 : Int) (s0 : ByteArray) (w : World) (E : Env w) :
    Calls Tryz.prog 10 #[.agg #[.int .i64 k0, .int .i64 n0, .string s0]] w fun e w' => e = .returned (.bool true) ∧ Below w.heap.size w w' := by
  have zx : (cutS (k0, n0, s0)).2.2.size ≤ 100 := cutT_size s0
  obtain ⟨X, hX⟩ : ∃ X, cutS (k0, n0, s0) = X := ⟨_, rfl⟩
  have hx := fun w => Cut_any (k0, n0, s0) w
  rw [hX] at hx zx
  have g1 := fun w E => Text_any X (by omega) w E
  unfold textT textE at g1
  cases h1 : rightS X
  · rw [h1, if_neg (by decide), if_neg (by decide)] at g1
    exact plain_bad (k0, n0, s0) X ⟨#[]⟩ hx g1 w E
  · rw [h1, if_pos rfl, if_pos rfl] at g1
    have hz := text_size h1 zx
    have g3 := fun w E => Read_any (ofL (textL X)) (by omega) true w E
    by_cases hk : X.1 = 3
    · have hr : readR (ofL (textL X)) true = ⟨0, 0, ⟨#[]⟩, 51⟩ := by
        unfold readR
        rw [if_pos]
        rcases right_cases h1 with rfl | rfl | rfl | ⟨n, _, _, rfl⟩ | ⟨s, hv, rfl⟩
        · cases hk
        · cases hk
        · cases hk
        · cases hk
        · rw [show textL (3, 0, s) = quoteL s.data.toList by unfold textL; simp [hv]]
          exact may_quoted true _
      rw [hr] at g3
      exact plain_str (k0, n0, s0) X _ hx g1 g3 (by simp [hk]) w E
    · rw [read_plain_good h1 hk] at g3
      have q := fun w => equal_sc X.1 X.2.1 X.2.2 X.1 X.2.1 X.2.2 w
      rw [sameB_iff, decide_eq_true (show ((X.1, X.2.1, X.2.2) : Sc) = (X.1, X.2.1, X.2.2) from rfl)] at q
      exact plain_good (k0, n0, s0) X _ hx g1 g3 (by simp [hk]) q w E
end Go.Proofs.YtkliecngkcjieaaGreatDoor
