/- What is told of a text is a scalar; what may stand in a flow may stand elsewhere, and has the same value: for every text. Conditions: the laid variables, as the statement lists them. -/
import Derived.Test.YtimbidbpfdaocaaDoorPRa
namespace Go.Proofs.YtimbidbpfdaocaaDoor
open Go.ChangeShapes Go.WideShapes Go.ChangeAt Go.RowKit Go.Shelf
open Go.ChangeMaps (open_string shut_string)
open Pl Seqo

theorem numB_in {l : List UInt8} {n : Int} (h : numB l = some n) : -999999999999999 ≤ n ∧ n ≤ 999999999999999 ∧ Go.Lib.itoa n = l ∧ Go.Lib.atoiAll l = .ok n := by
  unfold numB at h
  split at h
  · rename_i v hv
    split at h
    · rename_i he
      split at h
      · rename_i hb
        cases h
        exact ⟨hb.1, hb.2, he, hv⟩
      · cases h
    · cases h
  · cases h
theorem wordsW_int (l : List UInt8) : ∀ v, lookW l wordsW = some v → (∀ n, v ≠ .int n) ∧ v ≠ .text := by
  intro v h
  simp only [wordsW, lookW] at h
  repeat' split at h
  all_goals first | (cases h; done) | (cases h; exact ⟨(fun _ h => by cases h), (fun h => by cases h)⟩)
theorem valOf_int {l : List UInt8} {n : Int} (h : valOf l = .int n) : numB l = some n := by
  unfold valOf at h
  split at h
  · rename_i v hv
    exact absurd h ((wordsW_int l v hv).1 n)
  · split at h
    · split at h
      · rename_i m hm; cases h; exact hm
      · cases h
    · cases h
theorem right_null : rightR 0 0 [] = true := by decide
theorem right_bool (b : Bool) : rightR 1 (if b = true then 1 else 0) [] = true := by cases b <;> decide
theorem right_int (n : Int) (h1 : -999999999999999 ≤ n) (h2 : n ≤ 999999999999999) : rightR 2 n [] = true := by
  simp only [rightR, show ((2 : Int) == 0) = false from rfl, show ((2 : Int) == 1) = false from rfl, show ((2 : Int) == 2) = true from rfl, Bool.false_eq_true, if_false, if_true]
  rw [if_pos h1, if_pos h2]
  rfl
theorem right_text (l : List UInt8) (h : Go.Lib.validD l = true) : rightR 3 0 l = true := by
  simp only [rightR, show ((3 : Int) == 0) = false from rfl, show ((3 : Int) == 1) = false from rfl, show ((3 : Int) == 2) = false from rfl, show ((3 : Int) == 3) = true from rfl, Bool.false_eq_true, if_false, if_true]
  exact h
theorem walkPlainRight (s : ByteArray) (w : World) (E : Env w) : Calls Tryd.prog 4 #[.string s] w fun e w' => e = .returned (.bool true) ∧ Below w.heap.size w w' := by
  obtain ⟨S, hS⟩ : ∃ S, cutT s = S := ⟨_, rfl⟩
  have hSs : S.size ≤ 100 := by rw [← hS]; exact cutT_size s
  have hc1 := fun w => cut_any s w
  rw [hS] at hc1
  have hA := fun w E => Resolve_any S (by omega) w E
  have hB := fun w E => Read_any S (by omega) true w E
  have hC := fun w E => Read_any S (by omega) false w E
  have hM1 := fun w E => May_any S (by omega) true w E
  have hM2 := fun w E => May_any S (by omega) false w E
  have hR := fun (k n : Int) (T : ByteArray) (hT : T.size ≤ 1099511627776) (h : rightR k n T.data.toList = true) w E => (Right_any k n T hT w E).mono fun e w' hh => by rw [h] at hh; exact hh
  by_cases h0 : S.data.toList = []
  · have e1 : ∀ flow, mayR flow S.data.toList = false := fun flow => by rw [h0]; rfl
    have e2 : resolveR S = ⟨0, 0, ⟨#[]⟩, 0⟩ := by
      unfold resolveR
      rw [if_neg (fun h => h.1 h0), h0]
      rfl
    have e3 : ∀ flow, readR S flow = ⟨0, 0, ⟨#[]⟩, 51⟩ := fun flow => by unfold readR; rw [if_pos (e1 flow)]
    rw [e2] at hA
    rw [e3] at hB hC
    rw [e1] at hM1 hM2
    exact right1 S s hSs hc1 w E hA hB hC hM1 hM2 (hR 0 0 ⟨#[]⟩ (by decide) right_null) h0
  · cases hm : mayR false S.data.toList
    · have hm1 : mayR true S.data.toList = false := by rw [may_flow, hm, Bool.false_and]
      have e2 : resolveR S = ⟨0, 0, ⟨#[]⟩, 51⟩ := by unfold resolveR; rw [if_pos ⟨h0, hm⟩]
      have e3 : readR S true = ⟨0, 0, ⟨#[]⟩, 51⟩ := by unfold readR; rw [if_pos hm1]
      have e4 : readR S false = ⟨0, 0, ⟨#[]⟩, 51⟩ := by unfold readR; rw [if_pos hm]
      rw [e2] at hA
      rw [e3] at hB
      rw [e4] at hC
      rw [hm1] at hM1
      rw [hm] at hM2
      exact right2 S s hSs hc1 w E hA hB hC hM1 hM2 (hR 0 0 ⟨#[]⟩ (by decide) right_null) h0
    · have e2 : resolveR S = (valOf S.data.toList).res S := by unfold resolveR; rw [if_neg (fun h => by have := h.2; rw [hm] at this; cases this)]
      have e4 : readR S false = (valOf S.data.toList).res S := by unfold readR; rw [if_neg (by rw [hm]; decide), e2]
      rw [e2] at hA
      rw [e4] at hC
      rw [hm] at hM2
      have hv := (may_valid hm).1
      cases hm1 : mayR true S.data.toList
      · have e3 : readR S true = ⟨0, 0, ⟨#[]⟩, 51⟩ := by unfold readR; rw [if_pos hm1]
        rw [e3] at hB
        rw [hm1] at hM1
        cases hval : valOf S.data.toList with
        | null => rw [hval] at hA hC; exact right4f S s 0 0 hSs hc1 w E hA hB hC hM1 hM2 (hR 0 0 ⟨#[]⟩ (by decide) right_null) h0 (by decide)
        | bool b => rw [hval] at hA hC; exact right4f S s 1 (if b = true then 1 else 0) hSs hc1 w E hA hB hC hM1 hM2 (hR 1 _ ⟨#[]⟩ (by decide) (right_bool b)) h0 (by decide)
        | none => rw [hval] at hA hC; exact right3f S s hSs hc1 w E hA hB hC hM1 hM2 (hR 0 0 ⟨#[]⟩ (by decide) right_null) h0
        | int n =>
          rw [hval] at hA hC
          obtain ⟨b1, b2, _, _⟩ := numB_in (valOf_int hval)
          exact right4f S s 2 n hSs hc1 w E hA hB hC hM1 hM2 (hR 2 n ⟨#[]⟩ (by decide) (right_int n b1 b2)) h0 (by decide)
        | text => rw [hval] at hA hC; exact right5f S s hSs hc1 w E hA hB hC hM1 hM2 (hR 3 0 S (by omega) (right_text _ hv)) h0
      · have e3 : readR S true = (valOf S.data.toList).res S := by unfold readR; rw [if_neg (by rw [hm1]; decide), e2]
        rw [e3] at hB
        rw [hm1] at hM1
        cases hval : valOf S.data.toList with
        | null => rw [hval] at hA hB hC; exact right4t S s 0 0 hSs hc1 w E hA hB hC hM1 hM2 (hR 0 0 ⟨#[]⟩ (by decide) right_null) h0 (by decide)
        | bool b => rw [hval] at hA hB hC; exact right4t S s 1 (if b = true then 1 else 0) hSs hc1 w E hA hB hC hM1 hM2 (hR 1 _ ⟨#[]⟩ (by decide) (right_bool b)) h0 (by decide)
        | none => rw [hval] at hA hB hC; exact right3t S s hSs hc1 w E hA hB hC hM1 hM2 (hR 0 0 ⟨#[]⟩ (by decide) right_null) h0
        | int n =>
          rw [hval] at hA hB hC
          obtain ⟨b1, b2, _, _⟩ := numB_in (valOf_int hval)
          exact right4t S s 2 n hSs hc1 w E hA hB hC hM1 hM2 (hR 2 n ⟨#[]⟩ (by decide) (right_int n b1 b2)) h0 (by decide)
        | text => rw [hval] at hA hB hC; exact right5t S s hSs hc1 w E hA hB hC hM1 hM2 (hR 3 0 S (by omega) (right_text _ hv)) h0

set_option maxRecDepth 100000 in
theorem contractPlainRight (H : Type) (enc : TypeId × Value → H) (W : World) (base : Nat) (args : Array Value) (ds gs : List (DataW H)) (before : List MemPlace)
    (hval : ∀ (j : Nat) t v, Tryd.f4.params[j]? = some t → args[j]? = some v → Value.okWide Tryd.prog W .any base t v)
    (hW : DataW.Whole enc Tryd.prog Tryd.f4.params.toList Rows.plainRightSpec.vars false W args.toList ds gs before) (hL : laidMetH Tryd.prog laid7 W) :
    Calls Tryd.prog 4 args W fun e W' => ∃ v, e = .returned v ∧ Rows.plainRightSpec.post enc Tryd.prog Tryd.f4 false true false false W args v W' := by
  have hW' := hW
  obtain ⟨p, q, hA0, hV, rfl, hfz, hnd⟩ := hW
  have hA : DataW.TrodAll enc Tryd.prog W 0 (fun _ => true) true Tryd.f4.params.toList args.toList ds p := hA0
  rw [Tryd.params4] at hA hval
  obtain ⟨v0, vs0, d0, ds0, p0, q0, hargs, rfl, rfl, h0, r0⟩ := trodAll_cons hA
  obtain ⟨rfl, rfl, rfl⟩ := trodAll_nil r0
  obtain rfl : args = #[v0] := by cases args; simp_all
  obtain ⟨rfl, rfl⟩ := trodVars_none hV
  obtain ⟨s, rfl, rfl, rfl, w0⟩ := open_string Tryd.underlying9 (hval 0 9 v0 rfl rfl) h0
  clear hA0
  simp only [List.append_nil] at hW'
  refine (walkPlainRight s W (env_of hL)).mono fun e W' ⟨he, hg⟩ => ?_
  subst he
  refine ⟨_, rfl, _, _, _, [], [], [], hW', ?_, ?_, rfl, hg.frame _, fun h => by cases h⟩
  · exact trodAll_cons_mk (shut_bool Tryd.underlying4 _) trodAll_mk0
  · exact (trodAll_cons_mk (shut_string Tryd.underlying9 w0) trodAll_mk0)

set_option maxRecDepth 100000 in
theorem liftedPlainRight (os : Os) (started : os.Started) (H : Type) (enc : TypeId × Value → H) :
    ReturnsInHanded {} Tryd.checked os 4 .any (fun w args => (Rows.plainRightSpec.pre enc Tryd.prog Tryd.f4 [] false w args ∧ laidMetH Tryd.prog laid7 w) ∧ sizedMet enc Tryd.prog Tryd.f4 (OpenSpec.ofChange Rows.plainRightSpec) false w args)
      (Rows.plainRightSpec.post enc Tryd.prog Tryd.f4 false true false false) := by
  refine returnsInHanded_of_change_and (C := Tryd.checked) (X := fun w _ => laidMetH Tryd.prog laid7 w) (fun _ _ _ hh h => h.of_heap hh) own started (by kernel_rfl) Tryd.func4
    (ChangeSpec.witness_shaped (enc := enc) (C := Tryd.checked) (os := os) (X := fun w _ => laidMetH Tryd.prog laid7 w) false (World.laidAll Tryd.prog os laid7) #[.string .empty] 8 (World.laidAll_os _ _ _) (door_shaped os) (by kernel_rfl) (by kernel_rfl) (by kernel_rfl) (door_met os _)) ?_
  intro W base args ds gs before hval hW _ _ hL _
  exact contractPlainRight H enc W base args ds gs before hval hW hL
theorem plainRight_said : Rows.PlainRightSaid :=
  OpenClaim.holds_of_wide 4 Tryd.f4 rfl rfl rfl rfl rfl rfl rfl ⟨rfl, rfl, rfl, rfl, rfl⟩ rfl rfl rfl rfl rfl (by kernel_rfl) Tryd.func4 (by kernel_rfl)
    (of_decide_eq_true (by kernel_rfl)) (by unfold Func.isWrapper; first | (rw [if_pos (by decide +kernel)]; kernel_rfl) | (rw [if_neg (by decide +kernel)]; exact ⟨rfl, rfl⟩))
    (fun os started H enc _ => liftedPlainRight os started H enc)
/-- THE TIED CARD. -/
theorem plainRight_card : Rows.PlainRightCardSaid :=
  Claim7.holds_tied_plain_at .later [] _ _ _ _ plainRight_said (fun _ h => by cases h) (by kernel_rfl) (fun _ h => by cases h) plainRight_row_tie rfl ⟨rfl, rfl⟩ (by kernel_rfl) rfl
    (fun f fn hf hfn => by
      obtain rfl : f = 4 := Option.some.inj ((show Tryd.prog.funcNamed "sigillary/sigillarylaw05.PlainRight" = some 4 by kernel_rfl).symm.trans hf) |>.symm
      obtain rfl : fn = Tryd.f4 := (Option.some.inj (Tryd.func4.symm.trans hfn)).symm
      exact ⟨by kernel_rfl, fun j t ht => by
        rw [Tryd.params4] at ht
        have hm : t ∈ [9] := by simpa using Array.mem_of_getElem? ht
        have hall : ([9].all fun u => !Tryd.prog.wantsStandIn u) = true := by kernel_rfl
        exact (show Tryd.prog.wantsStandIn t = false by simpa using List.all_eq_true.1 hall t hm)⟩)
    (by kernel_rfl)
end Go.Proofs.YtimbidbpfdaocaaDoor
