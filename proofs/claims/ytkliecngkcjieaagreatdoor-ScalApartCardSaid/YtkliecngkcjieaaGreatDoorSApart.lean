/- No two scalars have the same text: for every two scalars. Conditions: the laid variables, as the statement lists them. -/
import Derived.Test.YtkliecngkcjieaaGreatDoorDoor
import Derived.Test.YtkliecngkcjieaaGreatDoorSAp
import Derived.Test.YtkliecngkcjieaaGreatDoorOsc
set_option maxRecDepth 100000
namespace Go.Proofs.YtkliecngkcjieaaGreatDoor
open Go.ChangeShapes Go.WideShapes Go.ChangeAt Go.RowKit Go.Shelf
open Go.ChangeMaps (open_string shut_string)
open Pl Quo Scs
theorem walkScalApart (k0 n0 : Int) (s0 : ByteArray) (k1 n1 : Int) (s1 : ByteArray) (w : World) (E : Env w) :
    Calls Tryz.prog 8 #[.agg #[.int .i64 k0, .int .i64 n0, .string s0], .agg #[.int .i64 k1, .int .i64 n1, .string s1]] w fun e w' => e = .returned (.bool true) ∧ Below w.heap.size w w' := by
  have zx : (cutS (k0, n0, s0)).2.2.size ≤ 100 := cutT_size s0
  have zy : (cutS (k1, n1, s1)).2.2.size ≤ 100 := cutT_size s1
  obtain ⟨X, hX⟩ : ∃ X, cutS (k0, n0, s0) = X := ⟨_, rfl⟩
  obtain ⟨Y, hY⟩ : ∃ X, cutS (k1, n1, s1) = X := ⟨_, rfl⟩
  have hx := fun w => Cut_any (k0, n0, s0) w
  have hy := fun w => Cut_any (k1, n1, s1) w
  rw [hX] at hx zx
  rw [hY] at hy zy
  have g1 := fun w E => Text_any X (by omega) w E
  have g2 := fun w E => Text_any Y (by omega) w E
  have q := fun w => equal_sc X.1 X.2.1 X.2.2 Y.1 Y.2.1 Y.2.2 w
  rw [sameB_iff] at q
  unfold textT textE at g1 g2
  cases h1 : rightS X <;> cases h2 : rightS Y
  · rw [h1, if_neg (by decide), if_neg (by decide)] at g1
    rw [h2, if_neg (by decide), if_neg (by decide)] at g2
    exact apart_bb (k0, n0, s0) (k1, n1, s1) X Y ⟨#[]⟩ ⟨#[]⟩ hx hy g1 g2 w E
  · rw [h1, if_neg (by decide), if_neg (by decide)] at g1
    rw [h2, if_pos rfl, if_pos rfl] at g2
    exact apart_bg (k0, n0, s0) (k1, n1, s1) X Y ⟨#[]⟩ _ hx hy g1 g2 w E
  · rw [h1, if_pos rfl, if_pos rfl] at g1
    rw [h2, if_neg (by decide), if_neg (by decide)] at g2
    exact apart_gb (k0, n0, s0) (k1, n1, s1) X Y _ ⟨#[]⟩ hx hy g1 g2 w E
  · rw [h1, if_pos rfl, if_pos rfl] at g1
    rw [h2, if_pos rfl, if_pos rfl] at g2
    have hT : ((ofL (textL X)).toList == (ofL (textL Y)).toList) = decide (((X.1, X.2.1, X.2.2) : Sc) = (Y.1, Y.2.1, Y.2.2)) := by
      rw [ByteArray.toList_eq, ByteArray.toList_eq, ofL_list, ofL_list]
      by_cases h : X = Y
      · subst h
        rw [decide_eq_true (show ((X.1, X.2.1, X.2.2) : Sc) = (X.1, X.2.1, X.2.2) from rfl)]
        simp
      · rw [decide_eq_false (fun e : ((X.1, X.2.1, X.2.2) : Sc) = (Y.1, Y.2.1, Y.2.2) => h e)]
        exact beq_eq_false_iff_ne.2 fun e => h (text_inj h1 h2 e)
    cases hB : decide (((X.1, X.2.1, X.2.2) : Sc) = (Y.1, Y.2.1, Y.2.2))
    · rw [hB] at q hT
      exact apart_ne (k0, n0, s0) (k1, n1, s1) X Y _ _ hx hy g1 g2 hT q w E
    · rw [hB] at q hT
      exact apart_eq (k0, n0, s0) (k1, n1, s1) X Y _ _ hx hy g1 g2 hT q w E

theorem contractScalApart (H : Type) (enc : TypeId × Value → H) (W : World) (base : Nat) (args : Array Value) (ds gs : List (DataW H)) (before : List MemPlace)
    (hval : ∀ (j : Nat) t v, Tryz.f8.params[j]? = some t → args[j]? = some v → Value.okWide Tryz.prog W .any base t v)
    (hW : DataW.Whole enc Tryz.prog Tryz.f8.params.toList Rows.scalApartSpec.vars false W args.toList ds gs before) (hL : laidMetH Tryz.prog laid7 W) :
    Calls Tryz.prog 8 args W fun e W' => ∃ v, e = .returned v ∧ Rows.scalApartSpec.post enc Tryz.prog Tryz.f8 false true false false W args v W' := by
  have hW' := hW
  obtain ⟨p, q, hA0, hV, rfl, hfz, hnd⟩ := hW
  have hA : DataW.TrodAll enc Tryz.prog W 0 (fun _ => true) true Tryz.f8.params.toList args.toList ds p := hA0
  rw [Tryz.params8] at hA hval
  obtain ⟨v0, vs0, d0, ds0, p0, q0, hargs, rfl, rfl, h0, r0⟩ := trodAll_cons hA
  obtain ⟨v1, vs1, d1, ds1, p1, q1, rfl, rfl, rfl, h1, r1⟩ := trodAll_cons r0
  obtain ⟨rfl, rfl, rfl⟩ := trodAll_nil r1
  obtain rfl : args = #[v0, v1] := by cases args; simp_all
  obtain ⟨rfl, rfl⟩ := trodVars_none hV
  obtain ⟨k0, n0, s0, rfl, rfl, rfl, w0⟩ := open_scalar (hval 0 23 v0 rfl rfl) h0
  obtain ⟨k1, n1, s1, rfl, rfl, rfl, w1⟩ := open_scalar (hval 1 23 v1 rfl rfl) h1
  clear hA0
  simp only [List.append_nil] at hW'
  refine (walkScalApart k0 n0 s0 k1 n1 s1 W (env_of hL)).mono fun e W' ⟨he, hg⟩ => ?_
  subst he
  refine ⟨_, rfl, _, _, _, [], [], [], hW', ?_, ?_, rfl, hg.frame _, fun h => by cases h⟩
  · exact trodAll_cons_mk (shut_bool Tryz.underlying4 _) trodAll_mk0
  · exact (trodAll_cons_mk (shut_scalar w0) (trodAll_cons_mk (shut_scalar w1) trodAll_mk0))

theorem liftedScalApart (os : Os) (started : os.Started) (H : Type) (enc : TypeId × Value → H) :
    ReturnsInHanded {} Tryz.checked os 8 .any (fun w args => (Rows.scalApartSpec.pre enc Tryz.prog Tryz.f8 [] false w args ∧ laidMetH Tryz.prog laid7 w) ∧ sizedMet enc Tryz.prog Tryz.f8 (OpenSpec.ofChange Rows.scalApartSpec) false w args)
      (Rows.scalApartSpec.post enc Tryz.prog Tryz.f8 false true false false) := by
  refine returnsInHanded_of_change_and (C := Tryz.checked) (X := fun w _ => laidMetH Tryz.prog laid7 w) (fun _ _ _ hh h => h.of_heap hh) own started (by kernel_rfl) Tryz.func8
    (ChangeSpec.witness_shaped (enc := enc) (C := Tryz.checked) (os := os) (X := fun w _ => laidMetH Tryz.prog laid7 w) false (World.laidAll Tryz.prog os laid7) #[.agg #[.int .i64 0, .int .i64 0, .string .empty], .agg #[.int .i64 0, .int .i64 0, .string .empty]] 8 (World.laidAll_os _ _ _) (door_shaped os) (by kernel_rfl) (by kernel_rfl) (by kernel_rfl) (door_met os _)) ?_
  intro W base args ds gs before hval hW _ _ hL _
  exact contractScalApart H enc W base args ds gs before hval hW hL
theorem scalApart_said : Rows.ScalApartSaid :=
  OpenClaim.holds_of_wide 8 Tryz.f8 rfl rfl rfl rfl rfl rfl rfl ⟨rfl, rfl, rfl, rfl, rfl⟩ rfl rfl rfl rfl rfl (by kernel_rfl) Tryz.func8 (by kernel_rfl)
    (of_decide_eq_true (by kernel_rfl)) (by unfold Func.isWrapper; first | (rw [if_pos (by decide +kernel)]; kernel_rfl) | (rw [if_neg (by decide +kernel)]; exact ⟨rfl, rfl⟩))
    (fun os started H enc _ => liftedScalApart os started H enc)
/-- THE TIED CARD. -/
theorem scalApart_card : Rows.ScalApartCardSaid :=
  Claim7.holds_tied_plain_at .later [] _ _ _ _ scalApart_said (fun _ h => by cases h) (by kernel_rfl) (fun _ h => by cases h) scalApart_row_tie rfl ⟨rfl, rfl⟩ (by kernel_rfl) rfl
    (fun f fn hf hfn => by
      obtain rfl : f = 8 := Option.some.inj ((show Tryz.prog.funcNamed "sigillary/sigillarylaw06.ScalApart" = some 8 by kernel_rfl).symm.trans hf) |>.symm
      obtain rfl : fn = Tryz.f8 := (Option.some.inj (Tryz.func8.symm.trans hfn)).symm
      exact ⟨by kernel_rfl, fun j t ht => by
        rw [Tryz.params8] at ht
        have hm : t ∈ [23, 23] := by simpa using Array.mem_of_getElem? ht
        have hall : ([23, 23].all fun u => !Tryz.prog.wantsStandIn u) = true := by kernel_rfl
        exact (show Tryz.prog.wantsStandIn t = false by simpa using List.all_eq_true.1 hall t hm)⟩)
    (by kernel_rfl)
end Go.Proofs.YtkliecngkcjieaaGreatDoor
