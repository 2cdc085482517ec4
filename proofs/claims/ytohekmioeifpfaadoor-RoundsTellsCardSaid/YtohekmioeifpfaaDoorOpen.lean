/- A state that is handed in opens to eight numbers, and eight numbers shut to a state. Conditions: those of the view. -/
import Derived.Test.YtohekmioeifpfaaDoorRows
import Derived.WalkKit
import Derived.ProofKit
import Derived.OpenShut
namespace Go.Proofs.YtohekmioeifpfaaDoor
open Go.ChangeShapes Go.WideShapes Go.ChangeAt Go.RowKit
theorem size23 : Tryd.prog.cellsOf 23 = 8 := by kernel_rfl
theorem size3 : Tryd.prog.cellsOf 3 = 1 := by kernel_rfl
theorem list8 {α : Type} {cs : Array α} (h : cs.size = 8) : ∃ c0 c1 c2 c3 c4 c5 c6 c7, cs = #[c0, c1, c2, c3, c4, c5, c6, c7] := by
  obtain ⟨l⟩ := cs
  match l, h with
  | [c0, c1, c2, c3, c4, c5, c6, c7], _ => exact ⟨c0, c1, c2, c3, c4, c5, c6, c7, rfl⟩
theorem list8' {α : Type} {cs : List α} (h : cs.length = 8) : ∃ c0 c1 c2 c3 c4 c5 c6 c7, cs = [c0, c1, c2, c3, c4, c5, c6, c7] := by
  match cs, h with
  | [c0, c1, c2, c3, c4, c5, c6, c7], _ => exact ⟨c0, c1, c2, c3, c4, c5, c6, c7, rfl⟩
set_option maxRecDepth 100000 in
/-- a state that came in, opened -/
theorem open_state {H : Type} {enc : TypeId × Value → H} {W : World} {r : Reach} {b0 base : Nat} {spare : Nat → Bool} {held : Bool} {v : Value} {d : DataW H} {p : List MemPlace}
    (hv : Value.okWide Tryd.prog W r b0 23 v) (h : DataW.Trod enc Tryd.prog W base spare held 23 v d p) :
    ∃ x0 x1 x2 x3 x4 x5 x6 x7 : Int, v = .agg #[.int .i64 x0, .int .i64 x1, .int .i64 x2, .int .i64 x3, .int .i64 x4, .int .i64 x5, .int .i64 x6, .int .i64 x7] ∧ d = .agg [.lit (.int .i64 x0), .lit (.int .i64 x1), .lit (.int .i64 x2), .lit (.int .i64 x3), .lit (.int .i64 x4), .lit (.int .i64 x5), .lit (.int .i64 x6), .lit (.int .i64 x7)] ∧ p = [] ∧ (Lit.int .i64 x0).wf = true ∧ (Lit.int .i64 x1).wf = true ∧ (Lit.int .i64 x2).wf = true ∧ (Lit.int .i64 x3).wf = true ∧ (Lit.int .i64 x4).wf = true ∧ (Lit.int .i64 x5).wf = true ∧ (Lit.int .i64 x6).wf = true ∧ (Lit.int .i64 x7).wf = true := by
  have hs : ∃ cs, v = .agg cs ∧ cs.size = 8 := by
    simp only [Value.okWide, Tryd.underlying23] at hv
    obtain ⟨cs, h1, h2, _⟩ := hv
    exact ⟨cs, h1, h2.trans size23⟩
  obtain ⟨cs, rfl, hs⟩ := hs
  obtain ⟨c0, c1, c2, c3, c4, c5, c6, c7, rfl⟩ := list8 hs
  obtain ⟨fuel, hf⟩ := h
  obtain ⟨xs, m, rfl, hx, _, hl, hi⟩ := DataW.trod_array Tryd.underlying23 hf
  obtain ⟨y0, y1, y2, y3, y4, y5, y6, y7, rfl⟩ := list8' hl
  rw [size3] at hi
  obtain ⟨x0, e0, r0, w0⟩ := DataW.trod_int Tryd.underlying3 (show DataW.trod enc Tryd.prog W base spare held m 3 [c0] = some y0 from hi 0 (by decide))
  simp only [List.cons.injEq, and_true] at e0
  subst e0 r0
  obtain ⟨x1, e1, r1, w1⟩ := DataW.trod_int Tryd.underlying3 (show DataW.trod enc Tryd.prog W base spare held m 3 [c1] = some y1 from hi 1 (by decide))
  simp only [List.cons.injEq, and_true] at e1
  subst e1 r1
  obtain ⟨x2, e2, r2, w2⟩ := DataW.trod_int Tryd.underlying3 (show DataW.trod enc Tryd.prog W base spare held m 3 [c2] = some y2 from hi 2 (by decide))
  simp only [List.cons.injEq, and_true] at e2
  subst e2 r2
  obtain ⟨x3, e3, r3, w3⟩ := DataW.trod_int Tryd.underlying3 (show DataW.trod enc Tryd.prog W base spare held m 3 [c3] = some y3 from hi 3 (by decide))
  simp only [List.cons.injEq, and_true] at e3
  subst e3 r3
  obtain ⟨x4, e4, r4, w4⟩ := DataW.trod_int Tryd.underlying3 (show DataW.trod enc Tryd.prog W base spare held m 3 [c4] = some y4 from hi 4 (by decide))
  simp only [List.cons.injEq, and_true] at e4
  subst e4 r4
  obtain ⟨x5, e5, r5, w5⟩ := DataW.trod_int Tryd.underlying3 (show DataW.trod enc Tryd.prog W base spare held m 3 [c5] = some y5 from hi 5 (by decide))
  simp only [List.cons.injEq, and_true] at e5
  subst e5 r5
  obtain ⟨x6, e6, r6, w6⟩ := DataW.trod_int Tryd.underlying3 (show DataW.trod enc Tryd.prog W base spare held m 3 [c6] = some y6 from hi 6 (by decide))
  simp only [List.cons.injEq, and_true] at e6
  subst e6 r6
  obtain ⟨x7, e7, r7, w7⟩ := DataW.trod_int Tryd.underlying3 (show DataW.trod enc Tryd.prog W base spare held m 3 [c7] = some y7 from hi 7 (by decide))
  simp only [List.cons.injEq, and_true] at e7
  subst e7 r7
  simp only [List.map_cons, List.map_nil, List.flatMap_cons, List.flatMap_nil, List.append_nil, Prod.mk.injEq] at hx
  exact ⟨x0, x1, x2, x3, x4, x5, x6, x7, rfl, hx.1, hx.2, w0, w1, w2, w3, w4, w5, w6, w7⟩
theorem shut_state {H : Type} {enc : TypeId × Value → H} {W : World} {base : Nat} {spare : Nat → Bool} {held : Bool} {x0 x1 x2 x3 x4 x5 x6 x7 : Int} (hw : (Lit.int .i64 x0).wf = true ∧ (Lit.int .i64 x1).wf = true ∧ (Lit.int .i64 x2).wf = true ∧ (Lit.int .i64 x3).wf = true ∧ (Lit.int .i64 x4).wf = true ∧ (Lit.int .i64 x5).wf = true ∧ (Lit.int .i64 x6).wf = true ∧ (Lit.int .i64 x7).wf = true) :
    DataW.Trod enc Tryd.prog W base spare held 23 (.agg #[.int .i64 x0, .int .i64 x1, .int .i64 x2, .int .i64 x3, .int .i64 x4, .int .i64 x5, .int .i64 x6, .int .i64 x7]) (.agg [.lit (.int .i64 x0), .lit (.int .i64 x1), .lit (.int .i64 x2), .lit (.int .i64 x3), .lit (.int .i64 x4), .lit (.int .i64 x5), .lit (.int .i64 x6), .lit (.int .i64 x7)]) [] := by
  obtain ⟨w0, w1, w2, w3, w4, w5, w6, w7⟩ := hw
  have r8 : List.range 8 = [0, 1, 2, 3, 4, 5, 6, 7] := rfl
  exact ⟨2, by simp [DataW.trod, Value.cells, Tryd.underlying23, Tryd.underlying3, size23, size3, r8, w0, w1, w2, w3, w4, w5, w6, w7]⟩
end Go.Proofs.YtohekmioeifpfaaDoor
