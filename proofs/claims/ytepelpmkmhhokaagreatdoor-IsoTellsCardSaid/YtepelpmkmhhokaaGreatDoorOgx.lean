/- What the statements' laid variables say gives the surroundings that the packages' functions need, and they can be met. Conditions: the world is laid as the statement says. A graph that comes in is some nodes, each with its keys and kids. Conditions: none. A row of numbers that comes in is some numbers. Conditions: none. -/
import Derived.Test.YtepelpmkmhhokaaGreatDoorCards
import Derived.Test.YtepelpmkmhhokaaGreatDoorTie
import Derived.Test.YtepelpmkmhhokaaGreatDoorRgx
import Derived.ProofKit
import Derived.LaidMore
import Derived.LaidHandle
import Derived.OpenShut
import Derived.Stop.Joined
import Derived.Lib.LaidTab
import Derived.Lib.LaidU8
import Derived.MakeChecks
import Derived.PinnedBridge
import Derived.Lay
import Derived.LaidOnce
import Derived.SevenTiedAt
import Derived.LaidSub
import Derived.Stop.LaidErr
import Derived.Stop.LaidTwo
import Derived.Test.YtepelpmkmhhokaaGreatDoorAcx
import Derived.Lib.SmallJoins
import Derived.Deep.Slices
set_option maxRecDepth 100000
namespace Go.Proofs.YtepelpmkmhhokaaGreatDoor
open Go.ChangeShapes Go.WideShapes Go.ChangeAt Go.RowKit Go.Shelf
theorem own : ownKnob Tryz.prog.godebug = none := by kernel_rfl
theorem gAll : Tryz.prog.globalNamed "sigillary/iso.errAll" = some 0 := by kernel_rfl
theorem gUnfit : Tryz.prog.globalNamed "sigillary/iso.errUnfit" = some 1 := by kernel_rfl
theorem gOther : Tryz.prog.globalNamed "sigillary/iso.errOther" = some 2 := by kernel_rfl
theorem gErr : Tryz.prog.globalNamed "errors.errorType" = some 3 := by kernel_rfl
theorem gFirst : Tryz.prog.globalNamed "unicode/utf8.first" = some 4 := by kernel_rfl
theorem gAcc : Tryz.prog.globalNamed "unicode/utf8.acceptRanges" = some 5 := by kernel_rfl
theorem tAll : (Tryz.prog.globals[0]?).map (·.type) = some 63 := by kernel_rfl
theorem tUnfit : (Tryz.prog.globals[1]?).map (·.type) = some 63 := by kernel_rfl
theorem tOther : (Tryz.prog.globals[2]?).map (·.type) = some 63 := by kernel_rfl
theorem cells262 : Tryz.prog.cellsOf 262 = 1 := by kernel_rfl
theorem cells9 : Tryz.prog.cellsOf 9 = 1 := by kernel_rfl
theorem star : "*errors.errorString" = "*" ++ "errors.errorString" := by decide
theorem row242 (u : TypeId) (h : Tryz.prog.typeName? 3 u = some "*errors.errorString") : u = 242 :=
  typeName_ptr_named (nm := "errors.errorString") (by rw [← star]; kernel_rfl) (by kernel_rfl) (by decide) u (by rw [← star]; exact h)
theorem rtRow : (Tryz.prog.cutTypes.find? (·.1 == "internal/reflectlite.rtype")).map (·.2) = some 131 := by kernel_rfl
theorem oneRow : ((List.range 274).filter fun t => Tryz.prog.rowNamed t [101, 114, 114, 111, 114]) = [63] := by kernel_rfl
theorem typesSize : Tryz.prog.types.size = 274 := by kernel_rfl
theorem eqAccept : Rows.laid_unicode_utf8_acceptRanges (H := Unit) = Go.Lib.acceptData := by kernel_rfl
abbrev laid7 : List (String × DataW Unit) := Rows.isoTellsRow.laid
theorem first_of {w : World} (h : Go.Lib.VarReads Tryz.prog w "unicode/utf8.first" Go.Lib.firstData) (c : Nat) (hc : c < 256) : w.cell? ⟨4, c, none⟩ = some (.int .u8 (Go.Lib.firstT c)) := by
  obtain ⟨b, ty, cells, fl, pl, hb, ht, hv, hread⟩ := h
  cases Option.some.inj (gFirst.symm.trans hb)
  cases Option.some.inj ((show (Tryz.prog.globals[4]?).map (·.type) = some 238 by kernel_rfl).symm.trans ht)
  have hlist := Go.Lib.cells_of_tab Tryz.underlying238 Tryz.underlying5 (by kernel_rfl) (by kernel_rfl) hread
  have hcell := World.var?_cell gFirst hv c
  rw [hcell, ← Array.getElem?_toList, hlist]
  simp [Go.Lib.firstTab, hc]
theorem pair_of {w : World} (h : Go.Lib.VarReads Tryz.prog w "unicode/utf8.acceptRanges" Go.Lib.acceptData) (j : Nat) (hj : j < 16) :
    w.cell? ⟨5, 2 * j, none⟩ = some (.int .u8 (Go.Lib.accLo j)) ∧ w.cell? ⟨5, 2 * j + 1, none⟩ = some (.int .u8 (Go.Lib.accHi j)) := by
  obtain ⟨b, ty, cells, fl, pl, hb, ht, hv, hread⟩ := h
  cases Option.some.inj (gAcc.symm.trans hb)
  cases Option.some.inj ((show (Tryz.prog.globals[5]?).map (·.type) = some 241 by kernel_rfl).symm.trans ht)
  obtain ⟨fl2, dd, ql, hd, hel⟩ := Go.Lib.array_elem Tryz.underlying241 hread j hj
  have hc1 : Tryz.prog.cellsOf 5 = 1 := by kernel_rfl
  have hc2 : Tryz.prog.cellsOf 240 = 2 := by kernel_rfl
  rw [hc2] at hel
  rw [List.getElem?_map, List.getElem?_range hj] at hd
  cases hd
  have hfl := Go.Lib.ints_of_struct Tryz.underlying240 (by
    intro k f hk
    rcases k with _ | _ | k
    · cases hk; exact ⟨Tryz.underlying5, rfl, hc1⟩
    · cases hk; exact ⟨Tryz.underlying5, rfl, hc1⟩
    · cases hk) hc2 hel
  have lo : cells.toList[j * 2]? = some (.int .u8 (Go.Lib.accLo j)) := by
    have h0 := congrArg (fun l => l[0]?) hfl
    simpa [List.getElem?_take, List.getElem?_drop] using h0
  have hi : cells.toList[j * 2 + 1]? = some (.int .u8 (Go.Lib.accHi j)) := by
    have h1 := congrArg (fun l => l[1]?) hfl
    simpa [List.getElem?_take, List.getElem?_drop] using h1
  rw [Nat.mul_comm 2 j]
  exact ⟨by rw [World.var?_cell gAcc hv (j * 2), ← Array.getElem?_toList]; exact lo, by rw [World.var?_cell gAcc hv (j * 2 + 1), ← Array.getElem?_toList]; exact hi⟩
abbrev ends7 : List (String × DataW Unit) := [("sigillary/iso.errAll", Rows.laid_sigillary_iso_errAll), ("sigillary/iso.errUnfit", Rows.laid_sigillary_iso_errUnfit), ("sigillary/iso.errOther", Rows.laid_sigillary_iso_errOther), ("unicode/utf8.first", Rows.laid_unicode_utf8_first)]
theorem ends_cut : (ends7.filter fun x => x.1 != "sigillary/iso.errUnfit") = [("sigillary/iso.errAll", Rows.laid_sigillary_iso_errAll), ("sigillary/iso.errOther", Rows.laid_sigillary_iso_errOther), ("unicode/utf8.first", Rows.laid_unicode_utf8_first)] := by kernel_rfl
theorem ends_of {W : World} (h : laidMet Tryz.prog ends7 W) : Ends W := by
  obtain ⟨a0, a1, s0, s1, c0, c1, t0, t1, v0, v1, _, _, _, _, _, _, ne, b0, b1⟩ := laid_sentinels2 h gAll tAll gUnfit tUnfit Tryz.underlying63 row242 Tryz.underlying242 Tryz.underlying262 rfl rfl Tryz.underlying9 cells262 cells9
  have h2 := h.filter fun x => x.1 != "sigillary/iso.errUnfit"
  rw [ends_cut] at h2
  obtain ⟨a0', a2, s0', s2, c0', c2, t0', t2, v0', v2, _, _, _, _, _, _, ne2, _, b2⟩ := laid_sentinels2 h2 gAll tAll gOther tOther Tryz.underlying63 row242 Tryz.underlying242 Tryz.underlying262 rfl rfl Tryz.underlying9 cells262 cells9
  have e := Option.some.inj (v0.symm.trans v0')
  simp only [Array.mk.injEq, List.cons.injEq, Value.iface.injEq, Value.pointer.injEq, Option.some.injEq, and_true, true_and] at e
  subst e
  exact ⟨a0, a1, a2, ⟨by simpa using World.var?_cell gAll v0 0, _, _, b0⟩, ⟨by simpa using World.var?_cell gUnfit v1 0, _, _, b1⟩, ⟨by simpa using World.var?_cell gOther v2 0, _, _, b2⟩, fun e => ne e.symm, fun e => ne2 e.symm⟩
theorem env_of {W : World} (h : laidMetH Tryz.prog laid7 W) : Env W := by
  have h' : laidMet Tryz.prog (("unicode/utf8.acceptRanges", Rows.laid_unicode_utf8_acceptRanges) :: ends7) W ∧ handlesMet Tryz.prog [("errors.errorType", Rows.laid_errors_errorType)] W := h
  obtain ⟨hd, hh⟩ := h'
  have h2 := Go.Lib.laidMet.reads hd (n := "unicode/utf8.acceptRanges") (d := Rows.laid_unicode_utf8_acceptRanges) (by simp)
  have h1 := Go.Lib.laidMet.reads hd (n := "unicode/utf8.first") (d := Rows.laid_unicode_utf8_first) (by simp)
  have h3 := ends_of hd.tail
  rw [eqAccept] at h2
  rw [show Rows.laid_unicode_utf8_first = Go.Lib.firstData from Pinned.utf8First_eq] at h1
  refine ⟨⟨first_of h1, pair_of h2⟩, ?_, h3⟩
  obtain ⟨name, u, ty, e1, e2, e3, e4, e5⟩ := hh _ (List.mem_singleton.2 rfl)
  cases (Option.some.inj e1 : _ = name)
  cases Option.some.inj (rtRow.symm.trans e2)
  have hm : ty ∈ (List.range 274).filter fun t => Tryz.prog.rowNamed t [101, 114, 114, 111, 114] := List.mem_filter.2 ⟨List.mem_range.2 (by rw [← typesSize]; exact e3), e4⟩
  rw [oneRow] at hm
  obtain rfl := List.mem_singleton.1 hm
  have hq : typeHandle Tryz.prog 63 = .pointer (some ⟨6, 63, none⟩) := by kernel_rfl
  rw [hq] at e5
  simpa using World.var?_cell gErr e5 0
abbrev data7 : List (String × DataW Unit) := ("unicode/utf8.acceptRanges", Rows.laid_unicode_utf8_acceptRanges) :: ends7
/-- the witness: the door's own heap, with the two tables laid -/
noncomputable def wit (os : Os) : World := (World.doorLaid Tryz.prog 400 os).layVars Tryz.prog data7
theorem wit_os (os : Os) : (wit os).os = os := (World.layVars_os _ _ _).trans rfl
theorem all7 : (data7.filter fun x => (data7.map (·.1)).contains x.1) = data7 := by kernel_rfl
theorem none7 : (data7.filter fun x => !(data7.map (·.1)).contains x.1) = [] := by kernel_rfl
theorem rest7 : (laid7.filter fun x => x.2.handleName?.isNone) = data7 := by kernel_rfl
theorem door_fits (os : Os) : (World.doorLaid Tryz.prog 400 os).layFits Tryz.prog data7 [] = true := by kernel_rfl
theorem door_ifaces (os : Os) : (World.doorLaid Tryz.prog 400 os).layIfaces Tryz.prog data7 (wit os) = true := by kernel_rfl
theorem door_handle (os : Os) (args : Array Value) : (laid7.filter fun x => x.2.handleName?.isSome).all (handleAtB Tryz.prog ((wit os).forCall (fun _ _ => 0) ⟨#[], args, []⟩).memory) = true := by kernel_rfl
/-- a heap meets the list -/
theorem door_met (os : Os) (args : Array Value) : laidMetH Tryz.prog laid7 ((wit os).forCall (fun _ _ => 0) ⟨#[], args, []⟩).memory := by
  have h : laidMet Tryz.prog data7 (wit os) := laidMet_layVars (w0 := World.doorLaid Tryz.prog 400 os) (data7.map (·.1)) [] (by rw [all7]; rfl) (by rw [all7]; exact door_fits os) (by rw [all7]; exact door_ifaces os) (by rw [none7]; exact LaidIn.none)
  refine laidMetH_of_parts (by rw [rest7]; exact h.of_heap (by simp [World.memory, World.forCall, Input.heap])) (door_handle os args)
theorem door_shaped0 (os : Os) : (wit os).Shaped Tryz.prog := World.shaped_of_ZipB (by kernel_rfl) (by kernel_rfl)
theorem door_shaped (os : Os) (args : Array Value) : ((wit os).forCall (fun _ _ => 0) ⟨#[], args, []⟩).Shaped Tryz.prog := by
  have h := door_shaped0 os
  generalize wit os = w0 at h ⊢
  exact h
end Go.Proofs.YtepelpmkmhhokaaGreatDoor

set_option maxRecDepth 100000
namespace Go.Proofs.YtepelpmkmhhokaaGreatDoor
open Go.ChangeShapes Go.WideShapes Go.ChangeAt Go.RowKit Go.Shelf
open Scs
variable {H : Type} {enc : TypeId × Value → H} {W : World}
theorem sl_read {fuel : Nat} {c : Value} {x : DataW H × List MemPlace} (hf : DataW.trod enc Tryz.prog W 0 (fun _ => true) true fuel 49 [c] = some x) : ∃ a cap, ∃ l : Array Sc, c = .slice a l.size cap ∧ SlR W a l := by
  have hc3 : Tryz.prog.cellsOf 48 = 3 := by kernel_rfl
  have hc1 : Tryz.prog.cellsOf 3 = 1 := by kernel_rfl
  have hc9 : Tryz.prog.cellsOf 9 = 1 := by kernel_rfl
  rcases Deep.open_slice Tryz.underlying49 hf with ⟨hcs, _⟩ | ⟨a, len', cap', m, n, D, Pl, hcs, _, hl, _, hm, _, hi⟩
  · cases hcs
    exact ⟨none, 0, #[], rfl, fun i hi => absurd hi (Nat.not_lt_zero _)⟩
  · cases hcs
    simp only [if_true] at hm
    have key : ∀ i, i < len' → ∃ x : Sc, W.cell? (a.add (i * 3)) = some (.int .i64 x.1) ∧ W.cell? ((a.add (i * 3)).add 1) = some (.int .i64 x.2.1) ∧ W.cell? ((a.add (i * 3)).add 2) = some (.string x.2.2) := fun i hlt => by
      obtain ⟨cs, hc, ht⟩ := hi i (by omega)
      rw [hc3] at hc
      obtain ⟨_, hlen, hat⟩ := World.cells?_some hc
      obtain ⟨y0, y1, y2, n', _, _, g0, g1, g2⟩ := Deep.trod_struct3 Tryz.underlying48 ht
      match cs, hlen with
      | [u0, u1, u2], _ =>
        have g0' : DataW.trod enc Tryz.prog W 0 (fun _ => true) true n' 3 ([u0, u1, u2].take (Tryz.prog.cellsOf 3)) = some y0 := g0
        have g1' : DataW.trod enc Tryz.prog W 0 (fun _ => true) true n' 3 ([u1, u2].take (Tryz.prog.cellsOf 3)) = some y1 := g1
        have g2' : DataW.trod enc Tryz.prog W 0 (fun _ => true) true n' 9 ([u2].take (Tryz.prog.cellsOf 9)) = some y2 := g2
        rw [hc1] at g0' g1'
        rw [hc9] at g2'
        obtain ⟨z0, q0, _⟩ := DataW.trod_int Tryz.underlying3 g0'
        obtain ⟨z1, q1, _⟩ := DataW.trod_int Tryz.underlying3 g1'
        obtain ⟨z2, q2, _⟩ := DataW.trod_string Tryz.underlying9 g2'
        simp only [List.take_succ_cons, List.take_zero, List.cons.injEq, and_true] at q0 q1 q2
        subst q0 q1 q2
        exact ⟨(z0, z1, z2), by simpa [Addr.add] using hat 0 (by decide), by simpa using hat 1 (by decide), by simpa using hat 2 (by decide)⟩
    obtain ⟨X, hX⟩ := Deep.choose_lt key
    have hsz : (Array.ofFn fun i : Fin len' => X i.1).size = len' := Array.size_ofFn
    refine ⟨some a, cap', Array.ofFn fun i : Fin len' => X i.1, by rw [hsz], fun i hi => ?_⟩
    rw [hsz] at hi
    obtain ⟨c0, c1, c2⟩ := hX i hi
    have hz := (hX 0 (by omega)).1
    have he : (Array.ofFn fun i : Fin len' => X i.1)[i]! = X i := by rw [getElem!_pos _ i (by rw [hsz]; exact hi)]; simp
    rw [he]
    obtain ⟨b, off, spot⟩ := a
    have hs : spot = none := by simpa [Addr.add] using World.cell?_spot hz
    subst hs
    rw [Go.WideShapes.add_plain] at c0
    rw [Go.WideShapes.add_plain, Go.WideShapes.add_plain] at c1 c2
    exact ⟨b, off, rfl, block_lt_of_cell c0, c0, c1, c2⟩
theorem il_read {fuel : Nat} {c : Value} {x : DataW H × List MemPlace} (hf : DataW.trod enc Tryz.prog W 0 (fun _ => true) true fuel 41 [c] = some x) : ∃ a cap, ∃ l : Array Int, c = .slice a l.size cap ∧ IlR W a l := by
  have hc1 : Tryz.prog.cellsOf 3 = 1 := by kernel_rfl
  rcases Deep.open_slice Tryz.underlying41 hf with ⟨hcs, _⟩ | ⟨a, len', cap', m, n, D, Pl, hcs, _, hl, _, hm, _, hi⟩
  · cases hcs
    exact ⟨none, 0, #[], rfl, fun i hi => absurd hi (Nat.not_lt_zero _)⟩
  · cases hcs
    simp only [if_true] at hm
    have key : ∀ i, i < len' → ∃ z : Int, W.cell? (a.add i) = some (.int .i64 z) := fun i hlt => by
      obtain ⟨cs, hc, ht⟩ := hi i (by omega)
      rw [hc1, Nat.mul_one] at hc
      obtain ⟨_, hlen, hat⟩ := World.cells?_some hc
      obtain ⟨z0, q0, _⟩ := DataW.trod_int Tryz.underlying3 ht
      subst q0
      exact ⟨z0, by simpa [Addr.add] using hat 0 (by decide)⟩
    obtain ⟨X, hX⟩ := Deep.choose_lt key
    have hsz : (Array.ofFn fun i : Fin len' => X i.1).size = len' := Array.size_ofFn
    refine ⟨some a, cap', Array.ofFn fun i : Fin len' => X i.1, by rw [hsz], fun i hi => ?_⟩
    rw [hsz] at hi
    have c0 := hX i hi
    have hz := hX 0 (by omega)
    have he : (Array.ofFn fun i : Fin len' => X i.1)[i]! = X i := by rw [getElem!_pos _ i (by rw [hsz]; exact hi)]; simp
    rw [he]
    obtain ⟨b, off, spot⟩ := a
    have hs : spot = none := by simpa [Addr.add] using World.cell?_spot hz
    subst hs
    rw [Go.WideShapes.add_plain] at c0
    exact ⟨b, off, rfl, block_lt_of_cell c0, c0⟩
theorem gl_read {fuel : Nat} {c : Value} {x : DataW H × List MemPlace} (hf : DataW.trod enc Tryz.prog W 0 (fun _ => true) true fuel 22 [c] = some x) : ∃ a cap, ∃ L : Array Fn, c = .slice a L.size cap ∧ GlR W a L := by
  have hc6 : Tryz.prog.cellsOf 51 = 6 := by kernel_rfl
  have hc3 : Tryz.prog.cellsOf 48 = 3 := by kernel_rfl
  have hc1 : Tryz.prog.cellsOf 3 = 1 := by kernel_rfl
  have hc9 : Tryz.prog.cellsOf 9 = 1 := by kernel_rfl
  have hc36 : Tryz.prog.cellsOf 49 = 1 := by kernel_rfl
  have hc33 : Tryz.prog.cellsOf 41 = 1 := by kernel_rfl
  rcases Deep.open_slice Tryz.underlying22 hf with ⟨hcs, _⟩ | ⟨a, len', cap', m, n, D, Pl, hcs, _, hl, _, hm, _, hi⟩
  · cases hcs
    exact ⟨none, 0, #[], rfl, fun i hi => absurd hi (Nat.not_lt_zero _)⟩
  · cases hcs
    simp only [if_true] at hm
    have key : ∀ i, i < len' → ∃ f : Fn, (W.cell? (a.add (i * 6)) = some (.int .i64 f.k) ∧ W.cell? ((a.add (i * 6)).add 1) = some (.int .i64 f.x.1) ∧ W.cell? ((a.add (i * 6)).add 2) = some (.int .i64 f.x.2.1) ∧ W.cell? ((a.add (i * 6)).add 3) = some (.string f.x.2.2) ∧
        W.cell? ((a.add (i * 6)).add 4) = some (.slice f.pk f.keys.size f.ck) ∧ W.cell? ((a.add (i * 6)).add 5) = some (.slice f.pd f.kids.size f.cd)) ∧ SlR W f.pk f.keys ∧ IlR W f.pd f.kids := fun i hlt => by
      obtain ⟨cs, hc, ht⟩ := hi i (by omega)
      rw [hc6] at hc
      obtain ⟨_, hlen, hat⟩ := World.cells?_some hc
      obtain ⟨y0, y1, y2, y3, n', _, _, g0, g1, g2, g3⟩ := Go.Joins.trod_struct4 Tryz.underlying51 ht
      match cs, hlen with
      | [u0, u1, u2, u3, u4, u5], _ =>
        have g0' : DataW.trod enc Tryz.prog W 0 (fun _ => true) true n' 3 ([u0, u1, u2, u3, u4, u5].take (Tryz.prog.cellsOf 3)) = some y0 := g0
        have g1' : DataW.trod enc Tryz.prog W 0 (fun _ => true) true n' 48 ([u1, u2, u3, u4, u5].take (Tryz.prog.cellsOf 48)) = some y1 := g1
        have g2' : DataW.trod enc Tryz.prog W 0 (fun _ => true) true n' 49 ([u4, u5].take (Tryz.prog.cellsOf 49)) = some y2 := g2
        have g3' : DataW.trod enc Tryz.prog W 0 (fun _ => true) true n' 41 ([u5].take (Tryz.prog.cellsOf 41)) = some y3 := g3
        rw [hc1] at g0'
        rw [hc3] at g1'
        rw [hc36] at g2'
        rw [hc33] at g3'
        obtain ⟨z0, q0, _⟩ := DataW.trod_int Tryz.underlying3 g0'
        obtain ⟨v0, v1, v2, n2, _, _, t0, t1, t2⟩ := Deep.trod_struct3 Tryz.underlying48 g1'
        have t0' : DataW.trod enc Tryz.prog W 0 (fun _ => true) true n2 3 ([u1, u2, u3].take (Tryz.prog.cellsOf 3)) = some v0 := t0
        have t1' : DataW.trod enc Tryz.prog W 0 (fun _ => true) true n2 3 ([u2, u3].take (Tryz.prog.cellsOf 3)) = some v1 := t1
        have t2' : DataW.trod enc Tryz.prog W 0 (fun _ => true) true n2 9 ([u3].take (Tryz.prog.cellsOf 9)) = some v2 := t2
        rw [hc1] at t0' t1'
        rw [hc9] at t2'
        obtain ⟨w0, p0, _⟩ := DataW.trod_int Tryz.underlying3 t0'
        obtain ⟨w1, p1, _⟩ := DataW.trod_int Tryz.underlying3 t1'
        obtain ⟨w2, p2, _⟩ := DataW.trod_string Tryz.underlying9 t2'
        obtain ⟨pk, ck, ks, rfl, hks⟩ := sl_read (c := u4) (by simpa using g2')
        obtain ⟨pd, cd, ds, rfl, hds⟩ := il_read (c := u5) (by simpa using g3')
        simp only [List.take_succ_cons, List.take_zero, List.cons.injEq, and_true] at q0 p0 p1 p2
        subst q0 p0 p1 p2
        exact ⟨⟨z0, (w0, w1, w2), pk, ck, ks, pd, cd, ds⟩, ⟨by simpa [Addr.add] using hat 0 (by decide), by simpa using hat 1 (by decide), by simpa using hat 2 (by decide), by simpa using hat 3 (by decide), by simpa using hat 4 (by decide), by simpa using hat 5 (by decide)⟩, hks, hds⟩
    obtain ⟨X, hX⟩ := Deep.choose_lt key
    have hsz : (Array.ofFn fun i : Fin len' => X i.1).size = len' := Array.size_ofFn
    refine ⟨some a, cap', Array.ofFn fun i : Fin len' => X i.1, by rw [hsz], fun i hi => ?_⟩
    rw [hsz] at hi
    obtain ⟨⟨c0, c1, c2, c3, c4, c5⟩, hk, hd⟩ := hX i hi
    have hz := (hX 0 (by omega)).1.1
    have he : (Array.ofFn fun i : Fin len' => X i.1)[i]! = X i := by rw [getElem!_pos _ i (by rw [hsz]; exact hi)]; simp
    rw [he]
    obtain ⟨b, off, spot⟩ := a
    have hs : spot = none := by simpa [Addr.add] using World.cell?_spot hz
    subst hs
    rw [Go.WideShapes.add_plain] at c0
    rw [Go.WideShapes.add_plain, Go.WideShapes.add_plain] at c1 c2 c3 c4 c5
    exact ⟨b, off, rfl, block_lt_of_cell c0, c0, c1, c2, c3, c4, c5, hk, hd⟩
/-- a graph that comes in -/
theorem open_graph {r : Reach} {b0 : Nat} {v : Value} {d : DataW H} {p : List MemPlace} (hv : Value.okWide Tryz.prog W r b0 24 v) (h : DataW.Trod enc Tryz.prog W 0 (fun _ => true) true 24 v d p) :
    ∃ (root : Int) (a : Option Addr) (cap : Nat) (L : Array Fn), v = .agg #[.int .i64 root, .slice a L.size cap] ∧ GlR W a L := by
  obtain ⟨c0, c1, y0, y1, m, rfl, _, _, h0, h1⟩ := Go.Joins.open_agg2 Tryz.underlying24 (by kernel_rfl) (by kernel_rfl) hv h
  obtain ⟨z0, q0, _⟩ := DataW.trod_int Tryz.underlying3 h0
  obtain ⟨a, cap, L, rfl, hL⟩ := gl_read h1
  simp only [List.cons.injEq, and_true] at q0
  subst q0
  exact ⟨z0, a, cap, L, rfl, hL⟩
end Go.Proofs.YtepelpmkmhhokaaGreatDoor

set_option maxRecDepth 100000
namespace Go.Proofs.YtepelpmkmhhokaaGreatDoor
open Go.ChangeShapes Go.WideShapes Go.ChangeAt Go.RowKit Go.Shelf
open Scs
variable {H : Type} {enc : TypeId × Value → H} {W : World}
theorem open_ints {a0 : Option Addr} {len cap : Nat} {d : DataW H} {p : List MemPlace} (h : DataW.Trod enc Tryz.prog W 0 (fun _ => true) true 41 (.slice a0 len cap) d p) :
    ∃ l : Array Int, l.size = len ∧ IlR W a0 l ∧ l.size ≤ cap ∧ l.size ≤ 9223372036854775807 ∧ (a0 = none → l.size = 0) := by
  obtain ⟨fuel, hf⟩ := h
  have hc1 : Tryz.prog.cellsOf 3 = 1 := by kernel_rfl
  have hmx : maxLen = 9223372036854775807 := rfl
  rcases Deep.open_slice Tryz.underlying41 hf with ⟨hcs, _⟩ | ⟨a, len', cap', m, n, D, Pl, hcs, _, hl, hcm, hm, _, hi⟩
  · cases hcs
    exact ⟨#[], rfl, fun i hi => absurd hi (Nat.not_lt_zero _), Nat.zero_le _, by decide, fun _ => rfl⟩
  · cases hcs
    simp only [if_true] at hm
    have key : ∀ i, i < len → ∃ z : Int, W.cell? (a.add i) = some (.int .i64 z) := fun i hlt => by
      obtain ⟨cs, hc, ht⟩ := hi i (by omega)
      rw [hc1, Nat.mul_one] at hc
      obtain ⟨_, hlen, hat⟩ := World.cells?_some hc
      obtain ⟨z0, q0, _⟩ := DataW.trod_int Tryz.underlying3 ht
      subst q0
      exact ⟨z0, by simpa [Addr.add] using hat 0 (by decide)⟩
    obtain ⟨X, hX⟩ := Deep.choose_lt key
    have hsz : (Array.ofFn fun i : Fin len => X i.1).size = len := Array.size_ofFn
    refine ⟨Array.ofFn fun i : Fin len => X i.1, hsz, fun i hi => ?_, by rw [hsz]; exact hl, by rw [hsz]; omega, fun e => by cases e⟩
    rw [hsz] at hi
    have c0 := hX i hi
    have hz := hX 0 (by omega)
    have he : (Array.ofFn fun i : Fin len => X i.1)[i]! = X i := by rw [getElem!_pos _ i (by rw [hsz]; exact hi)]; simp
    rw [he]
    obtain ⟨b, off, spot⟩ := a
    have hs : spot = none := by simpa [Addr.add] using World.cell?_spot hz
    subst hs
    rw [Go.WideShapes.add_plain] at c0
    exact ⟨b, off, rfl, block_lt_of_cell c0, c0⟩
end Go.Proofs.YtepelpmkmhhokaaGreatDoor
