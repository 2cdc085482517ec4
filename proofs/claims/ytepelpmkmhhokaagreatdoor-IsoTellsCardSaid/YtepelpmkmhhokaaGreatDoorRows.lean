/-
  NARROWER THAN 'FOR EVERY INPUT', by the rows' own cells (each row's printed sentence says how): IsoTells: laid · IsoTidy: laid · IsoOrder: laid · IsoPairs: laid · IsoPaths: laid · IsoSubs: laid · IsoCounts: laid.
  DERIVED. THE GIVEN ROWS OF THIS SEAT. 7 by the template 'for every input the law returns true; each argument reads behind the call as it read before'; 0 by the template 'total and deterministic' (their statements: YtepelpmkmhhokaaGreatDoorTotals.lean).
  GIVEN WITH THE SEED: the statements are not yours to turn. If you find one false, say at which input.
  Laid BY PROGRAM, IN A SANDBOX (cutbox-rows.mjs): the forced cells as the released guide's own fill.sh prints them over the translation d60b754ea5a95a8b… (all of the seat's roots in one cut). By AI agents, Wed Nov 11 2026. No macro, syntax, notation, axiom, sorry.
-/
import Derived.Test.YtepelpmkmhhokaaGreatDoorChecked
import GoSem.PinnedTables
import GoSem.Claim
import GoSem.ClaimJoined
import GoSem.ClaimMapViews
import Derived.JoinedTies
import Derived.KernelRfl
namespace Go.Proofs.YtepelpmkmhhokaaGreatDoor
/- THE CELL 'sum', in the pinned program and in every row, IS THE sha256 OF THE DUMP (.gsa) THAT YtepelpmkmhhokaaGreatDoorProg.lean LOADS. Nothing in Lean hashes anything: it is a label: what it is worth is what the hold of that sum in a sandbox is worth. -/
noncomputable def Tryz.pinned : Pinned := { name := "ytepelpmkmhhokaagreatdoor", sum := "d60b754ea5a95a8b045420e58909fd33b0abd8802cb3576e959faf12d8461607", checked := Tryz.checked }
namespace Rows
def none {H : Type} : Left H := { results := [], args := [] }

/- WHAT THE LISTED PACKAGE-LEVEL VARIABLES READ AS WHEN THE CALL BEGINS. Each datum BY PROGRAM (the guide's laid-datum.mjs) off the statement by which the dump's own 'gosem.cut.vars' lays the variable. In a bare row this is a premise. The card (YtepelpmkmhhokaaGreatDoorCards.lean) ties it to the program's text. -/
def laid_unicode_utf8_acceptRanges {H : Type} : DataW H := .agg [.agg [.lit (.int .u8 128), .lit (.int .u8 191)], .agg [.lit (.int .u8 160), .lit (.int .u8 191)], .agg [.lit (.int .u8 128), .lit (.int .u8 159)], .agg [.lit (.int .u8 144), .lit (.int .u8 191)], .agg [.lit (.int .u8 128), .lit (.int .u8 143)], .agg [.lit (.int .u8 0), .lit (.int .u8 0)], .agg [.lit (.int .u8 0), .lit (.int .u8 0)], .agg [.lit (.int .u8 0), .lit (.int .u8 0)], .agg [.lit (.int .u8 0), .lit (.int .u8 0)], .agg [.lit (.int .u8 0), .lit (.int .u8 0)], .agg [.lit (.int .u8 0), .lit (.int .u8 0)], .agg [.lit (.int .u8 0), .lit (.int .u8 0)], .agg [.lit (.int .u8 0), .lit (.int .u8 0)], .agg [.lit (.int .u8 0), .lit (.int .u8 0)], .agg [.lit (.int .u8 0), .lit (.int .u8 0)], .agg [.lit (.int .u8 0), .lit (.int .u8 0)]]
def laid_errors_errorType {H : Type} : DataW H := .iface "internal/reflectlite.rtype" (.agg [.ptr (.lit (.string [101, 114, 114, 111, 114]))])
def laid_sigillary_iso_errAll {H : Type} : DataW H := .iface "*errors.errorString" (.ptr (.agg [.lit (.string [105, 115, 111, 58, 32, 97, 108, 108, 32, 112, 97, 105, 114, 115, 32, 119, 101, 114, 101, 32, 99, 111, 109, 101, 32, 116, 111])]))
def laid_sigillary_iso_errUnfit {H : Type} : DataW H := .iface "*errors.errorString" (.ptr (.agg [.lit (.string [105, 115, 111, 58, 32, 116, 119, 111, 32, 110, 111, 100, 101, 115, 32, 100, 111, 32, 110, 111, 116, 32, 102, 105, 116])]))
def laid_sigillary_iso_errOther {H : Type} : DataW H := .iface "*errors.errorString" (.ptr (.agg [.lit (.string [105, 115, 111, 58, 32, 97, 32, 110, 111, 100, 101, 32, 105, 115, 32, 119, 105, 116, 104, 32, 116, 119, 111, 32, 111, 116, 104, 101, 114, 115])]))
/-- One of Go's own tables, pinned by name: the form's constant. -/
def laid_unicode_utf8_first : DataW Unit := Go.Pinned.utf8First

/-- 'sigillarylaw09.IsoTells': WHATEVER THE INPUT: true; the input reads as it did. -/
def isoTellsSpec : ChangeSpec := { name := "isoTells", fn := fun _ => fun
  | [d1, d2] => { results := [.lit (.bool true)], args := [d1, d2] }
  | _ => none }
def isoTellsRow : OpenClaim := { program := "ytepelpmkmhhokaagreatdoor", sum := "d60b754ea5a95a8b045420e58909fd33b0abd8802cb3576e959faf12d8461607", func := "sigillary/sigillarylaw09.IsoTells", spec := "isoTells", inPlace := ["internal/reflectlite.ValueOf", "(internal/reflectlite.Value).Type", "(internal/reflectlite.Value).IsNil", "internal/reflectlite.TypeOf", "(internal/reflectlite.Value).Elem", "(internal/reflectlite.Value).Set"], unfollowed := true, recurses := true, named := ["sigillary/iso.errAll", "unicode/utf8.first", "unicode/utf8.acceptRanges", "errors.errorType", "sigillary/iso.errUnfit", "sigillary/iso.errOther"], plainKeys := false, apart := false, laid := [("unicode/utf8.acceptRanges", laid_unicode_utf8_acceptRanges), ("errors.errorType", laid_errors_errorType), ("sigillary/iso.errAll", laid_sigillary_iso_errAll), ("sigillary/iso.errUnfit", laid_sigillary_iso_errUnfit), ("sigillary/iso.errOther", laid_sigillary_iso_errOther), ("unicode/utf8.first", laid_unicode_utf8_first)] }
def IsoTellsSaid : Prop := isoTellsRow.holds Tryz.pinned (OpenSpec.ofChange isoTellsSpec)

/-- ITS FALSE NEIGHBOUR: 'it returns false'. Refute it at one input. -/
def isoTellsWrong : ChangeSpec := { name := "isoTells", fn := fun _ => fun
  | [d1, d2] => { results := [.lit (.bool false)], args := [d1, d2] }
  | _ => none }
def IsoTellsWrongFalsely : Prop := isoTellsRow.holds Tryz.pinned (OpenSpec.ofChange isoTellsWrong)

/-- 'sigillarylaw09.IsoTidy': WHATEVER THE INPUT: true; the input reads as it did. -/
def isoTidySpec : ChangeSpec := { name := "isoTidy", fn := fun _ => fun
  | [d1, d2] => { results := [.lit (.bool true)], args := [d1, d2] }
  | _ => none }
def isoTidyRow : OpenClaim := { program := "ytepelpmkmhhokaagreatdoor", sum := "d60b754ea5a95a8b045420e58909fd33b0abd8802cb3576e959faf12d8461607", func := "sigillary/sigillarylaw09.IsoTidy", spec := "isoTidy", inPlace := ["internal/reflectlite.ValueOf", "(internal/reflectlite.Value).Type", "(internal/reflectlite.Value).IsNil", "internal/reflectlite.TypeOf", "(internal/reflectlite.Value).Elem", "(internal/reflectlite.Value).Set"], unfollowed := true, recurses := true, named := ["sigillary/iso.errAll", "unicode/utf8.first", "unicode/utf8.acceptRanges", "errors.errorType", "sigillary/iso.errUnfit", "sigillary/iso.errOther"], plainKeys := false, apart := false, laid := [("unicode/utf8.acceptRanges", laid_unicode_utf8_acceptRanges), ("errors.errorType", laid_errors_errorType), ("sigillary/iso.errAll", laid_sigillary_iso_errAll), ("sigillary/iso.errUnfit", laid_sigillary_iso_errUnfit), ("sigillary/iso.errOther", laid_sigillary_iso_errOther), ("unicode/utf8.first", laid_unicode_utf8_first)] }
def IsoTidySaid : Prop := isoTidyRow.holds Tryz.pinned (OpenSpec.ofChange isoTidySpec)

/-- ITS FALSE NEIGHBOUR: 'it returns false'. Refute it at one input. -/
def isoTidyWrong : ChangeSpec := { name := "isoTidy", fn := fun _ => fun
  | [d1, d2] => { results := [.lit (.bool false)], args := [d1, d2] }
  | _ => none }
def IsoTidyWrongFalsely : Prop := isoTidyRow.holds Tryz.pinned (OpenSpec.ofChange isoTidyWrong)

/-- 'sigillarylaw09.IsoOrder': WHATEVER THE INPUT: true; the input reads as it did. -/
def isoOrderSpec : ChangeSpec := { name := "isoOrder", fn := fun _ => fun
  | [d1, d2, d3] => { results := [.lit (.bool true)], args := [d1, d2, d3] }
  | _ => none }
def isoOrderRow : OpenClaim := { program := "ytepelpmkmhhokaagreatdoor", sum := "d60b754ea5a95a8b045420e58909fd33b0abd8802cb3576e959faf12d8461607", func := "sigillary/sigillarylaw09.IsoOrder", spec := "isoOrder", inPlace := ["internal/reflectlite.ValueOf", "(internal/reflectlite.Value).Type", "(internal/reflectlite.Value).IsNil", "internal/reflectlite.TypeOf", "(internal/reflectlite.Value).Elem", "(internal/reflectlite.Value).Set"], unfollowed := true, recurses := true, named := ["sigillary/iso.errAll", "unicode/utf8.first", "unicode/utf8.acceptRanges", "errors.errorType", "sigillary/iso.errUnfit", "sigillary/iso.errOther"], plainKeys := false, apart := false, laid := [("unicode/utf8.acceptRanges", laid_unicode_utf8_acceptRanges), ("errors.errorType", laid_errors_errorType), ("sigillary/iso.errAll", laid_sigillary_iso_errAll), ("sigillary/iso.errUnfit", laid_sigillary_iso_errUnfit), ("sigillary/iso.errOther", laid_sigillary_iso_errOther), ("unicode/utf8.first", laid_unicode_utf8_first)] }
def IsoOrderSaid : Prop := isoOrderRow.holds Tryz.pinned (OpenSpec.ofChange isoOrderSpec)

/-- ITS FALSE NEIGHBOUR: 'it returns false'. Refute it at one input. -/
def isoOrderWrong : ChangeSpec := { name := "isoOrder", fn := fun _ => fun
  | [d1, d2, d3] => { results := [.lit (.bool false)], args := [d1, d2, d3] }
  | _ => none }
def IsoOrderWrongFalsely : Prop := isoOrderRow.holds Tryz.pinned (OpenSpec.ofChange isoOrderWrong)

/-- 'sigillarylaw09.IsoPairs': WHATEVER THE INPUT: true; the input reads as it did. -/
def isoPairsSpec : ChangeSpec := { name := "isoPairs", fn := fun _ => fun
  | [d1, d2] => { results := [.lit (.bool true)], args := [d1, d2] }
  | _ => none }
def isoPairsRow : OpenClaim := { program := "ytepelpmkmhhokaagreatdoor", sum := "d60b754ea5a95a8b045420e58909fd33b0abd8802cb3576e959faf12d8461607", func := "sigillary/sigillarylaw09.IsoPairs", spec := "isoPairs", inPlace := ["internal/reflectlite.ValueOf", "(internal/reflectlite.Value).Type", "(internal/reflectlite.Value).IsNil", "internal/reflectlite.TypeOf", "(internal/reflectlite.Value).Elem", "(internal/reflectlite.Value).Set"], unfollowed := true, recurses := true, named := ["sigillary/iso.errAll", "unicode/utf8.first", "unicode/utf8.acceptRanges", "errors.errorType", "sigillary/iso.errUnfit", "sigillary/iso.errOther"], plainKeys := false, apart := false, laid := [("unicode/utf8.acceptRanges", laid_unicode_utf8_acceptRanges), ("errors.errorType", laid_errors_errorType), ("sigillary/iso.errAll", laid_sigillary_iso_errAll), ("sigillary/iso.errUnfit", laid_sigillary_iso_errUnfit), ("sigillary/iso.errOther", laid_sigillary_iso_errOther), ("unicode/utf8.first", laid_unicode_utf8_first)] }
def IsoPairsSaid : Prop := isoPairsRow.holds Tryz.pinned (OpenSpec.ofChange isoPairsSpec)

/-- ITS FALSE NEIGHBOUR: 'it returns false'. Refute it at one input. -/
def isoPairsWrong : ChangeSpec := { name := "isoPairs", fn := fun _ => fun
  | [d1, d2] => { results := [.lit (.bool false)], args := [d1, d2] }
  | _ => none }
def IsoPairsWrongFalsely : Prop := isoPairsRow.holds Tryz.pinned (OpenSpec.ofChange isoPairsWrong)

/-- 'sigillarylaw09.IsoPaths': WHATEVER THE INPUT: true; the input reads as it did. -/
def isoPathsSpec : ChangeSpec := { name := "isoPaths", fn := fun _ => fun
  | [d1, d2, d3] => { results := [.lit (.bool true)], args := [d1, d2, d3] }
  | _ => none }
def isoPathsRow : OpenClaim := { program := "ytepelpmkmhhokaagreatdoor", sum := "d60b754ea5a95a8b045420e58909fd33b0abd8802cb3576e959faf12d8461607", func := "sigillary/sigillarylaw09.IsoPaths", spec := "isoPaths", inPlace := ["internal/reflectlite.ValueOf", "(internal/reflectlite.Value).Type", "(internal/reflectlite.Value).IsNil", "internal/reflectlite.TypeOf", "(internal/reflectlite.Value).Elem", "(internal/reflectlite.Value).Set"], unfollowed := true, recurses := true, named := ["sigillary/iso.errAll", "unicode/utf8.first", "unicode/utf8.acceptRanges", "errors.errorType", "sigillary/iso.errUnfit", "sigillary/iso.errOther"], plainKeys := false, apart := false, laid := [("unicode/utf8.acceptRanges", laid_unicode_utf8_acceptRanges), ("errors.errorType", laid_errors_errorType), ("sigillary/iso.errAll", laid_sigillary_iso_errAll), ("sigillary/iso.errUnfit", laid_sigillary_iso_errUnfit), ("sigillary/iso.errOther", laid_sigillary_iso_errOther), ("unicode/utf8.first", laid_unicode_utf8_first)] }
def IsoPathsSaid : Prop := isoPathsRow.holds Tryz.pinned (OpenSpec.ofChange isoPathsSpec)

/-- ITS FALSE NEIGHBOUR: 'it returns false'. Refute it at one input. -/
def isoPathsWrong : ChangeSpec := { name := "isoPaths", fn := fun _ => fun
  | [d1, d2, d3] => { results := [.lit (.bool false)], args := [d1, d2, d3] }
  | _ => none }
def IsoPathsWrongFalsely : Prop := isoPathsRow.holds Tryz.pinned (OpenSpec.ofChange isoPathsWrong)

/-- 'sigillarylaw09.IsoSubs': WHATEVER THE INPUT: true; the input reads as it did. -/
def isoSubsSpec : ChangeSpec := { name := "isoSubs", fn := fun _ => fun
  | [d1, d2, d3] => { results := [.lit (.bool true)], args := [d1, d2, d3] }
  | _ => none }
def isoSubsRow : OpenClaim := { program := "ytepelpmkmhhokaagreatdoor", sum := "d60b754ea5a95a8b045420e58909fd33b0abd8802cb3576e959faf12d8461607", func := "sigillary/sigillarylaw09.IsoSubs", spec := "isoSubs", inPlace := ["internal/reflectlite.ValueOf", "(internal/reflectlite.Value).Type", "(internal/reflectlite.Value).IsNil", "internal/reflectlite.TypeOf", "(internal/reflectlite.Value).Elem", "(internal/reflectlite.Value).Set"], unfollowed := true, recurses := true, named := ["sigillary/iso.errAll", "unicode/utf8.first", "unicode/utf8.acceptRanges", "errors.errorType", "sigillary/iso.errUnfit", "sigillary/iso.errOther"], plainKeys := false, apart := false, laid := [("unicode/utf8.acceptRanges", laid_unicode_utf8_acceptRanges), ("errors.errorType", laid_errors_errorType), ("sigillary/iso.errAll", laid_sigillary_iso_errAll), ("sigillary/iso.errUnfit", laid_sigillary_iso_errUnfit), ("sigillary/iso.errOther", laid_sigillary_iso_errOther), ("unicode/utf8.first", laid_unicode_utf8_first)] }
def IsoSubsSaid : Prop := isoSubsRow.holds Tryz.pinned (OpenSpec.ofChange isoSubsSpec)

/-- ITS FALSE NEIGHBOUR: 'it returns false'. Refute it at one input. -/
def isoSubsWrong : ChangeSpec := { name := "isoSubs", fn := fun _ => fun
  | [d1, d2, d3] => { results := [.lit (.bool false)], args := [d1, d2, d3] }
  | _ => none }
def IsoSubsWrongFalsely : Prop := isoSubsRow.holds Tryz.pinned (OpenSpec.ofChange isoSubsWrong)

/-- 'sigillarylaw09.IsoCounts': WHATEVER THE INPUT: true; the input reads as it did. -/
def isoCountsSpec : ChangeSpec := { name := "isoCounts", fn := fun _ => fun
  | [d1, d2] => { results := [.lit (.bool true)], args := [d1, d2] }
  | _ => none }
def isoCountsRow : OpenClaim := { program := "ytepelpmkmhhokaagreatdoor", sum := "d60b754ea5a95a8b045420e58909fd33b0abd8802cb3576e959faf12d8461607", func := "sigillary/sigillarylaw09.IsoCounts", spec := "isoCounts", inPlace := ["internal/reflectlite.ValueOf", "(internal/reflectlite.Value).Type", "(internal/reflectlite.Value).IsNil", "internal/reflectlite.TypeOf", "(internal/reflectlite.Value).Elem", "(internal/reflectlite.Value).Set"], unfollowed := true, recurses := true, named := ["sigillary/iso.errAll", "unicode/utf8.first", "unicode/utf8.acceptRanges", "errors.errorType", "sigillary/iso.errUnfit", "sigillary/iso.errOther"], plainKeys := false, apart := false, laid := [("unicode/utf8.acceptRanges", laid_unicode_utf8_acceptRanges), ("errors.errorType", laid_errors_errorType), ("sigillary/iso.errAll", laid_sigillary_iso_errAll), ("sigillary/iso.errUnfit", laid_sigillary_iso_errUnfit), ("sigillary/iso.errOther", laid_sigillary_iso_errOther), ("unicode/utf8.first", laid_unicode_utf8_first)] }
def IsoCountsSaid : Prop := isoCountsRow.holds Tryz.pinned (OpenSpec.ofChange isoCountsSpec)

/-- ITS FALSE NEIGHBOUR: 'it returns false'. Refute it at one input. -/
def isoCountsWrong : ChangeSpec := { name := "isoCounts", fn := fun _ => fun
  | [d1, d2] => { results := [.lit (.bool false)], args := [d1, d2] }
  | _ => none }
def IsoCountsWrongFalsely : Prop := isoCountsRow.holds Tryz.pinned (OpenSpec.ofChange isoCountsWrong)

/- THE SECOND FORM. 'bulk': how many values and letters a reading holds, each counted each time it is reached (what is shared counts as often as it is met; a slice's spare places count too). A statement '..UptoSaid' is the law's where the arguments, and the package variables that the reading takes, are together of bulk at most 1048576: NARROWER than '..Said'. Prove '..Said' where nothing that the law and all that it calls make is longer than what came in: it says more and counts as full. Else prove '..UptoSaid'. A law counts once. -/
mutual
def uptoBulk {H : Type} : DataW H → Nat
  | .lit (.string bytes) => bytes.length + 1
  | .lit _ => 1
  | .nil => 1
  | .ptr d => uptoBulk d + 1
  | .slice elems spare => uptoBulkAll elems + uptoBulkAll spare + 1
  | .agg parts => uptoBulkAll parts + 1
  | .iface _ d => uptoBulk d + 1
  | .map entries => uptoBulkEntries entries + 1
  | .held _ => 1
def uptoBulkAll {H : Type} : List (DataW H) → Nat
  | [] => 0
  | d :: r => uptoBulk d + uptoBulkAll r
def uptoBulkEntries {H : Type} : List (Lit × DataW H) → Nat
  | [] => 0
  | x :: r => uptoBulkEntry x + uptoBulkEntries r
def uptoBulkEntry {H : Type} : Lit × DataW H → Nat
  | (.string bytes, d) => bytes.length + uptoBulk d + 1
  | (_, d) => uptoBulk d + 1
 end
def uptoSmall : (H : Type) → List (DataW H) → Bool := fun _ ds => decide (uptoBulkAll ds ≤ 1048576)
def OpenSpec.upto (s : _root_.Go.ChangeSpec) : _root_.Go.OpenSpec := { _root_.Go.OpenSpec.ofChange s with cond := some uptoSmall }

/-- 'sigillarylaw09.IsoTells', WHERE WHAT IT READS IS OF BULK AT MOST 1048576: true; the input reads as it did. -/
def isoTellsUptoRow : OpenClaim := { program := "ytepelpmkmhhokaagreatdoor", sum := "d60b754ea5a95a8b045420e58909fd33b0abd8802cb3576e959faf12d8461607", func := "sigillary/sigillarylaw09.IsoTells", spec := "isoTells", inPlace := ["internal/reflectlite.ValueOf", "(internal/reflectlite.Value).Type", "(internal/reflectlite.Value).IsNil", "internal/reflectlite.TypeOf", "(internal/reflectlite.Value).Elem", "(internal/reflectlite.Value).Set"], unfollowed := true, recurses := true, named := ["sigillary/iso.errAll", "unicode/utf8.first", "unicode/utf8.acceptRanges", "errors.errorType", "sigillary/iso.errUnfit", "sigillary/iso.errOther"], plainKeys := false, apart := false, laid := [("unicode/utf8.acceptRanges", laid_unicode_utf8_acceptRanges), ("errors.errorType", laid_errors_errorType), ("sigillary/iso.errAll", laid_sigillary_iso_errAll), ("sigillary/iso.errUnfit", laid_sigillary_iso_errUnfit), ("sigillary/iso.errOther", laid_sigillary_iso_errOther), ("unicode/utf8.first", laid_unicode_utf8_first)], narrowed := true }
def IsoTellsUptoSaid : Prop := isoTellsUptoRow.holds Tryz.pinned (OpenSpec.upto isoTellsSpec)

/-- 'sigillarylaw09.IsoTidy', WHERE WHAT IT READS IS OF BULK AT MOST 1048576: true; the input reads as it did. -/
def isoTidyUptoRow : OpenClaim := { program := "ytepelpmkmhhokaagreatdoor", sum := "d60b754ea5a95a8b045420e58909fd33b0abd8802cb3576e959faf12d8461607", func := "sigillary/sigillarylaw09.IsoTidy", spec := "isoTidy", inPlace := ["internal/reflectlite.ValueOf", "(internal/reflectlite.Value).Type", "(internal/reflectlite.Value).IsNil", "internal/reflectlite.TypeOf", "(internal/reflectlite.Value).Elem", "(internal/reflectlite.Value).Set"], unfollowed := true, recurses := true, named := ["sigillary/iso.errAll", "unicode/utf8.first", "unicode/utf8.acceptRanges", "errors.errorType", "sigillary/iso.errUnfit", "sigillary/iso.errOther"], plainKeys := false, apart := false, laid := [("unicode/utf8.acceptRanges", laid_unicode_utf8_acceptRanges), ("errors.errorType", laid_errors_errorType), ("sigillary/iso.errAll", laid_sigillary_iso_errAll), ("sigillary/iso.errUnfit", laid_sigillary_iso_errUnfit), ("sigillary/iso.errOther", laid_sigillary_iso_errOther), ("unicode/utf8.first", laid_unicode_utf8_first)], narrowed := true }
def IsoTidyUptoSaid : Prop := isoTidyUptoRow.holds Tryz.pinned (OpenSpec.upto isoTidySpec)

/-- 'sigillarylaw09.IsoOrder', WHERE WHAT IT READS IS OF BULK AT MOST 1048576: true; the input reads as it did. -/
def isoOrderUptoRow : OpenClaim := { program := "ytepelpmkmhhokaagreatdoor", sum := "d60b754ea5a95a8b045420e58909fd33b0abd8802cb3576e959faf12d8461607", func := "sigillary/sigillarylaw09.IsoOrder", spec := "isoOrder", inPlace := ["internal/reflectlite.ValueOf", "(internal/reflectlite.Value).Type", "(internal/reflectlite.Value).IsNil", "internal/reflectlite.TypeOf", "(internal/reflectlite.Value).Elem", "(internal/reflectlite.Value).Set"], unfollowed := true, recurses := true, named := ["sigillary/iso.errAll", "unicode/utf8.first", "unicode/utf8.acceptRanges", "errors.errorType", "sigillary/iso.errUnfit", "sigillary/iso.errOther"], plainKeys := false, apart := false, laid := [("unicode/utf8.acceptRanges", laid_unicode_utf8_acceptRanges), ("errors.errorType", laid_errors_errorType), ("sigillary/iso.errAll", laid_sigillary_iso_errAll), ("sigillary/iso.errUnfit", laid_sigillary_iso_errUnfit), ("sigillary/iso.errOther", laid_sigillary_iso_errOther), ("unicode/utf8.first", laid_unicode_utf8_first)], narrowed := true }
def IsoOrderUptoSaid : Prop := isoOrderUptoRow.holds Tryz.pinned (OpenSpec.upto isoOrderSpec)

/-- 'sigillarylaw09.IsoPairs', WHERE WHAT IT READS IS OF BULK AT MOST 1048576: true; the input reads as it did. -/
def isoPairsUptoRow : OpenClaim := { program := "ytepelpmkmhhokaagreatdoor", sum := "d60b754ea5a95a8b045420e58909fd33b0abd8802cb3576e959faf12d8461607", func := "sigillary/sigillarylaw09.IsoPairs", spec := "isoPairs", inPlace := ["internal/reflectlite.ValueOf", "(internal/reflectlite.Value).Type", "(internal/reflectlite.Value).IsNil", "internal/reflectlite.TypeOf", "(internal/reflectlite.Value).Elem", "(internal/reflectlite.Value).Set"], unfollowed := true, recurses := true, named := ["sigillary/iso.errAll", "unicode/utf8.first", "unicode/utf8.acceptRanges", "errors.errorType", "sigillary/iso.errUnfit", "sigillary/iso.errOther"], plainKeys := false, apart := false, laid := [("unicode/utf8.acceptRanges", laid_unicode_utf8_acceptRanges), ("errors.errorType", laid_errors_errorType), ("sigillary/iso.errAll", laid_sigillary_iso_errAll), ("sigillary/iso.errUnfit", laid_sigillary_iso_errUnfit), ("sigillary/iso.errOther", laid_sigillary_iso_errOther), ("unicode/utf8.first", laid_unicode_utf8_first)], narrowed := true }
def IsoPairsUptoSaid : Prop := isoPairsUptoRow.holds Tryz.pinned (OpenSpec.upto isoPairsSpec)

/-- 'sigillarylaw09.IsoPaths', WHERE WHAT IT READS IS OF BULK AT MOST 1048576: true; the input reads as it did. -/
def isoPathsUptoRow : OpenClaim := { program := "ytepelpmkmhhokaagreatdoor", sum := "d60b754ea5a95a8b045420e58909fd33b0abd8802cb3576e959faf12d8461607", func := "sigillary/sigillarylaw09.IsoPaths", spec := "isoPaths", inPlace := ["internal/reflectlite.ValueOf", "(internal/reflectlite.Value).Type", "(internal/reflectlite.Value).IsNil", "internal/reflectlite.TypeOf", "(internal/reflectlite.Value).Elem", "(internal/reflectlite.Value).Set"], unfollowed := true, recurses := true, named := ["sigillary/iso.errAll", "unicode/utf8.first", "unicode/utf8.acceptRanges", "errors.errorType", "sigillary/iso.errUnfit", "sigillary/iso.errOther"], plainKeys := false, apart := false, laid := [("unicode/utf8.acceptRanges", laid_unicode_utf8_acceptRanges), ("errors.errorType", laid_errors_errorType), ("sigillary/iso.errAll", laid_sigillary_iso_errAll), ("sigillary/iso.errUnfit", laid_sigillary_iso_errUnfit), ("sigillary/iso.errOther", laid_sigillary_iso_errOther), ("unicode/utf8.first", laid_unicode_utf8_first)], narrowed := true }
def IsoPathsUptoSaid : Prop := isoPathsUptoRow.holds Tryz.pinned (OpenSpec.upto isoPathsSpec)

/-- 'sigillarylaw09.IsoSubs', WHERE WHAT IT READS IS OF BULK AT MOST 1048576: true; the input reads as it did. -/
def isoSubsUptoRow : OpenClaim := { program := "ytepelpmkmhhokaagreatdoor", sum := "d60b754ea5a95a8b045420e58909fd33b0abd8802cb3576e959faf12d8461607", func := "sigillary/sigillarylaw09.IsoSubs", spec := "isoSubs", inPlace := ["internal/reflectlite.ValueOf", "(internal/reflectlite.Value).Type", "(internal/reflectlite.Value).IsNil", "internal/reflectlite.TypeOf", "(internal/reflectlite.Value).Elem", "(internal/reflectlite.Value).Set"], unfollowed := true, recurses := true, named := ["sigillary/iso.errAll", "unicode/utf8.first", "unicode/utf8.acceptRanges", "errors.errorType", "sigillary/iso.errUnfit", "sigillary/iso.errOther"], plainKeys := false, apart := false, laid := [("unicode/utf8.acceptRanges", laid_unicode_utf8_acceptRanges), ("errors.errorType", laid_errors_errorType), ("sigillary/iso.errAll", laid_sigillary_iso_errAll), ("sigillary/iso.errUnfit", laid_sigillary_iso_errUnfit), ("sigillary/iso.errOther", laid_sigillary_iso_errOther), ("unicode/utf8.first", laid_unicode_utf8_first)], narrowed := true }
def IsoSubsUptoSaid : Prop := isoSubsUptoRow.holds Tryz.pinned (OpenSpec.upto isoSubsSpec)

/-- 'sigillarylaw09.IsoCounts', WHERE WHAT IT READS IS OF BULK AT MOST 1048576: true; the input reads as it did. -/
def isoCountsUptoRow : OpenClaim := { program := "ytepelpmkmhhokaagreatdoor", sum := "d60b754ea5a95a8b045420e58909fd33b0abd8802cb3576e959faf12d8461607", func := "sigillary/sigillarylaw09.IsoCounts", spec := "isoCounts", inPlace := ["internal/reflectlite.ValueOf", "(internal/reflectlite.Value).Type", "(internal/reflectlite.Value).IsNil", "internal/reflectlite.TypeOf", "(internal/reflectlite.Value).Elem", "(internal/reflectlite.Value).Set"], unfollowed := true, recurses := true, named := ["sigillary/iso.errAll", "unicode/utf8.first", "unicode/utf8.acceptRanges", "errors.errorType", "sigillary/iso.errUnfit", "sigillary/iso.errOther"], plainKeys := false, apart := false, laid := [("unicode/utf8.acceptRanges", laid_unicode_utf8_acceptRanges), ("errors.errorType", laid_errors_errorType), ("sigillary/iso.errAll", laid_sigillary_iso_errAll), ("sigillary/iso.errUnfit", laid_sigillary_iso_errUnfit), ("sigillary/iso.errOther", laid_sigillary_iso_errOther), ("unicode/utf8.first", laid_unicode_utf8_first)], narrowed := true }
def IsoCountsUptoSaid : Prop := isoCountsUptoRow.holds Tryz.pinned (OpenSpec.upto isoCountsSpec)

end Rows
end Go.Proofs.YtepelpmkmhhokaaGreatDoor
