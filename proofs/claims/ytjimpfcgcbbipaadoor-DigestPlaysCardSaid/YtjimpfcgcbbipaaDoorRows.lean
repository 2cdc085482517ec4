/-
  NARROWER THAN 'FOR EVERY INPUT', by the rows' own cells (each row's printed sentence says how): DigestTells: laid · DigestPlays: laid · DigestPieces: laid · DigestBlocks: laid · DigestEnds: laid · DigestResets: laid · DigestTwo: laid.
  DERIVED. THE GIVEN ROWS OF THIS SEAT. 7 by the template 'for every input the law returns true; each argument reads behind the call as it read before'; 0 by the template 'total and deterministic' (their statements: YtjimpfcgcbbipaaDoorTotals.lean).
  GIVEN WITH THE SEED: the statements are not yours to turn. If you find one false, say at which input.
  Laid BY PROGRAM, IN A SANDBOX (cutbox-rows.mjs): the forced cells as the released guide's own fill.sh prints them over the translation 52e4c16518adfe70… (all of the seat's roots in one cut). By AI agents, Wed Nov 11 2026. No macro, syntax, notation, axiom, sorry.
-/
import Derived.Test.YtjimpfcgcbbipaaDoorChecked
import GoSem.Claim
import GoSem.ClaimJoined
import GoSem.ClaimMapViews
import Derived.JoinedTies
import Derived.KernelRfl
namespace Go.Proofs.YtjimpfcgcbbipaaDoor
/- THE CELL 'sum', in the pinned program and in every row, IS THE sha256 OF THE DUMP (.gsa) THAT YtjimpfcgcbbipaaDoorProg.lean LOADS. Nothing in Lean hashes anything: it is a label: what it is worth is what the hold of that sum in a sandbox is worth. -/
noncomputable def Tryd.pinned : Pinned := { name := "ytjimpfcgcbbipaadoor", sum := "52e4c16518adfe702812e741fd2d1e4bea9848100646f27e4cd531c8d84aa93e", checked := Tryd.checked }
namespace Rows
def none {H : Type} : Left H := { results := [], args := [] }

/- WHAT THE LISTED PACKAGE-LEVEL VARIABLES READ AS WHEN THE CALL BEGINS. Each datum BY PROGRAM (the guide's laid-datum.mjs) off the statement by which the dump's own 'gosem.cut.vars' lays the variable. In a bare row this is a premise. The card (YtjimpfcgcbbipaaDoorCards.lean) ties it to the program's text. -/
def laid_sigillary_sigillaryref01_k {H : Type} : DataW H := .agg [.lit (.int .i64 1116352408), .lit (.int .i64 1899447441), .lit (.int .i64 3049323471), .lit (.int .i64 3921009573), .lit (.int .i64 961987163), .lit (.int .i64 1508970993), .lit (.int .i64 2453635748), .lit (.int .i64 2870763221), .lit (.int .i64 3624381080), .lit (.int .i64 310598401), .lit (.int .i64 607225278), .lit (.int .i64 1426881987), .lit (.int .i64 1925078388), .lit (.int .i64 2162078206), .lit (.int .i64 2614888103), .lit (.int .i64 3248222580), .lit (.int .i64 3835390401), .lit (.int .i64 4022224774), .lit (.int .i64 264347078), .lit (.int .i64 604807628), .lit (.int .i64 770255983), .lit (.int .i64 1249150122), .lit (.int .i64 1555081692), .lit (.int .i64 1996064986), .lit (.int .i64 2554220882), .lit (.int .i64 2821834349), .lit (.int .i64 2952996808), .lit (.int .i64 3210313671), .lit (.int .i64 3336571891), .lit (.int .i64 3584528711), .lit (.int .i64 113926993), .lit (.int .i64 338241895), .lit (.int .i64 666307205), .lit (.int .i64 773529912), .lit (.int .i64 1294757372), .lit (.int .i64 1396182291), .lit (.int .i64 1695183700), .lit (.int .i64 1986661051), .lit (.int .i64 2177026350), .lit (.int .i64 2456956037), .lit (.int .i64 2730485921), .lit (.int .i64 2820302411), .lit (.int .i64 3259730800), .lit (.int .i64 3345764771), .lit (.int .i64 3516065817), .lit (.int .i64 3600352804), .lit (.int .i64 4094571909), .lit (.int .i64 275423344), .lit (.int .i64 430227734), .lit (.int .i64 506948616), .lit (.int .i64 659060556), .lit (.int .i64 883997877), .lit (.int .i64 958139571), .lit (.int .i64 1322822218), .lit (.int .i64 1537002063), .lit (.int .i64 1747873779), .lit (.int .i64 1955562222), .lit (.int .i64 2024104815), .lit (.int .i64 2227730452), .lit (.int .i64 2361852424), .lit (.int .i64 2428436474), .lit (.int .i64 2756734187), .lit (.int .i64 3204031479), .lit (.int .i64 3329325298)]
def laid_errors_errorType {H : Type} : DataW H := .iface "internal/reflectlite.rtype" (.agg [.ptr (.lit (.string [101, 114, 114, 111, 114]))])
def laid_sigillary_rounds_constants {H : Type} : DataW H := .agg [.lit (.int .u32 1116352408), .lit (.int .u32 1899447441), .lit (.int .u32 3049323471), .lit (.int .u32 3921009573), .lit (.int .u32 961987163), .lit (.int .u32 1508970993), .lit (.int .u32 2453635748), .lit (.int .u32 2870763221), .lit (.int .u32 3624381080), .lit (.int .u32 310598401), .lit (.int .u32 607225278), .lit (.int .u32 1426881987), .lit (.int .u32 1925078388), .lit (.int .u32 2162078206), .lit (.int .u32 2614888103), .lit (.int .u32 3248222580), .lit (.int .u32 3835390401), .lit (.int .u32 4022224774), .lit (.int .u32 264347078), .lit (.int .u32 604807628), .lit (.int .u32 770255983), .lit (.int .u32 1249150122), .lit (.int .u32 1555081692), .lit (.int .u32 1996064986), .lit (.int .u32 2554220882), .lit (.int .u32 2821834349), .lit (.int .u32 2952996808), .lit (.int .u32 3210313671), .lit (.int .u32 3336571891), .lit (.int .u32 3584528711), .lit (.int .u32 113926993), .lit (.int .u32 338241895), .lit (.int .u32 666307205), .lit (.int .u32 773529912), .lit (.int .u32 1294757372), .lit (.int .u32 1396182291), .lit (.int .u32 1695183700), .lit (.int .u32 1986661051), .lit (.int .u32 2177026350), .lit (.int .u32 2456956037), .lit (.int .u32 2730485921), .lit (.int .u32 2820302411), .lit (.int .u32 3259730800), .lit (.int .u32 3345764771), .lit (.int .u32 3516065817), .lit (.int .u32 3600352804), .lit (.int .u32 4094571909), .lit (.int .u32 275423344), .lit (.int .u32 430227734), .lit (.int .u32 506948616), .lit (.int .u32 659060556), .lit (.int .u32 883997877), .lit (.int .u32 958139571), .lit (.int .u32 1322822218), .lit (.int .u32 1537002063), .lit (.int .u32 1747873779), .lit (.int .u32 1955562222), .lit (.int .u32 2024104815), .lit (.int .u32 2227730452), .lit (.int .u32 2361852424), .lit (.int .u32 2428436474), .lit (.int .u32 2756734187), .lit (.int .u32 3204031479), .lit (.int .u32 3329325298)]
def laid_sigillary_rounds_errBlock {H : Type} : DataW H := .iface "*errors.errorString" (.ptr (.agg [.lit (.string [114, 111, 117, 110, 100, 115, 58, 32, 110, 111, 116, 32, 54, 52, 32, 98, 121, 116, 101, 115])]))
def laid_sigillary_rounds_errWord {H : Type} : DataW H := .iface "*errors.errorString" (.ptr (.agg [.lit (.string [114, 111, 117, 110, 100, 115, 58, 32, 110, 111, 116, 32, 97, 32, 119, 111, 114, 100, 44, 32, 111, 114, 32, 110, 111, 116, 32, 97, 32, 114, 111, 117, 110, 100])]))
def laid_sigillary_digest_errLength {H : Type} : DataW H := .iface "*errors.errorString" (.ptr (.agg [.lit (.string [100, 105, 103, 101, 115, 116, 58, 32, 110, 111, 32, 109, 101, 115, 115, 97, 103, 101, 32, 104, 97, 115, 32, 115, 111, 32, 109, 97, 110, 121, 32, 98, 121, 116, 101, 115])]))
def laid_sigillary_digest_errRounds {H : Type} : DataW H := .iface "*errors.errorString" (.ptr (.agg [.lit (.string [100, 105, 103, 101, 115, 116, 58, 32, 114, 101, 102, 117, 115, 101, 100, 32, 98, 121, 32, 116, 104, 101, 32, 114, 111, 117, 110, 100, 115])]))

/-- 'sigillarylaw02.DigestTells': WHATEVER THE INPUT: true; the input reads as it did. -/
def digestTellsSpec : ChangeSpec := { name := "digestTells", fn := fun _ => fun
  | [d1, d2] => { results := [.lit (.bool true)], args := [d1, d2] }
  | _ => none }
def digestTellsRow : OpenClaim := { program := "ytjimpfcgcbbipaadoor", sum := "52e4c16518adfe702812e741fd2d1e4bea9848100646f27e4cd531c8d84aa93e", func := "sigillary/sigillarylaw02.DigestTells", spec := "digestTells", inPlace := ["internal/reflectlite.ValueOf", "(internal/reflectlite.Value).Type", "(internal/reflectlite.Value).IsNil", "internal/reflectlite.TypeOf", "(internal/reflectlite.Value).Elem", "(internal/reflectlite.Value).Set"], unfollowed := true, recurses := true, named := ["sigillary/digest.errLength", "errors.errorType", "sigillary/digest.errRounds", "sigillary/rounds.errWord", "sigillary/rounds.errBlock", "sigillary/rounds.constants", "sigillary/sigillaryref01.k"], apart := false, laid := [("sigillary/sigillaryref01.k", laid_sigillary_sigillaryref01_k), ("errors.errorType", laid_errors_errorType), ("sigillary/rounds.constants", laid_sigillary_rounds_constants), ("sigillary/rounds.errBlock", laid_sigillary_rounds_errBlock), ("sigillary/rounds.errWord", laid_sigillary_rounds_errWord), ("sigillary/digest.errLength", laid_sigillary_digest_errLength), ("sigillary/digest.errRounds", laid_sigillary_digest_errRounds)] }
def DigestTellsSaid : Prop := digestTellsRow.holds Tryd.pinned (OpenSpec.ofChange digestTellsSpec)

/-- ITS FALSE NEIGHBOUR: 'it returns false'. Refute it at one input. -/
def digestTellsWrong : ChangeSpec := { name := "digestTells", fn := fun _ => fun
  | [d1, d2] => { results := [.lit (.bool false)], args := [d1, d2] }
  | _ => none }
def DigestTellsWrongFalsely : Prop := digestTellsRow.holds Tryd.pinned (OpenSpec.ofChange digestTellsWrong)

/-- 'sigillarylaw02.DigestPlays': WHATEVER THE INPUT: true; the input reads as it did. -/
def digestPlaysSpec : ChangeSpec := { name := "digestPlays", fn := fun _ => fun
  | [d] => { results := [.lit (.bool true)], args := [d] }
  | _ => none }
def digestPlaysRow : OpenClaim := { program := "ytjimpfcgcbbipaadoor", sum := "52e4c16518adfe702812e741fd2d1e4bea9848100646f27e4cd531c8d84aa93e", func := "sigillary/sigillarylaw02.DigestPlays", spec := "digestPlays", inPlace := ["internal/reflectlite.ValueOf", "(internal/reflectlite.Value).Type", "(internal/reflectlite.Value).IsNil", "internal/reflectlite.TypeOf", "(internal/reflectlite.Value).Elem", "(internal/reflectlite.Value).Set"], unfollowed := true, recurses := true, named := ["sigillary/digest.errLength", "errors.errorType", "sigillary/digest.errRounds", "sigillary/rounds.errWord", "sigillary/rounds.errBlock", "sigillary/rounds.constants", "sigillary/sigillaryref01.k"], apart := false, laid := [("sigillary/sigillaryref01.k", laid_sigillary_sigillaryref01_k), ("errors.errorType", laid_errors_errorType), ("sigillary/rounds.constants", laid_sigillary_rounds_constants), ("sigillary/rounds.errBlock", laid_sigillary_rounds_errBlock), ("sigillary/rounds.errWord", laid_sigillary_rounds_errWord), ("sigillary/digest.errLength", laid_sigillary_digest_errLength), ("sigillary/digest.errRounds", laid_sigillary_digest_errRounds)] }
def DigestPlaysSaid : Prop := digestPlaysRow.holds Tryd.pinned (OpenSpec.ofChange digestPlaysSpec)

/-- ITS FALSE NEIGHBOUR: 'it returns false'. Refute it at one input. -/
def digestPlaysWrong : ChangeSpec := { name := "digestPlays", fn := fun _ => fun
  | [d] => { results := [.lit (.bool false)], args := [d] }
  | _ => none }
def DigestPlaysWrongFalsely : Prop := digestPlaysRow.holds Tryd.pinned (OpenSpec.ofChange digestPlaysWrong)

/-- 'sigillarylaw02.DigestPieces': WHATEVER THE INPUT: true; the input reads as it did. -/
def digestPiecesSpec : ChangeSpec := { name := "digestPieces", fn := fun _ => fun
  | [d1, d2] => { results := [.lit (.bool true)], args := [d1, d2] }
  | _ => none }
def digestPiecesRow : OpenClaim := { program := "ytjimpfcgcbbipaadoor", sum := "52e4c16518adfe702812e741fd2d1e4bea9848100646f27e4cd531c8d84aa93e", func := "sigillary/sigillarylaw02.DigestPieces", spec := "digestPieces", inPlace := ["internal/reflectlite.ValueOf", "(internal/reflectlite.Value).Type", "(internal/reflectlite.Value).IsNil", "internal/reflectlite.TypeOf", "(internal/reflectlite.Value).Elem", "(internal/reflectlite.Value).Set"], unfollowed := true, recurses := true, named := ["sigillary/digest.errLength", "errors.errorType", "sigillary/digest.errRounds", "sigillary/rounds.errWord", "sigillary/rounds.errBlock", "sigillary/rounds.constants"], apart := false, laid := [("errors.errorType", laid_errors_errorType), ("sigillary/rounds.constants", laid_sigillary_rounds_constants), ("sigillary/rounds.errBlock", laid_sigillary_rounds_errBlock), ("sigillary/rounds.errWord", laid_sigillary_rounds_errWord), ("sigillary/digest.errLength", laid_sigillary_digest_errLength), ("sigillary/digest.errRounds", laid_sigillary_digest_errRounds)] }
def DigestPiecesSaid : Prop := digestPiecesRow.holds Tryd.pinned (OpenSpec.ofChange digestPiecesSpec)

/-- ITS FALSE NEIGHBOUR: 'it returns false'. Refute it at one input. -/
def digestPiecesWrong : ChangeSpec := { name := "digestPieces", fn := fun _ => fun
  | [d1, d2] => { results := [.lit (.bool false)], args := [d1, d2] }
  | _ => none }
def DigestPiecesWrongFalsely : Prop := digestPiecesRow.holds Tryd.pinned (OpenSpec.ofChange digestPiecesWrong)

/-- 'sigillarylaw02.DigestBlocks': WHATEVER THE INPUT: true; the input reads as it did. -/
def digestBlocksSpec : ChangeSpec := { name := "digestBlocks", fn := fun _ => fun
  | [d] => { results := [.lit (.bool true)], args := [d] }
  | _ => none }
def digestBlocksRow : OpenClaim := { program := "ytjimpfcgcbbipaadoor", sum := "52e4c16518adfe702812e741fd2d1e4bea9848100646f27e4cd531c8d84aa93e", func := "sigillary/sigillarylaw02.DigestBlocks", spec := "digestBlocks", inPlace := ["internal/reflectlite.ValueOf", "(internal/reflectlite.Value).Type", "(internal/reflectlite.Value).IsNil", "internal/reflectlite.TypeOf", "(internal/reflectlite.Value).Elem", "(internal/reflectlite.Value).Set"], unfollowed := true, recurses := true, named := ["sigillary/digest.errLength", "errors.errorType", "sigillary/digest.errRounds", "sigillary/rounds.errWord", "sigillary/rounds.errBlock", "sigillary/rounds.constants"], apart := false, laid := [("errors.errorType", laid_errors_errorType), ("sigillary/rounds.constants", laid_sigillary_rounds_constants), ("sigillary/rounds.errBlock", laid_sigillary_rounds_errBlock), ("sigillary/rounds.errWord", laid_sigillary_rounds_errWord), ("sigillary/digest.errLength", laid_sigillary_digest_errLength), ("sigillary/digest.errRounds", laid_sigillary_digest_errRounds)] }
def DigestBlocksSaid : Prop := digestBlocksRow.holds Tryd.pinned (OpenSpec.ofChange digestBlocksSpec)

/-- ITS FALSE NEIGHBOUR: 'it returns false'. Refute it at one input. -/
def digestBlocksWrong : ChangeSpec := { name := "digestBlocks", fn := fun _ => fun
  | [d] => { results := [.lit (.bool false)], args := [d] }
  | _ => none }
def DigestBlocksWrongFalsely : Prop := digestBlocksRow.holds Tryd.pinned (OpenSpec.ofChange digestBlocksWrong)

/-- 'sigillarylaw02.DigestEnds': WHATEVER THE INPUT: true; the input reads as it did. -/
def digestEndsSpec : ChangeSpec := { name := "digestEnds", fn := fun _ => fun
  | [d1, d2] => { results := [.lit (.bool true)], args := [d1, d2] }
  | _ => none }
def digestEndsRow : OpenClaim := { program := "ytjimpfcgcbbipaadoor", sum := "52e4c16518adfe702812e741fd2d1e4bea9848100646f27e4cd531c8d84aa93e", func := "sigillary/sigillarylaw02.DigestEnds", spec := "digestEnds", inPlace := ["internal/reflectlite.ValueOf", "(internal/reflectlite.Value).Type", "(internal/reflectlite.Value).IsNil", "internal/reflectlite.TypeOf", "(internal/reflectlite.Value).Elem", "(internal/reflectlite.Value).Set"], unfollowed := true, recurses := true, named := ["sigillary/digest.errLength", "errors.errorType", "sigillary/digest.errRounds", "sigillary/rounds.errWord", "sigillary/rounds.errBlock", "sigillary/rounds.constants"], apart := false, laid := [("errors.errorType", laid_errors_errorType), ("sigillary/rounds.constants", laid_sigillary_rounds_constants), ("sigillary/rounds.errBlock", laid_sigillary_rounds_errBlock), ("sigillary/rounds.errWord", laid_sigillary_rounds_errWord), ("sigillary/digest.errLength", laid_sigillary_digest_errLength), ("sigillary/digest.errRounds", laid_sigillary_digest_errRounds)] }
def DigestEndsSaid : Prop := digestEndsRow.holds Tryd.pinned (OpenSpec.ofChange digestEndsSpec)

/-- ITS FALSE NEIGHBOUR: 'it returns false'. Refute it at one input. -/
def digestEndsWrong : ChangeSpec := { name := "digestEnds", fn := fun _ => fun
  | [d1, d2] => { results := [.lit (.bool false)], args := [d1, d2] }
  | _ => none }
def DigestEndsWrongFalsely : Prop := digestEndsRow.holds Tryd.pinned (OpenSpec.ofChange digestEndsWrong)

/-- 'sigillarylaw02.DigestResets': WHATEVER THE INPUT: true; the input reads as it did. -/
def digestResetsSpec : ChangeSpec := { name := "digestResets", fn := fun _ => fun
  | [d1, d2] => { results := [.lit (.bool true)], args := [d1, d2] }
  | _ => none }
def digestResetsRow : OpenClaim := { program := "ytjimpfcgcbbipaadoor", sum := "52e4c16518adfe702812e741fd2d1e4bea9848100646f27e4cd531c8d84aa93e", func := "sigillary/sigillarylaw02.DigestResets", spec := "digestResets", inPlace := ["internal/reflectlite.ValueOf", "(internal/reflectlite.Value).Type", "(internal/reflectlite.Value).IsNil", "internal/reflectlite.TypeOf", "(internal/reflectlite.Value).Elem", "(internal/reflectlite.Value).Set"], unfollowed := true, recurses := true, named := ["sigillary/digest.errLength", "errors.errorType", "sigillary/digest.errRounds", "sigillary/rounds.errWord", "sigillary/rounds.errBlock", "sigillary/rounds.constants"], apart := false, laid := [("errors.errorType", laid_errors_errorType), ("sigillary/rounds.constants", laid_sigillary_rounds_constants), ("sigillary/rounds.errBlock", laid_sigillary_rounds_errBlock), ("sigillary/rounds.errWord", laid_sigillary_rounds_errWord), ("sigillary/digest.errLength", laid_sigillary_digest_errLength), ("sigillary/digest.errRounds", laid_sigillary_digest_errRounds)] }
def DigestResetsSaid : Prop := digestResetsRow.holds Tryd.pinned (OpenSpec.ofChange digestResetsSpec)

/-- ITS FALSE NEIGHBOUR: 'it returns false'. Refute it at one input. -/
def digestResetsWrong : ChangeSpec := { name := "digestResets", fn := fun _ => fun
  | [d1, d2] => { results := [.lit (.bool false)], args := [d1, d2] }
  | _ => none }
def DigestResetsWrongFalsely : Prop := digestResetsRow.holds Tryd.pinned (OpenSpec.ofChange digestResetsWrong)

/-- 'sigillarylaw02.DigestTwo': WHATEVER THE INPUT: true; the input reads as it did. -/
def digestTwoSpec : ChangeSpec := { name := "digestTwo", fn := fun _ => fun
  | [d1, d2, d3, d4] => { results := [.lit (.bool true)], args := [d1, d2, d3, d4] }
  | _ => none }
def digestTwoRow : OpenClaim := { program := "ytjimpfcgcbbipaadoor", sum := "52e4c16518adfe702812e741fd2d1e4bea9848100646f27e4cd531c8d84aa93e", func := "sigillary/sigillarylaw02.DigestTwo", spec := "digestTwo", inPlace := ["internal/reflectlite.ValueOf", "(internal/reflectlite.Value).Type", "(internal/reflectlite.Value).IsNil", "internal/reflectlite.TypeOf", "(internal/reflectlite.Value).Elem", "(internal/reflectlite.Value).Set"], unfollowed := true, recurses := true, named := ["sigillary/digest.errLength", "errors.errorType", "sigillary/digest.errRounds", "sigillary/rounds.errWord", "sigillary/rounds.errBlock", "sigillary/rounds.constants"], apart := false, laid := [("errors.errorType", laid_errors_errorType), ("sigillary/rounds.constants", laid_sigillary_rounds_constants), ("sigillary/rounds.errBlock", laid_sigillary_rounds_errBlock), ("sigillary/rounds.errWord", laid_sigillary_rounds_errWord), ("sigillary/digest.errLength", laid_sigillary_digest_errLength), ("sigillary/digest.errRounds", laid_sigillary_digest_errRounds)] }
def DigestTwoSaid : Prop := digestTwoRow.holds Tryd.pinned (OpenSpec.ofChange digestTwoSpec)

/-- ITS FALSE NEIGHBOUR: 'it returns false'. Refute it at one input. -/
def digestTwoWrong : ChangeSpec := { name := "digestTwo", fn := fun _ => fun
  | [d1, d2, d3, d4] => { results := [.lit (.bool false)], args := [d1, d2, d3, d4] }
  | _ => none }
def DigestTwoWrongFalsely : Prop := digestTwoRow.holds Tryd.pinned (OpenSpec.ofChange digestTwoWrong)

/- THE SECOND FORM. 'bulk': how many values and letters a reading holds, each counted each time it is reached (what is shared counts as often as it is met; a slice's spare places count too). A statement '..UptoSaid' is the law's where the arguments, and the package variables that the reading takes, are together of bulk at most 1048576: NARROWER than '..Said'. Prove '..Said' where nothing that the law and all that it calls make is longer than what came in: it says more and counts as full. Else prove '..UptoSaid'. A law counts once. -/
mutual
def uptoBulk {H : Type} : DataW H → Nat
  | .lit (.string bytes) => bytes.length + 1
  | .lit _ => 1
  | .nil => 1
  | .ptr d => uptoBulk d + 1
  | .slice elems spare => uptoBulkAll elems + uptoBulkAll spare + 1
  | .agg parts => uptoBulkAll parts + 1
  | .iface _ d => uptoBulk d + 1
  | .map entries => uptoBulkEntries entries + 1
  | .held _ => 1
def uptoBulkAll {H : Type} : List (DataW H) → Nat
  | [] => 0
  | d :: r => uptoBulk d + uptoBulkAll r
def uptoBulkEntries {H : Type} : List (Lit × DataW H) → Nat
  | [] => 0
  | x :: r => uptoBulkEntry x + uptoBulkEntries r
def uptoBulkEntry {H : Type} : Lit × DataW H → Nat
  | (.string bytes, d) => bytes.length + uptoBulk d + 1
  | (_, d) => uptoBulk d + 1
 end
def uptoSmall : (H : Type) → List (DataW H) → Bool := fun _ ds => decide (uptoBulkAll ds ≤ 1048576)
def OpenSpec.upto (s : _root_.Go.ChangeSpec) : _root_.Go.OpenSpec := { _root_.Go.OpenSpec.ofChange s with cond := some uptoSmall }

/-- 'sigillarylaw02.DigestTells', WHERE WHAT IT READS IS OF BULK AT MOST 1048576: true; the input reads as it did. -/
def digestTellsUptoRow : OpenClaim := { program := "ytjimpfcgcbbipaadoor", sum := "52e4c16518adfe702812e741fd2d1e4bea9848100646f27e4cd531c8d84aa93e", func := "sigillary/sigillarylaw02.DigestTells", spec := "digestTells", inPlace := ["internal/reflectlite.ValueOf", "(internal/reflectlite.Value).Type", "(internal/reflectlite.Value).IsNil", "internal/reflectlite.TypeOf", "(internal/reflectlite.Value).Elem", "(internal/reflectlite.Value).Set"], unfollowed := true, recurses := true, named := ["sigillary/digest.errLength", "errors.errorType", "sigillary/digest.errRounds", "sigillary/rounds.errWord", "sigillary/rounds.errBlock", "sigillary/rounds.constants", "sigillary/sigillaryref01.k"], apart := false, laid := [("sigillary/sigillaryref01.k", laid_sigillary_sigillaryref01_k), ("errors.errorType", laid_errors_errorType), ("sigillary/rounds.constants", laid_sigillary_rounds_constants), ("sigillary/rounds.errBlock", laid_sigillary_rounds_errBlock), ("sigillary/rounds.errWord", laid_sigillary_rounds_errWord), ("sigillary/digest.errLength", laid_sigillary_digest_errLength), ("sigillary/digest.errRounds", laid_sigillary_digest_errRounds)], narrowed := true }
def DigestTellsUptoSaid : Prop := digestTellsUptoRow.holds Tryd.pinned (OpenSpec.upto digestTellsSpec)

/-- 'sigillarylaw02.DigestPlays', WHERE WHAT IT READS IS OF BULK AT MOST 1048576: true; the input reads as it did. -/
def digestPlaysUptoRow : OpenClaim := { program := "ytjimpfcgcbbipaadoor", sum := "52e4c16518adfe702812e741fd2d1e4bea9848100646f27e4cd531c8d84aa93e", func := "sigillary/sigillarylaw02.DigestPlays", spec := "digestPlays", inPlace := ["internal/reflectlite.ValueOf", "(internal/reflectlite.Value).Type", "(internal/reflectlite.Value).IsNil", "internal/reflectlite.TypeOf", "(internal/reflectlite.Value).Elem", "(internal/reflectlite.Value).Set"], unfollowed := true, recurses := true, named := ["sigillary/digest.errLength", "errors.errorType", "sigillary/digest.errRounds", "sigillary/rounds.errWord", "sigillary/rounds.errBlock", "sigillary/rounds.constants", "sigillary/sigillaryref01.k"], apart := false, laid := [("sigillary/sigillaryref01.k", laid_sigillary_sigillaryref01_k), ("errors.errorType", laid_errors_errorType), ("sigillary/rounds.constants", laid_sigillary_rounds_constants), ("sigillary/rounds.errBlock", laid_sigillary_rounds_errBlock), ("sigillary/rounds.errWord", laid_sigillary_rounds_errWord), ("sigillary/digest.errLength", laid_sigillary_digest_errLength), ("sigillary/digest.errRounds", laid_sigillary_digest_errRounds)], narrowed := true }
def DigestPlaysUptoSaid : Prop := digestPlaysUptoRow.holds Tryd.pinned (OpenSpec.upto digestPlaysSpec)

/-- 'sigillarylaw02.DigestPieces', WHERE WHAT IT READS IS OF BULK AT MOST 1048576: true; the input reads as it did. -/
def digestPiecesUptoRow : OpenClaim := { program := "ytjimpfcgcbbipaadoor", sum := "52e4c16518adfe702812e741fd2d1e4bea9848100646f27e4cd531c8d84aa93e", func := "sigillary/sigillarylaw02.DigestPieces", spec := "digestPieces", inPlace := ["internal/reflectlite.ValueOf", "(internal/reflectlite.Value).Type", "(internal/reflectlite.Value).IsNil", "internal/reflectlite.TypeOf", "(internal/reflectlite.Value).Elem", "(internal/reflectlite.Value).Set"], unfollowed := true, recurses := true, named := ["sigillary/digest.errLength", "errors.errorType", "sigillary/digest.errRounds", "sigillary/rounds.errWord", "sigillary/rounds.errBlock", "sigillary/rounds.constants"], apart := false, laid := [("errors.errorType", laid_errors_errorType), ("sigillary/rounds.constants", laid_sigillary_rounds_constants), ("sigillary/rounds.errBlock", laid_sigillary_rounds_errBlock), ("sigillary/rounds.errWord", laid_sigillary_rounds_errWord), ("sigillary/digest.errLength", laid_sigillary_digest_errLength), ("sigillary/digest.errRounds", laid_sigillary_digest_errRounds)], narrowed := true }
def DigestPiecesUptoSaid : Prop := digestPiecesUptoRow.holds Tryd.pinned (OpenSpec.upto digestPiecesSpec)

/-- 'sigillarylaw02.DigestBlocks', WHERE WHAT IT READS IS OF BULK AT MOST 1048576: true; the input reads as it did. -/
def digestBlocksUptoRow : OpenClaim := { program := "ytjimpfcgcbbipaadoor", sum := "52e4c16518adfe702812e741fd2d1e4bea9848100646f27e4cd531c8d84aa93e", func := "sigillary/sigillarylaw02.DigestBlocks", spec := "digestBlocks", inPlace := ["internal/reflectlite.ValueOf", "(internal/reflectlite.Value).Type", "(internal/reflectlite.Value).IsNil", "internal/reflectlite.TypeOf", "(internal/reflectlite.Value).Elem", "(internal/reflectlite.Value).Set"], unfollowed := true, recurses := true, named := ["sigillary/digest.errLength", "errors.errorType", "sigillary/digest.errRounds", "sigillary/rounds.errWord", "sigillary/rounds.errBlock", "sigillary/rounds.constants"], apart := false, laid := [("errors.errorType", laid_errors_errorType), ("sigillary/rounds.constants", laid_sigillary_rounds_constants), ("sigillary/rounds.errBlock", laid_sigillary_rounds_errBlock), ("sigillary/rounds.errWord", laid_sigillary_rounds_errWord), ("sigillary/digest.errLength", laid_sigillary_digest_errLength), ("sigillary/digest.errRounds", laid_sigillary_digest_errRounds)], narrowed := true }
def DigestBlocksUptoSaid : Prop := digestBlocksUptoRow.holds Tryd.pinned (OpenSpec.upto digestBlocksSpec)

/-- 'sigillarylaw02.DigestEnds', WHERE WHAT IT READS IS OF BULK AT MOST 1048576: true; the input reads as it did. -/
def digestEndsUptoRow : OpenClaim := { program := "ytjimpfcgcbbipaadoor", sum := "52e4c16518adfe702812e741fd2d1e4bea9848100646f27e4cd531c8d84aa93e", func := "sigillary/sigillarylaw02.DigestEnds", spec := "digestEnds", inPlace := ["internal/reflectlite.ValueOf", "(internal/reflectlite.Value).Type", "(internal/reflectlite.Value).IsNil", "internal/reflectlite.TypeOf", "(internal/reflectlite.Value).Elem", "(internal/reflectlite.Value).Set"], unfollowed := true, recurses := true, named := ["sigillary/digest.errLength", "errors.errorType", "sigillary/digest.errRounds", "sigillary/rounds.errWord", "sigillary/rounds.errBlock", "sigillary/rounds.constants"], apart := false, laid := [("errors.errorType", laid_errors_errorType), ("sigillary/rounds.constants", laid_sigillary_rounds_constants), ("sigillary/rounds.errBlock", laid_sigillary_rounds_errBlock), ("sigillary/rounds.errWord", laid_sigillary_rounds_errWord), ("sigillary/digest.errLength", laid_sigillary_digest_errLength), ("sigillary/digest.errRounds", laid_sigillary_digest_errRounds)], narrowed := true }
def DigestEndsUptoSaid : Prop := digestEndsUptoRow.holds Tryd.pinned (OpenSpec.upto digestEndsSpec)

/-- 'sigillarylaw02.DigestResets', WHERE WHAT IT READS IS OF BULK AT MOST 1048576: true; the input reads as it did. -/
def digestResetsUptoRow : OpenClaim := { program := "ytjimpfcgcbbipaadoor", sum := "52e4c16518adfe702812e741fd2d1e4bea9848100646f27e4cd531c8d84aa93e", func := "sigillary/sigillarylaw02.DigestResets", spec := "digestResets", inPlace := ["internal/reflectlite.ValueOf", "(internal/reflectlite.Value).Type", "(internal/reflectlite.Value).IsNil", "internal/reflectlite.TypeOf", "(internal/reflectlite.Value).Elem", "(internal/reflectlite.Value).Set"], unfollowed := true, recurses := true, named := ["sigillary/digest.errLength", "errors.errorType", "sigillary/digest.errRounds", "sigillary/rounds.errWord", "sigillary/rounds.errBlock", "sigillary/rounds.constants"], apart := false, laid := [("errors.errorType", laid_errors_errorType), ("sigillary/rounds.constants", laid_sigillary_rounds_constants), ("sigillary/rounds.errBlock", laid_sigillary_rounds_errBlock), ("sigillary/rounds.errWord", laid_sigillary_rounds_errWord), ("sigillary/digest.errLength", laid_sigillary_digest_errLength), ("sigillary/digest.errRounds", laid_sigillary_digest_errRounds)], narrowed := true }
def DigestResetsUptoSaid : Prop := digestResetsUptoRow.holds Tryd.pinned (OpenSpec.upto digestResetsSpec)

/-- 'sigillarylaw02.DigestTwo', WHERE WHAT IT READS IS OF BULK AT MOST 1048576: true; the input reads as it did. -/
def digestTwoUptoRow : OpenClaim := { program := "ytjimpfcgcbbipaadoor", sum := "52e4c16518adfe702812e741fd2d1e4bea9848100646f27e4cd531c8d84aa93e", func := "sigillary/sigillarylaw02.DigestTwo", spec := "digestTwo", inPlace := ["internal/reflectlite.ValueOf", "(internal/reflectlite.Value).Type", "(internal/reflectlite.Value).IsNil", "internal/reflectlite.TypeOf", "(internal/reflectlite.Value).Elem", "(internal/reflectlite.Value).Set"], unfollowed := true, recurses := true, named := ["sigillary/digest.errLength", "errors.errorType", "sigillary/digest.errRounds", "sigillary/rounds.errWord", "sigillary/rounds.errBlock", "sigillary/rounds.constants"], apart := false, laid := [("errors.errorType", laid_errors_errorType), ("sigillary/rounds.constants", laid_sigillary_rounds_constants), ("sigillary/rounds.errBlock", laid_sigillary_rounds_errBlock), ("sigillary/rounds.errWord", laid_sigillary_rounds_errWord), ("sigillary/digest.errLength", laid_sigillary_digest_errLength), ("sigillary/digest.errRounds", laid_sigillary_digest_errRounds)], narrowed := true }
def DigestTwoUptoSaid : Prop := digestTwoUptoRow.holds Tryd.pinned (OpenSpec.upto digestTwoSpec)

end Rows
end Go.Proofs.YtjimpfcgcbbipaaDoor
