/-
  NARROWER THAN 'FOR EVERY INPUT', by the rows' own cells (each row's printed sentence says how): ValBack: laid · ValWritten: laid · ValOrder: laid · ValFits: laid · ValRefs: laid · ValCut: laid · ValKinds: laid.
  DERIVED. THE GIVEN ROWS OF THIS SEAT. 7 by the template 'for every input the law returns true; each argument reads behind the call as it read before'; 0 by the template 'total and deterministic' (their statements: YtbmfclankoblfaaDoorTotals.lean).
  GIVEN WITH THE SEED: the statements are not yours to turn. If you find one false, say at which input.
  Laid BY PROGRAM, IN A SANDBOX (cutbox-rows.mjs): the forced cells as the released guide's own fill.sh prints them over the translation 4ccbe641d565f176… (all of the seat's roots in one cut). By AI agents, Wed Nov 11 2026. No macro, syntax, notation, axiom, sorry.
-/
import Derived.Test.YtbmfclankoblfaaDoorChecked
import GoSem.PinnedTables
import GoSem.Claim
import GoSem.ClaimJoined
import GoSem.ClaimMapViews
import Derived.JoinedTies
import Derived.KernelRfl
namespace Go.Proofs.YtbmfclankoblfaaDoor
/- THE CELL 'sum', in the pinned program and in every row, IS THE sha256 OF THE DUMP (.gsa) THAT YtbmfclankoblfaaDoorProg.lean LOADS. Nothing in Lean hashes anything: it is a label: what it is worth is what the hold of that sum in a sandbox is worth. -/
noncomputable def Tryd.pinned : Pinned := { name := "ytbmfclankoblfaadoor", sum := "4ccbe641d565f1767e021245fad557f76dd7131aad7127d1b58742157c4b364a", checked := Tryd.checked }
namespace Rows
def none {H : Type} : Left H := { results := [], args := [] }

/- WHAT THE LISTED PACKAGE-LEVEL VARIABLES READ AS WHEN THE CALL BEGINS. Each datum BY PROGRAM (the guide's laid-datum.mjs) off the statement by which the dump's own 'gosem.cut.vars' lays the variable. In a bare row this is a premise. The card (YtbmfclankoblfaaDoorCards.lean) ties it to the program's text. -/
def laid_unicode_utf8_acceptRanges {H : Type} : DataW H := .agg [.agg [.lit (.int .u8 128), .lit (.int .u8 191)], .agg [.lit (.int .u8 160), .lit (.int .u8 191)], .agg [.lit (.int .u8 128), .lit (.int .u8 159)], .agg [.lit (.int .u8 144), .lit (.int .u8 191)], .agg [.lit (.int .u8 128), .lit (.int .u8 143)], .agg [.lit (.int .u8 0), .lit (.int .u8 0)], .agg [.lit (.int .u8 0), .lit (.int .u8 0)], .agg [.lit (.int .u8 0), .lit (.int .u8 0)], .agg [.lit (.int .u8 0), .lit (.int .u8 0)], .agg [.lit (.int .u8 0), .lit (.int .u8 0)], .agg [.lit (.int .u8 0), .lit (.int .u8 0)], .agg [.lit (.int .u8 0), .lit (.int .u8 0)], .agg [.lit (.int .u8 0), .lit (.int .u8 0)], .agg [.lit (.int .u8 0), .lit (.int .u8 0)], .agg [.lit (.int .u8 0), .lit (.int .u8 0)], .agg [.lit (.int .u8 0), .lit (.int .u8 0)]]
def laid_moraine_wire_errNone {H : Type} : DataW H := .iface "*errors.errorString" (.ptr (.agg [.lit (.string [110, 111, 116, 104, 105, 110, 103, 32, 119, 97, 115, 32, 108, 97, 105, 100, 32, 104, 101, 114, 101])]))
/-- One of Go's own tables, pinned by name: the form's constant. -/
def laid_unicode_utf8_first : DataW Unit := Go.Pinned.utf8First
def laid_math_bits_deBruijn32tab {H : Type} : DataW H := .agg [.lit (.int .u8 0), .lit (.int .u8 1), .lit (.int .u8 28), .lit (.int .u8 2), .lit (.int .u8 29), .lit (.int .u8 14), .lit (.int .u8 24), .lit (.int .u8 3), .lit (.int .u8 30), .lit (.int .u8 22), .lit (.int .u8 20), .lit (.int .u8 15), .lit (.int .u8 25), .lit (.int .u8 17), .lit (.int .u8 4), .lit (.int .u8 8), .lit (.int .u8 31), .lit (.int .u8 27), .lit (.int .u8 13), .lit (.int .u8 23), .lit (.int .u8 21), .lit (.int .u8 19), .lit (.int .u8 16), .lit (.int .u8 7), .lit (.int .u8 26), .lit (.int .u8 12), .lit (.int .u8 18), .lit (.int .u8 6), .lit (.int .u8 11), .lit (.int .u8 5), .lit (.int .u8 10), .lit (.int .u8 9)]
def laid_math_bits_deBruijn64tab {H : Type} : DataW H := .agg [.lit (.int .u8 0), .lit (.int .u8 1), .lit (.int .u8 56), .lit (.int .u8 2), .lit (.int .u8 57), .lit (.int .u8 49), .lit (.int .u8 28), .lit (.int .u8 3), .lit (.int .u8 61), .lit (.int .u8 58), .lit (.int .u8 42), .lit (.int .u8 50), .lit (.int .u8 38), .lit (.int .u8 29), .lit (.int .u8 17), .lit (.int .u8 4), .lit (.int .u8 62), .lit (.int .u8 47), .lit (.int .u8 59), .lit (.int .u8 36), .lit (.int .u8 45), .lit (.int .u8 43), .lit (.int .u8 51), .lit (.int .u8 22), .lit (.int .u8 53), .lit (.int .u8 39), .lit (.int .u8 33), .lit (.int .u8 30), .lit (.int .u8 24), .lit (.int .u8 18), .lit (.int .u8 12), .lit (.int .u8 5), .lit (.int .u8 63), .lit (.int .u8 55), .lit (.int .u8 48), .lit (.int .u8 27), .lit (.int .u8 60), .lit (.int .u8 41), .lit (.int .u8 37), .lit (.int .u8 16), .lit (.int .u8 46), .lit (.int .u8 35), .lit (.int .u8 44), .lit (.int .u8 21), .lit (.int .u8 52), .lit (.int .u8 32), .lit (.int .u8 23), .lit (.int .u8 11), .lit (.int .u8 54), .lit (.int .u8 26), .lit (.int .u8 40), .lit (.int .u8 15), .lit (.int .u8 34), .lit (.int .u8 20), .lit (.int .u8 31), .lit (.int .u8 10), .lit (.int .u8 25), .lit (.int .u8 14), .lit (.int .u8 19), .lit (.int .u8 9), .lit (.int .u8 13), .lit (.int .u8 8), .lit (.int .u8 7), .lit (.int .u8 6)]
def laid_internal_strconv_uint64pow10 {H : Type} : DataW H := .agg [.lit (.int .u64 1), .lit (.int .u64 10), .lit (.int .u64 100), .lit (.int .u64 1000), .lit (.int .u64 10000), .lit (.int .u64 100000), .lit (.int .u64 1000000), .lit (.int .u64 10000000), .lit (.int .u64 100000000), .lit (.int .u64 1000000000), .lit (.int .u64 10000000000), .lit (.int .u64 100000000000), .lit (.int .u64 1000000000000), .lit (.int .u64 10000000000000), .lit (.int .u64 100000000000000), .lit (.int .u64 1000000000000000), .lit (.int .u64 10000000000000000), .lit (.int .u64 100000000000000000), .lit (.int .u64 1000000000000000000), .lit (.int .u64 10000000000000000000)]

/-- 'morainelaw03.ValBack': WHATEVER THE INPUT: true; the input reads as it did. -/
def valBackSpec : ChangeSpec := { name := "valBack", fn := fun _ => fun
  | [d1, d2, d3, d4] => { results := [.lit (.bool true)], args := [d1, d2, d3, d4] }
  | _ => none }
def valBackRow : OpenClaim := { program := "ytbmfclankoblfaadoor", sum := "4ccbe641d565f1767e021245fad557f76dd7131aad7127d1b58742157c4b364a", func := "moraine/morainelaw03.ValBack", spec := "valBack", inPlace := ["internal/abi.NoEscape", "internal/reflectlite.TypeOf"], unfollowed := true, recurses := true, named := ["unicode/utf8.first", "unicode/utf8.acceptRanges", "moraine/wire.errNone"], apart := false, laid := [("unicode/utf8.acceptRanges", laid_unicode_utf8_acceptRanges), ("moraine/wire.errNone", laid_moraine_wire_errNone), ("unicode/utf8.first", laid_unicode_utf8_first)] }
def ValBackSaid : Prop := valBackRow.holds Tryd.pinned (OpenSpec.ofChange valBackSpec)

/-- ITS FALSE NEIGHBOUR: 'it returns false'. Refute it at one input. -/
def valBackWrong : ChangeSpec := { name := "valBack", fn := fun _ => fun
  | [d1, d2, d3, d4] => { results := [.lit (.bool false)], args := [d1, d2, d3, d4] }
  | _ => none }
def ValBackWrongFalsely : Prop := valBackRow.holds Tryd.pinned (OpenSpec.ofChange valBackWrong)

/-- 'morainelaw03.ValWritten': WHATEVER THE INPUT: true; the input reads as it did. -/
def valWrittenSpec : ChangeSpec := { name := "valWritten", fn := fun _ => fun
  | [d1, d2, d3, d4] => { results := [.lit (.bool true)], args := [d1, d2, d3, d4] }
  | _ => none }
def valWrittenRow : OpenClaim := { program := "ytbmfclankoblfaadoor", sum := "4ccbe641d565f1767e021245fad557f76dd7131aad7127d1b58742157c4b364a", func := "moraine/morainelaw03.ValWritten", spec := "valWritten", inPlace := ["internal/abi.NoEscape", "internal/reflectlite.TypeOf", "internal/bytealg.MakeNoZero"], unfollowed := true, recurses := true, named := ["unicode/utf8.first", "unicode/utf8.acceptRanges", "moraine/wire.errNone", "internal/strconv.uint64pow10", "math/bits.deBruijn32tab", "math/bits.deBruijn64tab"], apart := false, laid := [("math/bits.deBruijn32tab", laid_math_bits_deBruijn32tab), ("math/bits.deBruijn64tab", laid_math_bits_deBruijn64tab), ("internal/strconv.uint64pow10", laid_internal_strconv_uint64pow10), ("unicode/utf8.acceptRanges", laid_unicode_utf8_acceptRanges), ("moraine/wire.errNone", laid_moraine_wire_errNone), ("unicode/utf8.first", laid_unicode_utf8_first)] }
def ValWrittenSaid : Prop := valWrittenRow.holds Tryd.pinned (OpenSpec.ofChange valWrittenSpec)

/-- ITS FALSE NEIGHBOUR: 'it returns false'. Refute it at one input. -/
def valWrittenWrong : ChangeSpec := { name := "valWritten", fn := fun _ => fun
  | [d1, d2, d3, d4] => { results := [.lit (.bool false)], args := [d1, d2, d3, d4] }
  | _ => none }
def ValWrittenWrongFalsely : Prop := valWrittenRow.holds Tryd.pinned (OpenSpec.ofChange valWrittenWrong)

/-- 'morainelaw03.ValOrder': WHATEVER THE INPUT: true; the input reads as it did. -/
def valOrderSpec : ChangeSpec := { name := "valOrder", fn := fun _ => fun
  | [d1, d2, d3, d4, d5, d6] => { results := [.lit (.bool true)], args := [d1, d2, d3, d4, d5, d6] }
  | _ => none }
def valOrderRow : OpenClaim := { program := "ytbmfclankoblfaadoor", sum := "4ccbe641d565f1767e021245fad557f76dd7131aad7127d1b58742157c4b364a", func := "moraine/morainelaw03.ValOrder", spec := "valOrder", inPlace := ["internal/abi.NoEscape", "internal/reflectlite.TypeOf"], unfollowed := true, recurses := true, named := ["unicode/utf8.first", "unicode/utf8.acceptRanges", "moraine/wire.errNone"], apart := false, laid := [("unicode/utf8.acceptRanges", laid_unicode_utf8_acceptRanges), ("moraine/wire.errNone", laid_moraine_wire_errNone), ("unicode/utf8.first", laid_unicode_utf8_first)] }
def ValOrderSaid : Prop := valOrderRow.holds Tryd.pinned (OpenSpec.ofChange valOrderSpec)

/-- ITS FALSE NEIGHBOUR: 'it returns false'. Refute it at one input. -/
def valOrderWrong : ChangeSpec := { name := "valOrder", fn := fun _ => fun
  | [d1, d2, d3, d4, d5, d6] => { results := [.lit (.bool false)], args := [d1, d2, d3, d4, d5, d6] }
  | _ => none }
def ValOrderWrongFalsely : Prop := valOrderRow.holds Tryd.pinned (OpenSpec.ofChange valOrderWrong)

/-- 'morainelaw03.ValFits': WHATEVER THE INPUT: true; the input reads as it did. -/
def valFitsSpec : ChangeSpec := { name := "valFits", fn := fun _ => fun
  | [d1, d2, d3, d4, d5] => { results := [.lit (.bool true)], args := [d1, d2, d3, d4, d5] }
  | _ => none }
def valFitsRow : OpenClaim := { program := "ytbmfclankoblfaadoor", sum := "4ccbe641d565f1767e021245fad557f76dd7131aad7127d1b58742157c4b364a", func := "moraine/morainelaw03.ValFits", spec := "valFits", inPlace := ["internal/abi.NoEscape", "internal/reflectlite.TypeOf"], unfollowed := true, recurses := true, named := ["unicode/utf8.first", "unicode/utf8.acceptRanges", "moraine/wire.errNone"], apart := false, laid := [("unicode/utf8.acceptRanges", laid_unicode_utf8_acceptRanges), ("moraine/wire.errNone", laid_moraine_wire_errNone), ("unicode/utf8.first", laid_unicode_utf8_first)] }
def ValFitsSaid : Prop := valFitsRow.holds Tryd.pinned (OpenSpec.ofChange valFitsSpec)

/-- ITS FALSE NEIGHBOUR: 'it returns false'. Refute it at one input. -/
def valFitsWrong : ChangeSpec := { name := "valFits", fn := fun _ => fun
  | [d1, d2, d3, d4, d5] => { results := [.lit (.bool false)], args := [d1, d2, d3, d4, d5] }
  | _ => none }
def ValFitsWrongFalsely : Prop := valFitsRow.holds Tryd.pinned (OpenSpec.ofChange valFitsWrong)

/-- 'morainelaw03.ValRefs': WHATEVER THE INPUT: true; the input reads as it did. -/
def valRefsSpec : ChangeSpec := { name := "valRefs", fn := fun _ => fun
  | [d] => { results := [.lit (.bool true)], args := [d] }
  | _ => none }
def valRefsRow : OpenClaim := { program := "ytbmfclankoblfaadoor", sum := "4ccbe641d565f1767e021245fad557f76dd7131aad7127d1b58742157c4b364a", func := "moraine/morainelaw03.ValRefs", spec := "valRefs", inPlace := ["internal/abi.NoEscape", "internal/reflectlite.TypeOf", "internal/bytealg.MakeNoZero"], unfollowed := true, recurses := true, named := ["unicode/utf8.first", "unicode/utf8.acceptRanges", "moraine/wire.errNone", "internal/strconv.uint64pow10", "math/bits.deBruijn32tab", "math/bits.deBruijn64tab"], apart := false, laid := [("math/bits.deBruijn32tab", laid_math_bits_deBruijn32tab), ("math/bits.deBruijn64tab", laid_math_bits_deBruijn64tab), ("internal/strconv.uint64pow10", laid_internal_strconv_uint64pow10), ("unicode/utf8.acceptRanges", laid_unicode_utf8_acceptRanges), ("moraine/wire.errNone", laid_moraine_wire_errNone), ("unicode/utf8.first", laid_unicode_utf8_first)] }
def ValRefsSaid : Prop := valRefsRow.holds Tryd.pinned (OpenSpec.ofChange valRefsSpec)

/-- ITS FALSE NEIGHBOUR: 'it returns false'. Refute it at one input. -/
def valRefsWrong : ChangeSpec := { name := "valRefs", fn := fun _ => fun
  | [d] => { results := [.lit (.bool false)], args := [d] }
  | _ => none }
def ValRefsWrongFalsely : Prop := valRefsRow.holds Tryd.pinned (OpenSpec.ofChange valRefsWrong)

/-- 'morainelaw03.ValCut': WHATEVER THE INPUT: true; the input reads as it did. -/
def valCutSpec : ChangeSpec := { name := "valCut", fn := fun _ => fun
  | [d1, d2] => { results := [.lit (.bool true)], args := [d1, d2] }
  | _ => none }
def valCutRow : OpenClaim := { program := "ytbmfclankoblfaadoor", sum := "4ccbe641d565f1767e021245fad557f76dd7131aad7127d1b58742157c4b364a", func := "moraine/morainelaw03.ValCut", spec := "valCut", inPlace := ["internal/abi.NoEscape", "internal/reflectlite.TypeOf"], unfollowed := true, recurses := true, named := ["unicode/utf8.first", "unicode/utf8.acceptRanges", "moraine/wire.errNone"], apart := false, laid := [("unicode/utf8.acceptRanges", laid_unicode_utf8_acceptRanges), ("moraine/wire.errNone", laid_moraine_wire_errNone), ("unicode/utf8.first", laid_unicode_utf8_first)] }
def ValCutSaid : Prop := valCutRow.holds Tryd.pinned (OpenSpec.ofChange valCutSpec)

/-- ITS FALSE NEIGHBOUR: 'it returns false'. Refute it at one input. -/
def valCutWrong : ChangeSpec := { name := "valCut", fn := fun _ => fun
  | [d1, d2] => { results := [.lit (.bool false)], args := [d1, d2] }
  | _ => none }
def ValCutWrongFalsely : Prop := valCutRow.holds Tryd.pinned (OpenSpec.ofChange valCutWrong)

/-- 'morainelaw03.ValKinds': WHATEVER THE INPUT: true; the input reads as it did. -/
def valKindsSpec : ChangeSpec := { name := "valKinds", fn := fun _ => fun
  | [d] => { results := [.lit (.bool true)], args := [d] }
  | _ => none }
def valKindsRow : OpenClaim := { program := "ytbmfclankoblfaadoor", sum := "4ccbe641d565f1767e021245fad557f76dd7131aad7127d1b58742157c4b364a", func := "moraine/morainelaw03.ValKinds", spec := "valKinds", inPlace := ["internal/abi.NoEscape", "internal/reflectlite.TypeOf"], unfollowed := true, recurses := true, named := ["unicode/utf8.first", "unicode/utf8.acceptRanges", "moraine/wire.errNone"], apart := false, laid := [("unicode/utf8.acceptRanges", laid_unicode_utf8_acceptRanges), ("moraine/wire.errNone", laid_moraine_wire_errNone), ("unicode/utf8.first", laid_unicode_utf8_first)] }
def ValKindsSaid : Prop := valKindsRow.holds Tryd.pinned (OpenSpec.ofChange valKindsSpec)

/-- ITS FALSE NEIGHBOUR: 'it returns false'. Refute it at one input. -/
def valKindsWrong : ChangeSpec := { name := "valKinds", fn := fun _ => fun
  | [d] => { results := [.lit (.bool false)], args := [d] }
  | _ => none }
def ValKindsWrongFalsely : Prop := valKindsRow.holds Tryd.pinned (OpenSpec.ofChange valKindsWrong)

/- THE SECOND FORM. 'bulk': how many values and letters a reading holds, each counted each time it is reached (what is shared counts as often as it is met; a slice's spare places count too). A statement '..UptoSaid' is the law's where the arguments, and the package variables that the reading takes, are together of bulk at most 1048576: NARROWER than '..Said'. Prove '..Said' where nothing that the law and all that it calls make is longer than what came in: it says more and counts as full. Else prove '..UptoSaid'. A law counts once. -/
mutual
def uptoBulk {H : Type} : DataW H → Nat
  | .lit (.string bytes) => bytes.length + 1
  | .lit _ => 1
  | .nil => 1
  | .ptr d => uptoBulk d + 1
  | .slice elems spare => uptoBulkAll elems + uptoBulkAll spare + 1
  | .agg parts => uptoBulkAll parts + 1
  | .iface _ d => uptoBulk d + 1
  | .map entries => uptoBulkEntries entries + 1
  | .held _ => 1
def uptoBulkAll {H : Type} : List (DataW H) → Nat
  | [] => 0
  | d :: r => uptoBulk d + uptoBulkAll r
def uptoBulkEntries {H : Type} : List (Lit × DataW H) → Nat
  | [] => 0
  | x :: r => uptoBulkEntry x + uptoBulkEntries r
def uptoBulkEntry {H : Type} : Lit × DataW H → Nat
  | (.string bytes, d) => bytes.length + uptoBulk d + 1
  | (_, d) => uptoBulk d + 1
 end
def uptoSmall : (H : Type) → List (DataW H) → Bool := fun _ ds => decide (uptoBulkAll ds ≤ 1048576)
def OpenSpec.upto (s : _root_.Go.ChangeSpec) : _root_.Go.OpenSpec := { _root_.Go.OpenSpec.ofChange s with cond := some uptoSmall }

/-- 'morainelaw03.ValBack', WHERE WHAT IT READS IS OF BULK AT MOST 1048576: true; the input reads as it did. -/
def valBackUptoRow : OpenClaim := { program := "ytbmfclankoblfaadoor", sum := "4ccbe641d565f1767e021245fad557f76dd7131aad7127d1b58742157c4b364a", func := "moraine/morainelaw03.ValBack", spec := "valBack", inPlace := ["internal/abi.NoEscape", "internal/reflectlite.TypeOf"], unfollowed := true, recurses := true, named := ["unicode/utf8.first", "unicode/utf8.acceptRanges", "moraine/wire.errNone"], apart := false, laid := [("unicode/utf8.acceptRanges", laid_unicode_utf8_acceptRanges), ("moraine/wire.errNone", laid_moraine_wire_errNone), ("unicode/utf8.first", laid_unicode_utf8_first)], narrowed := true }
def ValBackUptoSaid : Prop := valBackUptoRow.holds Tryd.pinned (OpenSpec.upto valBackSpec)

/-- 'morainelaw03.ValWritten', WHERE WHAT IT READS IS OF BULK AT MOST 1048576: true; the input reads as it did. -/
def valWrittenUptoRow : OpenClaim := { program := "ytbmfclankoblfaadoor", sum := "4ccbe641d565f1767e021245fad557f76dd7131aad7127d1b58742157c4b364a", func := "moraine/morainelaw03.ValWritten", spec := "valWritten", inPlace := ["internal/abi.NoEscape", "internal/reflectlite.TypeOf", "internal/bytealg.MakeNoZero"], unfollowed := true, recurses := true, named := ["unicode/utf8.first", "unicode/utf8.acceptRanges", "moraine/wire.errNone", "internal/strconv.uint64pow10", "math/bits.deBruijn32tab", "math/bits.deBruijn64tab"], apart := false, laid := [("math/bits.deBruijn32tab", laid_math_bits_deBruijn32tab), ("math/bits.deBruijn64tab", laid_math_bits_deBruijn64tab), ("internal/strconv.uint64pow10", laid_internal_strconv_uint64pow10), ("unicode/utf8.acceptRanges", laid_unicode_utf8_acceptRanges), ("moraine/wire.errNone", laid_moraine_wire_errNone), ("unicode/utf8.first", laid_unicode_utf8_first)], narrowed := true }
def ValWrittenUptoSaid : Prop := valWrittenUptoRow.holds Tryd.pinned (OpenSpec.upto valWrittenSpec)

/-- 'morainelaw03.ValOrder', WHERE WHAT IT READS IS OF BULK AT MOST 1048576: true; the input reads as it did. -/
def valOrderUptoRow : OpenClaim := { program := "ytbmfclankoblfaadoor", sum := "4ccbe641d565f1767e021245fad557f76dd7131aad7127d1b58742157c4b364a", func := "moraine/morainelaw03.ValOrder", spec := "valOrder", inPlace := ["internal/abi.NoEscape", "internal/reflectlite.TypeOf"], unfollowed := true, recurses := true, named := ["unicode/utf8.first", "unicode/utf8.acceptRanges", "moraine/wire.errNone"], apart := false, laid := [("unicode/utf8.acceptRanges", laid_unicode_utf8_acceptRanges), ("moraine/wire.errNone", laid_moraine_wire_errNone), ("unicode/utf8.first", laid_unicode_utf8_first)], narrowed := true }
def ValOrderUptoSaid : Prop := valOrderUptoRow.holds Tryd.pinned (OpenSpec.upto valOrderSpec)

/-- 'morainelaw03.ValFits', WHERE WHAT IT READS IS OF BULK AT MOST 1048576: true; the input reads as it did. -/
def valFitsUptoRow : OpenClaim := { program := "ytbmfclankoblfaadoor", sum := "4ccbe641d565f1767e021245fad557f76dd7131aad7127d1b58742157c4b364a", func := "moraine/morainelaw03.ValFits", spec := "valFits", inPlace := ["internal/abi.NoEscape", "internal/reflectlite.TypeOf"], unfollowed := true, recurses := true, named := ["unicode/utf8.first", "unicode/utf8.acceptRanges", "moraine/wire.errNone"], apart := false, laid := [("unicode/utf8.acceptRanges", laid_unicode_utf8_acceptRanges), ("moraine/wire.errNone", laid_moraine_wire_errNone), ("unicode/utf8.first", laid_unicode_utf8_first)], narrowed := true }
def ValFitsUptoSaid : Prop := valFitsUptoRow.holds Tryd.pinned (OpenSpec.upto valFitsSpec)

/-- 'morainelaw03.ValRefs', WHERE WHAT IT READS IS OF BULK AT MOST 1048576: true; the input reads as it did. -/
def valRefsUptoRow : OpenClaim := { program := "ytbmfclankoblfaadoor", sum := "4ccbe641d565f1767e021245fad557f76dd7131aad7127d1b58742157c4b364a", func := "moraine/morainelaw03.ValRefs", spec := "valRefs", inPlace := ["internal/abi.NoEscape", "internal/reflectlite.TypeOf", "internal/bytealg.MakeNoZero"], unfollowed := true, recurses := true, named := ["unicode/utf8.first", "unicode/utf8.acceptRanges", "moraine/wire.errNone", "internal/strconv.uint64pow10", "math/bits.deBruijn32tab", "math/bits.deBruijn64tab"], apart := false, laid := [("math/bits.deBruijn32tab", laid_math_bits_deBruijn32tab), ("math/bits.deBruijn64tab", laid_math_bits_deBruijn64tab), ("internal/strconv.uint64pow10", laid_internal_strconv_uint64pow10), ("unicode/utf8.acceptRanges", laid_unicode_utf8_acceptRanges), ("moraine/wire.errNone", laid_moraine_wire_errNone), ("unicode/utf8.first", laid_unicode_utf8_first)], narrowed := true }
def ValRefsUptoSaid : Prop := valRefsUptoRow.holds Tryd.pinned (OpenSpec.upto valRefsSpec)

/-- 'morainelaw03.ValCut', WHERE WHAT IT READS IS OF BULK AT MOST 1048576: true; the input reads as it did. -/
def valCutUptoRow : OpenClaim := { program := "ytbmfclankoblfaadoor", sum := "4ccbe641d565f1767e021245fad557f76dd7131aad7127d1b58742157c4b364a", func := "moraine/morainelaw03.ValCut", spec := "valCut", inPlace := ["internal/abi.NoEscape", "internal/reflectlite.TypeOf"], unfollowed := true, recurses := true, named := ["unicode/utf8.first", "unicode/utf8.acceptRanges", "moraine/wire.errNone"], apart := false, laid := [("unicode/utf8.acceptRanges", laid_unicode_utf8_acceptRanges), ("moraine/wire.errNone", laid_moraine_wire_errNone), ("unicode/utf8.first", laid_unicode_utf8_first)], narrowed := true }
def ValCutUptoSaid : Prop := valCutUptoRow.holds Tryd.pinned (OpenSpec.upto valCutSpec)

/-- 'morainelaw03.ValKinds', WHERE WHAT IT READS IS OF BULK AT MOST 1048576: true; the input reads as it did. -/
def valKindsUptoRow : OpenClaim := { program := "ytbmfclankoblfaadoor", sum := "4ccbe641d565f1767e021245fad557f76dd7131aad7127d1b58742157c4b364a", func := "moraine/morainelaw03.ValKinds", spec := "valKinds", inPlace := ["internal/abi.NoEscape", "internal/reflectlite.TypeOf"], unfollowed := true, recurses := true, named := ["unicode/utf8.first", "unicode/utf8.acceptRanges", "moraine/wire.errNone"], apart := false, laid := [("unicode/utf8.acceptRanges", laid_unicode_utf8_acceptRanges), ("moraine/wire.errNone", laid_moraine_wire_errNone), ("unicode/utf8.first", laid_unicode_utf8_first)], narrowed := true }
def ValKindsUptoSaid : Prop := valKindsUptoRow.holds Tryd.pinned (OpenSpec.upto valKindsSpec)

end Rows
end Go.Proofs.YtbmfclankoblfaaDoor
