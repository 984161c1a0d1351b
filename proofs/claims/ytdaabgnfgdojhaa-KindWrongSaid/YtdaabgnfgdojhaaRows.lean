/-
  NARROWER THAN 'FOR EVERY INPUT', by the rows' own cells (each row's printed sentence says how): KindChecks: loops · KindWrong: loops · KindWhole: loops · KindAlike: loops · ParseReads: loops · ParseAny: loops · ParsePlaces: loops · ParseGaps: loops.
  DERIVED. THE GIVEN ROWS OF THIS SEAT. 9 by the template 'for every input the law returns true; each argument reads behind the call as it read before'; 0 by the template 'total and deterministic' (their statements: YtdaabgnfgdojhaaTotals.lean).
  GIVEN WITH THE SEED: the statements are not yours to turn. If you find one false, say at which input.
  Laid BY PROGRAM, IN A SANDBOX (cutbox-rows.mjs): the forced cells as the released guide's own fill.sh prints them over the translation 527e871d2827029a… (all of the seat's roots in one cut). By AI agents, Wed Nov 11 2026. No macro, syntax, notation, axiom, sorry.
-/
import Derived.Test.YtdaabgnfgdojhaaChecked
import GoSem.Claim
import GoSem.ClaimJoined
import GoSem.ClaimMapViews
import Derived.JoinedTies
import Derived.KernelRfl
namespace Go.Proofs.Ytdaabgnfgdojhaa
/- THE CELL 'sum', in the pinned program and in every row, IS THE sha256 OF THE DUMP (.gsa) THAT YtdaabgnfgdojhaaProg.lean LOADS. Nothing in Lean hashes anything: it is a label: what it is worth is what the hold of that sum in a sandbox is worth. -/
noncomputable def Try.pinned : Pinned := { name := "ytdaabgnfgdojhaa", sum := "527e871d2827029af765ae4f373ff66948283107f937b627b55267a9662d7909", checked := Try.checked }
namespace Rows
def none {H : Type} : Left H := { results := [], args := [] }

/-- 'prompterlaw05.KindChecks': WHATEVER THE INPUT: true; the input reads as it did. -/
def kindChecksSpec : ChangeSpec := { name := "kindChecks", fn := fun _ => fun
  | [d] => { results := [.lit (.bool true)], args := [d] }
  | _ => none }
def kindChecksRow : OpenClaim := { program := "ytdaabgnfgdojhaa", sum := "527e871d2827029af765ae4f373ff66948283107f937b627b55267a9662d7909", func := "prompter/prompterlaw05.KindChecks", spec := "kindChecks", unfollowed := true, recurses := true, loops := true, apart := false }
def KindChecksSaid : Prop := kindChecksRow.holds Try.pinned (OpenSpec.ofChange kindChecksSpec)

/-- ITS FALSE NEIGHBOUR: 'it returns false'. Refute it at one input. -/
def kindChecksWrong : ChangeSpec := { name := "kindChecks", fn := fun _ => fun
  | [d] => { results := [.lit (.bool false)], args := [d] }
  | _ => none }
def KindChecksWrongFalsely : Prop := kindChecksRow.holds Try.pinned (OpenSpec.ofChange kindChecksWrong)

/-- 'prompterlaw05.KindWrong': WHATEVER THE INPUT: true; the input reads as it did. -/
def kindWrongSpec : ChangeSpec := { name := "kindWrong", fn := fun _ => fun
  | [d1, d2, d3] => { results := [.lit (.bool true)], args := [d1, d2, d3] }
  | _ => none }
def kindWrongRow : OpenClaim := { program := "ytdaabgnfgdojhaa", sum := "527e871d2827029af765ae4f373ff66948283107f937b627b55267a9662d7909", func := "prompter/prompterlaw05.KindWrong", spec := "kindWrong", unfollowed := true, recurses := true, loops := true, apart := false }
def KindWrongSaid : Prop := kindWrongRow.holds Try.pinned (OpenSpec.ofChange kindWrongSpec)

/-- ITS FALSE NEIGHBOUR: 'it returns false'. Refute it at one input. -/
def kindWrongWrong : ChangeSpec := { name := "kindWrong", fn := fun _ => fun
  | [d1, d2, d3] => { results := [.lit (.bool false)], args := [d1, d2, d3] }
  | _ => none }
def KindWrongWrongFalsely : Prop := kindWrongRow.holds Try.pinned (OpenSpec.ofChange kindWrongWrong)

/-- 'prompterlaw05.KindWhole': WHATEVER THE INPUT: true; the input reads as it did. -/
def kindWholeSpec : ChangeSpec := { name := "kindWhole", fn := fun _ => fun
  | [d1, d2, d3] => { results := [.lit (.bool true)], args := [d1, d2, d3] }
  | _ => none }
def kindWholeRow : OpenClaim := { program := "ytdaabgnfgdojhaa", sum := "527e871d2827029af765ae4f373ff66948283107f937b627b55267a9662d7909", func := "prompter/prompterlaw05.KindWhole", spec := "kindWhole", unfollowed := true, recurses := true, loops := true, apart := false }
def KindWholeSaid : Prop := kindWholeRow.holds Try.pinned (OpenSpec.ofChange kindWholeSpec)

/-- ITS FALSE NEIGHBOUR: 'it returns false'. Refute it at one input. -/
def kindWholeWrong : ChangeSpec := { name := "kindWhole", fn := fun _ => fun
  | [d1, d2, d3] => { results := [.lit (.bool false)], args := [d1, d2, d3] }
  | _ => none }
def KindWholeWrongFalsely : Prop := kindWholeRow.holds Try.pinned (OpenSpec.ofChange kindWholeWrong)

/-- 'prompterlaw05.KindAlike': WHATEVER THE INPUT: true; the input reads as it did. -/
def kindAlikeSpec : ChangeSpec := { name := "kindAlike", fn := fun _ => fun
  | [d1, d2] => { results := [.lit (.bool true)], args := [d1, d2] }
  | _ => none }
def kindAlikeRow : OpenClaim := { program := "ytdaabgnfgdojhaa", sum := "527e871d2827029af765ae4f373ff66948283107f937b627b55267a9662d7909", func := "prompter/prompterlaw05.KindAlike", spec := "kindAlike", unfollowed := true, recurses := true, loops := true, apart := false }
def KindAlikeSaid : Prop := kindAlikeRow.holds Try.pinned (OpenSpec.ofChange kindAlikeSpec)

/-- ITS FALSE NEIGHBOUR: 'it returns false'. Refute it at one input. -/
def kindAlikeWrong : ChangeSpec := { name := "kindAlike", fn := fun _ => fun
  | [d1, d2] => { results := [.lit (.bool false)], args := [d1, d2] }
  | _ => none }
def KindAlikeWrongFalsely : Prop := kindAlikeRow.holds Try.pinned (OpenSpec.ofChange kindAlikeWrong)

/-- 'prompterlaw06.ParseReads': WHATEVER THE INPUT: true; the input reads as it did. -/
def parseReadsSpec : ChangeSpec := { name := "parseReads", fn := fun _ => fun
  | [d1, d2] => { results := [.lit (.bool true)], args := [d1, d2] }
  | _ => none }
def parseReadsRow : OpenClaim := { program := "ytdaabgnfgdojhaa", sum := "527e871d2827029af765ae4f373ff66948283107f937b627b55267a9662d7909", func := "prompter/prompterlaw06.ParseReads", spec := "parseReads", inPlace := ["internal/bytealg.IndexByteString"], unfollowed := true, recurses := true, loops := true, apart := false }
def ParseReadsSaid : Prop := parseReadsRow.holds Try.pinned (OpenSpec.ofChange parseReadsSpec)

/-- ITS FALSE NEIGHBOUR: 'it returns false'. Refute it at one input. -/
def parseReadsWrong : ChangeSpec := { name := "parseReads", fn := fun _ => fun
  | [d1, d2] => { results := [.lit (.bool false)], args := [d1, d2] }
  | _ => none }
def ParseReadsWrongFalsely : Prop := parseReadsRow.holds Try.pinned (OpenSpec.ofChange parseReadsWrong)

/-- 'prompterlaw06.ParseAny': WHATEVER THE INPUT: true; the input reads as it did. -/
def parseAnySpec : ChangeSpec := { name := "parseAny", fn := fun _ => fun
  | [d1, d2, d3, d4, d5] => { results := [.lit (.bool true)], args := [d1, d2, d3, d4, d5] }
  | _ => none }
def parseAnyRow : OpenClaim := { program := "ytdaabgnfgdojhaa", sum := "527e871d2827029af765ae4f373ff66948283107f937b627b55267a9662d7909", func := "prompter/prompterlaw06.ParseAny", spec := "parseAny", inPlace := ["internal/bytealg.IndexByteString"], unfollowed := true, recurses := true, loops := true, apart := false }
def ParseAnySaid : Prop := parseAnyRow.holds Try.pinned (OpenSpec.ofChange parseAnySpec)

/-- ITS FALSE NEIGHBOUR: 'it returns false'. Refute it at one input. -/
def parseAnyWrong : ChangeSpec := { name := "parseAny", fn := fun _ => fun
  | [d1, d2, d3, d4, d5] => { results := [.lit (.bool false)], args := [d1, d2, d3, d4, d5] }
  | _ => none }
def ParseAnyWrongFalsely : Prop := parseAnyRow.holds Try.pinned (OpenSpec.ofChange parseAnyWrong)

/-- 'prompterlaw06.ParsePlaces': WHATEVER THE INPUT: true; the input reads as it did. -/
def parsePlacesSpec : ChangeSpec := { name := "parsePlaces", fn := fun _ => fun
  | [d1, d2, d3] => { results := [.lit (.bool true)], args := [d1, d2, d3] }
  | _ => none }
def parsePlacesRow : OpenClaim := { program := "ytdaabgnfgdojhaa", sum := "527e871d2827029af765ae4f373ff66948283107f937b627b55267a9662d7909", func := "prompter/prompterlaw06.ParsePlaces", spec := "parsePlaces", inPlace := ["internal/bytealg.IndexByteString"], unfollowed := true, recurses := true, loops := true, apart := false }
def ParsePlacesSaid : Prop := parsePlacesRow.holds Try.pinned (OpenSpec.ofChange parsePlacesSpec)

/-- ITS FALSE NEIGHBOUR: 'it returns false'. Refute it at one input. -/
def parsePlacesWrong : ChangeSpec := { name := "parsePlaces", fn := fun _ => fun
  | [d1, d2, d3] => { results := [.lit (.bool false)], args := [d1, d2, d3] }
  | _ => none }
def ParsePlacesWrongFalsely : Prop := parsePlacesRow.holds Try.pinned (OpenSpec.ofChange parsePlacesWrong)

/-- 'prompterlaw06.ParseDeep': WHATEVER THE INPUT: true; the input reads as it did. -/
def parseDeepSpec : ChangeSpec := { name := "parseDeep", fn := fun _ => fun
  | [d1, d2] => { results := [.lit (.bool true)], args := [d1, d2] }
  | _ => none }
def parseDeepRow : OpenClaim := { program := "ytdaabgnfgdojhaa", sum := "527e871d2827029af765ae4f373ff66948283107f937b627b55267a9662d7909", func := "prompter/prompterlaw06.ParseDeep", spec := "parseDeep", inPlace := ["internal/bytealg.IndexByteString"], unfollowed := true, recurses := true, apart := false }
def ParseDeepSaid : Prop := parseDeepRow.holds Try.pinned (OpenSpec.ofChange parseDeepSpec)

/-- ITS FALSE NEIGHBOUR: 'it returns false'. Refute it at one input. -/
def parseDeepWrong : ChangeSpec := { name := "parseDeep", fn := fun _ => fun
  | [d1, d2] => { results := [.lit (.bool false)], args := [d1, d2] }
  | _ => none }
def ParseDeepWrongFalsely : Prop := parseDeepRow.holds Try.pinned (OpenSpec.ofChange parseDeepWrong)

/-- 'prompterlaw06.ParseGaps': WHATEVER THE INPUT: true; the input reads as it did. -/
def parseGapsSpec : ChangeSpec := { name := "parseGaps", fn := fun _ => fun
  | [d1, d2, d3, d4] => { results := [.lit (.bool true)], args := [d1, d2, d3, d4] }
  | _ => none }
def parseGapsRow : OpenClaim := { program := "ytdaabgnfgdojhaa", sum := "527e871d2827029af765ae4f373ff66948283107f937b627b55267a9662d7909", func := "prompter/prompterlaw06.ParseGaps", spec := "parseGaps", inPlace := ["internal/bytealg.IndexByteString"], unfollowed := true, recurses := true, loops := true, apart := false }
def ParseGapsSaid : Prop := parseGapsRow.holds Try.pinned (OpenSpec.ofChange parseGapsSpec)

/-- ITS FALSE NEIGHBOUR: 'it returns false'. Refute it at one input. -/
def parseGapsWrong : ChangeSpec := { name := "parseGaps", fn := fun _ => fun
  | [d1, d2, d3, d4] => { results := [.lit (.bool false)], args := [d1, d2, d3, d4] }
  | _ => none }
def ParseGapsWrongFalsely : Prop := parseGapsRow.holds Try.pinned (OpenSpec.ofChange parseGapsWrong)

/- THE SECOND FORM. 'bulk': how many values and letters a reading holds, each counted each time it is reached (what is shared counts as often as it is met; a slice's spare places count too). A statement '..UptoSaid' is the law's where the arguments, and the package variables that the reading takes, are together of bulk at most 1048576: NARROWER than '..Said'. Prove '..Said' where nothing that the law and all that it calls make is longer than what came in: it says more and counts as full. Else prove '..UptoSaid'. A law counts once. -/
mutual
def uptoBulk {H : Type} : DataW H → Nat
  | .lit (.string bytes) => bytes.length + 1
  | .lit _ => 1
  | .nil => 1
  | .ptr d => uptoBulk d + 1
  | .slice elems spare => uptoBulkAll elems + uptoBulkAll spare + 1
  | .agg parts => uptoBulkAll parts + 1
  | .iface _ d => uptoBulk d + 1
  | .map entries => uptoBulkEntries entries + 1
  | .held _ => 1
def uptoBulkAll {H : Type} : List (DataW H) → Nat
  | [] => 0
  | d :: r => uptoBulk d + uptoBulkAll r
def uptoBulkEntries {H : Type} : List (Lit × DataW H) → Nat
  | [] => 0
  | x :: r => uptoBulkEntry x + uptoBulkEntries r
def uptoBulkEntry {H : Type} : Lit × DataW H → Nat
  | (.string bytes, d) => bytes.length + uptoBulk d + 1
  | (_, d) => uptoBulk d + 1
 end
def uptoSmall : (H : Type) → List (DataW H) → Bool := fun _ ds => decide (uptoBulkAll ds ≤ 1048576)
def OpenSpec.upto (s : _root_.Go.ChangeSpec) : _root_.Go.OpenSpec := { _root_.Go.OpenSpec.ofChange s with cond := some uptoSmall }

/-- 'prompterlaw05.KindChecks', WHERE WHAT IT READS IS OF BULK AT MOST 1048576: true; the input reads as it did. -/
def kindChecksUptoRow : OpenClaim := { program := "ytdaabgnfgdojhaa", sum := "527e871d2827029af765ae4f373ff66948283107f937b627b55267a9662d7909", func := "prompter/prompterlaw05.KindChecks", spec := "kindChecks", unfollowed := true, recurses := true, loops := true, apart := false, narrowed := true }
def KindChecksUptoSaid : Prop := kindChecksUptoRow.holds Try.pinned (OpenSpec.upto kindChecksSpec)

/-- 'prompterlaw05.KindWrong', WHERE WHAT IT READS IS OF BULK AT MOST 1048576: true; the input reads as it did. -/
def kindWrongUptoRow : OpenClaim := { program := "ytdaabgnfgdojhaa", sum := "527e871d2827029af765ae4f373ff66948283107f937b627b55267a9662d7909", func := "prompter/prompterlaw05.KindWrong", spec := "kindWrong", unfollowed := true, recurses := true, loops := true, apart := false, narrowed := true }
def KindWrongUptoSaid : Prop := kindWrongUptoRow.holds Try.pinned (OpenSpec.upto kindWrongSpec)

/-- 'prompterlaw05.KindWhole', WHERE WHAT IT READS IS OF BULK AT MOST 1048576: true; the input reads as it did. -/
def kindWholeUptoRow : OpenClaim := { program := "ytdaabgnfgdojhaa", sum := "527e871d2827029af765ae4f373ff66948283107f937b627b55267a9662d7909", func := "prompter/prompterlaw05.KindWhole", spec := "kindWhole", unfollowed := true, recurses := true, loops := true, apart := false, narrowed := true }
def KindWholeUptoSaid : Prop := kindWholeUptoRow.holds Try.pinned (OpenSpec.upto kindWholeSpec)

/-- 'prompterlaw05.KindAlike', WHERE WHAT IT READS IS OF BULK AT MOST 1048576: true; the input reads as it did. -/
def kindAlikeUptoRow : OpenClaim := { program := "ytdaabgnfgdojhaa", sum := "527e871d2827029af765ae4f373ff66948283107f937b627b55267a9662d7909", func := "prompter/prompterlaw05.KindAlike", spec := "kindAlike", unfollowed := true, recurses := true, loops := true, apart := false, narrowed := true }
def KindAlikeUptoSaid : Prop := kindAlikeUptoRow.holds Try.pinned (OpenSpec.upto kindAlikeSpec)

/-- 'prompterlaw06.ParseReads', WHERE WHAT IT READS IS OF BULK AT MOST 1048576: true; the input reads as it did. -/
def parseReadsUptoRow : OpenClaim := { program := "ytdaabgnfgdojhaa", sum := "527e871d2827029af765ae4f373ff66948283107f937b627b55267a9662d7909", func := "prompter/prompterlaw06.ParseReads", spec := "parseReads", inPlace := ["internal/bytealg.IndexByteString"], unfollowed := true, recurses := true, loops := true, apart := false, narrowed := true }
def ParseReadsUptoSaid : Prop := parseReadsUptoRow.holds Try.pinned (OpenSpec.upto parseReadsSpec)

/-- 'prompterlaw06.ParseAny', WHERE WHAT IT READS IS OF BULK AT MOST 1048576: true; the input reads as it did. -/
def parseAnyUptoRow : OpenClaim := { program := "ytdaabgnfgdojhaa", sum := "527e871d2827029af765ae4f373ff66948283107f937b627b55267a9662d7909", func := "prompter/prompterlaw06.ParseAny", spec := "parseAny", inPlace := ["internal/bytealg.IndexByteString"], unfollowed := true, recurses := true, loops := true, apart := false, narrowed := true }
def ParseAnyUptoSaid : Prop := parseAnyUptoRow.holds Try.pinned (OpenSpec.upto parseAnySpec)

/-- 'prompterlaw06.ParsePlaces', WHERE WHAT IT READS IS OF BULK AT MOST 1048576: true; the input reads as it did. -/
def parsePlacesUptoRow : OpenClaim := { program := "ytdaabgnfgdojhaa", sum := "527e871d2827029af765ae4f373ff66948283107f937b627b55267a9662d7909", func := "prompter/prompterlaw06.ParsePlaces", spec := "parsePlaces", inPlace := ["internal/bytealg.IndexByteString"], unfollowed := true, recurses := true, loops := true, apart := false, narrowed := true }
def ParsePlacesUptoSaid : Prop := parsePlacesUptoRow.holds Try.pinned (OpenSpec.upto parsePlacesSpec)

/-- 'prompterlaw06.ParseDeep', WHERE WHAT IT READS IS OF BULK AT MOST 1048576: true; the input reads as it did. -/
def parseDeepUptoRow : OpenClaim := { program := "ytdaabgnfgdojhaa", sum := "527e871d2827029af765ae4f373ff66948283107f937b627b55267a9662d7909", func := "prompter/prompterlaw06.ParseDeep", spec := "parseDeep", inPlace := ["internal/bytealg.IndexByteString"], unfollowed := true, recurses := true, apart := false, narrowed := true }
def ParseDeepUptoSaid : Prop := parseDeepUptoRow.holds Try.pinned (OpenSpec.upto parseDeepSpec)

/-- 'prompterlaw06.ParseGaps', WHERE WHAT IT READS IS OF BULK AT MOST 1048576: true; the input reads as it did. -/
def parseGapsUptoRow : OpenClaim := { program := "ytdaabgnfgdojhaa", sum := "527e871d2827029af765ae4f373ff66948283107f937b627b55267a9662d7909", func := "prompter/prompterlaw06.ParseGaps", spec := "parseGaps", inPlace := ["internal/bytealg.IndexByteString"], unfollowed := true, recurses := true, loops := true, apart := false, narrowed := true }
def ParseGapsUptoSaid : Prop := parseGapsUptoRow.holds Try.pinned (OpenSpec.upto parseGapsSpec)

end Rows
end Go.Proofs.Ytdaabgnfgdojhaa
