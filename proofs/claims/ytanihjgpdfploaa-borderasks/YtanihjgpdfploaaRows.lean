/-
  No cell of these rows narrows 'for every input' (looked for: loops, veiled, ifaces, maps, wideKeys, modest, calm, conditions, laid).
  DERIVED. THE GIVEN ROWS OF THIS SEAT. 5 by the template 'for every input the law returns true; each argument reads behind the call as it read before'; 0 by the template 'total and deterministic' (their statements: YtanihjgpdfploaaTotals.lean).
  GIVEN WITH THE SEED: the statements are not yours to turn. If you find one false, say at which input.
  Laid BY PROGRAM, IN A SANDBOX (cutbox-rows.mjs): the forced cells as the released guide's own fill.sh prints them over the translation 1dadadc89035dcbb… (all of the seat's roots in one cut). By AI agents, Wed Nov 11 2026. No macro, syntax, notation, axiom, sorry.
-/
import Derived.Test.YtanihjgpdfploaaChecked
import GoSem.Claim
import GoSem.ClaimJoined
import GoSem.ClaimMapViews
import Derived.JoinedTies
import Derived.KernelRfl
namespace Go.Proofs.Ytanihjgpdfploaa
/- THE CELL 'sum', in the pinned program and in every row, IS THE sha256 OF THE DUMP (.gsa) THAT YtanihjgpdfploaaProg.lean LOADS. Nothing in Lean hashes anything: it is a label: what it is worth is what the hold of that sum in a sandbox is worth. -/
noncomputable def Try.pinned : Pinned := { name := "ytanihjgpdfploaa", sum := "1dadadc89035dcbbb19b93b86f3022c06002271669367c2b66c930ada070333d", checked := Try.checked }
namespace Rows
def none {H : Type} : Left H := { results := [], args := [] }

/-- 'herdsmanlaw11.BorderAsks': WHATEVER THE INPUT: true; the input reads as it did. -/
def borderAsksSpec : ChangeSpec := { name := "borderAsks", fn := fun _ => fun
  | [d1, d2, d3, d4, d5, d6, d7] => { results := [.lit (.bool true)], args := [d1, d2, d3, d4, d5, d6, d7] }
  | _ => none }
def borderAsksRow : OpenClaim := { program := "ytanihjgpdfploaa", sum := "1dadadc89035dcbbb19b93b86f3022c06002271669367c2b66c930ada070333d", func := "herdsman/herdsmanlaw11.BorderAsks", spec := "borderAsks", inPlace := ["internal/bytealg.IndexByte"], apart := false }
def BorderAsksSaid : Prop := borderAsksRow.holds Try.pinned (OpenSpec.ofChange borderAsksSpec)

/-- ITS FALSE NEIGHBOUR: 'it returns false'. Refute it at one input. -/
def borderAsksWrong : ChangeSpec := { name := "borderAsks", fn := fun _ => fun
  | [d1, d2, d3, d4, d5, d6, d7] => { results := [.lit (.bool false)], args := [d1, d2, d3, d4, d5, d6, d7] }
  | _ => none }
def BorderAsksWrongFalsely : Prop := borderAsksRow.holds Try.pinned (OpenSpec.ofChange borderAsksWrong)

/-- 'herdsmanlaw11.BorderSizes': WHATEVER THE INPUT: true; the input reads as it did. -/
def borderSizesSpec : ChangeSpec := { name := "borderSizes", fn := fun _ => fun
  | [d1, d2, d3, d4] => { results := [.lit (.bool true)], args := [d1, d2, d3, d4] }
  | _ => none }
def borderSizesRow : OpenClaim := { program := "ytanihjgpdfploaa", sum := "1dadadc89035dcbbb19b93b86f3022c06002271669367c2b66c930ada070333d", func := "herdsman/herdsmanlaw11.BorderSizes", spec := "borderSizes", inPlace := ["internal/bytealg.IndexByte"], apart := false }
def BorderSizesSaid : Prop := borderSizesRow.holds Try.pinned (OpenSpec.ofChange borderSizesSpec)

/-- ITS FALSE NEIGHBOUR: 'it returns false'. Refute it at one input. -/
def borderSizesWrong : ChangeSpec := { name := "borderSizes", fn := fun _ => fun
  | [d1, d2, d3, d4] => { results := [.lit (.bool false)], args := [d1, d2, d3, d4] }
  | _ => none }
def BorderSizesWrongFalsely : Prop := borderSizesRow.holds Try.pinned (OpenSpec.ofChange borderSizesWrong)

/-- 'herdsmanlaw11.BorderMates': WHATEVER THE INPUT: true; the input reads as it did. -/
def borderMatesSpec : ChangeSpec := { name := "borderMates", fn := fun _ => fun
  | [d1, d2, d3, d4] => { results := [.lit (.bool true)], args := [d1, d2, d3, d4] }
  | _ => none }
def borderMatesRow : OpenClaim := { program := "ytanihjgpdfploaa", sum := "1dadadc89035dcbbb19b93b86f3022c06002271669367c2b66c930ada070333d", func := "herdsman/herdsmanlaw11.BorderMates", spec := "borderMates", inPlace := ["internal/bytealg.IndexByte"], apart := false }
def BorderMatesSaid : Prop := borderMatesRow.holds Try.pinned (OpenSpec.ofChange borderMatesSpec)

/-- ITS FALSE NEIGHBOUR: 'it returns false'. Refute it at one input. -/
def borderMatesWrong : ChangeSpec := { name := "borderMates", fn := fun _ => fun
  | [d1, d2, d3, d4] => { results := [.lit (.bool false)], args := [d1, d2, d3, d4] }
  | _ => none }
def BorderMatesWrongFalsely : Prop := borderMatesRow.holds Try.pinned (OpenSpec.ofChange borderMatesWrong)

/-- 'herdsmanlaw11.BorderRuns': WHATEVER THE INPUT: true; the input reads as it did. -/
def borderRunsSpec : ChangeSpec := { name := "borderRuns", fn := fun _ => fun
  | [d1, d2, d3, d4] => { results := [.lit (.bool true)], args := [d1, d2, d3, d4] }
  | _ => none }
def borderRunsRow : OpenClaim := { program := "ytanihjgpdfploaa", sum := "1dadadc89035dcbbb19b93b86f3022c06002271669367c2b66c930ada070333d", func := "herdsman/herdsmanlaw11.BorderRuns", spec := "borderRuns", inPlace := ["internal/bytealg.IndexByte"], apart := false }
def BorderRunsSaid : Prop := borderRunsRow.holds Try.pinned (OpenSpec.ofChange borderRunsSpec)

/-- ITS FALSE NEIGHBOUR: 'it returns false'. Refute it at one input. -/
def borderRunsWrong : ChangeSpec := { name := "borderRuns", fn := fun _ => fun
  | [d1, d2, d3, d4] => { results := [.lit (.bool false)], args := [d1, d2, d3, d4] }
  | _ => none }
def BorderRunsWrongFalsely : Prop := borderRunsRow.holds Try.pinned (OpenSpec.ofChange borderRunsWrong)

/-- 'herdsmanlaw11.BorderEdits': WHATEVER THE INPUT: true; the input reads as it did. -/
def borderEditsSpec : ChangeSpec := { name := "borderEdits", fn := fun _ => fun
  | [d1, d2, d3, d4, d5] => { results := [.lit (.bool true)], args := [d1, d2, d3, d4, d5] }
  | _ => none }
def borderEditsRow : OpenClaim := { program := "ytanihjgpdfploaa", sum := "1dadadc89035dcbbb19b93b86f3022c06002271669367c2b66c930ada070333d", func := "herdsman/herdsmanlaw11.BorderEdits", spec := "borderEdits", inPlace := ["internal/bytealg.IndexByte"], apart := false }
def BorderEditsSaid : Prop := borderEditsRow.holds Try.pinned (OpenSpec.ofChange borderEditsSpec)

/-- ITS FALSE NEIGHBOUR: 'it returns false'. Refute it at one input. -/
def borderEditsWrong : ChangeSpec := { name := "borderEdits", fn := fun _ => fun
  | [d1, d2, d3, d4, d5] => { results := [.lit (.bool false)], args := [d1, d2, d3, d4, d5] }
  | _ => none }
def BorderEditsWrongFalsely : Prop := borderEditsRow.holds Try.pinned (OpenSpec.ofChange borderEditsWrong)

/- THE SECOND FORM. 'bulk': how many values and letters a reading holds, each counted each time it is reached (what is shared counts as often as it is met; a slice's spare places count too). A statement '..UptoSaid' is the law's where the arguments, and the package variables that the reading takes, are together of bulk at most 1048576: NARROWER than '..Said'. Prove '..Said' where nothing that the law and all that it calls make is longer than what came in: it says more and counts as full. Else prove '..UptoSaid'. A law counts once. -/
mutual
def uptoBulk {H : Type} : DataW H → Nat
  | .lit (.string bytes) => bytes.length + 1
  | .lit _ => 1
  | .nil => 1
  | .ptr d => uptoBulk d + 1
  | .slice elems spare => uptoBulkAll elems + uptoBulkAll spare + 1
  | .agg parts => uptoBulkAll parts + 1
  | .iface _ d => uptoBulk d + 1
  | .map entries => uptoBulkEntries entries + 1
  | .held _ => 1
def uptoBulkAll {H : Type} : List (DataW H) → Nat
  | [] => 0
  | d :: r => uptoBulk d + uptoBulkAll r
def uptoBulkEntries {H : Type} : List (Lit × DataW H) → Nat
  | [] => 0
  | x :: r => uptoBulkEntry x + uptoBulkEntries r
def uptoBulkEntry {H : Type} : Lit × DataW H → Nat
  | (.string bytes, d) => bytes.length + uptoBulk d + 1
  | (_, d) => uptoBulk d + 1
 end
def uptoSmall : (H : Type) → List (DataW H) → Bool := fun _ ds => decide (uptoBulkAll ds ≤ 1048576)
def OpenSpec.upto (s : _root_.Go.ChangeSpec) : _root_.Go.OpenSpec := { _root_.Go.OpenSpec.ofChange s with cond := some uptoSmall }

/-- 'herdsmanlaw11.BorderAsks', WHERE WHAT IT READS IS OF BULK AT MOST 1048576: true; the input reads as it did. -/
def borderAsksUptoRow : OpenClaim := { program := "ytanihjgpdfploaa", sum := "1dadadc89035dcbbb19b93b86f3022c06002271669367c2b66c930ada070333d", func := "herdsman/herdsmanlaw11.BorderAsks", spec := "borderAsks", inPlace := ["internal/bytealg.IndexByte"], apart := false, narrowed := true }
def BorderAsksUptoSaid : Prop := borderAsksUptoRow.holds Try.pinned (OpenSpec.upto borderAsksSpec)

/-- 'herdsmanlaw11.BorderSizes', WHERE WHAT IT READS IS OF BULK AT MOST 1048576: true; the input reads as it did. -/
def borderSizesUptoRow : OpenClaim := { program := "ytanihjgpdfploaa", sum := "1dadadc89035dcbbb19b93b86f3022c06002271669367c2b66c930ada070333d", func := "herdsman/herdsmanlaw11.BorderSizes", spec := "borderSizes", inPlace := ["internal/bytealg.IndexByte"], apart := false, narrowed := true }
def BorderSizesUptoSaid : Prop := borderSizesUptoRow.holds Try.pinned (OpenSpec.upto borderSizesSpec)

/-- 'herdsmanlaw11.BorderMates', WHERE WHAT IT READS IS OF BULK AT MOST 1048576: true; the input reads as it did. -/
def borderMatesUptoRow : OpenClaim := { program := "ytanihjgpdfploaa", sum := "1dadadc89035dcbbb19b93b86f3022c06002271669367c2b66c930ada070333d", func := "herdsman/herdsmanlaw11.BorderMates", spec := "borderMates", inPlace := ["internal/bytealg.IndexByte"], apart := false, narrowed := true }
def BorderMatesUptoSaid : Prop := borderMatesUptoRow.holds Try.pinned (OpenSpec.upto borderMatesSpec)

/-- 'herdsmanlaw11.BorderRuns', WHERE WHAT IT READS IS OF BULK AT MOST 1048576: true; the input reads as it did. -/
def borderRunsUptoRow : OpenClaim := { program := "ytanihjgpdfploaa", sum := "1dadadc89035dcbbb19b93b86f3022c06002271669367c2b66c930ada070333d", func := "herdsman/herdsmanlaw11.BorderRuns", spec := "borderRuns", inPlace := ["internal/bytealg.IndexByte"], apart := false, narrowed := true }
def BorderRunsUptoSaid : Prop := borderRunsUptoRow.holds Try.pinned (OpenSpec.upto borderRunsSpec)

/-- 'herdsmanlaw11.BorderEdits', WHERE WHAT IT READS IS OF BULK AT MOST 1048576: true; the input reads as it did. -/
def borderEditsUptoRow : OpenClaim := { program := "ytanihjgpdfploaa", sum := "1dadadc89035dcbbb19b93b86f3022c06002271669367c2b66c930ada070333d", func := "herdsman/herdsmanlaw11.BorderEdits", spec := "borderEdits", inPlace := ["internal/bytealg.IndexByte"], apart := false, narrowed := true }
def BorderEditsUptoSaid : Prop := borderEditsUptoRow.holds Try.pinned (OpenSpec.upto borderEditsSpec)

end Rows
end Go.Proofs.Ytanihjgpdfploaa
