/-
  No cell of these rows narrows 'for every input' (looked for: loops, veiled, ifaces, maps, wideKeys, modest, calm, conditions, laid).
  DERIVED. THE GIVEN ROWS OF THIS SEAT. 5 by the template 'for every input the law returns true; each argument reads behind the call as it read before'; 0 by the template 'total and deterministic' (their statements: YtlnbolaaaahoaaaTotals.lean).
  GIVEN WITH THE SEED: the statements are not yours to turn. If you find one false, say at which input.
  Laid BY PROGRAM, IN A SANDBOX (cutbox-rows.mjs): the forced cells as the released guide's own fill.sh prints them over the translation 5ab545dc72dee14b… (all of the seat's roots in one cut). By AI agents, Wed Nov 11 2026. No macro, syntax, notation, axiom, sorry.
-/
import Derived.Test.YtlnbolaaaahoaaaChecked
import GoSem.Claim
import GoSem.ClaimJoined
import GoSem.ClaimMapViews
import Derived.JoinedTies
import Derived.KernelRfl
namespace Go.Proofs.Ytlnbolaaaahoaaa
/- THE CELL 'sum', in the pinned program and in every row, IS THE sha256 OF THE DUMP (.gsa) THAT YtlnbolaaaahoaaaProg.lean LOADS. Nothing in Lean hashes anything: it is a label: what it is worth is what the hold of that sum in a sandbox is worth. -/
noncomputable def Try.pinned : Pinned := { name := "ytlnbolaaaahoaaa", sum := "5ab545dc72dee14b733a547b2397be27d96ea8388fce5b6c483e17150862b3c9", checked := Try.checked }
namespace Rows
def none {H : Type} : Left H := { results := [], args := [] }

/-- 'herdsmanlaw10.FieldAsks': WHATEVER THE INPUT: true; the input reads as it did. -/
def fieldAsksSpec : ChangeSpec := { name := "fieldAsks", fn := fun _ => fun
  | [d1, d2, d3, d4, d5, d6] => { results := [.lit (.bool true)], args := [d1, d2, d3, d4, d5, d6] }
  | _ => none }
def fieldAsksRow : OpenClaim := { program := "ytlnbolaaaahoaaa", sum := "5ab545dc72dee14b733a547b2397be27d96ea8388fce5b6c483e17150862b3c9", func := "herdsman/herdsmanlaw10.FieldAsks", spec := "fieldAsks", inPlace := ["internal/bytealg.IndexByte"], unfollowed := true, recurses := true, apart := false }
def FieldAsksSaid : Prop := fieldAsksRow.holds Try.pinned (OpenSpec.ofChange fieldAsksSpec)

/-- ITS FALSE NEIGHBOUR: 'it returns false'. Refute it at one input. -/
def fieldAsksWrong : ChangeSpec := { name := "fieldAsks", fn := fun _ => fun
  | [d1, d2, d3, d4, d5, d6] => { results := [.lit (.bool false)], args := [d1, d2, d3, d4, d5, d6] }
  | _ => none }
def FieldAsksWrongFalsely : Prop := fieldAsksRow.holds Try.pinned (OpenSpec.ofChange fieldAsksWrong)

/-- 'herdsmanlaw10.FieldLeads': WHATEVER THE INPUT: true; the input reads as it did. -/
def fieldLeadsSpec : ChangeSpec := { name := "fieldLeads", fn := fun _ => fun
  | [d1, d2, d3, d4] => { results := [.lit (.bool true)], args := [d1, d2, d3, d4] }
  | _ => none }
def fieldLeadsRow : OpenClaim := { program := "ytlnbolaaaahoaaa", sum := "5ab545dc72dee14b733a547b2397be27d96ea8388fce5b6c483e17150862b3c9", func := "herdsman/herdsmanlaw10.FieldLeads", spec := "fieldLeads", inPlace := ["internal/bytealg.IndexByte"], unfollowed := true, recurses := true, apart := false }
def FieldLeadsSaid : Prop := fieldLeadsRow.holds Try.pinned (OpenSpec.ofChange fieldLeadsSpec)

/-- ITS FALSE NEIGHBOUR: 'it returns false'. Refute it at one input. -/
def fieldLeadsWrong : ChangeSpec := { name := "fieldLeads", fn := fun _ => fun
  | [d1, d2, d3, d4] => { results := [.lit (.bool false)], args := [d1, d2, d3, d4] }
  | _ => none }
def FieldLeadsWrongFalsely : Prop := fieldLeadsRow.holds Try.pinned (OpenSpec.ofChange fieldLeadsWrong)

/-- 'herdsmanlaw10.FieldFirst': WHATEVER THE INPUT: true; the input reads as it did. -/
def fieldFirstSpec : ChangeSpec := { name := "fieldFirst", fn := fun _ => fun
  | [d1, d2, d3, d4, d5] => { results := [.lit (.bool true)], args := [d1, d2, d3, d4, d5] }
  | _ => none }
def fieldFirstRow : OpenClaim := { program := "ytlnbolaaaahoaaa", sum := "5ab545dc72dee14b733a547b2397be27d96ea8388fce5b6c483e17150862b3c9", func := "herdsman/herdsmanlaw10.FieldFirst", spec := "fieldFirst", inPlace := ["internal/bytealg.IndexByte"], unfollowed := true, recurses := true, apart := false }
def FieldFirstSaid : Prop := fieldFirstRow.holds Try.pinned (OpenSpec.ofChange fieldFirstSpec)

/-- ITS FALSE NEIGHBOUR: 'it returns false'. Refute it at one input. -/
def fieldFirstWrong : ChangeSpec := { name := "fieldFirst", fn := fun _ => fun
  | [d1, d2, d3, d4, d5] => { results := [.lit (.bool false)], args := [d1, d2, d3, d4, d5] }
  | _ => none }
def FieldFirstWrongFalsely : Prop := fieldFirstRow.holds Try.pinned (OpenSpec.ofChange fieldFirstWrong)

/-- 'herdsmanlaw10.WalkAsks': WHATEVER THE INPUT: true; the input reads as it did. -/
def walkAsksSpec : ChangeSpec := { name := "walkAsks", fn := fun _ => fun
  | [d1, d2, d3, d4, d5, d6] => { results := [.lit (.bool true)], args := [d1, d2, d3, d4, d5, d6] }
  | _ => none }
def walkAsksRow : OpenClaim := { program := "ytlnbolaaaahoaaa", sum := "5ab545dc72dee14b733a547b2397be27d96ea8388fce5b6c483e17150862b3c9", func := "herdsman/herdsmanlaw10.WalkAsks", spec := "walkAsks", inPlace := ["internal/bytealg.IndexByte"], unfollowed := true, recurses := true, apart := false }
def WalkAsksSaid : Prop := walkAsksRow.holds Try.pinned (OpenSpec.ofChange walkAsksSpec)

/-- ITS FALSE NEIGHBOUR: 'it returns false'. Refute it at one input. -/
def walkAsksWrong : ChangeSpec := { name := "walkAsks", fn := fun _ => fun
  | [d1, d2, d3, d4, d5, d6] => { results := [.lit (.bool false)], args := [d1, d2, d3, d4, d5, d6] }
  | _ => none }
def WalkAsksWrongFalsely : Prop := walkAsksRow.holds Try.pinned (OpenSpec.ofChange walkAsksWrong)

/-- 'herdsmanlaw10.WalkEnds': WHATEVER THE INPUT: true; the input reads as it did. -/
def walkEndsSpec : ChangeSpec := { name := "walkEnds", fn := fun _ => fun
  | [d1, d2, d3, d4, d5] => { results := [.lit (.bool true)], args := [d1, d2, d3, d4, d5] }
  | _ => none }
def walkEndsRow : OpenClaim := { program := "ytlnbolaaaahoaaa", sum := "5ab545dc72dee14b733a547b2397be27d96ea8388fce5b6c483e17150862b3c9", func := "herdsman/herdsmanlaw10.WalkEnds", spec := "walkEnds", inPlace := ["internal/bytealg.IndexByte"], unfollowed := true, recurses := true, apart := false }
def WalkEndsSaid : Prop := walkEndsRow.holds Try.pinned (OpenSpec.ofChange walkEndsSpec)

/-- ITS FALSE NEIGHBOUR: 'it returns false'. Refute it at one input. -/
def walkEndsWrong : ChangeSpec := { name := "walkEnds", fn := fun _ => fun
  | [d1, d2, d3, d4, d5] => { results := [.lit (.bool false)], args := [d1, d2, d3, d4, d5] }
  | _ => none }
def WalkEndsWrongFalsely : Prop := walkEndsRow.holds Try.pinned (OpenSpec.ofChange walkEndsWrong)

/- THE SECOND FORM. 'bulk': how many values and letters a reading holds, each counted each time it is reached (what is shared counts as often as it is met; a slice's spare places count too). A statement '..UptoSaid' is the law's where the arguments, and the package variables that the reading takes, are together of bulk at most 1048576: NARROWER than '..Said'. Prove '..Said' where nothing that the law and all that it calls make is longer than what came in: it says more and counts as full. Else prove '..UptoSaid'. A law counts once. -/
mutual
def uptoBulk {H : Type} : DataW H → Nat
  | .lit (.string bytes) => bytes.length + 1
  | .lit _ => 1
  | .nil => 1
  | .ptr d => uptoBulk d + 1
  | .slice elems spare => uptoBulkAll elems + uptoBulkAll spare + 1
  | .agg parts => uptoBulkAll parts + 1
  | .iface _ d => uptoBulk d + 1
  | .map entries => uptoBulkEntries entries + 1
  | .held _ => 1
def uptoBulkAll {H : Type} : List (DataW H) → Nat
  | [] => 0
  | d :: r => uptoBulk d + uptoBulkAll r
def uptoBulkEntries {H : Type} : List (Lit × DataW H) → Nat
  | [] => 0
  | x :: r => uptoBulkEntry x + uptoBulkEntries r
def uptoBulkEntry {H : Type} : Lit × DataW H → Nat
  | (.string bytes, d) => bytes.length + uptoBulk d + 1
  | (_, d) => uptoBulk d + 1
 end
def uptoSmall : (H : Type) → List (DataW H) → Bool := fun _ ds => decide (uptoBulkAll ds ≤ 1048576)
def OpenSpec.upto (s : _root_.Go.ChangeSpec) : _root_.Go.OpenSpec := { _root_.Go.OpenSpec.ofChange s with cond := some uptoSmall }

/-- 'herdsmanlaw10.FieldAsks', WHERE WHAT IT READS IS OF BULK AT MOST 1048576: true; the input reads as it did. -/
def fieldAsksUptoRow : OpenClaim := { program := "ytlnbolaaaahoaaa", sum := "5ab545dc72dee14b733a547b2397be27d96ea8388fce5b6c483e17150862b3c9", func := "herdsman/herdsmanlaw10.FieldAsks", spec := "fieldAsks", inPlace := ["internal/bytealg.IndexByte"], unfollowed := true, recurses := true, apart := false, narrowed := true }
def FieldAsksUptoSaid : Prop := fieldAsksUptoRow.holds Try.pinned (OpenSpec.upto fieldAsksSpec)

/-- 'herdsmanlaw10.FieldLeads', WHERE WHAT IT READS IS OF BULK AT MOST 1048576: true; the input reads as it did. -/
def fieldLeadsUptoRow : OpenClaim := { program := "ytlnbolaaaahoaaa", sum := "5ab545dc72dee14b733a547b2397be27d96ea8388fce5b6c483e17150862b3c9", func := "herdsman/herdsmanlaw10.FieldLeads", spec := "fieldLeads", inPlace := ["internal/bytealg.IndexByte"], unfollowed := true, recurses := true, apart := false, narrowed := true }
def FieldLeadsUptoSaid : Prop := fieldLeadsUptoRow.holds Try.pinned (OpenSpec.upto fieldLeadsSpec)

/-- 'herdsmanlaw10.FieldFirst', WHERE WHAT IT READS IS OF BULK AT MOST 1048576: true; the input reads as it did. -/
def fieldFirstUptoRow : OpenClaim := { program := "ytlnbolaaaahoaaa", sum := "5ab545dc72dee14b733a547b2397be27d96ea8388fce5b6c483e17150862b3c9", func := "herdsman/herdsmanlaw10.FieldFirst", spec := "fieldFirst", inPlace := ["internal/bytealg.IndexByte"], unfollowed := true, recurses := true, apart := false, narrowed := true }
def FieldFirstUptoSaid : Prop := fieldFirstUptoRow.holds Try.pinned (OpenSpec.upto fieldFirstSpec)

/-- 'herdsmanlaw10.WalkAsks', WHERE WHAT IT READS IS OF BULK AT MOST 1048576: true; the input reads as it did. -/
def walkAsksUptoRow : OpenClaim := { program := "ytlnbolaaaahoaaa", sum := "5ab545dc72dee14b733a547b2397be27d96ea8388fce5b6c483e17150862b3c9", func := "herdsman/herdsmanlaw10.WalkAsks", spec := "walkAsks", inPlace := ["internal/bytealg.IndexByte"], unfollowed := true, recurses := true, apart := false, narrowed := true }
def WalkAsksUptoSaid : Prop := walkAsksUptoRow.holds Try.pinned (OpenSpec.upto walkAsksSpec)

/-- 'herdsmanlaw10.WalkEnds', WHERE WHAT IT READS IS OF BULK AT MOST 1048576: true; the input reads as it did. -/
def walkEndsUptoRow : OpenClaim := { program := "ytlnbolaaaahoaaa", sum := "5ab545dc72dee14b733a547b2397be27d96ea8388fce5b6c483e17150862b3c9", func := "herdsman/herdsmanlaw10.WalkEnds", spec := "walkEnds", inPlace := ["internal/bytealg.IndexByte"], unfollowed := true, recurses := true, apart := false, narrowed := true }
def WalkEndsUptoSaid : Prop := walkEndsUptoRow.holds Try.pinned (OpenSpec.upto walkEndsSpec)

end Rows
end Go.Proofs.Ytlnbolaaaahoaaa
