/-
  No cell of these rows narrows 'for every input' (looked for: loops, veiled, ifaces, maps, wideKeys, modest, calm, conditions, laid).
  DERIVED. THE GIVEN ROWS OF THIS SEAT. 5 by the template 'for every input the law returns true; each argument reads behind the call as it read before'; 0 by the template 'total and deterministic' (their statements: YtobankjdgdjehaaTotals.lean).
  GIVEN WITH THE SEED: the statements are not yours to turn. If you find one false, say at which input.
  Laid BY PROGRAM, IN A SANDBOX (cutbox-rows.mjs): the forced cells as the released guide's own fill.sh prints them over the translation a396af85fbb3054d… (all of the seat's roots in one cut). By AI agents, Wed Nov 11 2026. No macro, syntax, notation, axiom, sorry.
-/
import Derived.Test.YtobankjdgdjehaaChecked
import GoSem.Claim
import GoSem.ClaimJoined
import GoSem.ClaimMapViews
import Derived.JoinedTies
import Derived.KernelRfl
namespace Go.Proofs.Ytobankjdgdjehaa
/- THE CELL 'sum', in the pinned program and in every row, IS THE sha256 OF THE DUMP (.gsa) THAT YtobankjdgdjehaaProg.lean LOADS. Nothing in Lean hashes anything: it is a label: what it is worth is what the hold of that sum in a sandbox is worth. -/
noncomputable def Try.pinned : Pinned := { name := "ytobankjdgdjehaa", sum := "a396af85fbb3054d6a0785cbdbf1aba33906cdb0baae5ee30ee301806add9786", checked := Try.checked }
namespace Rows
def none {H : Type} : Left H := { results := [], args := [] }

/-- 'herdsmanlaw8.SeedsAsks': WHATEVER THE INPUT: true; the input reads as it did. -/
def seedsAsksSpec : ChangeSpec := { name := "seedsAsks", fn := fun _ => fun
  | [d1, d2, d3, d4, d5, d6, d7, d8] => { results := [.lit (.bool true)], args := [d1, d2, d3, d4, d5, d6, d7, d8] }
  | _ => none }
def seedsAsksRow : OpenClaim := { program := "ytobankjdgdjehaa", sum := "a396af85fbb3054d6a0785cbdbf1aba33906cdb0baae5ee30ee301806add9786", func := "herdsman/herdsmanlaw8.SeedsAsks", spec := "seedsAsks", inPlace := ["internal/bytealg.IndexByte"], unfollowed := true, recurses := true, apart := false }
def SeedsAsksSaid : Prop := seedsAsksRow.holds Try.pinned (OpenSpec.ofChange seedsAsksSpec)

/-- ITS FALSE NEIGHBOUR: 'it returns false'. Refute it at one input. -/
def seedsAsksWrong : ChangeSpec := { name := "seedsAsks", fn := fun _ => fun
  | [d1, d2, d3, d4, d5, d6, d7, d8] => { results := [.lit (.bool false)], args := [d1, d2, d3, d4, d5, d6, d7, d8] }
  | _ => none }
def SeedsAsksWrongFalsely : Prop := seedsAsksRow.holds Try.pinned (OpenSpec.ofChange seedsAsksWrong)

/-- 'herdsmanlaw8.SeedsSorts': WHATEVER THE INPUT: true; the input reads as it did. -/
def seedsSortsSpec : ChangeSpec := { name := "seedsSorts", fn := fun _ => fun
  | [d1, d2] => { results := [.lit (.bool true)], args := [d1, d2] }
  | _ => none }
def seedsSortsRow : OpenClaim := { program := "ytobankjdgdjehaa", sum := "a396af85fbb3054d6a0785cbdbf1aba33906cdb0baae5ee30ee301806add9786", func := "herdsman/herdsmanlaw8.SeedsSorts", spec := "seedsSorts", unfollowed := true, recurses := true, apart := false }
def SeedsSortsSaid : Prop := seedsSortsRow.holds Try.pinned (OpenSpec.ofChange seedsSortsSpec)

/-- ITS FALSE NEIGHBOUR: 'it returns false'. Refute it at one input. -/
def seedsSortsWrong : ChangeSpec := { name := "seedsSorts", fn := fun _ => fun
  | [d1, d2] => { results := [.lit (.bool false)], args := [d1, d2] }
  | _ => none }
def SeedsSortsWrongFalsely : Prop := seedsSortsRow.holds Try.pinned (OpenSpec.ofChange seedsSortsWrong)

/-- 'herdsmanlaw8.SeedsTwice': WHATEVER THE INPUT: true; the input reads as it did. -/
def seedsTwiceSpec : ChangeSpec := { name := "seedsTwice", fn := fun _ => fun
  | [d1, d2] => { results := [.lit (.bool true)], args := [d1, d2] }
  | _ => none }
def seedsTwiceRow : OpenClaim := { program := "ytobankjdgdjehaa", sum := "a396af85fbb3054d6a0785cbdbf1aba33906cdb0baae5ee30ee301806add9786", func := "herdsman/herdsmanlaw8.SeedsTwice", spec := "seedsTwice", unfollowed := true, recurses := true, apart := false }
def SeedsTwiceSaid : Prop := seedsTwiceRow.holds Try.pinned (OpenSpec.ofChange seedsTwiceSpec)

/-- ITS FALSE NEIGHBOUR: 'it returns false'. Refute it at one input. -/
def seedsTwiceWrong : ChangeSpec := { name := "seedsTwice", fn := fun _ => fun
  | [d1, d2] => { results := [.lit (.bool false)], args := [d1, d2] }
  | _ => none }
def SeedsTwiceWrongFalsely : Prop := seedsTwiceRow.holds Try.pinned (OpenSpec.ofChange seedsTwiceWrong)

/-- 'herdsmanlaw8.SeedsSame': WHATEVER THE INPUT: true; the input reads as it did. -/
def seedsSameSpec : ChangeSpec := { name := "seedsSame", fn := fun _ => fun
  | [d1, d2, d3, d4, d5] => { results := [.lit (.bool true)], args := [d1, d2, d3, d4, d5] }
  | _ => none }
def seedsSameRow : OpenClaim := { program := "ytobankjdgdjehaa", sum := "a396af85fbb3054d6a0785cbdbf1aba33906cdb0baae5ee30ee301806add9786", func := "herdsman/herdsmanlaw8.SeedsSame", spec := "seedsSame", unfollowed := true, recurses := true, apart := false }
def SeedsSameSaid : Prop := seedsSameRow.holds Try.pinned (OpenSpec.ofChange seedsSameSpec)

/-- ITS FALSE NEIGHBOUR: 'it returns false'. Refute it at one input. -/
def seedsSameWrong : ChangeSpec := { name := "seedsSame", fn := fun _ => fun
  | [d1, d2, d3, d4, d5] => { results := [.lit (.bool false)], args := [d1, d2, d3, d4, d5] }
  | _ => none }
def SeedsSameWrongFalsely : Prop := seedsSameRow.holds Try.pinned (OpenSpec.ofChange seedsSameWrong)

/-- 'herdsmanlaw8.SeedsBest': WHATEVER THE INPUT: true; the input reads as it did. -/
def seedsBestSpec : ChangeSpec := { name := "seedsBest", fn := fun _ => fun
  | [d1, d2, d3, d4] => { results := [.lit (.bool true)], args := [d1, d2, d3, d4] }
  | _ => none }
def seedsBestRow : OpenClaim := { program := "ytobankjdgdjehaa", sum := "a396af85fbb3054d6a0785cbdbf1aba33906cdb0baae5ee30ee301806add9786", func := "herdsman/herdsmanlaw8.SeedsBest", spec := "seedsBest", unfollowed := true, recurses := true, apart := false }
def SeedsBestSaid : Prop := seedsBestRow.holds Try.pinned (OpenSpec.ofChange seedsBestSpec)

/-- ITS FALSE NEIGHBOUR: 'it returns false'. Refute it at one input. -/
def seedsBestWrong : ChangeSpec := { name := "seedsBest", fn := fun _ => fun
  | [d1, d2, d3, d4] => { results := [.lit (.bool false)], args := [d1, d2, d3, d4] }
  | _ => none }
def SeedsBestWrongFalsely : Prop := seedsBestRow.holds Try.pinned (OpenSpec.ofChange seedsBestWrong)

/- THE SECOND FORM. 'bulk': how many values and letters a reading holds, each counted each time it is reached (what is shared counts as often as it is met; a slice's spare places count too). A statement '..UptoSaid' is the law's where the arguments, and the package variables that the reading takes, are together of bulk at most 1048576: NARROWER than '..Said'. Prove '..Said' where nothing that the law and all that it calls make is longer than what came in: it says more and counts as full. Else prove '..UptoSaid'. A law counts once. -/
mutual
def uptoBulk {H : Type} : DataW H → Nat
  | .lit (.string bytes) => bytes.length + 1
  | .lit _ => 1
  | .nil => 1
  | .ptr d => uptoBulk d + 1
  | .slice elems spare => uptoBulkAll elems + uptoBulkAll spare + 1
  | .agg parts => uptoBulkAll parts + 1
  | .iface _ d => uptoBulk d + 1
  | .map entries => uptoBulkEntries entries + 1
  | .held _ => 1
def uptoBulkAll {H : Type} : List (DataW H) → Nat
  | [] => 0
  | d :: r => uptoBulk d + uptoBulkAll r
def uptoBulkEntries {H : Type} : List (Lit × DataW H) → Nat
  | [] => 0
  | x :: r => uptoBulkEntry x + uptoBulkEntries r
def uptoBulkEntry {H : Type} : Lit × DataW H → Nat
  | (.string bytes, d) => bytes.length + uptoBulk d + 1
  | (_, d) => uptoBulk d + 1
 end
def uptoSmall : (H : Type) → List (DataW H) → Bool := fun _ ds => decide (uptoBulkAll ds ≤ 1048576)
def OpenSpec.upto (s : _root_.Go.ChangeSpec) : _root_.Go.OpenSpec := { _root_.Go.OpenSpec.ofChange s with cond := some uptoSmall }

/-- 'herdsmanlaw8.SeedsAsks', WHERE WHAT IT READS IS OF BULK AT MOST 1048576: true; the input reads as it did. -/
def seedsAsksUptoRow : OpenClaim := { program := "ytobankjdgdjehaa", sum := "a396af85fbb3054d6a0785cbdbf1aba33906cdb0baae5ee30ee301806add9786", func := "herdsman/herdsmanlaw8.SeedsAsks", spec := "seedsAsks", inPlace := ["internal/bytealg.IndexByte"], unfollowed := true, recurses := true, apart := false, narrowed := true }
def SeedsAsksUptoSaid : Prop := seedsAsksUptoRow.holds Try.pinned (OpenSpec.upto seedsAsksSpec)

/-- 'herdsmanlaw8.SeedsSorts', WHERE WHAT IT READS IS OF BULK AT MOST 1048576: true; the input reads as it did. -/
def seedsSortsUptoRow : OpenClaim := { program := "ytobankjdgdjehaa", sum := "a396af85fbb3054d6a0785cbdbf1aba33906cdb0baae5ee30ee301806add9786", func := "herdsman/herdsmanlaw8.SeedsSorts", spec := "seedsSorts", unfollowed := true, recurses := true, apart := false, narrowed := true }
def SeedsSortsUptoSaid : Prop := seedsSortsUptoRow.holds Try.pinned (OpenSpec.upto seedsSortsSpec)

/-- 'herdsmanlaw8.SeedsTwice', WHERE WHAT IT READS IS OF BULK AT MOST 1048576: true; the input reads as it did. -/
def seedsTwiceUptoRow : OpenClaim := { program := "ytobankjdgdjehaa", sum := "a396af85fbb3054d6a0785cbdbf1aba33906cdb0baae5ee30ee301806add9786", func := "herdsman/herdsmanlaw8.SeedsTwice", spec := "seedsTwice", unfollowed := true, recurses := true, apart := false, narrowed := true }
def SeedsTwiceUptoSaid : Prop := seedsTwiceUptoRow.holds Try.pinned (OpenSpec.upto seedsTwiceSpec)

/-- 'herdsmanlaw8.SeedsSame', WHERE WHAT IT READS IS OF BULK AT MOST 1048576: true; the input reads as it did. -/
def seedsSameUptoRow : OpenClaim := { program := "ytobankjdgdjehaa", sum := "a396af85fbb3054d6a0785cbdbf1aba33906cdb0baae5ee30ee301806add9786", func := "herdsman/herdsmanlaw8.SeedsSame", spec := "seedsSame", unfollowed := true, recurses := true, apart := false, narrowed := true }
def SeedsSameUptoSaid : Prop := seedsSameUptoRow.holds Try.pinned (OpenSpec.upto seedsSameSpec)

/-- 'herdsmanlaw8.SeedsBest', WHERE WHAT IT READS IS OF BULK AT MOST 1048576: true; the input reads as it did. -/
def seedsBestUptoRow : OpenClaim := { program := "ytobankjdgdjehaa", sum := "a396af85fbb3054d6a0785cbdbf1aba33906cdb0baae5ee30ee301806add9786", func := "herdsman/herdsmanlaw8.SeedsBest", spec := "seedsBest", unfollowed := true, recurses := true, apart := false, narrowed := true }
def SeedsBestUptoSaid : Prop := seedsBestUptoRow.holds Try.pinned (OpenSpec.upto seedsBestSpec)

end Rows
end Go.Proofs.Ytobankjdgdjehaa
