/-
  No cell of these rows narrows 'for every input' (looked for: loops, veiled, ifaces, maps, wideKeys, modest, calm, conditions, laid).
  DERIVED. THE GIVEN ROWS OF THIS SEAT. 5 by the template 'for every input the law returns true; each argument reads behind the call as it read before'; 0 by the template 'total and deterministic' (their statements: YtigoehoaplndiaaTotals.lean).
  GIVEN WITH THE SEED: the statements are not yours to turn. If you find one false, say at which input.
  Laid BY PROGRAM, IN A SANDBOX (cutbox-rows.mjs): the forced cells as the released guide's own fill.sh prints them over the translation 2bc64d5fb751f32b… (all of the seat's roots in one cut). By AI agents, Wed Nov 11 2026. No macro, syntax, notation, axiom, sorry.
-/
import Derived.Test.YtigoehoaplndiaaChecked
import GoSem.Claim
import GoSem.ClaimJoined
import GoSem.ClaimMapViews
import Derived.JoinedTies
import Derived.KernelRfl
namespace Go.Proofs.Ytigoehoaplndiaa
/- THE CELL 'sum', in the pinned program and in every row, IS THE sha256 OF THE DUMP (.gsa) THAT YtigoehoaplndiaaProg.lean LOADS. Nothing in Lean hashes anything: it is a label: what it is worth is what the hold of that sum in a sandbox is worth. -/
noncomputable def Try.pinned : Pinned := { name := "ytigoehoaplndiaa", sum := "2bc64d5fb751f32b0deb00291e35f22e08317a06628bc9ae4f5896b7e3307435", checked := Try.checked }
namespace Rows
def none {H : Type} : Left H := { results := [], args := [] }

/-- 'herdsmanlaw9.SpreadAsks': WHATEVER THE INPUT: true; the input reads as it did. -/
def spreadAsksSpec : ChangeSpec := { name := "spreadAsks", fn := fun _ => fun
  | [d1, d2, d3, d4, d5, d6] => { results := [.lit (.bool true)], args := [d1, d2, d3, d4, d5, d6] }
  | _ => none }
def spreadAsksRow : OpenClaim := { program := "ytigoehoaplndiaa", sum := "2bc64d5fb751f32b0deb00291e35f22e08317a06628bc9ae4f5896b7e3307435", func := "herdsman/herdsmanlaw9.SpreadAsks", spec := "spreadAsks", inPlace := ["internal/bytealg.IndexByte"], unfollowed := true, recurses := true, apart := false }
def SpreadAsksSaid : Prop := spreadAsksRow.holds Try.pinned (OpenSpec.ofChange spreadAsksSpec)

/-- ITS FALSE NEIGHBOUR: 'it returns false'. Refute it at one input. -/
def spreadAsksWrong : ChangeSpec := { name := "spreadAsks", fn := fun _ => fun
  | [d1, d2, d3, d4, d5, d6] => { results := [.lit (.bool false)], args := [d1, d2, d3, d4, d5, d6] }
  | _ => none }
def SpreadAsksWrongFalsely : Prop := spreadAsksRow.holds Try.pinned (OpenSpec.ofChange spreadAsksWrong)

/-- 'herdsmanlaw9.SpreadFixed': WHATEVER THE INPUT: true; the input reads as it did. -/
def spreadFixedSpec : ChangeSpec := { name := "spreadFixed", fn := fun _ => fun
  | [d1, d2, d3, d4] => { results := [.lit (.bool true)], args := [d1, d2, d3, d4] }
  | _ => none }
def spreadFixedRow : OpenClaim := { program := "ytigoehoaplndiaa", sum := "2bc64d5fb751f32b0deb00291e35f22e08317a06628bc9ae4f5896b7e3307435", func := "herdsman/herdsmanlaw9.SpreadFixed", spec := "spreadFixed", inPlace := ["internal/bytealg.IndexByte"], unfollowed := true, recurses := true, apart := false }
def SpreadFixedSaid : Prop := spreadFixedRow.holds Try.pinned (OpenSpec.ofChange spreadFixedSpec)

/-- ITS FALSE NEIGHBOUR: 'it returns false'. Refute it at one input. -/
def spreadFixedWrong : ChangeSpec := { name := "spreadFixed", fn := fun _ => fun
  | [d1, d2, d3, d4] => { results := [.lit (.bool false)], args := [d1, d2, d3, d4] }
  | _ => none }
def SpreadFixedWrongFalsely : Prop := spreadFixedRow.holds Try.pinned (OpenSpec.ofChange spreadFixedWrong)

/-- 'herdsmanlaw9.SpreadParts': WHATEVER THE INPUT: true; the input reads as it did. -/
def spreadPartsSpec : ChangeSpec := { name := "spreadParts", fn := fun _ => fun
  | [d1, d2, d3, d4, d5] => { results := [.lit (.bool true)], args := [d1, d2, d3, d4, d5] }
  | _ => none }
def spreadPartsRow : OpenClaim := { program := "ytigoehoaplndiaa", sum := "2bc64d5fb751f32b0deb00291e35f22e08317a06628bc9ae4f5896b7e3307435", func := "herdsman/herdsmanlaw9.SpreadParts", spec := "spreadParts", inPlace := ["internal/bytealg.IndexByte"], unfollowed := true, recurses := true, apart := false }
def SpreadPartsSaid : Prop := spreadPartsRow.holds Try.pinned (OpenSpec.ofChange spreadPartsSpec)

/-- ITS FALSE NEIGHBOUR: 'it returns false'. Refute it at one input. -/
def spreadPartsWrong : ChangeSpec := { name := "spreadParts", fn := fun _ => fun
  | [d1, d2, d3, d4, d5] => { results := [.lit (.bool false)], args := [d1, d2, d3, d4, d5] }
  | _ => none }
def SpreadPartsWrongFalsely : Prop := spreadPartsRow.holds Try.pinned (OpenSpec.ofChange spreadPartsWrong)

/-- 'herdsmanlaw9.SpreadLater': WHATEVER THE INPUT: true; the input reads as it did. -/
def spreadLaterSpec : ChangeSpec := { name := "spreadLater", fn := fun _ => fun
  | [d1, d2, d3, d4, d5] => { results := [.lit (.bool true)], args := [d1, d2, d3, d4, d5] }
  | _ => none }
def spreadLaterRow : OpenClaim := { program := "ytigoehoaplndiaa", sum := "2bc64d5fb751f32b0deb00291e35f22e08317a06628bc9ae4f5896b7e3307435", func := "herdsman/herdsmanlaw9.SpreadLater", spec := "spreadLater", inPlace := ["internal/bytealg.IndexByte"], unfollowed := true, recurses := true, apart := false }
def SpreadLaterSaid : Prop := spreadLaterRow.holds Try.pinned (OpenSpec.ofChange spreadLaterSpec)

/-- ITS FALSE NEIGHBOUR: 'it returns false'. Refute it at one input. -/
def spreadLaterWrong : ChangeSpec := { name := "spreadLater", fn := fun _ => fun
  | [d1, d2, d3, d4, d5] => { results := [.lit (.bool false)], args := [d1, d2, d3, d4, d5] }
  | _ => none }
def SpreadLaterWrongFalsely : Prop := spreadLaterRow.holds Try.pinned (OpenSpec.ofChange spreadLaterWrong)

/-- 'herdsmanlaw9.SpreadWays': WHATEVER THE INPUT: true; the input reads as it did. -/
def spreadWaysSpec : ChangeSpec := { name := "spreadWays", fn := fun _ => fun
  | [d1, d2, d3, d4, d5, d6] => { results := [.lit (.bool true)], args := [d1, d2, d3, d4, d5, d6] }
  | _ => none }
def spreadWaysRow : OpenClaim := { program := "ytigoehoaplndiaa", sum := "2bc64d5fb751f32b0deb00291e35f22e08317a06628bc9ae4f5896b7e3307435", func := "herdsman/herdsmanlaw9.SpreadWays", spec := "spreadWays", inPlace := ["internal/bytealg.IndexByte"], unfollowed := true, recurses := true, apart := false }
def SpreadWaysSaid : Prop := spreadWaysRow.holds Try.pinned (OpenSpec.ofChange spreadWaysSpec)

/-- ITS FALSE NEIGHBOUR: 'it returns false'. Refute it at one input. -/
def spreadWaysWrong : ChangeSpec := { name := "spreadWays", fn := fun _ => fun
  | [d1, d2, d3, d4, d5, d6] => { results := [.lit (.bool false)], args := [d1, d2, d3, d4, d5, d6] }
  | _ => none }
def SpreadWaysWrongFalsely : Prop := spreadWaysRow.holds Try.pinned (OpenSpec.ofChange spreadWaysWrong)

/- THE SECOND FORM. 'bulk': how many values and letters a reading holds, each counted each time it is reached (what is shared counts as often as it is met; a slice's spare places count too). A statement '..UptoSaid' is the law's where the arguments, and the package variables that the reading takes, are together of bulk at most 1048576: NARROWER than '..Said'. Prove '..Said' where nothing that the law and all that it calls make is longer than what came in: it says more and counts as full. Else prove '..UptoSaid'. A law counts once. -/
mutual
def uptoBulk {H : Type} : DataW H → Nat
  | .lit (.string bytes) => bytes.length + 1
  | .lit _ => 1
  | .nil => 1
  | .ptr d => uptoBulk d + 1
  | .slice elems spare => uptoBulkAll elems + uptoBulkAll spare + 1
  | .agg parts => uptoBulkAll parts + 1
  | .iface _ d => uptoBulk d + 1
  | .map entries => uptoBulkEntries entries + 1
  | .held _ => 1
def uptoBulkAll {H : Type} : List (DataW H) → Nat
  | [] => 0
  | d :: r => uptoBulk d + uptoBulkAll r
def uptoBulkEntries {H : Type} : List (Lit × DataW H) → Nat
  | [] => 0
  | x :: r => uptoBulkEntry x + uptoBulkEntries r
def uptoBulkEntry {H : Type} : Lit × DataW H → Nat
  | (.string bytes, d) => bytes.length + uptoBulk d + 1
  | (_, d) => uptoBulk d + 1
 end
def uptoSmall : (H : Type) → List (DataW H) → Bool := fun _ ds => decide (uptoBulkAll ds ≤ 1048576)
def OpenSpec.upto (s : _root_.Go.ChangeSpec) : _root_.Go.OpenSpec := { _root_.Go.OpenSpec.ofChange s with cond := some uptoSmall }

/-- 'herdsmanlaw9.SpreadAsks', WHERE WHAT IT READS IS OF BULK AT MOST 1048576: true; the input reads as it did. -/
def spreadAsksUptoRow : OpenClaim := { program := "ytigoehoaplndiaa", sum := "2bc64d5fb751f32b0deb00291e35f22e08317a06628bc9ae4f5896b7e3307435", func := "herdsman/herdsmanlaw9.SpreadAsks", spec := "spreadAsks", inPlace := ["internal/bytealg.IndexByte"], unfollowed := true, recurses := true, apart := false, narrowed := true }
def SpreadAsksUptoSaid : Prop := spreadAsksUptoRow.holds Try.pinned (OpenSpec.upto spreadAsksSpec)

/-- 'herdsmanlaw9.SpreadFixed', WHERE WHAT IT READS IS OF BULK AT MOST 1048576: true; the input reads as it did. -/
def spreadFixedUptoRow : OpenClaim := { program := "ytigoehoaplndiaa", sum := "2bc64d5fb751f32b0deb00291e35f22e08317a06628bc9ae4f5896b7e3307435", func := "herdsman/herdsmanlaw9.SpreadFixed", spec := "spreadFixed", inPlace := ["internal/bytealg.IndexByte"], unfollowed := true, recurses := true, apart := false, narrowed := true }
def SpreadFixedUptoSaid : Prop := spreadFixedUptoRow.holds Try.pinned (OpenSpec.upto spreadFixedSpec)

/-- 'herdsmanlaw9.SpreadParts', WHERE WHAT IT READS IS OF BULK AT MOST 1048576: true; the input reads as it did. -/
def spreadPartsUptoRow : OpenClaim := { program := "ytigoehoaplndiaa", sum := "2bc64d5fb751f32b0deb00291e35f22e08317a06628bc9ae4f5896b7e3307435", func := "herdsman/herdsmanlaw9.SpreadParts", spec := "spreadParts", inPlace := ["internal/bytealg.IndexByte"], unfollowed := true, recurses := true, apart := false, narrowed := true }
def SpreadPartsUptoSaid : Prop := spreadPartsUptoRow.holds Try.pinned (OpenSpec.upto spreadPartsSpec)

/-- 'herdsmanlaw9.SpreadLater', WHERE WHAT IT READS IS OF BULK AT MOST 1048576: true; the input reads as it did. -/
def spreadLaterUptoRow : OpenClaim := { program := "ytigoehoaplndiaa", sum := "2bc64d5fb751f32b0deb00291e35f22e08317a06628bc9ae4f5896b7e3307435", func := "herdsman/herdsmanlaw9.SpreadLater", spec := "spreadLater", inPlace := ["internal/bytealg.IndexByte"], unfollowed := true, recurses := true, apart := false, narrowed := true }
def SpreadLaterUptoSaid : Prop := spreadLaterUptoRow.holds Try.pinned (OpenSpec.upto spreadLaterSpec)

/-- 'herdsmanlaw9.SpreadWays', WHERE WHAT IT READS IS OF BULK AT MOST 1048576: true; the input reads as it did. -/
def spreadWaysUptoRow : OpenClaim := { program := "ytigoehoaplndiaa", sum := "2bc64d5fb751f32b0deb00291e35f22e08317a06628bc9ae4f5896b7e3307435", func := "herdsman/herdsmanlaw9.SpreadWays", spec := "spreadWays", inPlace := ["internal/bytealg.IndexByte"], unfollowed := true, recurses := true, apart := false, narrowed := true }
def SpreadWaysUptoSaid : Prop := spreadWaysUptoRow.holds Try.pinned (OpenSpec.upto spreadWaysSpec)

end Rows
end Go.Proofs.Ytigoehoaplndiaa
