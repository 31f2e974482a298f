/-
  No cell of these rows narrows 'for every input' (looked for: loops, veiled, ifaces, maps, wideKeys, modest, calm, conditions, laid).
  DERIVED. THE GIVEN ROWS OF THIS SEAT. 5 by the template 'for every input the law returns true; each argument reads behind the call as it read before'; 0 by the template 'total and deterministic' (their statements: YtmejpildmapfiaaTotals.lean).
  GIVEN WITH THE SEED: the statements are not yours to turn. If you find one false, say at which input.
  Laid BY PROGRAM, IN A SANDBOX (cutbox-rows.mjs): the forced cells as the released guide's own fill.sh prints them over the translation b0284f8a74245c21… (all of the seat's roots in one cut). By AI agents, Wed Nov 11 2026. No macro, syntax, notation, axiom, sorry.
-/
import Derived.Test.YtmejpildmapfiaaChecked
import GoSem.Claim
import GoSem.ClaimJoined
import GoSem.ClaimMapViews
import Derived.JoinedTies
import Derived.KernelRfl
namespace Go.Proofs.Ytmejpildmapfiaa
/- THE CELL 'sum', in the pinned program and in every row, IS THE sha256 OF THE DUMP (.gsa) THAT YtmejpildmapfiaaProg.lean LOADS. Nothing in Lean hashes anything: it is a label: what it is worth is what the hold of that sum in a sandbox is worth. -/
noncomputable def Try.pinned : Pinned := { name := "ytmejpildmapfiaa", sum := "b0284f8a74245c21579b22f52f826bb23e046d7127fa52af740e3aa6ec129fac", checked := Try.checked }
namespace Rows
def none {H : Type} : Left H := { results := [], args := [] }

/-- 'herdsmanlaw5.GridPlays': WHATEVER THE INPUT: true; the input reads as it did. -/
def gridPlaysSpec : ChangeSpec := { name := "gridPlays", fn := fun _ => fun
  | [d1, d2, d3, d4, d5, d6] => { results := [.lit (.bool true)], args := [d1, d2, d3, d4, d5, d6] }
  | _ => none }
def gridPlaysRow : OpenClaim := { program := "ytmejpildmapfiaa", sum := "b0284f8a74245c21579b22f52f826bb23e046d7127fa52af740e3aa6ec129fac", func := "herdsman/herdsmanlaw5.GridPlays", spec := "gridPlays", inPlace := ["internal/bytealg.IndexByte"], apart := false }
def GridPlaysSaid : Prop := gridPlaysRow.holds Try.pinned (OpenSpec.ofChange gridPlaysSpec)

/-- ITS FALSE NEIGHBOUR: 'it returns false'. Refute it at one input. -/
def gridPlaysWrong : ChangeSpec := { name := "gridPlays", fn := fun _ => fun
  | [d1, d2, d3, d4, d5, d6] => { results := [.lit (.bool false)], args := [d1, d2, d3, d4, d5, d6] }
  | _ => none }
def GridPlaysWrongFalsely : Prop := gridPlaysRow.holds Try.pinned (OpenSpec.ofChange gridPlaysWrong)

/-- 'herdsmanlaw5.GridRaw': WHATEVER THE INPUT: true; the input reads as it did. -/
def gridRawSpec : ChangeSpec := { name := "gridRaw", fn := fun _ => fun
  | [d1, d2, d3] => { results := [.lit (.bool true)], args := [d1, d2, d3] }
  | _ => none }
def gridRawRow : OpenClaim := { program := "ytmejpildmapfiaa", sum := "b0284f8a74245c21579b22f52f826bb23e046d7127fa52af740e3aa6ec129fac", func := "herdsman/herdsmanlaw5.GridRaw", spec := "gridRaw", inPlace := ["internal/bytealg.IndexByte"], apart := false }
def GridRawSaid : Prop := gridRawRow.holds Try.pinned (OpenSpec.ofChange gridRawSpec)

/-- ITS FALSE NEIGHBOUR: 'it returns false'. Refute it at one input. -/
def gridRawWrong : ChangeSpec := { name := "gridRaw", fn := fun _ => fun
  | [d1, d2, d3] => { results := [.lit (.bool false)], args := [d1, d2, d3] }
  | _ => none }
def GridRawWrongFalsely : Prop := gridRawRow.holds Try.pinned (OpenSpec.ofChange gridRawWrong)

/-- 'herdsmanlaw5.GridKeeps': WHATEVER THE INPUT: true; the input reads as it did. -/
def gridKeepsSpec : ChangeSpec := { name := "gridKeeps", fn := fun _ => fun
  | [d1, d2, d3, d4, d5] => { results := [.lit (.bool true)], args := [d1, d2, d3, d4, d5] }
  | _ => none }
def gridKeepsRow : OpenClaim := { program := "ytmejpildmapfiaa", sum := "b0284f8a74245c21579b22f52f826bb23e046d7127fa52af740e3aa6ec129fac", func := "herdsman/herdsmanlaw5.GridKeeps", spec := "gridKeeps", inPlace := ["internal/bytealg.IndexByte"], apart := false }
def GridKeepsSaid : Prop := gridKeepsRow.holds Try.pinned (OpenSpec.ofChange gridKeepsSpec)

/-- ITS FALSE NEIGHBOUR: 'it returns false'. Refute it at one input. -/
def gridKeepsWrong : ChangeSpec := { name := "gridKeeps", fn := fun _ => fun
  | [d1, d2, d3, d4, d5] => { results := [.lit (.bool false)], args := [d1, d2, d3, d4, d5] }
  | _ => none }
def GridKeepsWrongFalsely : Prop := gridKeepsRow.holds Try.pinned (OpenSpec.ofChange gridKeepsWrong)

/-- 'herdsmanlaw5.GridVersions': WHATEVER THE INPUT: true; the input reads as it did. -/
def gridVersionsSpec : ChangeSpec := { name := "gridVersions", fn := fun _ => fun
  | [d1, d2, d3, d4] => { results := [.lit (.bool true)], args := [d1, d2, d3, d4] }
  | _ => none }
def gridVersionsRow : OpenClaim := { program := "ytmejpildmapfiaa", sum := "b0284f8a74245c21579b22f52f826bb23e046d7127fa52af740e3aa6ec129fac", func := "herdsman/herdsmanlaw5.GridVersions", spec := "gridVersions", inPlace := ["internal/bytealg.IndexByte"], apart := false }
def GridVersionsSaid : Prop := gridVersionsRow.holds Try.pinned (OpenSpec.ofChange gridVersionsSpec)

/-- ITS FALSE NEIGHBOUR: 'it returns false'. Refute it at one input. -/
def gridVersionsWrong : ChangeSpec := { name := "gridVersions", fn := fun _ => fun
  | [d1, d2, d3, d4] => { results := [.lit (.bool false)], args := [d1, d2, d3, d4] }
  | _ => none }
def GridVersionsWrongFalsely : Prop := gridVersionsRow.holds Try.pinned (OpenSpec.ofChange gridVersionsWrong)

/-- 'herdsmanlaw5.GridNone': WHATEVER THE INPUT: true; the input reads as it did. -/
def gridNoneSpec : ChangeSpec := { name := "gridNone", fn := fun _ => fun
  | [d1, d2, d3] => { results := [.lit (.bool true)], args := [d1, d2, d3] }
  | _ => none }
def gridNoneRow : OpenClaim := { program := "ytmejpildmapfiaa", sum := "b0284f8a74245c21579b22f52f826bb23e046d7127fa52af740e3aa6ec129fac", func := "herdsman/herdsmanlaw5.GridNone", spec := "gridNone", inPlace := ["internal/bytealg.IndexByte"], apart := false }
def GridNoneSaid : Prop := gridNoneRow.holds Try.pinned (OpenSpec.ofChange gridNoneSpec)

/-- ITS FALSE NEIGHBOUR: 'it returns false'. Refute it at one input. -/
def gridNoneWrong : ChangeSpec := { name := "gridNone", fn := fun _ => fun
  | [d1, d2, d3] => { results := [.lit (.bool false)], args := [d1, d2, d3] }
  | _ => none }
def GridNoneWrongFalsely : Prop := gridNoneRow.holds Try.pinned (OpenSpec.ofChange gridNoneWrong)

/- THE SECOND FORM. 'bulk': how many values and letters a reading holds, each counted each time it is reached (what is shared counts as often as it is met; a slice's spare places count too). A statement '..UptoSaid' is the law's where the arguments, and the package variables that the reading takes, are together of bulk at most 1048576: NARROWER than '..Said'. Prove '..Said' where nothing that the law and all that it calls make is longer than what came in: it says more and counts as full. Else prove '..UptoSaid'. A law counts once. -/
mutual
def uptoBulk {H : Type} : DataW H → Nat
  | .lit (.string bytes) => bytes.length + 1
  | .lit _ => 1
  | .nil => 1
  | .ptr d => uptoBulk d + 1
  | .slice elems spare => uptoBulkAll elems + uptoBulkAll spare + 1
  | .agg parts => uptoBulkAll parts + 1
  | .iface _ d => uptoBulk d + 1
  | .map entries => uptoBulkEntries entries + 1
  | .held _ => 1
def uptoBulkAll {H : Type} : List (DataW H) → Nat
  | [] => 0
  | d :: r => uptoBulk d + uptoBulkAll r
def uptoBulkEntries {H : Type} : List (Lit × DataW H) → Nat
  | [] => 0
  | x :: r => uptoBulkEntry x + uptoBulkEntries r
def uptoBulkEntry {H : Type} : Lit × DataW H → Nat
  | (.string bytes, d) => bytes.length + uptoBulk d + 1
  | (_, d) => uptoBulk d + 1
 end
def uptoSmall : (H : Type) → List (DataW H) → Bool := fun _ ds => decide (uptoBulkAll ds ≤ 1048576)
def OpenSpec.upto (s : _root_.Go.ChangeSpec) : _root_.Go.OpenSpec := { _root_.Go.OpenSpec.ofChange s with cond := some uptoSmall }

/-- 'herdsmanlaw5.GridPlays', WHERE WHAT IT READS IS OF BULK AT MOST 1048576: true; the input reads as it did. -/
def gridPlaysUptoRow : OpenClaim := { program := "ytmejpildmapfiaa", sum := "b0284f8a74245c21579b22f52f826bb23e046d7127fa52af740e3aa6ec129fac", func := "herdsman/herdsmanlaw5.GridPlays", spec := "gridPlays", inPlace := ["internal/bytealg.IndexByte"], apart := false, narrowed := true }
def GridPlaysUptoSaid : Prop := gridPlaysUptoRow.holds Try.pinned (OpenSpec.upto gridPlaysSpec)

/-- 'herdsmanlaw5.GridRaw', WHERE WHAT IT READS IS OF BULK AT MOST 1048576: true; the input reads as it did. -/
def gridRawUptoRow : OpenClaim := { program := "ytmejpildmapfiaa", sum := "b0284f8a74245c21579b22f52f826bb23e046d7127fa52af740e3aa6ec129fac", func := "herdsman/herdsmanlaw5.GridRaw", spec := "gridRaw", inPlace := ["internal/bytealg.IndexByte"], apart := false, narrowed := true }
def GridRawUptoSaid : Prop := gridRawUptoRow.holds Try.pinned (OpenSpec.upto gridRawSpec)

/-- 'herdsmanlaw5.GridKeeps', WHERE WHAT IT READS IS OF BULK AT MOST 1048576: true; the input reads as it did. -/
def gridKeepsUptoRow : OpenClaim := { program := "ytmejpildmapfiaa", sum := "b0284f8a74245c21579b22f52f826bb23e046d7127fa52af740e3aa6ec129fac", func := "herdsman/herdsmanlaw5.GridKeeps", spec := "gridKeeps", inPlace := ["internal/bytealg.IndexByte"], apart := false, narrowed := true }
def GridKeepsUptoSaid : Prop := gridKeepsUptoRow.holds Try.pinned (OpenSpec.upto gridKeepsSpec)

/-- 'herdsmanlaw5.GridVersions', WHERE WHAT IT READS IS OF BULK AT MOST 1048576: true; the input reads as it did. -/
def gridVersionsUptoRow : OpenClaim := { program := "ytmejpildmapfiaa", sum := "b0284f8a74245c21579b22f52f826bb23e046d7127fa52af740e3aa6ec129fac", func := "herdsman/herdsmanlaw5.GridVersions", spec := "gridVersions", inPlace := ["internal/bytealg.IndexByte"], apart := false, narrowed := true }
def GridVersionsUptoSaid : Prop := gridVersionsUptoRow.holds Try.pinned (OpenSpec.upto gridVersionsSpec)

/-- 'herdsmanlaw5.GridNone', WHERE WHAT IT READS IS OF BULK AT MOST 1048576: true; the input reads as it did. -/
def gridNoneUptoRow : OpenClaim := { program := "ytmejpildmapfiaa", sum := "b0284f8a74245c21579b22f52f826bb23e046d7127fa52af740e3aa6ec129fac", func := "herdsman/herdsmanlaw5.GridNone", spec := "gridNone", inPlace := ["internal/bytealg.IndexByte"], apart := false, narrowed := true }
def GridNoneUptoSaid : Prop := gridNoneUptoRow.holds Try.pinned (OpenSpec.upto gridNoneSpec)

end Rows
end Go.Proofs.Ytmejpildmapfiaa
