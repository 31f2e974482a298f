/-
  No cell of these rows narrows 'for every input' (looked for: loops, veiled, ifaces, maps, wideKeys, modest, calm, conditions, laid).
  DERIVED. THE GIVEN ROWS OF THIS SEAT. 5 by the template 'for every input the law returns true; each argument reads behind the call as it read before'; 0 by the template 'total and deterministic' (their statements: YtgbadbkipaccgaaGreatTotals.lean).
  GIVEN WITH THE SEED: the statements are not yours to turn. If you find one false, say at which input.
  Laid BY PROGRAM, IN A SANDBOX (cutbox-rows.mjs): the forced cells as the released guide's own fill.sh prints them over the translation f86a227d96cfa48d… (all of the seat's roots in one cut). By AI agents, Wed Nov 11 2026. No macro, syntax, notation, axiom, sorry.
-/
import Derived.Test.YtgbadbkipaccgaaGreatChecked
import GoSem.Claim
import GoSem.ClaimJoined
import GoSem.ClaimMapViews
import Derived.JoinedTies
import Derived.KernelRfl
namespace Go.Proofs.YtgbadbkipaccgaaGreat
/- THE CELL 'sum', in the pinned program and in every row, IS THE sha256 OF THE DUMP (.gsa) THAT YtgbadbkipaccgaaGreatProg.lean LOADS. Nothing in Lean hashes anything: it is a label: what it is worth is what the hold of that sum in a sandbox is worth. -/
noncomputable def Tryz.pinned : Pinned := { name := "ytgbadbkipaccgaagreat", sum := "f86a227d96cfa48d0e19ace7efb7dcaa2f0879e588929a2d9ce69720e357ca79", checked := Tryz.checked }
namespace Rows
def none {H : Type} : Left H := { results := [], args := [] }

/-- 'herdsmanlaw14.MeshBuilds': WHATEVER THE INPUT: true; the input reads as it did. -/
def meshBuildsSpec : ChangeSpec := { name := "meshBuilds", fn := fun _ => fun
  | [d1, d2, d3, d4, d5, d6, d7] => { results := [.lit (.bool true)], args := [d1, d2, d3, d4, d5, d6, d7] }
  | _ => none }
def meshBuildsRow : OpenClaim := { program := "ytgbadbkipaccgaagreat", sum := "f86a227d96cfa48d0e19ace7efb7dcaa2f0879e588929a2d9ce69720e357ca79", func := "herdsman/herdsmanlaw14.MeshBuilds", spec := "meshBuilds", inPlace := ["internal/bytealg.IndexByte"], unfollowed := true, recurses := true, apart := false }
def MeshBuildsSaid : Prop := meshBuildsRow.holds Tryz.pinned (OpenSpec.ofChange meshBuildsSpec)

/-- ITS FALSE NEIGHBOUR: 'it returns false'. Refute it at one input. -/
def meshBuildsWrong : ChangeSpec := { name := "meshBuilds", fn := fun _ => fun
  | [d1, d2, d3, d4, d5, d6, d7] => { results := [.lit (.bool false)], args := [d1, d2, d3, d4, d5, d6, d7] }
  | _ => none }
def MeshBuildsWrongFalsely : Prop := meshBuildsRow.holds Tryz.pinned (OpenSpec.ofChange meshBuildsWrong)

/-- 'herdsmanlaw14.MeshDirty': WHATEVER THE INPUT: true; the input reads as it did. -/
def meshDirtySpec : ChangeSpec := { name := "meshDirty", fn := fun _ => fun
  | [d1, d2, d3, d4, d5] => { results := [.lit (.bool true)], args := [d1, d2, d3, d4, d5] }
  | _ => none }
def meshDirtyRow : OpenClaim := { program := "ytgbadbkipaccgaagreat", sum := "f86a227d96cfa48d0e19ace7efb7dcaa2f0879e588929a2d9ce69720e357ca79", func := "herdsman/herdsmanlaw14.MeshDirty", spec := "meshDirty", inPlace := ["internal/bytealg.IndexByte"], unfollowed := true, recurses := true, apart := false }
def MeshDirtySaid : Prop := meshDirtyRow.holds Tryz.pinned (OpenSpec.ofChange meshDirtySpec)

/-- ITS FALSE NEIGHBOUR: 'it returns false'. Refute it at one input. -/
def meshDirtyWrong : ChangeSpec := { name := "meshDirty", fn := fun _ => fun
  | [d1, d2, d3, d4, d5] => { results := [.lit (.bool false)], args := [d1, d2, d3, d4, d5] }
  | _ => none }
def MeshDirtyWrongFalsely : Prop := meshDirtyRow.holds Tryz.pinned (OpenSpec.ofChange meshDirtyWrong)

/-- 'herdsmanlaw14.MeshKeeps': WHATEVER THE INPUT: true; the input reads as it did. -/
def meshKeepsSpec : ChangeSpec := { name := "meshKeeps", fn := fun _ => fun
  | [d1, d2, d3, d4, d5, d6, d7] => { results := [.lit (.bool true)], args := [d1, d2, d3, d4, d5, d6, d7] }
  | _ => none }
def meshKeepsRow : OpenClaim := { program := "ytgbadbkipaccgaagreat", sum := "f86a227d96cfa48d0e19ace7efb7dcaa2f0879e588929a2d9ce69720e357ca79", func := "herdsman/herdsmanlaw14.MeshKeeps", spec := "meshKeeps", inPlace := ["internal/bytealg.IndexByte"], unfollowed := true, recurses := true, apart := false }
def MeshKeepsSaid : Prop := meshKeepsRow.holds Tryz.pinned (OpenSpec.ofChange meshKeepsSpec)

/-- ITS FALSE NEIGHBOUR: 'it returns false'. Refute it at one input. -/
def meshKeepsWrong : ChangeSpec := { name := "meshKeeps", fn := fun _ => fun
  | [d1, d2, d3, d4, d5, d6, d7] => { results := [.lit (.bool false)], args := [d1, d2, d3, d4, d5, d6, d7] }
  | _ => none }
def MeshKeepsWrongFalsely : Prop := meshKeepsRow.holds Tryz.pinned (OpenSpec.ofChange meshKeepsWrong)

/-- 'herdsmanlaw14.MeshWays': WHATEVER THE INPUT: true; the input reads as it did. -/
def meshWaysSpec : ChangeSpec := { name := "meshWays", fn := fun _ => fun
  | [d1, d2, d3, d4] => { results := [.lit (.bool true)], args := [d1, d2, d3, d4] }
  | _ => none }
def meshWaysRow : OpenClaim := { program := "ytgbadbkipaccgaagreat", sum := "f86a227d96cfa48d0e19ace7efb7dcaa2f0879e588929a2d9ce69720e357ca79", func := "herdsman/herdsmanlaw14.MeshWays", spec := "meshWays", inPlace := ["internal/bytealg.IndexByte"], unfollowed := true, recurses := true, apart := false }
def MeshWaysSaid : Prop := meshWaysRow.holds Tryz.pinned (OpenSpec.ofChange meshWaysSpec)

/-- ITS FALSE NEIGHBOUR: 'it returns false'. Refute it at one input. -/
def meshWaysWrong : ChangeSpec := { name := "meshWays", fn := fun _ => fun
  | [d1, d2, d3, d4] => { results := [.lit (.bool false)], args := [d1, d2, d3, d4] }
  | _ => none }
def MeshWaysWrongFalsely : Prop := meshWaysRow.holds Tryz.pinned (OpenSpec.ofChange meshWaysWrong)

/-- 'herdsmanlaw14.MeshNone': WHATEVER THE INPUT: true; the input reads as it did. -/
def meshNoneSpec : ChangeSpec := { name := "meshNone", fn := fun _ => fun
  | [d1, d2] => { results := [.lit (.bool true)], args := [d1, d2] }
  | _ => none }
def meshNoneRow : OpenClaim := { program := "ytgbadbkipaccgaagreat", sum := "f86a227d96cfa48d0e19ace7efb7dcaa2f0879e588929a2d9ce69720e357ca79", func := "herdsman/herdsmanlaw14.MeshNone", spec := "meshNone", inPlace := ["internal/bytealg.IndexByte"], unfollowed := true, recurses := true, apart := false }
def MeshNoneSaid : Prop := meshNoneRow.holds Tryz.pinned (OpenSpec.ofChange meshNoneSpec)

/-- ITS FALSE NEIGHBOUR: 'it returns false'. Refute it at one input. -/
def meshNoneWrong : ChangeSpec := { name := "meshNone", fn := fun _ => fun
  | [d1, d2] => { results := [.lit (.bool false)], args := [d1, d2] }
  | _ => none }
def MeshNoneWrongFalsely : Prop := meshNoneRow.holds Tryz.pinned (OpenSpec.ofChange meshNoneWrong)

/- THE SECOND FORM. 'bulk': how many values and letters a reading holds, each counted each time it is reached (what is shared counts as often as it is met; a slice's spare places count too). A statement '..UptoSaid' is the law's where the arguments, and the package variables that the reading takes, are together of bulk at most 1048576: NARROWER than '..Said'. Prove '..Said' where nothing that the law and all that it calls make is longer than what came in: it says more and counts as full. Else prove '..UptoSaid'. A law counts once. -/
mutual
def uptoBulk {H : Type} : DataW H → Nat
  | .lit (.string bytes) => bytes.length + 1
  | .lit _ => 1
  | .nil => 1
  | .ptr d => uptoBulk d + 1
  | .slice elems spare => uptoBulkAll elems + uptoBulkAll spare + 1
  | .agg parts => uptoBulkAll parts + 1
  | .iface _ d => uptoBulk d + 1
  | .map entries => uptoBulkEntries entries + 1
  | .held _ => 1
def uptoBulkAll {H : Type} : List (DataW H) → Nat
  | [] => 0
  | d :: r => uptoBulk d + uptoBulkAll r
def uptoBulkEntries {H : Type} : List (Lit × DataW H) → Nat
  | [] => 0
  | x :: r => uptoBulkEntry x + uptoBulkEntries r
def uptoBulkEntry {H : Type} : Lit × DataW H → Nat
  | (.string bytes, d) => bytes.length + uptoBulk d + 1
  | (_, d) => uptoBulk d + 1
 end
def uptoSmall : (H : Type) → List (DataW H) → Bool := fun _ ds => decide (uptoBulkAll ds ≤ 1048576)
def OpenSpec.upto (s : _root_.Go.ChangeSpec) : _root_.Go.OpenSpec := { _root_.Go.OpenSpec.ofChange s with cond := some uptoSmall }

/-- 'herdsmanlaw14.MeshBuilds', WHERE WHAT IT READS IS OF BULK AT MOST 1048576: true; the input reads as it did. -/
def meshBuildsUptoRow : OpenClaim := { program := "ytgbadbkipaccgaagreat", sum := "f86a227d96cfa48d0e19ace7efb7dcaa2f0879e588929a2d9ce69720e357ca79", func := "herdsman/herdsmanlaw14.MeshBuilds", spec := "meshBuilds", inPlace := ["internal/bytealg.IndexByte"], unfollowed := true, recurses := true, apart := false, narrowed := true }
def MeshBuildsUptoSaid : Prop := meshBuildsUptoRow.holds Tryz.pinned (OpenSpec.upto meshBuildsSpec)

/-- 'herdsmanlaw14.MeshDirty', WHERE WHAT IT READS IS OF BULK AT MOST 1048576: true; the input reads as it did. -/
def meshDirtyUptoRow : OpenClaim := { program := "ytgbadbkipaccgaagreat", sum := "f86a227d96cfa48d0e19ace7efb7dcaa2f0879e588929a2d9ce69720e357ca79", func := "herdsman/herdsmanlaw14.MeshDirty", spec := "meshDirty", inPlace := ["internal/bytealg.IndexByte"], unfollowed := true, recurses := true, apart := false, narrowed := true }
def MeshDirtyUptoSaid : Prop := meshDirtyUptoRow.holds Tryz.pinned (OpenSpec.upto meshDirtySpec)

/-- 'herdsmanlaw14.MeshKeeps', WHERE WHAT IT READS IS OF BULK AT MOST 1048576: true; the input reads as it did. -/
def meshKeepsUptoRow : OpenClaim := { program := "ytgbadbkipaccgaagreat", sum := "f86a227d96cfa48d0e19ace7efb7dcaa2f0879e588929a2d9ce69720e357ca79", func := "herdsman/herdsmanlaw14.MeshKeeps", spec := "meshKeeps", inPlace := ["internal/bytealg.IndexByte"], unfollowed := true, recurses := true, apart := false, narrowed := true }
def MeshKeepsUptoSaid : Prop := meshKeepsUptoRow.holds Tryz.pinned (OpenSpec.upto meshKeepsSpec)

/-- 'herdsmanlaw14.MeshWays', WHERE WHAT IT READS IS OF BULK AT MOST 1048576: true; the input reads as it did. -/
def meshWaysUptoRow : OpenClaim := { program := "ytgbadbkipaccgaagreat", sum := "f86a227d96cfa48d0e19ace7efb7dcaa2f0879e588929a2d9ce69720e357ca79", func := "herdsman/herdsmanlaw14.MeshWays", spec := "meshWays", inPlace := ["internal/bytealg.IndexByte"], unfollowed := true, recurses := true, apart := false, narrowed := true }
def MeshWaysUptoSaid : Prop := meshWaysUptoRow.holds Tryz.pinned (OpenSpec.upto meshWaysSpec)

/-- 'herdsmanlaw14.MeshNone', WHERE WHAT IT READS IS OF BULK AT MOST 1048576: true; the input reads as it did. -/
def meshNoneUptoRow : OpenClaim := { program := "ytgbadbkipaccgaagreat", sum := "f86a227d96cfa48d0e19ace7efb7dcaa2f0879e588929a2d9ce69720e357ca79", func := "herdsman/herdsmanlaw14.MeshNone", spec := "meshNone", inPlace := ["internal/bytealg.IndexByte"], unfollowed := true, recurses := true, apart := false, narrowed := true }
def MeshNoneUptoSaid : Prop := meshNoneUptoRow.holds Tryz.pinned (OpenSpec.upto meshNoneSpec)

end Rows
end Go.Proofs.YtgbadbkipaccgaaGreat
