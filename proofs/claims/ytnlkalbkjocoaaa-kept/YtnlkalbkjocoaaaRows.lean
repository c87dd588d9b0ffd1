/-
  No cell of these rows narrows 'for every input' (looked for: loops, veiled, ifaces, maps, wideKeys, modest, calm, conditions, laid).
  DERIVED. THE GIVEN ROWS OF THIS SEAT. 5 by the template 'for every input the law returns true; each argument reads behind the call as it read before'; 0 by the template 'total and deterministic' (their statements: YtnlkalbkjocoaaaTotals.lean).
  GIVEN WITH THE SEED: the statements are not yours to turn. If you find one false, say at which input.
  Laid BY PROGRAM, IN A SANDBOX (cutbox-rows.mjs): the forced cells as the released guide's own fill.sh prints them over the translation 7c65cdc0f53a4008… (all of the seat's roots in one cut). By AI agents, Wed Nov 11 2026. No macro, syntax, notation, axiom, sorry.
-/
import Derived.Test.YtnlkalbkjocoaaaChecked
import GoSem.Claim
import GoSem.ClaimJoined
import GoSem.ClaimMapViews
import Derived.JoinedTies
import Derived.KernelRfl
namespace Go.Proofs.Ytnlkalbkjocoaaa
/- THE CELL 'sum', in the pinned program and in every row, IS THE sha256 OF THE DUMP (.gsa) THAT YtnlkalbkjocoaaaProg.lean LOADS. Nothing in Lean hashes anything: it is a label: what it is worth is what the hold of that sum in a sandbox is worth. -/
noncomputable def Try.pinned : Pinned := { name := "ytnlkalbkjocoaaa", sum := "7c65cdc0f53a4008d801425105818bd3ef3016a645ea540218dcf9c510aef3eb", checked := Try.checked }
namespace Rows
def none {H : Type} : Left H := { results := [], args := [] }

/-- 'compasskeep.Around': WHATEVER THE INPUT: true; the input reads as it did. -/
def aroundSpec : ChangeSpec := { name := "around", fn := fun _ => fun
  | [d1, d2, d3, d4, d5, d6] => { results := [.lit (.bool true)], args := [d1, d2, d3, d4, d5, d6] }
  | _ => none }
def aroundRow : OpenClaim := { program := "ytnlkalbkjocoaaa", sum := "7c65cdc0f53a4008d801425105818bd3ef3016a645ea540218dcf9c510aef3eb", func := "compass/compasskeep.Around", spec := "around", inPlace := ["math.archTrunc", "math.Float64bits", "math.Float64frombits"], apart := false }
def AroundSaid : Prop := aroundRow.holds Try.pinned (OpenSpec.ofChange aroundSpec)

/-- ITS FALSE NEIGHBOUR: 'it returns false'. Refute it at one input. -/
def aroundWrong : ChangeSpec := { name := "around", fn := fun _ => fun
  | [d1, d2, d3, d4, d5, d6] => { results := [.lit (.bool false)], args := [d1, d2, d3, d4, d5, d6] }
  | _ => none }
def AroundWrongFalsely : Prop := aroundRow.holds Try.pinned (OpenSpec.ofChange aroundWrong)

/-- 'compasskeep.Turned': WHATEVER THE INPUT: true; the input reads as it did. -/
def turnedSpec : ChangeSpec := { name := "turned", fn := fun _ => fun
  | [d1, d2, d3, d4, d5, d6, d7] => { results := [.lit (.bool true)], args := [d1, d2, d3, d4, d5, d6, d7] }
  | _ => none }
def turnedRow : OpenClaim := { program := "ytnlkalbkjocoaaa", sum := "7c65cdc0f53a4008d801425105818bd3ef3016a645ea540218dcf9c510aef3eb", func := "compass/compasskeep.Turned", spec := "turned", inPlace := ["math.archTrunc", "math.Float64bits", "math.Float64frombits"], apart := false }
def TurnedSaid : Prop := turnedRow.holds Try.pinned (OpenSpec.ofChange turnedSpec)

/-- ITS FALSE NEIGHBOUR: 'it returns false'. Refute it at one input. -/
def turnedWrong : ChangeSpec := { name := "turned", fn := fun _ => fun
  | [d1, d2, d3, d4, d5, d6, d7] => { results := [.lit (.bool false)], args := [d1, d2, d3, d4, d5, d6, d7] }
  | _ => none }
def TurnedWrongFalsely : Prop := turnedRow.holds Try.pinned (OpenSpec.ofChange turnedWrong)

/-- 'compasskeep.Hulled': WHATEVER THE INPUT: true; the input reads as it did. -/
def hulledSpec : ChangeSpec := { name := "hulled", fn := fun _ => fun
  | [d] => { results := [.lit (.bool true)], args := [d] }
  | _ => none }
def hulledRow : OpenClaim := { program := "ytnlkalbkjocoaaa", sum := "7c65cdc0f53a4008d801425105818bd3ef3016a645ea540218dcf9c510aef3eb", func := "compass/compasskeep.Hulled", spec := "hulled", inPlace := ["math.archTrunc", "math.Float64bits", "math.Float64frombits"], unfollowed := true, recurses := true, apart := false }
def HulledSaid : Prop := hulledRow.holds Try.pinned (OpenSpec.ofChange hulledSpec)

/-- ITS FALSE NEIGHBOUR: 'it returns false'. Refute it at one input. -/
def hulledWrong : ChangeSpec := { name := "hulled", fn := fun _ => fun
  | [d] => { results := [.lit (.bool false)], args := [d] }
  | _ => none }
def HulledWrongFalsely : Prop := hulledRow.holds Try.pinned (OpenSpec.ofChange hulledWrong)

/-- 'compasskeep.Nearest': WHATEVER THE INPUT: true; the input reads as it did. -/
def nearestSpec : ChangeSpec := { name := "nearest", fn := fun _ => fun
  | [d1, d2, d3, d4] => { results := [.lit (.bool true)], args := [d1, d2, d3, d4] }
  | _ => none }
def nearestRow : OpenClaim := { program := "ytnlkalbkjocoaaa", sum := "7c65cdc0f53a4008d801425105818bd3ef3016a645ea540218dcf9c510aef3eb", func := "compass/compasskeep.Nearest", spec := "nearest", inPlace := ["math.archTrunc", "math.Float64bits", "math.Float64frombits"], unfollowed := true, recurses := true, apart := false }
def NearestSaid : Prop := nearestRow.holds Try.pinned (OpenSpec.ofChange nearestSpec)

/-- ITS FALSE NEIGHBOUR: 'it returns false'. Refute it at one input. -/
def nearestWrong : ChangeSpec := { name := "nearest", fn := fun _ => fun
  | [d1, d2, d3, d4] => { results := [.lit (.bool false)], args := [d1, d2, d3, d4] }
  | _ => none }
def NearestWrongFalsely : Prop := nearestRow.holds Try.pinned (OpenSpec.ofChange nearestWrong)

/-- 'compasskeep.Kept': WHATEVER THE INPUT: true; the input reads as it did. -/
def keptSpec : ChangeSpec := { name := "kept", fn := fun _ => fun
  | [d1, d2, d3, d4, d5] => { results := [.lit (.bool true)], args := [d1, d2, d3, d4, d5] }
  | _ => none }
def keptRow : OpenClaim := { program := "ytnlkalbkjocoaaa", sum := "7c65cdc0f53a4008d801425105818bd3ef3016a645ea540218dcf9c510aef3eb", func := "compass/compasskeep.Kept", spec := "kept", inPlace := ["math.archTrunc", "math.Float64bits", "math.Float64frombits"], unfollowed := true, recurses := true, apart := false }
def KeptSaid : Prop := keptRow.holds Try.pinned (OpenSpec.ofChange keptSpec)

/-- ITS FALSE NEIGHBOUR: 'it returns false'. Refute it at one input. -/
def keptWrong : ChangeSpec := { name := "kept", fn := fun _ => fun
  | [d1, d2, d3, d4, d5] => { results := [.lit (.bool false)], args := [d1, d2, d3, d4, d5] }
  | _ => none }
def KeptWrongFalsely : Prop := keptRow.holds Try.pinned (OpenSpec.ofChange keptWrong)

/- THE SECOND FORM. 'bulk': how many values and letters a reading holds, each counted each time it is reached (what is shared counts as often as it is met; a slice's spare places count too). A statement '..UptoSaid' is the law's where the arguments, and the package variables that the reading takes, are together of bulk at most 1048576: NARROWER than '..Said'. Prove '..Said' where nothing that the law and all that it calls make is longer than what came in: it says more and counts as full. Else prove '..UptoSaid'. A law counts once. -/
mutual
def uptoBulk {H : Type} : DataW H → Nat
  | .lit (.string bytes) => bytes.length + 1
  | .lit _ => 1
  | .nil => 1
  | .ptr d => uptoBulk d + 1
  | .slice elems spare => uptoBulkAll elems + uptoBulkAll spare + 1
  | .agg parts => uptoBulkAll parts + 1
  | .iface _ d => uptoBulk d + 1
  | .map entries => uptoBulkEntries entries + 1
  | .held _ => 1
def uptoBulkAll {H : Type} : List (DataW H) → Nat
  | [] => 0
  | d :: r => uptoBulk d + uptoBulkAll r
def uptoBulkEntries {H : Type} : List (Lit × DataW H) → Nat
  | [] => 0
  | x :: r => uptoBulkEntry x + uptoBulkEntries r
def uptoBulkEntry {H : Type} : Lit × DataW H → Nat
  | (.string bytes, d) => bytes.length + uptoBulk d + 1
  | (_, d) => uptoBulk d + 1
 end
def uptoSmall : (H : Type) → List (DataW H) → Bool := fun _ ds => decide (uptoBulkAll ds ≤ 1048576)
def OpenSpec.upto (s : _root_.Go.ChangeSpec) : _root_.Go.OpenSpec := { _root_.Go.OpenSpec.ofChange s with cond := some uptoSmall }

/-- 'compasskeep.Around', WHERE WHAT IT READS IS OF BULK AT MOST 1048576: true; the input reads as it did. -/
def aroundUptoRow : OpenClaim := { program := "ytnlkalbkjocoaaa", sum := "7c65cdc0f53a4008d801425105818bd3ef3016a645ea540218dcf9c510aef3eb", func := "compass/compasskeep.Around", spec := "around", inPlace := ["math.archTrunc", "math.Float64bits", "math.Float64frombits"], apart := false, narrowed := true }
def AroundUptoSaid : Prop := aroundUptoRow.holds Try.pinned (OpenSpec.upto aroundSpec)

/-- 'compasskeep.Turned', WHERE WHAT IT READS IS OF BULK AT MOST 1048576: true; the input reads as it did. -/
def turnedUptoRow : OpenClaim := { program := "ytnlkalbkjocoaaa", sum := "7c65cdc0f53a4008d801425105818bd3ef3016a645ea540218dcf9c510aef3eb", func := "compass/compasskeep.Turned", spec := "turned", inPlace := ["math.archTrunc", "math.Float64bits", "math.Float64frombits"], apart := false, narrowed := true }
def TurnedUptoSaid : Prop := turnedUptoRow.holds Try.pinned (OpenSpec.upto turnedSpec)

/-- 'compasskeep.Hulled', WHERE WHAT IT READS IS OF BULK AT MOST 1048576: true; the input reads as it did. -/
def hulledUptoRow : OpenClaim := { program := "ytnlkalbkjocoaaa", sum := "7c65cdc0f53a4008d801425105818bd3ef3016a645ea540218dcf9c510aef3eb", func := "compass/compasskeep.Hulled", spec := "hulled", inPlace := ["math.archTrunc", "math.Float64bits", "math.Float64frombits"], unfollowed := true, recurses := true, apart := false, narrowed := true }
def HulledUptoSaid : Prop := hulledUptoRow.holds Try.pinned (OpenSpec.upto hulledSpec)

/-- 'compasskeep.Nearest', WHERE WHAT IT READS IS OF BULK AT MOST 1048576: true; the input reads as it did. -/
def nearestUptoRow : OpenClaim := { program := "ytnlkalbkjocoaaa", sum := "7c65cdc0f53a4008d801425105818bd3ef3016a645ea540218dcf9c510aef3eb", func := "compass/compasskeep.Nearest", spec := "nearest", inPlace := ["math.archTrunc", "math.Float64bits", "math.Float64frombits"], unfollowed := true, recurses := true, apart := false, narrowed := true }
def NearestUptoSaid : Prop := nearestUptoRow.holds Try.pinned (OpenSpec.upto nearestSpec)

/-- 'compasskeep.Kept', WHERE WHAT IT READS IS OF BULK AT MOST 1048576: true; the input reads as it did. -/
def keptUptoRow : OpenClaim := { program := "ytnlkalbkjocoaaa", sum := "7c65cdc0f53a4008d801425105818bd3ef3016a645ea540218dcf9c510aef3eb", func := "compass/compasskeep.Kept", spec := "kept", inPlace := ["math.archTrunc", "math.Float64bits", "math.Float64frombits"], unfollowed := true, recurses := true, apart := false, narrowed := true }
def KeptUptoSaid : Prop := keptUptoRow.holds Try.pinned (OpenSpec.upto keptSpec)

end Rows
end Go.Proofs.Ytnlkalbkjocoaaa
