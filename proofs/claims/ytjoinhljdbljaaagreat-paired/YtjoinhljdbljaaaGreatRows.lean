/-
  No cell of these rows narrows 'for every input' (looked for: loops, veiled, ifaces, maps, wideKeys, modest, calm, conditions, laid).
  DERIVED. THE GIVEN ROWS OF THIS SEAT. 9 by the template 'for every input the law returns true; each argument reads behind the call as it read before'; 0 by the template 'total and deterministic' (their statements: YtjoinhljdbljaaaGreatTotals.lean).
  GIVEN WITH THE SEED: the statements are not yours to turn. If you find one false, say at which input.
  Laid BY PROGRAM, IN A SANDBOX (cutbox-rows.mjs): the forced cells as the released guide's own fill.sh prints them over the translation 0fb8502b618e8f0b… (all of the seat's roots in one cut). By AI agents, Wed Nov 11 2026. No macro, syntax, notation, axiom, sorry.
-/
import Derived.Test.YtjoinhljdbljaaaGreatChecked
import GoSem.Claim
import GoSem.ClaimJoined
import GoSem.ClaimMapViews
import Derived.JoinedTies
import Derived.KernelRfl
namespace Go.Proofs.YtjoinhljdbljaaaGreat
/- THE CELL 'sum', in the pinned program and in every row, IS THE sha256 OF THE DUMP (.gsa) THAT YtjoinhljdbljaaaGreatProg.lean LOADS. Nothing in Lean hashes anything: it is a label: what it is worth is what the hold of that sum in a sandbox is worth. -/
noncomputable def Tryz.pinned : Pinned := { name := "ytjoinhljdbljaaagreat", sum := "0fb8502b618e8f0bcf1d2071bf6b8226e2f77bbf59a9b09a77ad78d779f5f48c", checked := Tryz.checked }
namespace Rows
def none {H : Type} : Left H := { results := [], args := [] }

/-- 'spillwaylaw.Queries': WHATEVER THE INPUT: true; the input reads as it did. -/
def queriesSpec : ChangeSpec := { name := "queries", fn := fun _ => fun
  | [d1, d2, d3, d4] => { results := [.lit (.bool true)], args := [d1, d2, d3, d4] }
  | _ => none }
def queriesRow : OpenClaim := { program := "ytjoinhljdbljaaagreat", sum := "0fb8502b618e8f0bcf1d2071bf6b8226e2f77bbf59a9b09a77ad78d779f5f48c", func := "spillway/spillwaylaw.Queries", spec := "queries", inPlace := ["internal/bytealg.abigen_runtime_cmpstring"], unfollowed := true, recurses := true, apart := false }
def QueriesSaid : Prop := queriesRow.holds Tryz.pinned (OpenSpec.ofChange queriesSpec)

/-- ITS FALSE NEIGHBOUR: 'it returns false'. Refute it at one input. -/
def queriesWrong : ChangeSpec := { name := "queries", fn := fun _ => fun
  | [d1, d2, d3, d4] => { results := [.lit (.bool false)], args := [d1, d2, d3, d4] }
  | _ => none }
def QueriesWrongFalsely : Prop := queriesRow.holds Tryz.pinned (OpenSpec.ofChange queriesWrong)

/-- 'spillwaylaw.Spilled': WHATEVER THE INPUT: true; the input reads as it did. -/
def spilledSpec : ChangeSpec := { name := "spilled", fn := fun _ => fun
  | [d1, d2, d3, d4, d5] => { results := [.lit (.bool true)], args := [d1, d2, d3, d4, d5] }
  | _ => none }
def spilledRow : OpenClaim := { program := "ytjoinhljdbljaaagreat", sum := "0fb8502b618e8f0bcf1d2071bf6b8226e2f77bbf59a9b09a77ad78d779f5f48c", func := "spillway/spillwaylaw.Spilled", spec := "spilled", inPlace := ["internal/bytealg.abigen_runtime_cmpstring"], unfollowed := true, recurses := true, apart := false }
def SpilledSaid : Prop := spilledRow.holds Tryz.pinned (OpenSpec.ofChange spilledSpec)

/-- ITS FALSE NEIGHBOUR: 'it returns false'. Refute it at one input. -/
def spilledWrong : ChangeSpec := { name := "spilled", fn := fun _ => fun
  | [d1, d2, d3, d4, d5] => { results := [.lit (.bool false)], args := [d1, d2, d3, d4, d5] }
  | _ => none }
def SpilledWrongFalsely : Prop := spilledRow.holds Tryz.pinned (OpenSpec.ofChange spilledWrong)

/-- 'spillwaykeep.Sorted': WHATEVER THE INPUT: true; the input reads as it did. -/
def sortedSpec : ChangeSpec := { name := "sorted", fn := fun _ => fun
  | [d1, d2, d3, d4] => { results := [.lit (.bool true)], args := [d1, d2, d3, d4] }
  | _ => none }
def sortedRow : OpenClaim := { program := "ytjoinhljdbljaaagreat", sum := "0fb8502b618e8f0bcf1d2071bf6b8226e2f77bbf59a9b09a77ad78d779f5f48c", func := "spillway/spillwaykeep.Sorted", spec := "sorted", inPlace := ["internal/bytealg.abigen_runtime_cmpstring"], unfollowed := true, recurses := true, apart := false }
def SortedSaid : Prop := sortedRow.holds Tryz.pinned (OpenSpec.ofChange sortedSpec)

/-- ITS FALSE NEIGHBOUR: 'it returns false'. Refute it at one input. -/
def sortedWrong : ChangeSpec := { name := "sorted", fn := fun _ => fun
  | [d1, d2, d3, d4] => { results := [.lit (.bool false)], args := [d1, d2, d3, d4] }
  | _ => none }
def SortedWrongFalsely : Prop := sortedRow.holds Tryz.pinned (OpenSpec.ofChange sortedWrong)

/-- 'spillwaykeep.Counted': WHATEVER THE INPUT: true; the input reads as it did. -/
def countedSpec : ChangeSpec := { name := "counted", fn := fun _ => fun
  | [d1, d2] => { results := [.lit (.bool true)], args := [d1, d2] }
  | _ => none }
def countedRow : OpenClaim := { program := "ytjoinhljdbljaaagreat", sum := "0fb8502b618e8f0bcf1d2071bf6b8226e2f77bbf59a9b09a77ad78d779f5f48c", func := "spillway/spillwaykeep.Counted", spec := "counted", inPlace := ["internal/bytealg.abigen_runtime_cmpstring"], unfollowed := true, recurses := true, apart := false }
def CountedSaid : Prop := countedRow.holds Tryz.pinned (OpenSpec.ofChange countedSpec)

/-- ITS FALSE NEIGHBOUR: 'it returns false'. Refute it at one input. -/
def countedWrong : ChangeSpec := { name := "counted", fn := fun _ => fun
  | [d1, d2] => { results := [.lit (.bool false)], args := [d1, d2] }
  | _ => none }
def CountedWrongFalsely : Prop := countedRow.holds Tryz.pinned (OpenSpec.ofChange countedWrong)

/-- 'spillwaykeep.Paired': WHATEVER THE INPUT: true; the input reads as it did. -/
def pairedSpec : ChangeSpec := { name := "paired", fn := fun _ => fun
  | [d1, d2] => { results := [.lit (.bool true)], args := [d1, d2] }
  | _ => none }
def pairedRow : OpenClaim := { program := "ytjoinhljdbljaaagreat", sum := "0fb8502b618e8f0bcf1d2071bf6b8226e2f77bbf59a9b09a77ad78d779f5f48c", func := "spillway/spillwaykeep.Paired", spec := "paired", inPlace := ["internal/bytealg.abigen_runtime_cmpstring"], unfollowed := true, recurses := true, apart := false }
def PairedSaid : Prop := pairedRow.holds Tryz.pinned (OpenSpec.ofChange pairedSpec)

/-- ITS FALSE NEIGHBOUR: 'it returns false'. Refute it at one input. -/
def pairedWrong : ChangeSpec := { name := "paired", fn := fun _ => fun
  | [d1, d2] => { results := [.lit (.bool false)], args := [d1, d2] }
  | _ => none }
def PairedWrongFalsely : Prop := pairedRow.holds Tryz.pinned (OpenSpec.ofChange pairedWrong)

/-- 'spillwaykeep.Agreed': WHATEVER THE INPUT: true; the input reads as it did. -/
def agreedSpec : ChangeSpec := { name := "agreed", fn := fun _ => fun
  | [d1, d2, d3, d4] => { results := [.lit (.bool true)], args := [d1, d2, d3, d4] }
  | _ => none }
def agreedRow : OpenClaim := { program := "ytjoinhljdbljaaagreat", sum := "0fb8502b618e8f0bcf1d2071bf6b8226e2f77bbf59a9b09a77ad78d779f5f48c", func := "spillway/spillwaykeep.Agreed", spec := "agreed", inPlace := ["internal/bytealg.abigen_runtime_cmpstring"], unfollowed := true, recurses := true, apart := false }
def AgreedSaid : Prop := agreedRow.holds Tryz.pinned (OpenSpec.ofChange agreedSpec)

/-- ITS FALSE NEIGHBOUR: 'it returns false'. Refute it at one input. -/
def agreedWrong : ChangeSpec := { name := "agreed", fn := fun _ => fun
  | [d1, d2, d3, d4] => { results := [.lit (.bool false)], args := [d1, d2, d3, d4] }
  | _ => none }
def AgreedWrongFalsely : Prop := agreedRow.holds Tryz.pinned (OpenSpec.ofChange agreedWrong)

/-- 'spillwaykeep.Failing': WHATEVER THE INPUT: true; the input reads as it did. -/
def failingSpec : ChangeSpec := { name := "failing", fn := fun _ => fun
  | [d1, d2, d3, d4, d5, d6] => { results := [.lit (.bool true)], args := [d1, d2, d3, d4, d5, d6] }
  | _ => none }
def failingRow : OpenClaim := { program := "ytjoinhljdbljaaagreat", sum := "0fb8502b618e8f0bcf1d2071bf6b8226e2f77bbf59a9b09a77ad78d779f5f48c", func := "spillway/spillwaykeep.Failing", spec := "failing", inPlace := ["internal/bytealg.abigen_runtime_cmpstring"], unfollowed := true, recurses := true, apart := false }
def FailingSaid : Prop := failingRow.holds Tryz.pinned (OpenSpec.ofChange failingSpec)

/-- ITS FALSE NEIGHBOUR: 'it returns false'. Refute it at one input. -/
def failingWrong : ChangeSpec := { name := "failing", fn := fun _ => fun
  | [d1, d2, d3, d4, d5, d6] => { results := [.lit (.bool false)], args := [d1, d2, d3, d4, d5, d6] }
  | _ => none }
def FailingWrongFalsely : Prop := failingRow.holds Tryz.pinned (OpenSpec.ofChange failingWrong)

/-- 'spillwaykeep.Small': WHATEVER THE INPUT: true; the input reads as it did. -/
def smallSpec : ChangeSpec := { name := "small", fn := fun _ => fun
  | [d1, d2, d3, d4] => { results := [.lit (.bool true)], args := [d1, d2, d3, d4] }
  | _ => none }
def smallRow : OpenClaim := { program := "ytjoinhljdbljaaagreat", sum := "0fb8502b618e8f0bcf1d2071bf6b8226e2f77bbf59a9b09a77ad78d779f5f48c", func := "spillway/spillwaykeep.Small", spec := "small", inPlace := ["internal/bytealg.abigen_runtime_cmpstring"], unfollowed := true, recurses := true, apart := false }
def SmallSaid : Prop := smallRow.holds Tryz.pinned (OpenSpec.ofChange smallSpec)

/-- ITS FALSE NEIGHBOUR: 'it returns false'. Refute it at one input. -/
def smallWrong : ChangeSpec := { name := "small", fn := fun _ => fun
  | [d1, d2, d3, d4] => { results := [.lit (.bool false)], args := [d1, d2, d3, d4] }
  | _ => none }
def SmallWrongFalsely : Prop := smallRow.holds Tryz.pinned (OpenSpec.ofChange smallWrong)

/-- 'spillwaylaw.All': WHATEVER THE INPUT: true; the input reads as it did. -/
def allSpec : ChangeSpec := { name := "all", fn := fun _ => fun
  | [d1, d2, d3, d4, d5] => { results := [.lit (.bool true)], args := [d1, d2, d3, d4, d5] }
  | _ => none }
def allRow : OpenClaim := { program := "ytjoinhljdbljaaagreat", sum := "0fb8502b618e8f0bcf1d2071bf6b8226e2f77bbf59a9b09a77ad78d779f5f48c", func := "spillway/spillwaylaw.All", spec := "all", inPlace := ["internal/bytealg.abigen_runtime_cmpstring"], unfollowed := true, recurses := true, apart := false }
def AllSaid : Prop := allRow.holds Tryz.pinned (OpenSpec.ofChange allSpec)

/-- ITS FALSE NEIGHBOUR: 'it returns false'. Refute it at one input. -/
def allWrong : ChangeSpec := { name := "all", fn := fun _ => fun
  | [d1, d2, d3, d4, d5] => { results := [.lit (.bool false)], args := [d1, d2, d3, d4, d5] }
  | _ => none }
def AllWrongFalsely : Prop := allRow.holds Tryz.pinned (OpenSpec.ofChange allWrong)

/- THE SECOND FORM. 'bulk': how many values and letters a reading holds, each counted each time it is reached (what is shared counts as often as it is met; a slice's spare places count too). A statement '..UptoSaid' is the law's where the arguments, and the package variables that the reading takes, are together of bulk at most 1048576: NARROWER than '..Said'. Prove '..Said' where nothing that the law and all that it calls make is longer than what came in: it says more and counts as full. Else prove '..UptoSaid'. A law counts once. -/
mutual
def uptoBulk {H : Type} : DataW H → Nat
  | .lit (.string bytes) => bytes.length + 1
  | .lit _ => 1
  | .nil => 1
  | .ptr d => uptoBulk d + 1
  | .slice elems spare => uptoBulkAll elems + uptoBulkAll spare + 1
  | .agg parts => uptoBulkAll parts + 1
  | .iface _ d => uptoBulk d + 1
  | .map entries => uptoBulkEntries entries + 1
  | .held _ => 1
def uptoBulkAll {H : Type} : List (DataW H) → Nat
  | [] => 0
  | d :: r => uptoBulk d + uptoBulkAll r
def uptoBulkEntries {H : Type} : List (Lit × DataW H) → Nat
  | [] => 0
  | x :: r => uptoBulkEntry x + uptoBulkEntries r
def uptoBulkEntry {H : Type} : Lit × DataW H → Nat
  | (.string bytes, d) => bytes.length + uptoBulk d + 1
  | (_, d) => uptoBulk d + 1
 end
def uptoSmall : (H : Type) → List (DataW H) → Bool := fun _ ds => decide (uptoBulkAll ds ≤ 1048576)
def OpenSpec.upto (s : _root_.Go.ChangeSpec) : _root_.Go.OpenSpec := { _root_.Go.OpenSpec.ofChange s with cond := some uptoSmall }

/-- 'spillwaylaw.Queries', WHERE WHAT IT READS IS OF BULK AT MOST 1048576: true; the input reads as it did. -/
def queriesUptoRow : OpenClaim := { program := "ytjoinhljdbljaaagreat", sum := "0fb8502b618e8f0bcf1d2071bf6b8226e2f77bbf59a9b09a77ad78d779f5f48c", func := "spillway/spillwaylaw.Queries", spec := "queries", inPlace := ["internal/bytealg.abigen_runtime_cmpstring"], unfollowed := true, recurses := true, apart := false, narrowed := true }
def QueriesUptoSaid : Prop := queriesUptoRow.holds Tryz.pinned (OpenSpec.upto queriesSpec)

/-- 'spillwaylaw.Spilled', WHERE WHAT IT READS IS OF BULK AT MOST 1048576: true; the input reads as it did. -/
def spilledUptoRow : OpenClaim := { program := "ytjoinhljdbljaaagreat", sum := "0fb8502b618e8f0bcf1d2071bf6b8226e2f77bbf59a9b09a77ad78d779f5f48c", func := "spillway/spillwaylaw.Spilled", spec := "spilled", inPlace := ["internal/bytealg.abigen_runtime_cmpstring"], unfollowed := true, recurses := true, apart := false, narrowed := true }
def SpilledUptoSaid : Prop := spilledUptoRow.holds Tryz.pinned (OpenSpec.upto spilledSpec)

/-- 'spillwaykeep.Sorted', WHERE WHAT IT READS IS OF BULK AT MOST 1048576: true; the input reads as it did. -/
def sortedUptoRow : OpenClaim := { program := "ytjoinhljdbljaaagreat", sum := "0fb8502b618e8f0bcf1d2071bf6b8226e2f77bbf59a9b09a77ad78d779f5f48c", func := "spillway/spillwaykeep.Sorted", spec := "sorted", inPlace := ["internal/bytealg.abigen_runtime_cmpstring"], unfollowed := true, recurses := true, apart := false, narrowed := true }
def SortedUptoSaid : Prop := sortedUptoRow.holds Tryz.pinned (OpenSpec.upto sortedSpec)

/-- 'spillwaykeep.Counted', WHERE WHAT IT READS IS OF BULK AT MOST 1048576: true; the input reads as it did. -/
def countedUptoRow : OpenClaim := { program := "ytjoinhljdbljaaagreat", sum := "0fb8502b618e8f0bcf1d2071bf6b8226e2f77bbf59a9b09a77ad78d779f5f48c", func := "spillway/spillwaykeep.Counted", spec := "counted", inPlace := ["internal/bytealg.abigen_runtime_cmpstring"], unfollowed := true, recurses := true, apart := false, narrowed := true }
def CountedUptoSaid : Prop := countedUptoRow.holds Tryz.pinned (OpenSpec.upto countedSpec)

/-- 'spillwaykeep.Paired', WHERE WHAT IT READS IS OF BULK AT MOST 1048576: true; the input reads as it did. -/
def pairedUptoRow : OpenClaim := { program := "ytjoinhljdbljaaagreat", sum := "0fb8502b618e8f0bcf1d2071bf6b8226e2f77bbf59a9b09a77ad78d779f5f48c", func := "spillway/spillwaykeep.Paired", spec := "paired", inPlace := ["internal/bytealg.abigen_runtime_cmpstring"], unfollowed := true, recurses := true, apart := false, narrowed := true }
def PairedUptoSaid : Prop := pairedUptoRow.holds Tryz.pinned (OpenSpec.upto pairedSpec)

/-- 'spillwaykeep.Agreed', WHERE WHAT IT READS IS OF BULK AT MOST 1048576: true; the input reads as it did. -/
def agreedUptoRow : OpenClaim := { program := "ytjoinhljdbljaaagreat", sum := "0fb8502b618e8f0bcf1d2071bf6b8226e2f77bbf59a9b09a77ad78d779f5f48c", func := "spillway/spillwaykeep.Agreed", spec := "agreed", inPlace := ["internal/bytealg.abigen_runtime_cmpstring"], unfollowed := true, recurses := true, apart := false, narrowed := true }
def AgreedUptoSaid : Prop := agreedUptoRow.holds Tryz.pinned (OpenSpec.upto agreedSpec)

/-- 'spillwaykeep.Failing', WHERE WHAT IT READS IS OF BULK AT MOST 1048576: true; the input reads as it did. -/
def failingUptoRow : OpenClaim := { program := "ytjoinhljdbljaaagreat", sum := "0fb8502b618e8f0bcf1d2071bf6b8226e2f77bbf59a9b09a77ad78d779f5f48c", func := "spillway/spillwaykeep.Failing", spec := "failing", inPlace := ["internal/bytealg.abigen_runtime_cmpstring"], unfollowed := true, recurses := true, apart := false, narrowed := true }
def FailingUptoSaid : Prop := failingUptoRow.holds Tryz.pinned (OpenSpec.upto failingSpec)

/-- 'spillwaykeep.Small', WHERE WHAT IT READS IS OF BULK AT MOST 1048576: true; the input reads as it did. -/
def smallUptoRow : OpenClaim := { program := "ytjoinhljdbljaaagreat", sum := "0fb8502b618e8f0bcf1d2071bf6b8226e2f77bbf59a9b09a77ad78d779f5f48c", func := "spillway/spillwaykeep.Small", spec := "small", inPlace := ["internal/bytealg.abigen_runtime_cmpstring"], unfollowed := true, recurses := true, apart := false, narrowed := true }
def SmallUptoSaid : Prop := smallUptoRow.holds Tryz.pinned (OpenSpec.upto smallSpec)

/-- 'spillwaylaw.All', WHERE WHAT IT READS IS OF BULK AT MOST 1048576: true; the input reads as it did. -/
def allUptoRow : OpenClaim := { program := "ytjoinhljdbljaaagreat", sum := "0fb8502b618e8f0bcf1d2071bf6b8226e2f77bbf59a9b09a77ad78d779f5f48c", func := "spillway/spillwaylaw.All", spec := "all", inPlace := ["internal/bytealg.abigen_runtime_cmpstring"], unfollowed := true, recurses := true, apart := false, narrowed := true }
def AllUptoSaid : Prop := allUptoRow.holds Tryz.pinned (OpenSpec.upto allSpec)

end Rows
end Go.Proofs.YtjoinhljdbljaaaGreat
