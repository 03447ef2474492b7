/-
  No cell of these rows narrows 'for every input' (looked for: loops, veiled, ifaces, maps, wideKeys, modest, calm, conditions, laid).
  DERIVED. THE GIVEN ROWS OF THIS SEAT. 6 by the template 'for every input the law returns true; each argument reads behind the call as it read before'; 0 by the template 'total and deterministic' (their statements: YtplhpinaadgkkaaTotals.lean).
  GIVEN WITH THE SEED: the statements are not yours to turn. If you find one false, say at which input.
  Laid BY PROGRAM, IN A SANDBOX (cutbox-rows.mjs): the forced cells as the released guide's own fill.sh prints them over the translation 316da2b8b7f8500f… (all of the seat's roots in one cut). By AI agents, Wed Nov 11 2026. No macro, syntax, notation, axiom, sorry.
-/
import Derived.Test.YtplhpinaadgkkaaChecked
import GoSem.Claim
import GoSem.ClaimJoined
import GoSem.ClaimMapViews
import Derived.JoinedTies
import Derived.KernelRfl
namespace Go.Proofs.Ytplhpinaadgkkaa
/- THE CELL 'sum', in the pinned program and in every row, IS THE sha256 OF THE DUMP (.gsa) THAT YtplhpinaadgkkaaProg.lean LOADS. Nothing in Lean hashes anything: it is a label: what it is worth is what the hold of that sum in a sandbox is worth. -/
noncomputable def Try.pinned : Pinned := { name := "ytplhpinaadgkkaa", sum := "316da2b8b7f8500f93c705bd351fe3cdc89fa4911a4788c0ac9f9caea5ba79c0", checked := Try.checked }
namespace Rows
def none {H : Type} : Left H := { results := [], args := [] }

/-- 'carcanetlaw07.BlockTells': WHATEVER THE INPUT: true; the input reads as it did. -/
def blockTellsSpec : ChangeSpec := { name := "blockTells", fn := fun _ => fun
  | [d] => { results := [.lit (.bool true)], args := [d] }
  | _ => none }
def blockTellsRow : OpenClaim := { program := "ytplhpinaadgkkaa", sum := "316da2b8b7f8500f93c705bd351fe3cdc89fa4911a4788c0ac9f9caea5ba79c0", func := "carcanet/carcanetlaw07.BlockTells", spec := "blockTells", unfollowed := true, recurses := true, apart := false }
def BlockTellsSaid : Prop := blockTellsRow.holds Try.pinned (OpenSpec.ofChange blockTellsSpec)

/-- ITS FALSE NEIGHBOUR: 'it returns false'. Refute it at one input. -/
def blockTellsWrong : ChangeSpec := { name := "blockTells", fn := fun _ => fun
  | [d] => { results := [.lit (.bool false)], args := [d] }
  | _ => none }
def BlockTellsWrongFalsely : Prop := blockTellsRow.holds Try.pinned (OpenSpec.ofChange blockTellsWrong)

/-- 'carcanetlaw07.BlockTwo': WHATEVER THE INPUT: true; the input reads as it did. -/
def blockTwoSpec : ChangeSpec := { name := "blockTwo", fn := fun _ => fun
  | [d1, d2] => { results := [.lit (.bool true)], args := [d1, d2] }
  | _ => none }
def blockTwoRow : OpenClaim := { program := "ytplhpinaadgkkaa", sum := "316da2b8b7f8500f93c705bd351fe3cdc89fa4911a4788c0ac9f9caea5ba79c0", func := "carcanet/carcanetlaw07.BlockTwo", spec := "blockTwo", unfollowed := true, recurses := true, apart := false }
def BlockTwoSaid : Prop := blockTwoRow.holds Try.pinned (OpenSpec.ofChange blockTwoSpec)

/-- ITS FALSE NEIGHBOUR: 'it returns false'. Refute it at one input. -/
def blockTwoWrong : ChangeSpec := { name := "blockTwo", fn := fun _ => fun
  | [d1, d2] => { results := [.lit (.bool false)], args := [d1, d2] }
  | _ => none }
def BlockTwoWrongFalsely : Prop := blockTwoRow.holds Try.pinned (OpenSpec.ofChange blockTwoWrong)

/-- 'carcanetlaw07.BlockEdges': WHATEVER THE INPUT: true; the input reads as it did. -/
def blockEdgesSpec : ChangeSpec := { name := "blockEdges", fn := fun _ => fun
  | [d] => { results := [.lit (.bool true)], args := [d] }
  | _ => none }
def blockEdgesRow : OpenClaim := { program := "ytplhpinaadgkkaa", sum := "316da2b8b7f8500f93c705bd351fe3cdc89fa4911a4788c0ac9f9caea5ba79c0", func := "carcanet/carcanetlaw07.BlockEdges", spec := "blockEdges", unfollowed := true, recurses := true, apart := false }
def BlockEdgesSaid : Prop := blockEdgesRow.holds Try.pinned (OpenSpec.ofChange blockEdgesSpec)

/-- ITS FALSE NEIGHBOUR: 'it returns false'. Refute it at one input. -/
def blockEdgesWrong : ChangeSpec := { name := "blockEdges", fn := fun _ => fun
  | [d] => { results := [.lit (.bool false)], args := [d] }
  | _ => none }
def BlockEdgesWrongFalsely : Prop := blockEdgesRow.holds Try.pinned (OpenSpec.ofChange blockEdgesWrong)

/-- 'carcanetlaw07.BlockCounts': WHATEVER THE INPUT: true; the input reads as it did. -/
def blockCountsSpec : ChangeSpec := { name := "blockCounts", fn := fun _ => fun
  | [d] => { results := [.lit (.bool true)], args := [d] }
  | _ => none }
def blockCountsRow : OpenClaim := { program := "ytplhpinaadgkkaa", sum := "316da2b8b7f8500f93c705bd351fe3cdc89fa4911a4788c0ac9f9caea5ba79c0", func := "carcanet/carcanetlaw07.BlockCounts", spec := "blockCounts", unfollowed := true, recurses := true, apart := false }
def BlockCountsSaid : Prop := blockCountsRow.holds Try.pinned (OpenSpec.ofChange blockCountsSpec)

/-- ITS FALSE NEIGHBOUR: 'it returns false'. Refute it at one input. -/
def blockCountsWrong : ChangeSpec := { name := "blockCounts", fn := fun _ => fun
  | [d] => { results := [.lit (.bool false)], args := [d] }
  | _ => none }
def BlockCountsWrongFalsely : Prop := blockCountsRow.holds Try.pinned (OpenSpec.ofChange blockCountsWrong)

/-- 'carcanetlaw07.BlockRings': WHATEVER THE INPUT: true; the input reads as it did. -/
def blockRingsSpec : ChangeSpec := { name := "blockRings", fn := fun _ => fun
  | [d1, d2] => { results := [.lit (.bool true)], args := [d1, d2] }
  | _ => none }
def blockRingsRow : OpenClaim := { program := "ytplhpinaadgkkaa", sum := "316da2b8b7f8500f93c705bd351fe3cdc89fa4911a4788c0ac9f9caea5ba79c0", func := "carcanet/carcanetlaw07.BlockRings", spec := "blockRings", unfollowed := true, recurses := true, apart := false }
def BlockRingsSaid : Prop := blockRingsRow.holds Try.pinned (OpenSpec.ofChange blockRingsSpec)

/-- ITS FALSE NEIGHBOUR: 'it returns false'. Refute it at one input. -/
def blockRingsWrong : ChangeSpec := { name := "blockRings", fn := fun _ => fun
  | [d1, d2] => { results := [.lit (.bool false)], args := [d1, d2] }
  | _ => none }
def BlockRingsWrongFalsely : Prop := blockRingsRow.holds Try.pinned (OpenSpec.ofChange blockRingsWrong)

/-- 'carcanetlaw07.BlockJoins': WHATEVER THE INPUT: true; the input reads as it did. -/
def blockJoinsSpec : ChangeSpec := { name := "blockJoins", fn := fun _ => fun
  | [d1, d2, d3] => { results := [.lit (.bool true)], args := [d1, d2, d3] }
  | _ => none }
def blockJoinsRow : OpenClaim := { program := "ytplhpinaadgkkaa", sum := "316da2b8b7f8500f93c705bd351fe3cdc89fa4911a4788c0ac9f9caea5ba79c0", func := "carcanet/carcanetlaw07.BlockJoins", spec := "blockJoins", unfollowed := true, recurses := true, apart := false }
def BlockJoinsSaid : Prop := blockJoinsRow.holds Try.pinned (OpenSpec.ofChange blockJoinsSpec)

/-- ITS FALSE NEIGHBOUR: 'it returns false'. Refute it at one input. -/
def blockJoinsWrong : ChangeSpec := { name := "blockJoins", fn := fun _ => fun
  | [d1, d2, d3] => { results := [.lit (.bool false)], args := [d1, d2, d3] }
  | _ => none }
def BlockJoinsWrongFalsely : Prop := blockJoinsRow.holds Try.pinned (OpenSpec.ofChange blockJoinsWrong)

/- THE SECOND FORM. 'bulk': how many values and letters a reading holds, each counted each time it is reached (what is shared counts as often as it is met; a slice's spare places count too). A statement '..UptoSaid' is the law's where the arguments, and the package variables that the reading takes, are together of bulk at most 1048576: NARROWER than '..Said'. Prove '..Said' where nothing that the law and all that it calls make is longer than what came in: it says more and counts as full. Else prove '..UptoSaid'. A law counts once. -/
mutual
def uptoBulk {H : Type} : DataW H → Nat
  | .lit (.string bytes) => bytes.length + 1
  | .lit _ => 1
  | .nil => 1
  | .ptr d => uptoBulk d + 1
  | .slice elems spare => uptoBulkAll elems + uptoBulkAll spare + 1
  | .agg parts => uptoBulkAll parts + 1
  | .iface _ d => uptoBulk d + 1
  | .map entries => uptoBulkEntries entries + 1
  | .held _ => 1
def uptoBulkAll {H : Type} : List (DataW H) → Nat
  | [] => 0
  | d :: r => uptoBulk d + uptoBulkAll r
def uptoBulkEntries {H : Type} : List (Lit × DataW H) → Nat
  | [] => 0
  | x :: r => uptoBulkEntry x + uptoBulkEntries r
def uptoBulkEntry {H : Type} : Lit × DataW H → Nat
  | (.string bytes, d) => bytes.length + uptoBulk d + 1
  | (_, d) => uptoBulk d + 1
 end
def uptoSmall : (H : Type) → List (DataW H) → Bool := fun _ ds => decide (uptoBulkAll ds ≤ 1048576)
def OpenSpec.upto (s : _root_.Go.ChangeSpec) : _root_.Go.OpenSpec := { _root_.Go.OpenSpec.ofChange s with cond := some uptoSmall }

/-- 'carcanetlaw07.BlockTells', WHERE WHAT IT READS IS OF BULK AT MOST 1048576: true; the input reads as it did. -/
def blockTellsUptoRow : OpenClaim := { program := "ytplhpinaadgkkaa", sum := "316da2b8b7f8500f93c705bd351fe3cdc89fa4911a4788c0ac9f9caea5ba79c0", func := "carcanet/carcanetlaw07.BlockTells", spec := "blockTells", unfollowed := true, recurses := true, apart := false, narrowed := true }
def BlockTellsUptoSaid : Prop := blockTellsUptoRow.holds Try.pinned (OpenSpec.upto blockTellsSpec)

/-- 'carcanetlaw07.BlockTwo', WHERE WHAT IT READS IS OF BULK AT MOST 1048576: true; the input reads as it did. -/
def blockTwoUptoRow : OpenClaim := { program := "ytplhpinaadgkkaa", sum := "316da2b8b7f8500f93c705bd351fe3cdc89fa4911a4788c0ac9f9caea5ba79c0", func := "carcanet/carcanetlaw07.BlockTwo", spec := "blockTwo", unfollowed := true, recurses := true, apart := false, narrowed := true }
def BlockTwoUptoSaid : Prop := blockTwoUptoRow.holds Try.pinned (OpenSpec.upto blockTwoSpec)

/-- 'carcanetlaw07.BlockEdges', WHERE WHAT IT READS IS OF BULK AT MOST 1048576: true; the input reads as it did. -/
def blockEdgesUptoRow : OpenClaim := { program := "ytplhpinaadgkkaa", sum := "316da2b8b7f8500f93c705bd351fe3cdc89fa4911a4788c0ac9f9caea5ba79c0", func := "carcanet/carcanetlaw07.BlockEdges", spec := "blockEdges", unfollowed := true, recurses := true, apart := false, narrowed := true }
def BlockEdgesUptoSaid : Prop := blockEdgesUptoRow.holds Try.pinned (OpenSpec.upto blockEdgesSpec)

/-- 'carcanetlaw07.BlockCounts', WHERE WHAT IT READS IS OF BULK AT MOST 1048576: true; the input reads as it did. -/
def blockCountsUptoRow : OpenClaim := { program := "ytplhpinaadgkkaa", sum := "316da2b8b7f8500f93c705bd351fe3cdc89fa4911a4788c0ac9f9caea5ba79c0", func := "carcanet/carcanetlaw07.BlockCounts", spec := "blockCounts", unfollowed := true, recurses := true, apart := false, narrowed := true }
def BlockCountsUptoSaid : Prop := blockCountsUptoRow.holds Try.pinned (OpenSpec.upto blockCountsSpec)

/-- 'carcanetlaw07.BlockRings', WHERE WHAT IT READS IS OF BULK AT MOST 1048576: true; the input reads as it did. -/
def blockRingsUptoRow : OpenClaim := { program := "ytplhpinaadgkkaa", sum := "316da2b8b7f8500f93c705bd351fe3cdc89fa4911a4788c0ac9f9caea5ba79c0", func := "carcanet/carcanetlaw07.BlockRings", spec := "blockRings", unfollowed := true, recurses := true, apart := false, narrowed := true }
def BlockRingsUptoSaid : Prop := blockRingsUptoRow.holds Try.pinned (OpenSpec.upto blockRingsSpec)

/-- 'carcanetlaw07.BlockJoins', WHERE WHAT IT READS IS OF BULK AT MOST 1048576: true; the input reads as it did. -/
def blockJoinsUptoRow : OpenClaim := { program := "ytplhpinaadgkkaa", sum := "316da2b8b7f8500f93c705bd351fe3cdc89fa4911a4788c0ac9f9caea5ba79c0", func := "carcanet/carcanetlaw07.BlockJoins", spec := "blockJoins", unfollowed := true, recurses := true, apart := false, narrowed := true }
def BlockJoinsUptoSaid : Prop := blockJoinsUptoRow.holds Try.pinned (OpenSpec.upto blockJoinsSpec)

end Rows
end Go.Proofs.Ytplhpinaadgkkaa
