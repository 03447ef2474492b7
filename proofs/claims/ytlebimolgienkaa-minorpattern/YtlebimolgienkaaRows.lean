/-
  No cell of these rows narrows 'for every input' (looked for: loops, veiled, ifaces, maps, wideKeys, modest, calm, conditions, laid).
  DERIVED. THE GIVEN ROWS OF THIS SEAT. 9 by the template 'for every input the law returns true; each argument reads behind the call as it read before'; 0 by the template 'total and deterministic' (their statements: YtlebimolgienkaaTotals.lean).
  GIVEN WITH THE SEED: the statements are not yours to turn. If you find one false, say at which input.
  Laid BY PROGRAM, IN A SANDBOX (cutbox-rows.mjs): the forced cells as the released guide's own fill.sh prints them over the translation 412cab4e2c1af99a… (all of the seat's roots in one cut). By AI agents, Wed Nov 11 2026. No macro, syntax, notation, axiom, sorry.
-/
import Derived.Test.YtlebimolgienkaaChecked
import GoSem.Claim
import GoSem.ClaimJoined
import GoSem.ClaimMapViews
import Derived.JoinedTies
import Derived.KernelRfl
namespace Go.Proofs.Ytlebimolgienkaa
/- THE CELL 'sum', in the pinned program and in every row, IS THE sha256 OF THE DUMP (.gsa) THAT YtlebimolgienkaaProg.lean LOADS. Nothing in Lean hashes anything: it is a label: what it is worth is what the hold of that sum in a sandbox is worth. -/
noncomputable def Try.pinned : Pinned := { name := "ytlebimolgienkaa", sum := "412cab4e2c1af99a98bfdba2ba46bdbb39b4a197f01b82bf42385cce21ce6e71", checked := Try.checked }
namespace Rows
def none {H : Type} : Left H := { results := [], args := [] }

/-- 'carcanetlaw07.BlockTells': WHATEVER THE INPUT: true; the input reads as it did. -/
def blockTellsSpec : ChangeSpec := { name := "blockTells", fn := fun _ => fun
  | [d] => { results := [.lit (.bool true)], args := [d] }
  | _ => none }
def blockTellsRow : OpenClaim := { program := "ytlebimolgienkaa", sum := "412cab4e2c1af99a98bfdba2ba46bdbb39b4a197f01b82bf42385cce21ce6e71", func := "carcanet/carcanetlaw07.BlockTells", spec := "blockTells", unfollowed := true, recurses := true, plainKeys := false, apart := false }
def BlockTellsSaid : Prop := blockTellsRow.holds Try.pinned (OpenSpec.ofChange blockTellsSpec)

/-- ITS FALSE NEIGHBOUR: 'it returns false'. Refute it at one input. -/
def blockTellsWrong : ChangeSpec := { name := "blockTells", fn := fun _ => fun
  | [d] => { results := [.lit (.bool false)], args := [d] }
  | _ => none }
def BlockTellsWrongFalsely : Prop := blockTellsRow.holds Try.pinned (OpenSpec.ofChange blockTellsWrong)

/-- 'carcanetlaw08.MinorCheck': WHATEVER THE INPUT: true; the input reads as it did. -/
def minorCheckSpec : ChangeSpec := { name := "minorCheck", fn := fun _ => fun
  | [d1, d2] => { results := [.lit (.bool true)], args := [d1, d2] }
  | _ => none }
def minorCheckRow : OpenClaim := { program := "ytlebimolgienkaa", sum := "412cab4e2c1af99a98bfdba2ba46bdbb39b4a197f01b82bf42385cce21ce6e71", func := "carcanet/carcanetlaw08.MinorCheck", spec := "minorCheck", unfollowed := true, recurses := true, plainKeys := false, apart := false }
def MinorCheckSaid : Prop := minorCheckRow.holds Try.pinned (OpenSpec.ofChange minorCheckSpec)

/-- ITS FALSE NEIGHBOUR: 'it returns false'. Refute it at one input. -/
def minorCheckWrong : ChangeSpec := { name := "minorCheck", fn := fun _ => fun
  | [d1, d2] => { results := [.lit (.bool false)], args := [d1, d2] }
  | _ => none }
def MinorCheckWrongFalsely : Prop := minorCheckRow.holds Try.pinned (OpenSpec.ofChange minorCheckWrong)

/-- 'carcanetlaw08.MinorMoves': WHATEVER THE INPUT: true; the input reads as it did. -/
def minorMovesSpec : ChangeSpec := { name := "minorMoves", fn := fun _ => fun
  | [d1, d2, d3] => { results := [.lit (.bool true)], args := [d1, d2, d3] }
  | _ => none }
def minorMovesRow : OpenClaim := { program := "ytlebimolgienkaa", sum := "412cab4e2c1af99a98bfdba2ba46bdbb39b4a197f01b82bf42385cce21ce6e71", func := "carcanet/carcanetlaw08.MinorMoves", spec := "minorMoves", unfollowed := true, recurses := true, plainKeys := false, apart := false }
def MinorMovesSaid : Prop := minorMovesRow.holds Try.pinned (OpenSpec.ofChange minorMovesSpec)

/-- ITS FALSE NEIGHBOUR: 'it returns false'. Refute it at one input. -/
def minorMovesWrong : ChangeSpec := { name := "minorMoves", fn := fun _ => fun
  | [d1, d2, d3] => { results := [.lit (.bool false)], args := [d1, d2, d3] }
  | _ => none }
def MinorMovesWrongFalsely : Prop := minorMovesRow.holds Try.pinned (OpenSpec.ofChange minorMovesWrong)

/-- 'carcanetlaw08.MinorPattern': WHATEVER THE INPUT: true; the input reads as it did. -/
def minorPatternSpec : ChangeSpec := { name := "minorPattern", fn := fun _ => fun
  | [d] => { results := [.lit (.bool true)], args := [d] }
  | _ => none }
def minorPatternRow : OpenClaim := { program := "ytlebimolgienkaa", sum := "412cab4e2c1af99a98bfdba2ba46bdbb39b4a197f01b82bf42385cce21ce6e71", func := "carcanet/carcanetlaw08.MinorPattern", spec := "minorPattern", unfollowed := true, recurses := true, plainKeys := false, apart := false }
def MinorPatternSaid : Prop := minorPatternRow.holds Try.pinned (OpenSpec.ofChange minorPatternSpec)

/-- ITS FALSE NEIGHBOUR: 'it returns false'. Refute it at one input. -/
def minorPatternWrong : ChangeSpec := { name := "minorPattern", fn := fun _ => fun
  | [d] => { results := [.lit (.bool false)], args := [d] }
  | _ => none }
def MinorPatternWrongFalsely : Prop := minorPatternRow.holds Try.pinned (OpenSpec.ofChange minorPatternWrong)

/-- 'carcanetlaw08.MinorTrue': WHATEVER THE INPUT: true; the input reads as it did. -/
def minorTrueSpec : ChangeSpec := { name := "minorTrue", fn := fun _ => fun
  | [d1, d2] => { results := [.lit (.bool true)], args := [d1, d2] }
  | _ => none }
def minorTrueRow : OpenClaim := { program := "ytlebimolgienkaa", sum := "412cab4e2c1af99a98bfdba2ba46bdbb39b4a197f01b82bf42385cce21ce6e71", func := "carcanet/carcanetlaw08.MinorTrue", spec := "minorTrue", unfollowed := true, recurses := true, plainKeys := false, apart := false }
def MinorTrueSaid : Prop := minorTrueRow.holds Try.pinned (OpenSpec.ofChange minorTrueSpec)

/-- ITS FALSE NEIGHBOUR: 'it returns false'. Refute it at one input. -/
def minorTrueWrong : ChangeSpec := { name := "minorTrue", fn := fun _ => fun
  | [d1, d2] => { results := [.lit (.bool false)], args := [d1, d2] }
  | _ => none }
def MinorTrueWrongFalsely : Prop := minorTrueRow.holds Try.pinned (OpenSpec.ofChange minorTrueWrong)

/-- 'carcanetlaw08.MinorLift': WHATEVER THE INPUT: true; the input reads as it did. -/
def minorLiftSpec : ChangeSpec := { name := "minorLift", fn := fun _ => fun
  | [d1, d2, d3] => { results := [.lit (.bool true)], args := [d1, d2, d3] }
  | _ => none }
def minorLiftRow : OpenClaim := { program := "ytlebimolgienkaa", sum := "412cab4e2c1af99a98bfdba2ba46bdbb39b4a197f01b82bf42385cce21ce6e71", func := "carcanet/carcanetlaw08.MinorLift", spec := "minorLift", unfollowed := true, recurses := true, plainKeys := false, apart := false }
def MinorLiftSaid : Prop := minorLiftRow.holds Try.pinned (OpenSpec.ofChange minorLiftSpec)

/-- ITS FALSE NEIGHBOUR: 'it returns false'. Refute it at one input. -/
def minorLiftWrong : ChangeSpec := { name := "minorLift", fn := fun _ => fun
  | [d1, d2, d3] => { results := [.lit (.bool false)], args := [d1, d2, d3] }
  | _ => none }
def MinorLiftWrongFalsely : Prop := minorLiftRow.holds Try.pinned (OpenSpec.ofChange minorLiftWrong)

/-- 'carcanetlaw08.MinorDrop': WHATEVER THE INPUT: true; the input reads as it did. -/
def minorDropSpec : ChangeSpec := { name := "minorDrop", fn := fun _ => fun
  | [d1, d2, d3] => { results := [.lit (.bool true)], args := [d1, d2, d3] }
  | _ => none }
def minorDropRow : OpenClaim := { program := "ytlebimolgienkaa", sum := "412cab4e2c1af99a98bfdba2ba46bdbb39b4a197f01b82bf42385cce21ce6e71", func := "carcanet/carcanetlaw08.MinorDrop", spec := "minorDrop", unfollowed := true, recurses := true, plainKeys := false, apart := false }
def MinorDropSaid : Prop := minorDropRow.holds Try.pinned (OpenSpec.ofChange minorDropSpec)

/-- ITS FALSE NEIGHBOUR: 'it returns false'. Refute it at one input. -/
def minorDropWrong : ChangeSpec := { name := "minorDrop", fn := fun _ => fun
  | [d1, d2, d3] => { results := [.lit (.bool false)], args := [d1, d2, d3] }
  | _ => none }
def MinorDropWrongFalsely : Prop := minorDropRow.holds Try.pinned (OpenSpec.ofChange minorDropWrong)

/-- 'carcanetlaw08.MinorGrows': WHATEVER THE INPUT: true; the input reads as it did. -/
def minorGrowsSpec : ChangeSpec := { name := "minorGrows", fn := fun _ => fun
  | [d1, d2, d3] => { results := [.lit (.bool true)], args := [d1, d2, d3] }
  | _ => none }
def minorGrowsRow : OpenClaim := { program := "ytlebimolgienkaa", sum := "412cab4e2c1af99a98bfdba2ba46bdbb39b4a197f01b82bf42385cce21ce6e71", func := "carcanet/carcanetlaw08.MinorGrows", spec := "minorGrows", unfollowed := true, recurses := true, plainKeys := false, apart := false }
def MinorGrowsSaid : Prop := minorGrowsRow.holds Try.pinned (OpenSpec.ofChange minorGrowsSpec)

/-- ITS FALSE NEIGHBOUR: 'it returns false'. Refute it at one input. -/
def minorGrowsWrong : ChangeSpec := { name := "minorGrows", fn := fun _ => fun
  | [d1, d2, d3] => { results := [.lit (.bool false)], args := [d1, d2, d3] }
  | _ => none }
def MinorGrowsWrongFalsely : Prop := minorGrowsRow.holds Try.pinned (OpenSpec.ofChange minorGrowsWrong)

/-- 'carcanetlaw08.MinorNone': WHATEVER THE INPUT: true; the input reads as it did. -/
def minorNoneSpec : ChangeSpec := { name := "minorNone", fn := fun _ => fun
  | [d1, d2] => { results := [.lit (.bool true)], args := [d1, d2] }
  | _ => none }
def minorNoneRow : OpenClaim := { program := "ytlebimolgienkaa", sum := "412cab4e2c1af99a98bfdba2ba46bdbb39b4a197f01b82bf42385cce21ce6e71", func := "carcanet/carcanetlaw08.MinorNone", spec := "minorNone", unfollowed := true, recurses := true, plainKeys := false, apart := false }
def MinorNoneSaid : Prop := minorNoneRow.holds Try.pinned (OpenSpec.ofChange minorNoneSpec)

/-- ITS FALSE NEIGHBOUR: 'it returns false'. Refute it at one input. -/
def minorNoneWrong : ChangeSpec := { name := "minorNone", fn := fun _ => fun
  | [d1, d2] => { results := [.lit (.bool false)], args := [d1, d2] }
  | _ => none }
def MinorNoneWrongFalsely : Prop := minorNoneRow.holds Try.pinned (OpenSpec.ofChange minorNoneWrong)

/- THE SECOND FORM. 'bulk': how many values and letters a reading holds, each counted each time it is reached (what is shared counts as often as it is met; a slice's spare places count too). A statement '..UptoSaid' is the law's where the arguments, and the package variables that the reading takes, are together of bulk at most 1048576: NARROWER than '..Said'. Prove '..Said' where nothing that the law and all that it calls make is longer than what came in: it says more and counts as full. Else prove '..UptoSaid'. A law counts once. -/
mutual
def uptoBulk {H : Type} : DataW H → Nat
  | .lit (.string bytes) => bytes.length + 1
  | .lit _ => 1
  | .nil => 1
  | .ptr d => uptoBulk d + 1
  | .slice elems spare => uptoBulkAll elems + uptoBulkAll spare + 1
  | .agg parts => uptoBulkAll parts + 1
  | .iface _ d => uptoBulk d + 1
  | .map entries => uptoBulkEntries entries + 1
  | .held _ => 1
def uptoBulkAll {H : Type} : List (DataW H) → Nat
  | [] => 0
  | d :: r => uptoBulk d + uptoBulkAll r
def uptoBulkEntries {H : Type} : List (Lit × DataW H) → Nat
  | [] => 0
  | x :: r => uptoBulkEntry x + uptoBulkEntries r
def uptoBulkEntry {H : Type} : Lit × DataW H → Nat
  | (.string bytes, d) => bytes.length + uptoBulk d + 1
  | (_, d) => uptoBulk d + 1
 end
def uptoSmall : (H : Type) → List (DataW H) → Bool := fun _ ds => decide (uptoBulkAll ds ≤ 1048576)
def OpenSpec.upto (s : _root_.Go.ChangeSpec) : _root_.Go.OpenSpec := { _root_.Go.OpenSpec.ofChange s with cond := some uptoSmall }

/-- 'carcanetlaw07.BlockTells', WHERE WHAT IT READS IS OF BULK AT MOST 1048576: true; the input reads as it did. -/
def blockTellsUptoRow : OpenClaim := { program := "ytlebimolgienkaa", sum := "412cab4e2c1af99a98bfdba2ba46bdbb39b4a197f01b82bf42385cce21ce6e71", func := "carcanet/carcanetlaw07.BlockTells", spec := "blockTells", unfollowed := true, recurses := true, plainKeys := false, apart := false, narrowed := true }
def BlockTellsUptoSaid : Prop := blockTellsUptoRow.holds Try.pinned (OpenSpec.upto blockTellsSpec)

/-- 'carcanetlaw08.MinorCheck', WHERE WHAT IT READS IS OF BULK AT MOST 1048576: true; the input reads as it did. -/
def minorCheckUptoRow : OpenClaim := { program := "ytlebimolgienkaa", sum := "412cab4e2c1af99a98bfdba2ba46bdbb39b4a197f01b82bf42385cce21ce6e71", func := "carcanet/carcanetlaw08.MinorCheck", spec := "minorCheck", unfollowed := true, recurses := true, plainKeys := false, apart := false, narrowed := true }
def MinorCheckUptoSaid : Prop := minorCheckUptoRow.holds Try.pinned (OpenSpec.upto minorCheckSpec)

/-- 'carcanetlaw08.MinorMoves', WHERE WHAT IT READS IS OF BULK AT MOST 1048576: true; the input reads as it did. -/
def minorMovesUptoRow : OpenClaim := { program := "ytlebimolgienkaa", sum := "412cab4e2c1af99a98bfdba2ba46bdbb39b4a197f01b82bf42385cce21ce6e71", func := "carcanet/carcanetlaw08.MinorMoves", spec := "minorMoves", unfollowed := true, recurses := true, plainKeys := false, apart := false, narrowed := true }
def MinorMovesUptoSaid : Prop := minorMovesUptoRow.holds Try.pinned (OpenSpec.upto minorMovesSpec)

/-- 'carcanetlaw08.MinorPattern', WHERE WHAT IT READS IS OF BULK AT MOST 1048576: true; the input reads as it did. -/
def minorPatternUptoRow : OpenClaim := { program := "ytlebimolgienkaa", sum := "412cab4e2c1af99a98bfdba2ba46bdbb39b4a197f01b82bf42385cce21ce6e71", func := "carcanet/carcanetlaw08.MinorPattern", spec := "minorPattern", unfollowed := true, recurses := true, plainKeys := false, apart := false, narrowed := true }
def MinorPatternUptoSaid : Prop := minorPatternUptoRow.holds Try.pinned (OpenSpec.upto minorPatternSpec)

/-- 'carcanetlaw08.MinorTrue', WHERE WHAT IT READS IS OF BULK AT MOST 1048576: true; the input reads as it did. -/
def minorTrueUptoRow : OpenClaim := { program := "ytlebimolgienkaa", sum := "412cab4e2c1af99a98bfdba2ba46bdbb39b4a197f01b82bf42385cce21ce6e71", func := "carcanet/carcanetlaw08.MinorTrue", spec := "minorTrue", unfollowed := true, recurses := true, plainKeys := false, apart := false, narrowed := true }
def MinorTrueUptoSaid : Prop := minorTrueUptoRow.holds Try.pinned (OpenSpec.upto minorTrueSpec)

/-- 'carcanetlaw08.MinorLift', WHERE WHAT IT READS IS OF BULK AT MOST 1048576: true; the input reads as it did. -/
def minorLiftUptoRow : OpenClaim := { program := "ytlebimolgienkaa", sum := "412cab4e2c1af99a98bfdba2ba46bdbb39b4a197f01b82bf42385cce21ce6e71", func := "carcanet/carcanetlaw08.MinorLift", spec := "minorLift", unfollowed := true, recurses := true, plainKeys := false, apart := false, narrowed := true }
def MinorLiftUptoSaid : Prop := minorLiftUptoRow.holds Try.pinned (OpenSpec.upto minorLiftSpec)

/-- 'carcanetlaw08.MinorDrop', WHERE WHAT IT READS IS OF BULK AT MOST 1048576: true; the input reads as it did. -/
def minorDropUptoRow : OpenClaim := { program := "ytlebimolgienkaa", sum := "412cab4e2c1af99a98bfdba2ba46bdbb39b4a197f01b82bf42385cce21ce6e71", func := "carcanet/carcanetlaw08.MinorDrop", spec := "minorDrop", unfollowed := true, recurses := true, plainKeys := false, apart := false, narrowed := true }
def MinorDropUptoSaid : Prop := minorDropUptoRow.holds Try.pinned (OpenSpec.upto minorDropSpec)

/-- 'carcanetlaw08.MinorGrows', WHERE WHAT IT READS IS OF BULK AT MOST 1048576: true; the input reads as it did. -/
def minorGrowsUptoRow : OpenClaim := { program := "ytlebimolgienkaa", sum := "412cab4e2c1af99a98bfdba2ba46bdbb39b4a197f01b82bf42385cce21ce6e71", func := "carcanet/carcanetlaw08.MinorGrows", spec := "minorGrows", unfollowed := true, recurses := true, plainKeys := false, apart := false, narrowed := true }
def MinorGrowsUptoSaid : Prop := minorGrowsUptoRow.holds Try.pinned (OpenSpec.upto minorGrowsSpec)

/-- 'carcanetlaw08.MinorNone', WHERE WHAT IT READS IS OF BULK AT MOST 1048576: true; the input reads as it did. -/
def minorNoneUptoRow : OpenClaim := { program := "ytlebimolgienkaa", sum := "412cab4e2c1af99a98bfdba2ba46bdbb39b4a197f01b82bf42385cce21ce6e71", func := "carcanet/carcanetlaw08.MinorNone", spec := "minorNone", unfollowed := true, recurses := true, plainKeys := false, apart := false, narrowed := true }
def MinorNoneUptoSaid : Prop := minorNoneUptoRow.holds Try.pinned (OpenSpec.upto minorNoneSpec)

end Rows
end Go.Proofs.Ytlebimolgienkaa
