/-
  No cell of these rows narrows 'for every input' (looked for: loops, veiled, ifaces, maps, wideKeys, modest, calm, conditions, laid).
  DERIVED. THE GIVEN ROWS OF THIS SEAT. 8 by the template 'for every input the law returns true; each argument reads behind the call as it read before'; 0 by the template 'total and deterministic' (their statements: YtckcbaegehfkoaaTotals.lean).
  GIVEN WITH THE SEED: the statements are not yours to turn. If you find one false, say at which input.
  Laid BY PROGRAM, IN A SANDBOX (cutbox-rows.mjs): the forced cells as the released guide's own fill.sh prints them over the translation b06a0ea8247e2839… (all of the seat's roots in one cut). By AI agents, Wed Nov 11 2026. No macro, syntax, notation, axiom, sorry.
-/
import Derived.Test.YtckcbaegehfkoaaChecked
import GoSem.Claim
import GoSem.ClaimJoined
import GoSem.ClaimMapViews
import Derived.JoinedTies
import Derived.KernelRfl
namespace Go.Proofs.Ytckcbaegehfkoaa
/- THE CELL 'sum', in the pinned program and in every row, IS THE sha256 OF THE DUMP (.gsa) THAT YtckcbaegehfkoaaProg.lean LOADS. Nothing in Lean hashes anything: it is a label: what it is worth is what the hold of that sum in a sandbox is worth. -/
noncomputable def Try.pinned : Pinned := { name := "ytckcbaegehfkoaa", sum := "b06a0ea8247e2839059289fe3b6714b85ed60a13a14dfb32c25b13c1f812b8ec", checked := Try.checked }
namespace Rows
def none {H : Type} : Left H := { results := [], args := [] }

/-- 'carcanetlaw09.TopoCheck': WHATEVER THE INPUT: true; the input reads as it did. -/
def topoCheckSpec : ChangeSpec := { name := "topoCheck", fn := fun _ => fun
  | [d1, d2] => { results := [.lit (.bool true)], args := [d1, d2] }
  | _ => none }
def topoCheckRow : OpenClaim := { program := "ytckcbaegehfkoaa", sum := "b06a0ea8247e2839059289fe3b6714b85ed60a13a14dfb32c25b13c1f812b8ec", func := "carcanet/carcanetlaw09.TopoCheck", spec := "topoCheck", unfollowed := true, recurses := true, plainKeys := false, apart := false }
def TopoCheckSaid : Prop := topoCheckRow.holds Try.pinned (OpenSpec.ofChange topoCheckSpec)

/-- ITS FALSE NEIGHBOUR: 'it returns false'. Refute it at one input. -/
def topoCheckWrong : ChangeSpec := { name := "topoCheck", fn := fun _ => fun
  | [d1, d2] => { results := [.lit (.bool false)], args := [d1, d2] }
  | _ => none }
def TopoCheckWrongFalsely : Prop := topoCheckRow.holds Try.pinned (OpenSpec.ofChange topoCheckWrong)

/-- 'carcanetlaw09.TopoRead': WHATEVER THE INPUT: true; the input reads as it did. -/
def topoReadSpec : ChangeSpec := { name := "topoRead", fn := fun _ => fun
  | [d] => { results := [.lit (.bool true)], args := [d] }
  | _ => none }
def topoReadRow : OpenClaim := { program := "ytckcbaegehfkoaa", sum := "b06a0ea8247e2839059289fe3b6714b85ed60a13a14dfb32c25b13c1f812b8ec", func := "carcanet/carcanetlaw09.TopoRead", spec := "topoRead", unfollowed := true, recurses := true, plainKeys := false, apart := false }
def TopoReadSaid : Prop := topoReadRow.holds Try.pinned (OpenSpec.ofChange topoReadSpec)

/-- ITS FALSE NEIGHBOUR: 'it returns false'. Refute it at one input. -/
def topoReadWrong : ChangeSpec := { name := "topoRead", fn := fun _ => fun
  | [d] => { results := [.lit (.bool false)], args := [d] }
  | _ => none }
def TopoReadWrongFalsely : Prop := topoReadRow.holds Try.pinned (OpenSpec.ofChange topoReadWrong)

/-- 'carcanetlaw09.TopoParts': WHATEVER THE INPUT: true; the input reads as it did. -/
def topoPartsSpec : ChangeSpec := { name := "topoParts", fn := fun _ => fun
  | [d] => { results := [.lit (.bool true)], args := [d] }
  | _ => none }
def topoPartsRow : OpenClaim := { program := "ytckcbaegehfkoaa", sum := "b06a0ea8247e2839059289fe3b6714b85ed60a13a14dfb32c25b13c1f812b8ec", func := "carcanet/carcanetlaw09.TopoParts", spec := "topoParts", unfollowed := true, recurses := true, plainKeys := false, apart := false }
def TopoPartsSaid : Prop := topoPartsRow.holds Try.pinned (OpenSpec.ofChange topoPartsSpec)

/-- ITS FALSE NEIGHBOUR: 'it returns false'. Refute it at one input. -/
def topoPartsWrong : ChangeSpec := { name := "topoParts", fn := fun _ => fun
  | [d] => { results := [.lit (.bool false)], args := [d] }
  | _ => none }
def TopoPartsWrongFalsely : Prop := topoPartsRow.holds Try.pinned (OpenSpec.ofChange topoPartsWrong)

/-- 'carcanetlaw09.TopoBack': WHATEVER THE INPUT: true; the input reads as it did. -/
def topoBackSpec : ChangeSpec := { name := "topoBack", fn := fun _ => fun
  | [d] => { results := [.lit (.bool true)], args := [d] }
  | _ => none }
def topoBackRow : OpenClaim := { program := "ytckcbaegehfkoaa", sum := "b06a0ea8247e2839059289fe3b6714b85ed60a13a14dfb32c25b13c1f812b8ec", func := "carcanet/carcanetlaw09.TopoBack", spec := "topoBack", unfollowed := true, recurses := true, plainKeys := false, apart := false }
def TopoBackSaid : Prop := topoBackRow.holds Try.pinned (OpenSpec.ofChange topoBackSpec)

/-- ITS FALSE NEIGHBOUR: 'it returns false'. Refute it at one input. -/
def topoBackWrong : ChangeSpec := { name := "topoBack", fn := fun _ => fun
  | [d] => { results := [.lit (.bool false)], args := [d] }
  | _ => none }
def TopoBackWrongFalsely : Prop := topoBackRow.holds Try.pinned (OpenSpec.ofChange topoBackWrong)

/-- 'carcanetlaw09.TopoModel': WHATEVER THE INPUT: true; the input reads as it did. -/
def topoModelSpec : ChangeSpec := { name := "topoModel", fn := fun _ => fun
  | [d1, d2] => { results := [.lit (.bool true)], args := [d1, d2] }
  | _ => none }
def topoModelRow : OpenClaim := { program := "ytckcbaegehfkoaa", sum := "b06a0ea8247e2839059289fe3b6714b85ed60a13a14dfb32c25b13c1f812b8ec", func := "carcanet/carcanetlaw09.TopoModel", spec := "topoModel", unfollowed := true, recurses := true, plainKeys := false, apart := false }
def TopoModelSaid : Prop := topoModelRow.holds Try.pinned (OpenSpec.ofChange topoModelSpec)

/-- ITS FALSE NEIGHBOUR: 'it returns false'. Refute it at one input. -/
def topoModelWrong : ChangeSpec := { name := "topoModel", fn := fun _ => fun
  | [d1, d2] => { results := [.lit (.bool false)], args := [d1, d2] }
  | _ => none }
def TopoModelWrongFalsely : Prop := topoModelRow.holds Try.pinned (OpenSpec.ofChange topoModelWrong)

/-- 'carcanetlaw09.TopoMakes': WHATEVER THE INPUT: true; the input reads as it did. -/
def topoMakesSpec : ChangeSpec := { name := "topoMakes", fn := fun _ => fun
  | [d] => { results := [.lit (.bool true)], args := [d] }
  | _ => none }
def topoMakesRow : OpenClaim := { program := "ytckcbaegehfkoaa", sum := "b06a0ea8247e2839059289fe3b6714b85ed60a13a14dfb32c25b13c1f812b8ec", func := "carcanet/carcanetlaw09.TopoMakes", spec := "topoMakes", unfollowed := true, recurses := true, plainKeys := false, apart := false }
def TopoMakesSaid : Prop := topoMakesRow.holds Try.pinned (OpenSpec.ofChange topoMakesSpec)

/-- ITS FALSE NEIGHBOUR: 'it returns false'. Refute it at one input. -/
def topoMakesWrong : ChangeSpec := { name := "topoMakes", fn := fun _ => fun
  | [d] => { results := [.lit (.bool false)], args := [d] }
  | _ => none }
def TopoMakesWrongFalsely : Prop := topoMakesRow.holds Try.pinned (OpenSpec.ofChange topoMakesWrong)

/-- 'carcanetlaw09.TopoGrows': WHATEVER THE INPUT: true; the input reads as it did. -/
def topoGrowsSpec : ChangeSpec := { name := "topoGrows", fn := fun _ => fun
  | [d1, d2, d3] => { results := [.lit (.bool true)], args := [d1, d2, d3] }
  | _ => none }
def topoGrowsRow : OpenClaim := { program := "ytckcbaegehfkoaa", sum := "b06a0ea8247e2839059289fe3b6714b85ed60a13a14dfb32c25b13c1f812b8ec", func := "carcanet/carcanetlaw09.TopoGrows", spec := "topoGrows", unfollowed := true, recurses := true, plainKeys := false, apart := false }
def TopoGrowsSaid : Prop := topoGrowsRow.holds Try.pinned (OpenSpec.ofChange topoGrowsSpec)

/-- ITS FALSE NEIGHBOUR: 'it returns false'. Refute it at one input. -/
def topoGrowsWrong : ChangeSpec := { name := "topoGrows", fn := fun _ => fun
  | [d1, d2, d3] => { results := [.lit (.bool false)], args := [d1, d2, d3] }
  | _ => none }
def TopoGrowsWrongFalsely : Prop := topoGrowsRow.holds Try.pinned (OpenSpec.ofChange topoGrowsWrong)

/-- 'carcanetlaw09.TopoTrue': WHATEVER THE INPUT: true; the input reads as it did. -/
def topoTrueSpec : ChangeSpec := { name := "topoTrue", fn := fun _ => fun
  | [d1, d2] => { results := [.lit (.bool true)], args := [d1, d2] }
  | _ => none }
def topoTrueRow : OpenClaim := { program := "ytckcbaegehfkoaa", sum := "b06a0ea8247e2839059289fe3b6714b85ed60a13a14dfb32c25b13c1f812b8ec", func := "carcanet/carcanetlaw09.TopoTrue", spec := "topoTrue", unfollowed := true, recurses := true, plainKeys := false, apart := false }
def TopoTrueSaid : Prop := topoTrueRow.holds Try.pinned (OpenSpec.ofChange topoTrueSpec)

/-- ITS FALSE NEIGHBOUR: 'it returns false'. Refute it at one input. -/
def topoTrueWrong : ChangeSpec := { name := "topoTrue", fn := fun _ => fun
  | [d1, d2] => { results := [.lit (.bool false)], args := [d1, d2] }
  | _ => none }
def TopoTrueWrongFalsely : Prop := topoTrueRow.holds Try.pinned (OpenSpec.ofChange topoTrueWrong)

/- THE SECOND FORM. 'bulk': how many values and letters a reading holds, each counted each time it is reached (what is shared counts as often as it is met; a slice's spare places count too). A statement '..UptoSaid' is the law's where the arguments, and the package variables that the reading takes, are together of bulk at most 1048576: NARROWER than '..Said'. Prove '..Said' where nothing that the law and all that it calls make is longer than what came in: it says more and counts as full. Else prove '..UptoSaid'. A law counts once. -/
mutual
def uptoBulk {H : Type} : DataW H → Nat
  | .lit (.string bytes) => bytes.length + 1
  | .lit _ => 1
  | .nil => 1
  | .ptr d => uptoBulk d + 1
  | .slice elems spare => uptoBulkAll elems + uptoBulkAll spare + 1
  | .agg parts => uptoBulkAll parts + 1
  | .iface _ d => uptoBulk d + 1
  | .map entries => uptoBulkEntries entries + 1
  | .held _ => 1
def uptoBulkAll {H : Type} : List (DataW H) → Nat
  | [] => 0
  | d :: r => uptoBulk d + uptoBulkAll r
def uptoBulkEntries {H : Type} : List (Lit × DataW H) → Nat
  | [] => 0
  | x :: r => uptoBulkEntry x + uptoBulkEntries r
def uptoBulkEntry {H : Type} : Lit × DataW H → Nat
  | (.string bytes, d) => bytes.length + uptoBulk d + 1
  | (_, d) => uptoBulk d + 1
 end
def uptoSmall : (H : Type) → List (DataW H) → Bool := fun _ ds => decide (uptoBulkAll ds ≤ 1048576)
def OpenSpec.upto (s : _root_.Go.ChangeSpec) : _root_.Go.OpenSpec := { _root_.Go.OpenSpec.ofChange s with cond := some uptoSmall }

/-- 'carcanetlaw09.TopoCheck', WHERE WHAT IT READS IS OF BULK AT MOST 1048576: true; the input reads as it did. -/
def topoCheckUptoRow : OpenClaim := { program := "ytckcbaegehfkoaa", sum := "b06a0ea8247e2839059289fe3b6714b85ed60a13a14dfb32c25b13c1f812b8ec", func := "carcanet/carcanetlaw09.TopoCheck", spec := "topoCheck", unfollowed := true, recurses := true, plainKeys := false, apart := false, narrowed := true }
def TopoCheckUptoSaid : Prop := topoCheckUptoRow.holds Try.pinned (OpenSpec.upto topoCheckSpec)

/-- 'carcanetlaw09.TopoRead', WHERE WHAT IT READS IS OF BULK AT MOST 1048576: true; the input reads as it did. -/
def topoReadUptoRow : OpenClaim := { program := "ytckcbaegehfkoaa", sum := "b06a0ea8247e2839059289fe3b6714b85ed60a13a14dfb32c25b13c1f812b8ec", func := "carcanet/carcanetlaw09.TopoRead", spec := "topoRead", unfollowed := true, recurses := true, plainKeys := false, apart := false, narrowed := true }
def TopoReadUptoSaid : Prop := topoReadUptoRow.holds Try.pinned (OpenSpec.upto topoReadSpec)

/-- 'carcanetlaw09.TopoParts', WHERE WHAT IT READS IS OF BULK AT MOST 1048576: true; the input reads as it did. -/
def topoPartsUptoRow : OpenClaim := { program := "ytckcbaegehfkoaa", sum := "b06a0ea8247e2839059289fe3b6714b85ed60a13a14dfb32c25b13c1f812b8ec", func := "carcanet/carcanetlaw09.TopoParts", spec := "topoParts", unfollowed := true, recurses := true, plainKeys := false, apart := false, narrowed := true }
def TopoPartsUptoSaid : Prop := topoPartsUptoRow.holds Try.pinned (OpenSpec.upto topoPartsSpec)

/-- 'carcanetlaw09.TopoBack', WHERE WHAT IT READS IS OF BULK AT MOST 1048576: true; the input reads as it did. -/
def topoBackUptoRow : OpenClaim := { program := "ytckcbaegehfkoaa", sum := "b06a0ea8247e2839059289fe3b6714b85ed60a13a14dfb32c25b13c1f812b8ec", func := "carcanet/carcanetlaw09.TopoBack", spec := "topoBack", unfollowed := true, recurses := true, plainKeys := false, apart := false, narrowed := true }
def TopoBackUptoSaid : Prop := topoBackUptoRow.holds Try.pinned (OpenSpec.upto topoBackSpec)

/-- 'carcanetlaw09.TopoModel', WHERE WHAT IT READS IS OF BULK AT MOST 1048576: true; the input reads as it did. -/
def topoModelUptoRow : OpenClaim := { program := "ytckcbaegehfkoaa", sum := "b06a0ea8247e2839059289fe3b6714b85ed60a13a14dfb32c25b13c1f812b8ec", func := "carcanet/carcanetlaw09.TopoModel", spec := "topoModel", unfollowed := true, recurses := true, plainKeys := false, apart := false, narrowed := true }
def TopoModelUptoSaid : Prop := topoModelUptoRow.holds Try.pinned (OpenSpec.upto topoModelSpec)

/-- 'carcanetlaw09.TopoMakes', WHERE WHAT IT READS IS OF BULK AT MOST 1048576: true; the input reads as it did. -/
def topoMakesUptoRow : OpenClaim := { program := "ytckcbaegehfkoaa", sum := "b06a0ea8247e2839059289fe3b6714b85ed60a13a14dfb32c25b13c1f812b8ec", func := "carcanet/carcanetlaw09.TopoMakes", spec := "topoMakes", unfollowed := true, recurses := true, plainKeys := false, apart := false, narrowed := true }
def TopoMakesUptoSaid : Prop := topoMakesUptoRow.holds Try.pinned (OpenSpec.upto topoMakesSpec)

/-- 'carcanetlaw09.TopoGrows', WHERE WHAT IT READS IS OF BULK AT MOST 1048576: true; the input reads as it did. -/
def topoGrowsUptoRow : OpenClaim := { program := "ytckcbaegehfkoaa", sum := "b06a0ea8247e2839059289fe3b6714b85ed60a13a14dfb32c25b13c1f812b8ec", func := "carcanet/carcanetlaw09.TopoGrows", spec := "topoGrows", unfollowed := true, recurses := true, plainKeys := false, apart := false, narrowed := true }
def TopoGrowsUptoSaid : Prop := topoGrowsUptoRow.holds Try.pinned (OpenSpec.upto topoGrowsSpec)

/-- 'carcanetlaw09.TopoTrue', WHERE WHAT IT READS IS OF BULK AT MOST 1048576: true; the input reads as it did. -/
def topoTrueUptoRow : OpenClaim := { program := "ytckcbaegehfkoaa", sum := "b06a0ea8247e2839059289fe3b6714b85ed60a13a14dfb32c25b13c1f812b8ec", func := "carcanet/carcanetlaw09.TopoTrue", spec := "topoTrue", unfollowed := true, recurses := true, plainKeys := false, apart := false, narrowed := true }
def TopoTrueUptoSaid : Prop := topoTrueUptoRow.holds Try.pinned (OpenSpec.upto topoTrueSpec)

end Rows
end Go.Proofs.Ytckcbaegehfkoaa
