/-
  The law MinorMoves.
-/
import Derived.Test.YtlebimolgienkaaV19
namespace Go.Proofs.Ytlebimolgienkaa
theorem q_Moves : True := (fun _ => trivial) (@minorMoves_law)
end Go.Proofs.Ytlebimolgienkaa
