/-
  The law MinorTrue.
-/
import Derived.Test.YtlebimolgienkaaW22
namespace Go.Proofs.Ytlebimolgienkaa
theorem q_True : True := (fun _ => trivial) (@minorTrue_law)
end Go.Proofs.Ytlebimolgienkaa
