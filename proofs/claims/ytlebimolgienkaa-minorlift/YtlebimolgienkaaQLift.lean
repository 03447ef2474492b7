/-
  The law MinorLift.
-/
import Derived.Test.YtlebimolgienkaaM28
namespace Go.Proofs.Ytlebimolgienkaa
theorem q_Lift : True := (fun _ => trivial) (@minorLift_law)
end Go.Proofs.Ytlebimolgienkaa
