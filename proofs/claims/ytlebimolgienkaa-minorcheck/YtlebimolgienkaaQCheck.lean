/-
  The law MinorCheck.
-/
import Derived.Test.YtlebimolgienkaaC22
namespace Go.Proofs.Ytlebimolgienkaa
theorem q_Check : True := (fun _ => trivial) (@minorCheck_law)
end Go.Proofs.Ytlebimolgienkaa
