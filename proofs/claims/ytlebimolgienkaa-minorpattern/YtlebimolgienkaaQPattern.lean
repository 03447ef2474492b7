/-
  The law MinorPattern.
-/
import Derived.Test.YtlebimolgienkaaP19
namespace Go.Proofs.Ytlebimolgienkaa
theorem q_Pattern : True := (fun _ => trivial) (@minorPattern_law)
end Go.Proofs.Ytlebimolgienkaa
