/-
  The law MinorNone.
-/
import Derived.Test.YtlebimolgienkaaM24
namespace Go.Proofs.Ytlebimolgienkaa
theorem q_None : True := (fun _ => trivial) (@minorNone_law)
end Go.Proofs.Ytlebimolgienkaa
