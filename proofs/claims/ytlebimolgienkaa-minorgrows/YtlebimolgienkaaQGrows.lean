/-
  The law MinorGrows.
-/
import Derived.Test.YtlebimolgienkaaM24
namespace Go.Proofs.Ytlebimolgienkaa
theorem q_Grows : True := (fun _ => trivial) (@minorGrows_law)
end Go.Proofs.Ytlebimolgienkaa
