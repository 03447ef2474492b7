/-
  The law MinorDrop.
-/
import Derived.Test.YtlebimolgienkaaM27
namespace Go.Proofs.Ytlebimolgienkaa
theorem q_Drop : True := (fun _ => trivial) (@minorDrop_law)
end Go.Proofs.Ytlebimolgienkaa
