/-
  The law BlockTells, for the program's blocks and the document's.
-/
import Derived.Test.YtlebimolgienkaaT19
import Derived.Test.YtlebimolgienkaaT23
namespace Go.Proofs.Ytlebimolgienkaa
theorem q_tells : True := (fun _ => trivial) (blockTells_law blockOps refTree)
end Go.Proofs.Ytlebimolgienkaa
