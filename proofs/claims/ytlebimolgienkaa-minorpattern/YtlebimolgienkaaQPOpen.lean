/-
  What the claim of MinorPattern opens its argument with.
-/
import Derived.Test.YtlebimolgienkaaP02
namespace Go.Proofs.Ytlebimolgienkaa
theorem q_netP : True := (fun _ => trivial) (Try.ends)
end Go.Proofs.Ytlebimolgienkaa
