/-
  What the claim of BlockTells opens its argument with.
-/
import Derived.Test.YtlebimolgienkaaT02
namespace Go.Proofs.Ytlebimolgienkaa
theorem q_net : True := (fun _ => trivial) (@net_in)
theorem q_ends : True := (fun _ => trivial) (Try.ends)
end Go.Proofs.Ytlebimolgienkaa
