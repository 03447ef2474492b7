/-
  What the claims of layer 8 open their arguments with.
-/
import Derived.Test.YtlebimolgienkaaW02
namespace Go.Proofs.Ytlebimolgienkaa
theorem q_netW : True := (fun _ => trivial) (@net_in)
theorem q_modelW : True := (fun _ => trivial) (@model_in)
theorem q_endsW : True := (fun _ => trivial) (Try.ends)
end Go.Proofs.Ytlebimolgienkaa
