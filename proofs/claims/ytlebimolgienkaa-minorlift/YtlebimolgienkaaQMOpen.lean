/-
  What the claims of layer 8 open their arguments with.
-/
import Derived.Test.YtlebimolgienkaaM06
import Derived.Test.YtlebimolgienkaaM05
namespace Go.Proofs.Ytlebimolgienkaa
theorem q_netM : True := (fun _ => trivial) (@net_in)
theorem q_model : True := (fun _ => trivial) (@model_in)
theorem q_endsM : True := (fun _ => trivial) (Try.ends)
end Go.Proofs.Ytlebimolgienkaa
