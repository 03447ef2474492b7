/-
  What the claims of layer 8 open their arguments with.
-/
import Derived.Test.YtlebimolgienkaaV02
namespace Go.Proofs.Ytlebimolgienkaa
theorem q_netV : True := (fun _ => trivial) (@net_in)
theorem q_modelV : True := (fun _ => trivial) (@model_in)
theorem q_endsV : True := (fun _ => trivial) (Try.ends)
end Go.Proofs.Ytlebimolgienkaa
