/-
  What the claims of layer 8 open their arguments with.
-/
import Derived.Test.YtlebimolgienkaaC02
namespace Go.Proofs.Ytlebimolgienkaa
theorem q_netC : True := (fun _ => trivial) (@net_in)
theorem q_modelC : True := (fun _ => trivial) (@model_in)
theorem q_endsC : True := (fun _ => trivial) (Try.ends)
end Go.Proofs.Ytlebimolgienkaa
