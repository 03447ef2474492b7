/-
  What the claims of TopoBack, TopoRead open their argument with.
-/
import Derived.Test.YtckcbaegehfkoaaA03
namespace Go.Proofs.Ytckcbaegehfkoaa
theorem q_netA : True := (fun _ => trivial) (@net_in)
end Go.Proofs.Ytckcbaegehfkoaa
