/-
  The law TopoBack.
-/
import Derived.Test.YtckcbaegehfkoaaA24
namespace Go.Proofs.Ytckcbaegehfkoaa
theorem q_Back : True := (fun _ => trivial) (@topoBack_law)
end Go.Proofs.Ytckcbaegehfkoaa
