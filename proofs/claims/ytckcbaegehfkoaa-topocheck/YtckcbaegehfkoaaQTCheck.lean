/-
  The law TopoCheck.
-/
import Derived.Test.YtckcbaegehfkoaaC31
namespace Go.Proofs.Ytckcbaegehfkoaa
theorem q_TCheck : True := (fun _ => trivial) (@topoCheck_law)
end Go.Proofs.Ytckcbaegehfkoaa
