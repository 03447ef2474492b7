/-
  The law TopoModel.
-/
import Derived.Test.YtckcbaegehfkoaaB32
namespace Go.Proofs.Ytckcbaegehfkoaa
theorem q_TModel : True := (fun _ => trivial) (@topoModel_law)
end Go.Proofs.Ytckcbaegehfkoaa
