/-
  The law TopoTrue.
-/
import Derived.Test.YtckcbaegehfkoaaB36
namespace Go.Proofs.Ytckcbaegehfkoaa
theorem q_TTrue : True := (fun _ => trivial) (@topoTrue_law)
end Go.Proofs.Ytckcbaegehfkoaa
