/-
  The law TopoGrows.
-/
import Derived.Test.YtckcbaegehfkoaaB37
namespace Go.Proofs.Ytckcbaegehfkoaa
theorem q_TGrows : True := (fun _ => trivial) (@topoGrows_law)
end Go.Proofs.Ytckcbaegehfkoaa
