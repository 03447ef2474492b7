/-
  What the claims of layer 9 open their arguments with.
-/
import Derived.Test.YtckcbaegehfkoaaB04
import Derived.Test.YtckcbaegehfkoaaB05
namespace Go.Proofs.Ytckcbaegehfkoaa
theorem q_netB : True := (fun _ => trivial) (@net_in)
theorem q_subB : True := (fun _ => trivial) (@sub_in)
theorem q_endsB : True := (fun _ => trivial) (@Try.ends)
end Go.Proofs.Ytckcbaegehfkoaa
