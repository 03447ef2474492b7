/-
  What the claims of layer 9 open their arguments with.
-/
import Derived.Test.YtckcbaegehfkoaaC03
namespace Go.Proofs.Ytckcbaegehfkoaa
theorem q_netD : True := (fun _ => trivial) (@net_in)
theorem q_subD : True := (fun _ => trivial) (@sub_in)
theorem q_endsD : True := (fun _ => trivial) (@Try.ends)
end Go.Proofs.Ytckcbaegehfkoaa
