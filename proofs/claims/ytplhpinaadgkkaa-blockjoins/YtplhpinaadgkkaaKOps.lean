/-
  The program's blocks keep what the laws of layer 7 ask of them.
-/
import Derived.Test.YtplhpinaadgkkaaB24
namespace Go.Proofs.Ytplhpinaadgkkaa
open Go.RowKit Go.Lib

theorem blockOps : BlockOps := ⟨fun n a cap es b w hN hE hb => blkOf_any n a cap es b w hN hE hb, fun n a cap es la lc l b r w hN hL hE hI hb hr => blkTwo_any n a cap es la lc l b r w hN hL hE hI hb hr⟩
end Go.Proofs.Ytplhpinaadgkkaa
