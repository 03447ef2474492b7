/-
  The program's walks keep their contracts.
-/
import Derived.Test.YtccbheijfnodjaaB18
import Derived.Test.YtccbheijfnodjaaB21
import Derived.Test.YtccbheijfnodjaaB22
import Derived.Test.YtccbheijfnodjaaB24
import Derived.Test.YtccbheijfnodjaaB25
namespace Go.Proofs.Ytccbheijfnodjaa
open Go.RowKit Go.Lib

theorem walkOps : WalkOps :=
  ⟨fun n a cap es pa pc p b r w hN hP _ _ hE hI hb hr => path_any n a cap es pa pc p b r w hN hP hE hI hb hr,
   fun n a cap es pa pc p b r w hN hP _ _ hE hI hb hr => cycle_any n a cap es pa pc p b r w hN hP hE hI hb hr,
   fun n a cap es pa pc p b r w hN hP _ _ hE hI hb hr => whole_any n a cap es pa pc p b r w hN hP hE hI hb hr,
   fun n a cap es x y ca cc away b w hN hA _ _ hE hI hb => route_any n a cap es x y ca cc away b w hN hA hE hI hb,
   fun ca cc c w hN hw hI => turn_any ca cc c w hN hw hI,
   fun a cap LL r w hN hF _ hL hwf hr => apart_any a cap LL r w hN hF hL hwf hr⟩
end Go.Proofs.Ytccbheijfnodjaa
