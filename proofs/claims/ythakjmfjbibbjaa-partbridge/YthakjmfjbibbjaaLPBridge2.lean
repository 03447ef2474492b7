/-
  carcanetlaw04.PartBridge answers true, over the program's parts and its Add.
-/
import Derived.Test.YthakjmfjbibbjaaB08
import Derived.Test.YthakjmfjbibbjaaB11
import Derived.Test.YthakjmfjbibbjaaB03
namespace Go.Proofs.Ythakjmfjbibbjaa
open Go.RowKit Go.Lib

theorem partBridge_any (n : Int) (a : Option Addr) (len cap : Nat) (l : List (Int × Int)) (k0 k1 : Int) (w : World) (hl : len = l.length) (hE : EAt w a l) :
    Calls Try.prog 8 #[.int .i64 n, .slice a len cap, .agg #[.int .i64 k0, .int .i64 k1]] w fun e w' => e = .returned (.bool true) ∧ Below w.heap.size w w' :=
  partBridge_law partOps (fun n a cap es x y b w h1 h2 h3 h4 => add_any n a cap es x y b w h1 h2 h3 h4) n a len cap l k0 k1 w hl hE
end Go.Proofs.Ythakjmfjbibbjaa
