/-
  The document's Of keeps its contract.
-/
import Derived.Test.YtlebimolgienkaaT20
import Derived.Test.YtlebimolgienkaaT22
namespace Go.Proofs.Ytlebimolgienkaa
open Go.RowKit Go.Lib

theorem refTree : RefTree := ⟨rblkOf_any⟩
end Go.Proofs.Ytlebimolgienkaa
