/-
  The program's calls of layer 6 keep their contracts.
-/
import Derived.Test.YtagigeieoijciaaB13
namespace Go.Proofs.Ytagigeieoijciaa
open Go.RowKit Go.Lib

theorem subOps : SubOps :=
  ⟨fun n a cap es la lc l b w h1 h2 _ _ h3 h4 h5 => sub_ind_any n a cap es la lc l b w h1 h2 h3 h4 h5,
   fun n a cap es v b w h1 _ h3 h4 => sub_del_any n a cap es v b w h1 h3 h4,
   fun n a cap es x y b w h1 _ h3 h4 => sub_con_any n a cap es x y b w h1 h3 h4⟩
end Go.Proofs.Ytagigeieoijciaa
