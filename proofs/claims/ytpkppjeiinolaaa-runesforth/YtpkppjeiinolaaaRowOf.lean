/-
  A row of numbers that came in, as the walks take it.
-/
import Derived.Test.YtpkppjeiinolaaaEncLaw
import Derived.OpenShut
namespace Go.Proofs.Ytpkppjeiinolaaa
open Go.RowKit Go.Lib

theorem row_of {w : World} {a : Option Addr} {len cap : Nat} {z : List Int}
    (h : (a = none ∧ len = 0 ∧ cap = 0 ∧ z = []) ∨ ∃ x, a = some x ∧ len ≤ cap ∧ cap ≤ maxLen ∧ z.length = cap ∧ (∀ i, i < z.length → w.cell? (x.add i) = some (.int .i32 (z.getD i 0))) ∧ ∀ n ∈ z, (Lit.int .i32 n).wf = true) :
    len ≤ cap ∧ RowI w a len (z.take len) := by
  rcases h with ⟨rfl, rfl, rfl, rfl⟩ | ⟨x, rfl, hl, _, hz, hc, hw⟩
  · exact ⟨Nat.le_refl _, rfl, by simp, fun h => absurd h (by omega)⟩
  · refine ⟨hl, by rw [List.length_take]; omega, fun n hn => bounds_i32 (hw n (List.mem_of_mem_take hn)), fun h0 => ?_⟩
    obtain ⟨b, off, spot⟩ := x
    have h1 := hc 0 (by omega)
    have hs : spot = none := by simpa [Addr.add] using World.cell?_spot h1
    subst hs
    refine ⟨b, off, rfl, World.block_lt_of_cell? w _ h1, fun j hj => ?_⟩
    have h2 := hc j (by omega)
    rw [add_at] at h2
    rw [h2]
    simp [List.getD, hj]

end Go.Proofs.Ytpkppjeiinolaaa
