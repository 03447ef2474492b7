/-
  A graph in a variable; what the laws of a raw graph do first: a copy of its first five hundred edges.
-/
import Derived.Test.YtalhjankofdhgaaGAdd2
import Derived.Test.YtalhjankofdhgaaGShown2
namespace Go.Proofs.Ytalhjankofdhgaa
open Go.RowKit Go.Lib

/-- A variable holds a graph whose edges lie in memory. -/
structure GC (w : World) (b : Nat) (n : Int) (a : Option Addr) (k cap : Nat) (es : List (Int × Int)) : Prop where
  n0 : w.cell? ⟨b, 0, none⟩ = some (.int .i64 n)
  e0 : w.cell? ⟨b, 1, none⟩ = some (.slice a k cap)
  at_ : EAt w a es
theorem GC.on {w w' : World} {b : Nat} {n : Int} {a : Option Addr} {k cap : Nat} {es : List (Int × Int)} (h : GC w b n a k cap es) (hb : Below w.heap.size w w') : GC w' b n a k cap es :=
  ⟨(hb.cell (block_lt_of_cell h.n0)).trans h.n0, (hb.cell (block_lt_of_cell h.e0)).trans h.e0, h.at_.below hb⟩
theorem GC.cells {w : World} {b : Nat} {n : Int} {a : Option Addr} {k cap : Nat} {es : List (Int × Int)} (h : GC w b n a k cap es) : w.cell? ⟨b, 0, none⟩ = some (.int .i64 n) ∧ w.cell? ⟨b, 1, none⟩ = some (.slice a k cap) := ⟨h.n0, h.e0⟩
theorem set_one {w : World} {b : Nat} {x y : Value} (h0 : w.cell? ⟨b, 0, none⟩ = some x) (h1 : w.cell? ⟨b, 1, none⟩ = some y) (v : Value) : (w.setCell ⟨b, 1, none⟩ v).cell? ⟨b, 0, none⟩ = some x ∧ (w.setCell ⟨b, 1, none⟩ v).cell? ⟨b, 1, none⟩ = some v := by
  refine ⟨?_, World.cell?_setCell_same' _ _ _ (by rw [h1]; rfl)⟩
  rw [World.cell?_setCell_other _ _ _ _ (by simp)]; exact h0
theorem hid {p : Prop} (h : p) : Hid p := h
theorem own_zero (w : World) : w.ownsRow w.heap.size 39 2 (.slice none 0 0) 0 [] := ⟨rfl, Or.inl ⟨rfl, rfl⟩⟩
end Go.Proofs.Ytalhjankofdhgaa
