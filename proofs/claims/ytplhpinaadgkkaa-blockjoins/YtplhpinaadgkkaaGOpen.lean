/-
  Edges, a graph and two numbers that came in, as the walks take them.
-/
import Derived.Test.YtplhpinaadgkkaaB05
import Derived.Deep.SlicePairs
import Derived.WideKeyPair
import Derived.OpenShut
import Derived.ProofKit
namespace Go.Proofs.Ytplhpinaadgkkaa
open Go.ChangeShapes Go.WideShapes Go.ChangeAt Go.RowKit Go.Deep Go.WideMaps

/-- What a walk is told of edges that came in. -/
structure Came (w : World) (a : Option Addr) (len cap : Nat) (l : List (Int × Int)) : Prop where
  len_ : len = l.length
  le : len ≤ cap
  max : cap ≤ maxLen
  nil : a = none → cap = 0
  at_ : EAt w a l

section
variable {H : Type} {enc : TypeId × Value → H}

set_option maxRecDepth 100000 in
theorem open_edges {W : World} {base : Nat} {held : Bool} {fuel : Nat} {cs : List Value} {x : DataW H × List MemPlace} (h : DataW.trod enc Try.prog W base (fun _ => true) held fuel 22 cs = some x) :
    ∃ a len cap l, cs = [.slice a len cap] ∧ Came W a len cap l := by
  rcases open_slice_pairs Try.underlying22 Try.underlying42 (by kernel_rfl) rfl rfl (by kernel_rfl) (by kernel_rfl) h with ⟨hcs, _⟩ | ⟨a, len, cap, m, n, V0, V1, D0, D1, P0, P1, hcs, _, hl, hm, hmm, _, hx⟩
  · exact ⟨none, 0, 0, [], hcs, rfl, Nat.le_refl _, Nat.zero_le _, fun _ => rfl, eat_nil _ _⟩
  · rw [if_pos rfl] at hmm
    subst hmm
    have hint : ∀ i, i < m → ∃ p q : Int, W.cell? (a.add (i * 2)) = some (.int .i64 p) ∧ W.cell? (a.add (i * 2 + 1)) = some (.int .i64 q) := fun i hi => by
      obtain ⟨c0, c1, t0, t1⟩ := hx i hi
      obtain ⟨p, e0, _⟩ := DataW.trod_int Try.underlying3 t0
      obtain ⟨q, e1, _⟩ := DataW.trod_int Try.underlying3 t1
      simp only [List.cons.injEq, and_true] at e0 e1
      exact ⟨p, q, by rw [c0, e0], by rw [c1, e1]⟩
    obtain ⟨p, hp⟩ : ∃ p : Nat → Int, ∀ i, i < m → ∃ q, W.cell? (a.add (i * 2)) = some (.int .i64 (p i)) ∧ W.cell? (a.add (i * 2 + 1)) = some (.int .i64 q) :=
      ⟨fun i => if h : i < m then (hint i h).choose else 0, fun i hi => by simp only [dif_pos hi]; exact (hint i hi).choose_spec⟩
    obtain ⟨q, hq⟩ : ∃ q : Nat → Int, ∀ i, i < m → W.cell? (a.add (i * 2)) = some (.int .i64 (p i)) ∧ W.cell? (a.add (i * 2 + 1)) = some (.int .i64 (q i)) :=
      ⟨fun i => if h : i < m then (hp i h).choose else 0, fun i hi => by simp only [dif_pos hi]; exact (hp i hi).choose_spec⟩
    refine ⟨some a, len, m, (List.range len).map (fun i => (p i, q i)), hcs, by simp, hl, hm, (fun h => by cases h), fun h0 => ?_⟩
    have h1 : 0 < len := by simpa using h0
    obtain ⟨b, off, spot⟩ := a
    have hs : spot = none := by simpa [Addr.add] using World.cell?_spot (hq 0 (by omega)).1
    subst hs
    refine ⟨b, off, rfl, World.block_lt_of_cell? W _ (hq 0 (by omega)).1, fun j hj => ?_⟩
    have hj' : j < len := by simpa using hj
    obtain ⟨z0, z1⟩ := hq j (by omega)
    rw [add_at] at z0 z1
    simp only [List.getElem_map, List.getElem_range]
    exact ⟨z0, by rw [← Nat.add_assoc] at z1; exact z1⟩

set_option maxRecDepth 100000 in
theorem edges_in {W : World} {base : Nat} {held : Bool} {r : Reach} {b0 : Nat} {v : Value} {d : DataW H} {ps : List MemPlace} (hval : Value.okWide Try.prog W r b0 22 v) (h : DataW.Trod enc Try.prog W base (fun _ => true) held 22 v d ps) :
    ∃ a len cap l, v = .slice a len cap ∧ Came W a len cap l := by
  obtain ⟨a0, len0, cap0, rfl⟩ := okWide_slice Try.underlying22 hval
  obtain ⟨fuel, hf⟩ := h
  obtain ⟨a, len, cap, l, hcs, hc⟩ := open_edges hf
  simp [Value.cells] at hcs
  obtain ⟨rfl, rfl, rfl⟩ := hcs
  exact ⟨_, _, _, l, rfl, hc⟩

set_option maxRecDepth 100000 in
theorem graph_in {W : World} {base : Nat} {held : Bool} {r : Reach} {b0 : Nat} {v : Value} {d : DataW H} {ps : List MemPlace} (hval : Value.okWide Try.prog W r b0 26 v) (h : DataW.Trod enc Try.prog W base (fun _ => true) held 26 v d ps) :
    ∃ n a len cap l, v = .agg #[.int .i64 n, .slice a len cap] ∧ Came W a len cap l := by
  obtain ⟨cs, rfl, hsz⟩ := okWide_struct Try.underlying26 hval
  rw [show Try.prog.cellsOf 26 = 2 by kernel_rfl] at hsz
  obtain ⟨fuel, hf⟩ := h
  obtain ⟨l0⟩ := cs
  match l0, hsz with
  | [c0, c1], _ =>
    obtain ⟨y0, y1, n, _, _, t0, t1⟩ := trod_struct2 Try.underlying26 hf
    simp only [show Try.prog.cellsOf 3 = 1 by kernel_rfl, show Try.prog.cellsOf 22 = 1 by kernel_rfl, Value.cells, List.drop, List.take] at t0 t1
    obtain ⟨n0, e0, _⟩ := DataW.trod_int Try.underlying3 t0
    obtain ⟨a, len, cap, l, e1, hc⟩ := open_edges t1
    simp only [List.cons.injEq, and_true] at e0 e1
    subst e0
    subst e1
    exact ⟨n0, a, len, cap, l, rfl, hc⟩
end
end Go.Proofs.Ytplhpinaadgkkaa
