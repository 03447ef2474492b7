/-
  Rows of numbers, lists of rows, and a Net that came in, as the walks of layer 5 take them.
-/
import Derived.Test.YtplhpinaadgkkaaGOpen
import Derived.Test.YtplhpinaadgkkaaB05
import Derived.Deep.Slices
import Derived.ChangeSlices
namespace Go.Proofs.Ytplhpinaadgkkaa
open Go.ChangeShapes Go.WideShapes Go.ChangeAt Go.RowKit Go.Deep Go.WideMaps

/-- What a walk is told of a row that came in. -/
structure CameI (w : World) (a : Option Addr) (len cap : Nat) (l : List Int) : Prop where
  len_ : len = l.length
  le : len ≤ cap
  max : cap ≤ maxLen
  nil : a = none → cap = 0
  at_ : IAt w a l
  wf : ∀ x ∈ l, (Lit.int .i64 x).wf = true
/-- What a walk is told of a list of rows that came in. -/
structure CameR (w : World) (a : Option Addr) (len cap : Nat) (LL : List (List Int)) : Prop where
  len_ : len = LL.length
  le : len ≤ cap
  max : cap ≤ maxLen
  nil : a = none → cap = 0
  at_ : 0 < LL.length → ∃ g off, a = some ⟨g, off, none⟩ ∧ g < w.heap.size ∧ ∀ k (hk : k < LL.length), ∃ ak ck, w.cell? ⟨g, off + k, none⟩ = some (.slice ak LL[k].length ck) ∧ CameI w ak LL[k].length ck LL[k]

section
variable {H : Type} {enc : TypeId × Value → H}

set_option maxRecDepth 100000 in
theorem open_row {W : World} {base : Nat} {held : Bool} {fuel : Nat} {cs : List Value} {x : DataW H × List MemPlace} (h : DataW.trod enc Try.prog W base (fun _ => true) held fuel 28 cs = some x) :
    ∃ a len cap l, cs = [.slice a len cap] ∧ CameI W a len cap l := by
  rcases open_ints Try.underlying28 Try.underlying3 (by kernel_rfl) h with ⟨hcs, _⟩ | ⟨a, len, cap, zs, hcs, _, hl, hm, hzl, _, hx, hwf⟩
  · exact ⟨none, 0, 0, [], hcs, rfl, Nat.le_refl _, Nat.zero_le _, fun _ => rfl, iat_nil _ _, by simp⟩
  · rw [if_pos rfl] at hzl
    refine ⟨some a, len, cap, zs.take len, hcs, by rw [List.length_take]; omega, hl, hm, (fun h => by cases h), fun h0 => ?_, fun x hx => hwf x (List.mem_of_mem_take hx)⟩
    have h1 : 0 < len := by rw [List.length_take] at h0; omega
    obtain ⟨b, off, spot⟩ := a
    have hs : spot = none := by simpa [Addr.add] using World.cell?_spot (hx 0 (by omega))
    subst hs
    have c0 := hx 0 (by omega)
    refine ⟨b, off, rfl, World.block_lt_of_cell? W _ c0, fun j hj => ?_⟩
    rw [List.length_take] at hj
    have cj := hx j (by omega)
    rw [add_at] at cj
    rw [cj, List.getElem_take]
    simp [List.getD, show j < zs.length by omega]

set_option maxRecDepth 100000 in
theorem row_in {W : World} {base : Nat} {held : Bool} {r : Reach} {b0 : Nat} {v : Value} {d : DataW H} {ps : List MemPlace} (hval : Value.okWide Try.prog W r b0 28 v) (h : DataW.Trod enc Try.prog W base (fun _ => true) held 28 v d ps) :
    ∃ a len cap l, v = .slice a len cap ∧ CameI W a len cap l := by
  obtain ⟨a0, len0, cap0, rfl⟩ := okWide_slice Try.underlying28 hval
  obtain ⟨fuel, hf⟩ := h
  obtain ⟨a, len, cap, l, hcs, hc⟩ := open_row hf
  simp [Value.cells] at hcs
  obtain ⟨rfl, rfl, rfl⟩ := hcs
  exact ⟨_, _, _, l, rfl, hc⟩

set_option maxRecDepth 100000 in
theorem rows_in {W : World} {base : Nat} {held : Bool} {r : Reach} {b0 : Nat} {v : Value} {d : DataW H} {ps : List MemPlace} (hval : Value.okWide Try.prog W r b0 29 v) (h : DataW.Trod enc Try.prog W base (fun _ => true) held 29 v d ps) :
    ∃ a len cap LL, v = .slice a len cap ∧ CameR W a len cap LL := by
  obtain ⟨a0, len0, cap0, rfl⟩ := okWide_slice Try.underlying29 hval
  obtain ⟨fuel, hf⟩ := h
  rcases open_slice1 Try.underlying29 (by kernel_rfl) hf with ⟨hcs, _⟩ | ⟨a, len, cap, m, n, V, D, Pl, hcs, _, hl, hm, hmm, _, hx⟩
  · simp [Value.cells] at hcs
    obtain ⟨rfl, rfl, rfl⟩ := hcs
    exact ⟨none, 0, 0, [], rfl, rfl, Nat.le_refl _, Nat.zero_le _, fun _ => rfl, fun h => absurd h (by simp)⟩
  · simp [Value.cells] at hcs
    obtain ⟨rfl, rfl, rfl⟩ := hcs
    rw [if_pos rfl] at hmm
    subst hmm
    have hrow : ∀ i, i < m → ∃ L : List Int, ∃ ak ck, V i = .slice ak L.length ck ∧ CameI W ak L.length ck L := fun i hi => by
      obtain ⟨_, t⟩ := hx i hi
      obtain ⟨ak, lk, ck, L, e, hc⟩ := open_row t
      simp only [List.cons.injEq, and_true] at e
      have := hc.len_
      subst this
      exact ⟨L, ak, ck, e, hc⟩
    obtain ⟨F, hF⟩ : ∃ F : Nat → List Int, ∀ i, i < m → ∃ ak ck, V i = .slice ak (F i).length ck ∧ CameI W ak (F i).length ck (F i) :=
      ⟨fun i => if h : i < m then (hrow i h).choose else [], fun i hi => by simp only [dif_pos hi]; exact (hrow i hi).choose_spec⟩
    refine ⟨some a, len0, m, (List.range len0).map F, rfl, by simp, hl, hm, (fun h => by cases h), fun h0 => ?_⟩
    have h1 : 0 < len0 := by simpa using h0
    obtain ⟨b, off, spot⟩ := a
    have hs : spot = none := by simpa [Addr.add] using World.cell?_spot (hx 0 (by omega)).1
    subst hs
    refine ⟨b, off, rfl, World.block_lt_of_cell? W _ (hx 0 (by omega)).1, fun k hk => ?_⟩
    have hk' : k < len0 := by simpa using hk
    obtain ⟨ak, ck, e, hc⟩ := hF k (by omega)
    have cj := (hx k (by omega)).1
    rw [add_at, e] at cj
    simp only [List.getElem_map, List.getElem_range]
    exact ⟨ak, ck, cj, hc⟩

set_option maxRecDepth 100000 in
theorem net_in {W : World} {base : Nat} {held : Bool} {r : Reach} {b0 : Nat} {v : Value} {d : DataW H} {ps : List MemPlace} (hval : Value.okWide Try.prog W r b0 24 v) (h : DataW.Trod enc Try.prog W base (fun _ => true) held 24 v d ps) :
    ∃ n a len cap l, v = .agg #[.int .i64 n, .slice a len cap] ∧ Came W a len cap l := by
  obtain ⟨cs, rfl, hsz⟩ := okWide_struct Try.underlying24 hval
  rw [show Try.prog.cellsOf 24 = 2 by kernel_rfl] at hsz
  obtain ⟨fuel, hf⟩ := h
  obtain ⟨l0⟩ := cs
  match l0, hsz with
  | [c0, c1], _ =>
    obtain ⟨y0, y1, n, _, _, t0, t1⟩ := trod_struct2 Try.underlying24 hf
    simp only [show Try.prog.cellsOf 3 = 1 by kernel_rfl, show Try.prog.cellsOf 22 = 1 by kernel_rfl, Value.cells, List.drop, List.take] at t0 t1
    obtain ⟨n0, e0, _⟩ := DataW.trod_int Try.underlying3 t0
    obtain ⟨a, len, cap, l, e1, hc⟩ := open_edges t1
    simp only [List.cons.injEq, and_true] at e0 e1
    subst e0
    subst e1
    exact ⟨n0, a, len, cap, l, rfl, hc⟩
end
end Go.Proofs.Ytplhpinaadgkkaa
