/-
  graph.neighbours, and the closure that it hands back: which vertices come, in which order.
  graph.Has: are two vertices neighbours?
  graph.Near: the neighbours of a vertex; slices.Collect and slices.AppendSeq walked.
  graph.Degrees: of each vertex how many neighbours it has.
  carcanetlaw03.shown answers true.
  A graph in a variable; what the laws of a raw graph do first: a copy of its first five hundred edges.
  Edges, a graph and two numbers that came in, as the walks take them.
  Rows of numbers, lists of rows, and a Net that came in, as the walks of layer 5 take them.
  A model that came in (layer 8).
  Paths, cycles, what is whole, the least of the shortest ways, rings: as the document says them. No program is named here.
  Graphs made of a graph (layer 6): what some vertices induce, what is left when one goes, two neighbours made one. No program is named here.
  Who goes, and what is left (layer 6): renumbered edges. No program is named here.
-/
import Derived.Test.YtlebimolgienkaaW01
import Derived.RangeFuncNested
import Derived.RangeFuncBound
import Derived.RangeFuncCalls
import Derived.RangeFuncLeaves
import Derived.RangeFuncBox
import Derived.Shelf.Abstract
import Derived.Shelf.RegionOpen
import Derived.OwnWalkIn
import Derived.TacticsInMore
import Derived.LoopNIn
import Derived.LoopIn
import Derived.Maps.AppendAt
import Derived.Deep.SlicePairs
import Derived.WideKeyPair
import Derived.OpenShut
import Derived.ProofKit
import Derived.Deep.Slices
import Derived.ChangeSlices
namespace Go.Proofs.Ytlebimolgienkaa
open Go.RowKit Go.Lib Go.Shelf
attribute [local go_sem] Oper.semAt_some

/-- The other end of an edge that has v. -/
def other (v : Int) (e : Int × Int) : List Int := if e.1 = v then [e.2] else if e.2 = v then [e.1] else []
def nbL (v : Int) : List (Int × Int) → List Int
  | [] => []
  | e :: es => other v e ++ nbL v es
theorem nbL_append (v : Int) (a b : List (Int × Int)) : nbL v (a ++ b) = nbL v a ++ nbL v b := by
  induction a with
  | nil => rfl
  | cons e a ih => rw [List.cons_append, nbL, nbL, ih, List.append_assoc]
theorem nbL_take {v : Int} {es : List (Int × Int)} {k : Nat} (h : k < es.length) : nbL v (es.take (k + 1)) = nbL v (es.take k) ++ other v es[k] := by
  rw [List.take_succ_eq_append_getElem h, nbL_append, nbL, nbL, List.append_nil]
theorem nbL_prefix (v : Int) (es : List (Int × Int)) (k : Nat) : nbL v (es.take k) <+: nbL v es := by
  refine ⟨nbL v (es.drop k), ?_⟩
  rw [← nbL_append, List.take_append_drop]
theorem nbL_len (v : Int) (es : List (Int × Int)) : (nbL v es).length ≤ es.length := by
  induction es with
  | nil => simp [nbL]
  | cons e es ih =>
    rw [nbL, List.length_append]
    have : (other v e).length ≤ 1 := by
      unfold other
      by_cases h1 : e.1 = v
      · rw [if_pos h1]; simp
      · rw [if_neg h1]
        by_cases h2 : e.2 = v
        · rw [if_pos h2]; simp
        · rw [if_neg h2]; simp
    simp; omega

theorem EAt.lt {w : World} {a : Option Addr} {es : List (Int × Int)} (h : EAt w a es) : ∀ g off, 0 < es.length → a = some ⟨g, off, none⟩ → g < w.heap.size := fun g off h0 ha => by
  obtain ⟨g', off', ha', hg, _⟩ := h h0
  rw [ha'] at ha
  simp only [Option.some.injEq, Addr.mk.injEq, and_true] at ha
  omega

theorem nbL_mem {v y : Int} {es : List (Int × Int)} : y ∈ nbL v es ↔ ∃ e ∈ es, y ∈ other v e := by
  induction es with
  | nil => simp [nbL]
  | cons e es ih => simp [nbL, ih]
theorem other_mem {v y : Int} {e : Int × Int} : y ∈ other v e ↔ (e.1 = v ∧ y = e.2) ∨ (e.1 ≠ v ∧ e.2 = v ∧ y = e.1) := by
  unfold other
  by_cases h1 : e.1 = v
  · rw [if_pos h1]; simp [h1]
  · rw [if_neg h1]
    by_cases h2 : e.2 = v
    · rw [if_pos h2]; simp [h1, h2]
    · rw [if_neg h2]; simp [h1, h2]
/-- The neighbours of a vertex are the other ends of its edges. -/
theorem nbL_right {n v y : Int} {es : List (Int × Int)} (h : RightG n es) : y ∈ nbL v es ↔ (v, y) ∈ es ∨ (y, v) ∈ es := by
  rw [nbL_mem]
  constructor
  · rintro ⟨e, he, ho⟩
    rcases other_mem.1 ho with ⟨h1, h2⟩ | ⟨_, h1, h2⟩
    · left; rw [show (v, y) = e from Prod.ext h1.symm h2]; exact he
    · right; rw [show (y, v) = e from Prod.ext h2 h1.symm]; exact he
  · rintro (he | he)
    · exact ⟨_, he, other_mem.2 (Or.inl ⟨rfl, rfl⟩)⟩
    · have := h.2.2.2.1 _ he
      simp only at this
      exact ⟨_, he, other_mem.2 (Or.inr ⟨by simp only; omega, rfl, rfl⟩)⟩
end Go.Proofs.Ytlebimolgienkaa
namespace Go.Proofs.Ytlebimolgienkaa
open Go.RowKit Go.Lib Go.Shelf
attribute [local go_sem] Oper.semAt_some

theorem alloc_at {w : World} {o : Obj} {k : Nat} (h : k < w.heap.size) : (w.alloc o).heap[k]? = w.heap[k]? := Below.heap_alloc _ _ _ h
end Go.Proofs.Ytlebimolgienkaa
namespace Go.Proofs.Ytlebimolgienkaa
open Go.RowKit Go.Lib Go.Shelf
attribute [local go_sem] Oper.semAt_some

/-- A row of numbers in memory. -/
def IAt (w : World) (a : Option Addr) (xs : List Int) : Prop :=
  0 < xs.length → ∃ g off, a = some ⟨g, off, none⟩ ∧ g < w.heap.size ∧ ∀ k (hk : k < xs.length), w.cell? ⟨g, off + k, none⟩ = some (.int .i64 xs[k])
theorem iat_nil (w : World) (a : Option Addr) : IAt w a [] := fun h => absurd h (by simp)
theorem IAt.below {w w' : World} {a : Option Addr} {xs : List Int} (h : IAt w a xs) (hb : Below w.heap.size w w') : IAt w' a xs := by
  intro h0
  obtain ⟨g, off, ha, hg, hc⟩ := h h0
  exact ⟨g, off, ha, Nat.lt_of_lt_of_le hg hb.size, fun k hk => (hb.cell (p := ⟨g, off + k, none⟩) hg).trans (hc k hk)⟩
theorem iat_own {w : World} {base : Nat} {e : TypeId} {v : Value} {xs : List Int} (h : w.ownsRow base e 1 v xs.length (xs.map (Value.int .i64))) : ∃ a cap, v = .slice a xs.length cap ∧ IAt w a xs := by
  by_cases hn : 0 < xs.length
  · obtain ⟨g, cap, hv, hb, hg, hc, hcs⟩ := own_row h hn
    exact ⟨_, cap, hv, fun _ => ⟨g, 0, rfl, hg, fun k hk => by rw [Nat.zero_add]; exact hcs k _ (by rw [List.getElem?_map, List.getElem?_eq_getElem hk]; rfl)⟩⟩
  · rcases h.2 with ⟨hv, h0⟩ | ⟨g, cap, cur, hv, _, _, hc, _⟩
    · exact ⟨none, 0, by rw [hv, h0], fun h => absurd h hn⟩
    · exact ⟨_, cap, hv, fun h => absurd h hn⟩

theorem new_two (w : World) (o1 o2 : Obj) : ∃ W0, W0 = (w.alloc o1).alloc o2 ∧ W0.heap.size = w.heap.size + 1 + 1 ∧ W0.heap[w.heap.size]? = some o1 ∧ W0.heap[w.heap.size + 1]? = some o2 ∧ Below w.heap.size w W0 := by
  have s1 : (w.alloc o1).heap.size = w.heap.size + 1 := by simp
  refine ⟨_, rfl, by simp, ?_, ?_, ((Below.refl _ _).alloc (Nat.le_refl _) _).alloc (by omega) _⟩
  · rw [alloc_at (by omega)]; exact heap_alloc_new _ _
  · rw [← s1]; exact heap_alloc_new _ _

end Go.Proofs.Ytlebimolgienkaa
namespace Go.Proofs.Ytlebimolgienkaa
open Go.RowKit Go.Lib

/-- A row of numbers that may be written, place by place. -/
def Row1 (w : World) (g n : Nat) (c : Nat → Int) : Prop := g < w.heap.size ∧ ∀ j, j < n → w.cell? ⟨g, j, none⟩ = some (.int .i64 (c j)) ∧ w.frozen? ⟨g, j, none⟩ = false
theorem Row1.put {w : World} {g n : Nat} {c : Nat → Int} (h : Row1 w g n c) {i : Nat} (hi : i < n) (x : Int) : Row1 (w.setCell ⟨g, i, none⟩ (.int .i64 x)) g n (fun j => if j = i then x else c j) := by
  refine ⟨by simpa using h.1, fun j hj => ?_⟩
  obtain ⟨a, fa⟩ := h.2 j hj
  simp only [World.frozen?_setCell]
  refine ⟨?_, fa⟩
  by_cases e : j = i
  · subst e
    rw [if_pos rfl]
    exact World.cell?_setCell_same' _ _ _ (by rw [a]; rfl)
  · rw [if_neg e, World.cell?_setCell_other _ _ _ _ (by simp <;> omega)]
    exact a
theorem Row1.alloc {w : World} {g n : Nat} {c : Nat → Int} (h : Row1 w g n c) (o : Obj) : Row1 (w.alloc o) g n c := by
  have hB : Below w.heap.size w (w.alloc o) := (Below.refl _ _).alloc (Nat.le_refl _) _
  refine ⟨Nat.lt_of_lt_of_le h.1 hB.size, fun j hj => ⟨(hB.cell (p := ⟨g, j, none⟩) h.1).trans (h.2 j hj).1, ?_⟩⟩
  rw [← (h.2 j hj).2]
  unfold World.frozen?
  rw [hB.block g h.1]
theorem Row1.iat {w : World} {g n : Nat} {c : Nat → Int} (h : Row1 w g n c) : IAt w (some ⟨g, 0, none⟩) ((List.range n).map c) := fun _ =>
  ⟨g, 0, rfl, h.1, fun k hk => by
    have hk' : k < n := by simpa using hk
    rw [Nat.zero_add, (h.2 k hk').1]
    simp⟩

theorem Row1.congr {w : World} {g n : Nat} {c d : Nat → Int} (h : Row1 w g n c) (e : ∀ j, j < n → c j = d j) : Row1 w g n d := ⟨h.1, fun j hj => by rw [← e j hj]; exact h.2 j hj⟩
theorem made_ints (n : Nat) : (madeCells (Value.int .i64 0).cells (n * 1)).toList = List.replicate n (.int .i64 0) := by
  apply List.ext_getElem
  · simp [madeCells]
  · intro i h1 h2
    simp [madeCells, Value.cells, Nat.mod_one]
theorem row1_made {w : World} {base g n : Nat} {e : TypeId} (h : w.ownsRow base e 1 (.slice (some ⟨g, 0, none⟩) n n) n (madeCells (Value.int .i64 0).cells (n * 1)).toList) (hg : g < w.heap.size) : Row1 w g n (fun _ => 0) := by
  rw [made_ints] at h
  refine ⟨hg, fun j hj => ?_⟩
  rcases h.2 with ⟨hv, _⟩ | ⟨g', cap, cur, hv, _, hgb, _⟩
  · simp at hv
  · simp only [Value.slice.injEq, Option.some.injEq, Addr.mk.injEq, and_true, true_and] at hv
    obtain ⟨rfl, _⟩ := hv
    have := h.cells (g := g) rfl j (.int .i64 0) (by rw [List.getElem?_replicate, if_pos hj])
    rw [add_at, Nat.zero_add] at this
    exact ⟨this, frozen_of_heap hgb _⟩
/-- What one edge more makes of the degrees. -/
theorem deg_next {es : List (Int × Int)} {k p q : Nat} {m : Nat} (hk : k < es.length) (h1 : (p : Int) = es[k].1) (h2 : (q : Int) = es[k].2) (hpq : p < q) : ∀ j, j < m →
    (if j = q then ((nbL (q : Int) (es.take k)).length : Int) + 1 else if j = p then ((nbL (p : Int) (es.take k)).length : Int) + 1 else ((nbL (j : Int) (es.take k)).length : Int)) = ((nbL (j : Int) (es.take (k + 1))).length : Int) := by
  intro j _
  rw [nbL_take hk, List.length_append]
  unfold other
  rw [← h1, ← h2]
  by_cases e1 : j = q
  · subst e1
    rw [if_pos rfl, if_neg (by omega), if_pos rfl]; simp
  · rw [if_neg e1]
    by_cases e2 : j = p
    · subst e2
      rw [if_pos rfl, if_pos rfl]; simp
    · rw [if_neg e2, if_neg (by omega), if_neg (by omega)]; simp

end Go.Proofs.Ytlebimolgienkaa
namespace Go.Proofs.Ytlebimolgienkaa
open Go.RowKit Go.Lib

/-- A variable that holds a graph. -/
def GBox (w : World) (b : Nat) (n : Int) (sv : Value) : Prop := w.heap[b]? = some (.cells #[.int .i64 n, sv] 26)
theorem GBox.lt {w : World} {b : Nat} {n : Int} {sv : Value} (h : GBox w b n sv) : b < w.heap.size := (Array.getElem?_eq_some_iff.1 h).1
theorem GBox.on {w w' : World} {b : Nat} {n : Int} {sv : Value} (h : GBox w b n sv) (hb : Below w.heap.size w w') : GBox w' b n sv := (hb.block b h.lt).trans h
theorem GBox.cells {w : World} {b : Nat} {n : Int} {sv : Value} (h : GBox w b n sv) : w.cell? ⟨b, 0, none⟩ = some (.int .i64 n) ∧ w.cell? ⟨b, 1, none⟩ = some sv := ⟨cell_of_heap h 0, cell_of_heap h 1⟩
theorem eat_new (w : World) (es : List (Int × Int)) (cs : Array Value) (hcs : cs = (cellsE es).toArray) : EAt (w.alloc (.cells cs 56)) (some ⟨w.heap.size, 0, none⟩) es := by
  subst hcs
  refine eat_of_cells (by simp) (fun j u hu => ?_)
  rw [Nat.zero_add, cell_of_heap (heap_alloc_new _ _)]
  simpa using hu

end Go.Proofs.Ytlebimolgienkaa
namespace Go.Proofs.Ytlebimolgienkaa
open Go.RowKit Go.Lib

/-- A variable holds a graph whose edges lie in memory. -/
structure GC (w : World) (b : Nat) (n : Int) (a : Option Addr) (k cap : Nat) (es : List (Int × Int)) : Prop where
  n0 : w.cell? ⟨b, 0, none⟩ = some (.int .i64 n)
  e0 : w.cell? ⟨b, 1, none⟩ = some (.slice a k cap)
  at_ : EAt w a es
theorem GC.on {w w' : World} {b : Nat} {n : Int} {a : Option Addr} {k cap : Nat} {es : List (Int × Int)} (h : GC w b n a k cap es) (hb : Below w.heap.size w w') : GC w' b n a k cap es :=
  ⟨(hb.cell (block_lt_of_cell h.n0)).trans h.n0, (hb.cell (block_lt_of_cell h.e0)).trans h.e0, h.at_.below hb⟩
theorem GC.cells {w : World} {b : Nat} {n : Int} {a : Option Addr} {k cap : Nat} {es : List (Int × Int)} (h : GC w b n a k cap es) : w.cell? ⟨b, 0, none⟩ = some (.int .i64 n) ∧ w.cell? ⟨b, 1, none⟩ = some (.slice a k cap) := ⟨h.n0, h.e0⟩
theorem hid {p : Prop} (h : p) : Hid p := h
end Go.Proofs.Ytlebimolgienkaa
namespace Go.Proofs.Ytlebimolgienkaa
open Go.ChangeShapes Go.WideShapes Go.ChangeAt Go.RowKit Go.Deep Go.WideMaps

/-- What a walk is told of edges that came in. -/
structure Came (w : World) (a : Option Addr) (len cap : Nat) (l : List (Int × Int)) : Prop where
  len_ : len = l.length
  le : len ≤ cap
  max : cap ≤ maxLen
  nil : a = none → cap = 0
  at_ : EAt w a l

section
variable {H : Type} {enc : TypeId × Value → H}

set_option maxRecDepth 100000 in
theorem open_edges {W : World} {base : Nat} {held : Bool} {fuel : Nat} {cs : List Value} {x : DataW H × List MemPlace} (h : DataW.trod enc Try.prog W base (fun _ => true) held fuel 22 cs = some x) :
    ∃ a len cap l, cs = [.slice a len cap] ∧ Came W a len cap l := by
  rcases open_slice_pairs Try.underlying22 Try.underlying56 (by kernel_rfl) rfl rfl (by kernel_rfl) (by kernel_rfl) h with ⟨hcs, _⟩ | ⟨a, len, cap, m, n, V0, V1, D0, D1, P0, P1, hcs, _, hl, hm, hmm, _, hx⟩
  · exact ⟨none, 0, 0, [], hcs, rfl, Nat.le_refl _, Nat.zero_le _, fun _ => rfl, eat_nil _ _⟩
  · rw [if_pos rfl] at hmm
    subst hmm
    have hint : ∀ i, i < m → ∃ p q : Int, W.cell? (a.add (i * 2)) = some (.int .i64 p) ∧ W.cell? (a.add (i * 2 + 1)) = some (.int .i64 q) := fun i hi => by
      obtain ⟨c0, c1, t0, t1⟩ := hx i hi
      obtain ⟨p, e0, _⟩ := DataW.trod_int Try.underlying3 t0
      obtain ⟨q, e1, _⟩ := DataW.trod_int Try.underlying3 t1
      simp only [List.cons.injEq, and_true] at e0 e1
      exact ⟨p, q, by rw [c0, e0], by rw [c1, e1]⟩
    obtain ⟨p, hp⟩ : ∃ p : Nat → Int, ∀ i, i < m → ∃ q, W.cell? (a.add (i * 2)) = some (.int .i64 (p i)) ∧ W.cell? (a.add (i * 2 + 1)) = some (.int .i64 q) :=
      ⟨fun i => if h : i < m then (hint i h).choose else 0, fun i hi => by simp only [dif_pos hi]; exact (hint i hi).choose_spec⟩
    obtain ⟨q, hq⟩ : ∃ q : Nat → Int, ∀ i, i < m → W.cell? (a.add (i * 2)) = some (.int .i64 (p i)) ∧ W.cell? (a.add (i * 2 + 1)) = some (.int .i64 (q i)) :=
      ⟨fun i => if h : i < m then (hp i h).choose else 0, fun i hi => by simp only [dif_pos hi]; exact (hp i hi).choose_spec⟩
    refine ⟨some a, len, m, (List.range len).map (fun i => (p i, q i)), hcs, by simp, hl, hm, (fun h => by cases h), fun h0 => ?_⟩
    have h1 : 0 < len := by simpa using h0
    obtain ⟨b, off, spot⟩ := a
    have hs : spot = none := by simpa [Addr.add] using World.cell?_spot (hq 0 (by omega)).1
    subst hs
    refine ⟨b, off, rfl, World.block_lt_of_cell? W _ (hq 0 (by omega)).1, fun j hj => ?_⟩
    have hj' : j < len := by simpa using hj
    obtain ⟨z0, z1⟩ := hq j (by omega)
    rw [add_at] at z0 z1
    simp only [List.getElem_map, List.getElem_range]
    exact ⟨z0, by rw [← Nat.add_assoc] at z1; exact z1⟩

theorem Try.ends : ArrKey Try.prog 62 3 2 := ⟨Try.underlying62, by kernel_rfl, by kernel_rfl, by kernel_rfl⟩
end
end Go.Proofs.Ytlebimolgienkaa
namespace Go.Proofs.Ytlebimolgienkaa
open Go.ChangeShapes Go.WideShapes Go.ChangeAt Go.RowKit Go.Deep Go.WideMaps

/-- What a walk is told of a row that came in. -/
structure CameI (w : World) (a : Option Addr) (len cap : Nat) (l : List Int) : Prop where
  len_ : len = l.length
  le : len ≤ cap
  max : cap ≤ maxLen
  nil : a = none → cap = 0
  at_ : IAt w a l
  wf : ∀ x ∈ l, (Lit.int .i64 x).wf = true
/-- What a walk is told of a list of rows that came in. -/
structure CameR (w : World) (a : Option Addr) (len cap : Nat) (LL : List (List Int)) : Prop where
  len_ : len = LL.length
  le : len ≤ cap
  max : cap ≤ maxLen
  nil : a = none → cap = 0
  at_ : 0 < LL.length → ∃ g off, a = some ⟨g, off, none⟩ ∧ g < w.heap.size ∧ ∀ k (hk : k < LL.length), ∃ ak ck, w.cell? ⟨g, off + k, none⟩ = some (.slice ak LL[k].length ck) ∧ CameI w ak LL[k].length ck LL[k]

section
variable {H : Type} {enc : TypeId × Value → H}

set_option maxRecDepth 100000 in
theorem open_row {W : World} {base : Nat} {held : Bool} {fuel : Nat} {cs : List Value} {x : DataW H × List MemPlace} (h : DataW.trod enc Try.prog W base (fun _ => true) held fuel 28 cs = some x) :
    ∃ a len cap l, cs = [.slice a len cap] ∧ CameI W a len cap l := by
  rcases open_ints Try.underlying28 Try.underlying3 (by kernel_rfl) h with ⟨hcs, _⟩ | ⟨a, len, cap, zs, hcs, _, hl, hm, hzl, _, hx, hwf⟩
  · exact ⟨none, 0, 0, [], hcs, rfl, Nat.le_refl _, Nat.zero_le _, fun _ => rfl, iat_nil _ _, by simp⟩
  · rw [if_pos rfl] at hzl
    refine ⟨some a, len, cap, zs.take len, hcs, by rw [List.length_take]; omega, hl, hm, (fun h => by cases h), fun h0 => ?_, fun x hx => hwf x (List.mem_of_mem_take hx)⟩
    have h1 : 0 < len := by rw [List.length_take] at h0; omega
    obtain ⟨b, off, spot⟩ := a
    have hs : spot = none := by simpa [Addr.add] using World.cell?_spot (hx 0 (by omega))
    subst hs
    have c0 := hx 0 (by omega)
    refine ⟨b, off, rfl, World.block_lt_of_cell? W _ c0, fun j hj => ?_⟩
    rw [List.length_take] at hj
    have cj := hx j (by omega)
    rw [add_at] at cj
    rw [cj, List.getElem_take]
    simp [List.getD, show j < zs.length by omega]

set_option maxRecDepth 100000 in
theorem net_in {W : World} {base : Nat} {held : Bool} {r : Reach} {b0 : Nat} {v : Value} {d : DataW H} {ps : List MemPlace} (hval : Value.okWide Try.prog W r b0 24 v) (h : DataW.Trod enc Try.prog W base (fun _ => true) held 24 v d ps) :
    ∃ n a len cap l, v = .agg #[.int .i64 n, .slice a len cap] ∧ Came W a len cap l := by
  obtain ⟨cs, rfl, hsz⟩ := okWide_struct Try.underlying24 hval
  rw [show Try.prog.cellsOf 24 = 2 by kernel_rfl] at hsz
  obtain ⟨fuel, hf⟩ := h
  obtain ⟨l0⟩ := cs
  match l0, hsz with
  | [c0, c1], _ =>
    obtain ⟨y0, y1, n, _, _, t0, t1⟩ := trod_struct2 Try.underlying24 hf
    simp only [show Try.prog.cellsOf 3 = 1 by kernel_rfl, show Try.prog.cellsOf 22 = 1 by kernel_rfl, Value.cells, List.drop, List.take] at t0 t1
    obtain ⟨n0, e0, _⟩ := DataW.trod_int Try.underlying3 t0
    obtain ⟨a, len, cap, l, e1, hc⟩ := open_edges t1
    simp only [List.cons.injEq, and_true] at e0 e1
    subst e0
    subst e1
    exact ⟨n0, a, len, cap, l, rfl, hc⟩
end
end Go.Proofs.Ytlebimolgienkaa
namespace Go.Proofs.Ytlebimolgienkaa
open Go.ChangeShapes Go.WideShapes Go.ChangeAt Go.RowKit Go.Deep Go.WideMaps

section
variable {H : Type} {enc : TypeId × Value → H}

set_option maxRecDepth 100000 in
theorem open_rows {W : World} {base : Nat} {held : Bool} {fuel : Nat} {cs : List Value} {x : DataW H × List MemPlace} (hf : DataW.trod enc Try.prog W base (fun _ => true) held fuel 29 cs = some x) :
    ∃ a len cap LL, cs = [.slice a len cap] ∧ CameR W a len cap LL := by
  rcases open_slice1 Try.underlying29 (by kernel_rfl) hf with ⟨hcs, _⟩ | ⟨a, len, cap, m, n, V, D, Pl, hcs, _, hl, hm, hmm, _, hx⟩
  · exact ⟨none, 0, 0, [], hcs, rfl, Nat.le_refl _, Nat.zero_le _, fun _ => rfl, fun h => absurd h (by simp)⟩
  · rw [if_pos rfl] at hmm
    subst hmm
    have hrow : ∀ i, i < m → ∃ L : List Int, ∃ ak ck, V i = .slice ak L.length ck ∧ CameI W ak L.length ck L := fun i hi => by
      obtain ⟨_, t⟩ := hx i hi
      obtain ⟨ak, lk, ck, L, e, hc⟩ := open_row t
      simp only [List.cons.injEq, and_true] at e
      have := hc.len_
      subst this
      exact ⟨L, ak, ck, e, hc⟩
    obtain ⟨F, hF⟩ : ∃ F : Nat → List Int, ∀ i, i < m → ∃ ak ck, V i = .slice ak (F i).length ck ∧ CameI W ak (F i).length ck (F i) :=
      ⟨fun i => if h : i < m then (hrow i h).choose else [], fun i hi => by simp only [dif_pos hi]; exact (hrow i hi).choose_spec⟩
    refine ⟨some a, len, m, (List.range len).map F, hcs, by simp, hl, hm, (fun h => by cases h), fun h0 => ?_⟩
    have h1 : 0 < len := by simpa using h0
    obtain ⟨b, off, spot⟩ := a
    have hs : spot = none := by simpa [Addr.add] using World.cell?_spot (hx 0 (by omega)).1
    subst hs
    refine ⟨b, off, rfl, World.block_lt_of_cell? W _ (hx 0 (by omega)).1, fun k hk => ?_⟩
    have hk' : k < len := by simpa using hk
    obtain ⟨ak, ck, e, hc⟩ := hF k (by omega)
    have cj := (hx k (by omega)).1
    rw [add_at, e] at cj
    simp only [List.getElem_map, List.getElem_range]
    exact ⟨ak, ck, cj, hc⟩

set_option maxRecDepth 100000 in
theorem model_in {W : World} {base : Nat} {held : Bool} {r : Reach} {b0 : Nat} {v : Value} {d : DataW H} {ps : List MemPlace} (hval : Value.okWide Try.prog W r b0 39 v) (h : DataW.Trod enc Try.prog W base (fun _ => true) held 39 v d ps) :
    ∃ n a len cap LL, v = .agg #[.int .i64 n, .slice a len cap] ∧ CameR W a len cap LL := by
  obtain ⟨cs, rfl, hsz⟩ := okWide_struct Try.underlying39 hval
  rw [show Try.prog.cellsOf 39 = 2 by kernel_rfl] at hsz
  obtain ⟨fuel, hf⟩ := h
  obtain ⟨l0⟩ := cs
  match l0, hsz with
  | [c0, c1], _ =>
    obtain ⟨y0, y1, n, _, _, t0, t1⟩ := trod_struct2 Try.underlying39 hf
    simp only [show Try.prog.cellsOf 3 = 1 by kernel_rfl, show Try.prog.cellsOf 29 = 1 by kernel_rfl, Value.cells, List.drop, List.take] at t0 t1
    obtain ⟨n0, e0, _⟩ := DataW.trod_int Try.underlying3 t0
    obtain ⟨a, len, cap, l, e1, hc⟩ := open_rows t1
    simp only [List.cons.injEq, and_true] at e0 e1
    subst e0
    subst e1
    exact ⟨n0, a, len, cap, l, rfl, hc⟩
end
end Go.Proofs.Ytlebimolgienkaa
namespace Go.Proofs.Ytlebimolgienkaa

/-- Two are neighbours. -/
def Adj (es : List (Int × Int)) (x y : Int) : Prop := (x, y) ∈ es ∨ (y, x) ∈ es
theorem Adj.symm {es : List (Int × Int)} {x y : Int} (h : Adj es x y) : Adj es y x := h.elim Or.inr Or.inl
theorem Adj.in {n : Int} {es : List (Int × Int)} (hR : RightG n es) {x y : Int} (h : Adj es x y) : (0 ≤ x ∧ x < n) ∧ (0 ≤ y ∧ y < n) ∧ x ≠ y := by
  rcases h with h | h
  · have := hR.2.2.2.1 _ h; simp only at this; omega
  · have := hR.2.2.2.1 _ h; simp only at this; omega
/-- Each two that follow each other are neighbours. -/
def Links (es : List (Int × Int)) (p : List Int) : Prop := ∀ i (h : i + 1 < p.length), Adj es (p[i]'(by omega)) p[i + 1]
/-- A path (E1). -/
structure PathL (n : Int) (es : List (Int × Int)) (p : List Int) : Prop where
  ne : p ≠ []
  nd : p.Nodup
  inn : ∀ x ∈ p, 0 ≤ x ∧ x < n
  lk : Links es p
theorem PathL.pos {n : Int} {es : List (Int × Int)} {p : List Int} (h : PathL n es p) : 0 < p.length := List.length_pos_iff.2 h.ne
/-- What one comes to from x, going by members of l alone. -/
def Rch (es : List (Int × Int)) (l : List Int) (x y : Int) : Prop := ∀ S : Int → Prop, S x → (∀ u v, S u → Adj es u v → v ∈ l → S v) → S y
theorem Rch.refl (es : List (Int × Int)) (l : List Int) (x : Int) : Rch es l x x := fun _ h _ => h
theorem Rch.step {es : List (Int × Int)} {l : List Int} {x u v : Int} (h : Rch es l x u) (ha : Adj es u v) (hv : v ∈ l) : Rch es l x v := fun S h0 hs => hs u v (h S h0 hs) ha hv
theorem Rch.trans {es : List (Int × Int)} {l : List Int} {x y z : Int} (h : Rch es l x y) (k : Rch es l y z) : Rch es l x z := fun S h0 hs => k S (h S h0 hs) hs
theorem Rch.mono {es : List (Int × Int)} {l l' : List Int} {x y : Int} (h : Rch es l x y) (hs : ∀ z ∈ l, z ∈ l') : Rch es l' x y := fun S h0 hst => h S h0 (fun u v hu ha hv => hst u v hu ha (hs v hv))
theorem Rch.mem {es : List (Int × Int)} {l : List Int} {x y : Int} (h : Rch es l x y) (hx : x ∈ l) : y ∈ l := h (fun z => z ∈ l) hx (fun _ _ _ _ hv => hv)
theorem Rch.symm {es : List (Int × Int)} {l : List Int} {x y : Int} (h : Rch es l x y) (hx : x ∈ l) : Rch es l y x := by
  have := h (fun z => z ∈ l ∧ Rch es l z x) ⟨hx, Rch.refl es l x⟩ (fun u v hu ha hv => ⟨hv, ((Rch.refl es l v).step ha.symm hu.1).trans hu.2⟩)
  exact this.2
/-- Whole (E4). -/
structure WholeL (n : Int) (es : List (Int × Int)) (l : List Int) : Prop where
  ne : l ≠ []
  nd : l.Nodup
  inn : ∀ x ∈ l, 0 ≤ x ∧ x < n
  one : ∀ x ∈ l, ∀ y ∈ l, Rch es l x y
theorem WholeL.of_head {n : Int} {es : List (Int × Int)} {l : List Int} (nd : l.Nodup) (inn : ∀ x ∈ l, 0 ≤ x ∧ x < n) (h0 : 0 < l.length) (h : ∀ y ∈ l, Rch es l l[0] y) : WholeL n es l :=
  ⟨List.length_pos_iff.1 h0, nd, inn, fun x hx y hy => ((h x hx).symm (List.getElem_mem h0)).trans (h y hy)⟩
/-- What is reached, while one looks at one behind the other. -/
structure Got (es : List (Int × Int)) (l : List Int) (x : Int) (got : List Int) : Prop where
  nd : got.Nodup
  at_ : ∀ y ∈ got, y ∈ l ∧ Rch es l x y
  has : x ∈ got
theorem Got.put {es : List (Int × Int)} {l got : List Int} {x u v : Int} (h : Got es l x got) (hu : u ∈ got) (ha : Adj es u v) (hv : v ∈ l) (hn : v ∉ got) : Got es l x (got ++ [v]) := by
  refine ⟨List.nodup_append.2 ⟨h.nd, by simp, fun a ham b hb => by simp at hb; subst hb; exact fun e => hn (e ▸ ham)⟩, fun y hy => ?_, List.mem_append_left _ h.has⟩
  rcases List.mem_append.1 hy with h1 | h1
  · exact h.at_ y h1
  · simp at h1; subst h1; exact ⟨hv, (h.at_ u hu).2.step ha hv⟩
theorem len_le_subI {a b : List Int} (h : a.Nodup) (hs : ∀ e ∈ a, e ∈ b) : a.length ≤ b.length := by
  induction a generalizing b with
  | nil => simp
  | cons x a ih =>
    have hx : x ∈ b := hs x (by simp)
    obtain ⟨h1, h2⟩ := List.nodup_cons.1 h
    have := ih (b := b.erase x) h2 (fun e he => (List.mem_erase_of_ne (fun e' => h1 (by rw [← e']; exact he))).2 (hs e (List.mem_cons_of_mem _ he)))
    rw [List.length_erase_of_mem hx] at this
    have := List.length_pos_of_mem hx
    simp only [List.length_cons]
    omega
theorem Got.len {es : List (Int × Int)} {l got : List Int} {x : Int} (h : Got es l x got) : got.length ≤ l.length := len_le_subI h.nd (fun e he => (h.at_ e he).1)
/-- All is looked at: what is reached is all that can be. -/
theorem Got.done {n : Int} {es : List (Int × Int)} {l got : List Int} (nd : l.Nodup) (inn : ∀ x ∈ l, 0 ≤ x ∧ x < n) (h0 : 0 < l.length) (h : Got es l l[0] got) (hc : ∀ u ∈ got, ∀ v, Adj es u v → v ∈ l → v ∈ got) : got.length = l.length ↔ WholeL n es l := by
  constructor
  · intro hl
    refine WholeL.of_head nd inn h0 (fun y hy => ?_)
    by_cases hg : y ∈ got
    · exact (h.at_ y hg).2
    · exfalso
      have := len_le_subI (a := y :: got) (b := l) (List.nodup_cons.2 ⟨hg, h.nd⟩) (fun e he => by
        rcases List.mem_cons.1 he with rfl | he
        · exact hy
        · exact (h.at_ e he).1)
      simp at this
      omega
  · intro hw
    have : ∀ y ∈ l, y ∈ got := fun y hy => hw.one l[0] (List.getElem_mem h0) y hy (fun z => z ∈ got) h.has (fun u v hu ha hv => hc u hu v ha hv)
    have h1 := len_le_subI nd this
    have h2 := h.len
    omega

/-- A row stands ahead of another one, held against it number by number. -/
def lexL : List Int → List Int → Bool
  | [], [] => false
  | [], _ :: _ => true
  | _ :: _, [] => false
  | x :: a, y :: b => decide (x < y) || (x == y && lexL a b)
theorem lexL_irrefl : ∀ a : List Int, lexL a a = false
  | [] => rfl
  | x :: a => by simp [lexL, lexL_irrefl a]
theorem lexL_tri : ∀ {a b : List Int}, lexL a b = false → lexL b a = false → a = b
  | [], [], _, _ => rfl
  | [], _ :: _, h, _ => by simp [lexL] at h
  | _ :: _, [], _, h => by simp [lexL] at h
  | x :: a, y :: b, h, k => by
    simp only [lexL, Bool.or_eq_false_iff, decide_eq_false_iff_not, Bool.and_eq_false_iff, beq_eq_false_iff_ne] at h k
    have e : x = y := by omega
    subst e
    rw [lexL_tri (h.2.resolve_left (fun h => h rfl)) (k.2.resolve_left (fun h => h rfl))]
theorem lexL_trans : ∀ {a b c : List Int}, lexL a b = true → lexL b c = true → lexL a c = true
  | [], [], _, h, _ => by simp [lexL] at h
  | [], _ :: _, [], _, h => by simp [lexL] at h
  | [], _ :: _, _ :: _, _, _ => rfl
  | _ :: _, [], _, h, _ => by simp [lexL] at h
  | _ :: _, _ :: _, [], _, h => by simp [lexL] at h
  | x :: a, y :: b, z :: c, h, k => by
    simp only [lexL, Bool.or_eq_true, decide_eq_true_eq, Bool.and_eq_true, beq_iff_eq] at h k ⊢
    rcases h with h | ⟨rfl, h⟩
    · rcases k with k | ⟨rfl, k⟩
      · exact Or.inl (by omega)
      · exact Or.inl h
    · rcases k with k | ⟨rfl, k⟩
      · exact Or.inl k
      · exact Or.inr ⟨rfl, lexL_trans h k⟩
theorem lexL_asymm {a b : List Int} (h : lexL a b = true) : lexL b a = false := by
  cases h2 : lexL b a with
  | false => rfl
  | true => have := lexL_trans h h2; rw [lexL_irrefl] at this; cases this

/-- A way from a to b that keeps away (E2). -/
structure Way (n : Int) (es : List (Int × Int)) (a b : Int) (away p : List Int) : Prop where
  path : PathL n es p
  first : p.head? = some a
  last : p.getLast? = some b
  off : ∀ x ∈ p, x ∉ away
/-- The least of the shortest ways, or none (E2). -/
def RouteIs (n : Int) (es : List (Int × Int)) (a b : Int) (away L : List Int) : Prop :=
  (L = [] ∧ ∀ p, ¬ Way n es a b away p) ∨ (Way n es a b away L ∧ ∀ p, Way n es a b away p → L.length < p.length ∨ (L.length = p.length ∧ lexL p L = false))
theorem RouteIs.one {n : Int} {es : List (Int × Int)} {a b : Int} {away L M : List Int} (h : RouteIs n es a b away L) (k : RouteIs n es a b away M) : L = M := by
  rcases h with ⟨rfl, h⟩ | ⟨h, h2⟩
  · rcases k with ⟨rfl, _⟩ | ⟨k, _⟩
    · rfl
    · exact absurd k (h M)
  · rcases k with ⟨rfl, k⟩ | ⟨k, k2⟩
    · exact absurd h (k L)
    · rcases h2 M k with e | ⟨e, e2⟩
      · rcases k2 L h with e' | ⟨e', _⟩ <;> omega
      · rcases k2 L h with e' | ⟨_, e3⟩
        · omega
        · exact lexL_tri e3 e2
/-- What a call of Route tells: of a graph that is not right nothing. -/
def RouteG (n : Int) (es : List (Int × Int)) (a b : Int) (away L : List Int) : Prop := (RightG n es ∧ RouteIs n es a b away L) ∨ (¬ RightG n es ∧ L = [])
theorem RouteG.one {n : Int} {es : List (Int × Int)} {a b : Int} {away L M : List Int} (h : RouteG n es a b away L) (k : RouteG n es a b away M) : L = M := by
  rcases h with ⟨h, h2⟩ | ⟨h, rfl⟩
  · rcases k with ⟨_, k2⟩ | ⟨k, _⟩
    · exact h2.one k2
    · exact absurd h k
  · rcases k with ⟨k, _⟩ | ⟨_, rfl⟩
    · exact absurd k h
    · rfl

end Go.Proofs.Ytlebimolgienkaa
namespace Go.Proofs.Ytlebimolgienkaa

/-- The edges of the graph that the vertices at l's places induce (F1). -/
def IndE (es : List (Int × Int)) (l : List Int) (E : List (Int × Int)) : Prop := Rises E ∧ ∀ a b : Int, (a, b) ∈ E ↔ ∃ i j : Nat, ∃ (hi : i < l.length) (hj : j < l.length), a = i ∧ b = j ∧ i < j ∧ Adj es l[i] l[j]
theorem IndE.one {es : List (Int × Int)} {l : List Int} {E E' : List (Int × Int)} (h : IndE es l E) (k : IndE es l E') : E = E' := rises_one h.1 k.1 (fun e => by
  obtain ⟨a, b⟩ := e
  exact (h.2 a b).trans (k.2 a b).symm)
theorem nodup_inj {l : List Int} (h : l.Nodup) {i j : Nat} (hi : i < l.length) (hj : j < l.length) (e : l[i] = l[j]) : i = j := by
  by_cases h1 : i < j
  · exact absurd e (List.pairwise_iff_getElem.1 h i j hi hj h1)
  · by_cases h2 : j < i
    · exact absurd e.symm (List.pairwise_iff_getElem.1 h j i hj hi h2)
    · omega
/-- There are no more edges than there were. -/
theorem IndE.len {es : List (Int × Int)} {l : List Int} {E : List (Int × Int)} (h : IndE es l E) (hn : l.Nodup) : E.length ≤ es.length := by
  have hnd := rises_nodup h.1
  -- each edge goes to one of es
  let f : Int × Int → Int × Int := fun e => if (l.getD e.1.toNat 0, l.getD e.2.toNat 0) ∈ es then (l.getD e.1.toNat 0, l.getD e.2.toNat 0) else (l.getD e.2.toNat 0, l.getD e.1.toNat 0)
  have hmem : ∀ e ∈ E, f e ∈ es := fun e he => by
    obtain ⟨a, b⟩ := e
    obtain ⟨i, j, hi, hj, rfl, rfl, hlt, hadj⟩ := (h.2 a b).1 he
    show (if _ then _ else _) ∈ es
    simp only [Int.toNat_natCast, List.getD, List.getElem?_eq_getElem hi, List.getElem?_eq_getElem hj, Option.getD_some]
    split
    · assumption
    · rcases hadj with h1 | h1
      · contradiction
      · exact h1
  have hinj : (E.map f).Nodup := by
    rw [List.nodup_iff_pairwise_ne, List.pairwise_map]
    refine hnd.imp_of_mem (fun {x y} hx hy hne e => hne ?_)
    obtain ⟨a, b⟩ := x
    obtain ⟨c, d⟩ := y
    obtain ⟨i, j, hi, hj, rfl, rfl, hlt, _⟩ := (h.2 a b).1 hx
    obtain ⟨p, q, hp, hq, rfl, rfl, hlt2, _⟩ := (h.2 c d).1 hy
    have e' : (if _ then _ else _ : Int × Int) = (if _ then _ else _) := e
    simp only [Int.toNat_natCast, List.getD, List.getElem?_eq_getElem hi, List.getElem?_eq_getElem hj, List.getElem?_eq_getElem hp, List.getElem?_eq_getElem hq, Option.getD_some] at e'
    have key : (l[i] = l[p] ∧ l[j] = l[q]) ∨ (l[i] = l[q] ∧ l[j] = l[p]) := by
      split at e' <;> split at e' <;> simp only [Prod.mk.injEq] at e' <;> first | exact Or.inl e' | exact Or.inr e' | exact Or.inr ⟨e'.2, e'.1⟩ | exact Or.inl ⟨e'.2, e'.1⟩
    rcases key with ⟨h1, h2⟩ | ⟨h1, h2⟩
    · rw [nodup_inj hn hi hp h1, nodup_inj hn hj hq h2]
    · have := nodup_inj hn hi hq h1
      have := nodup_inj hn hj hp h2
      omega
  have := len_le_of_sub hinj (b := es) (fun e he => by
    obtain ⟨x, hx, rfl⟩ := List.mem_map.1 he
    exact hmem x hx)
  simpa using this
/-- What is induced is right. -/
theorem IndE.right {n : Int} {es : List (Int × Int)} {l : List Int} {E : List (Int × Int)} (hR : RightG n es) (h : IndE es l E) (hn : l.Nodup) (hl : l.length ≤ 1000) : RightG l.length E :=
  ⟨by omega, by omega, Nat.le_trans (h.len hn) hR.2.2.1, fun e he => by
    obtain ⟨a, b⟩ := e
    obtain ⟨i, j, hi, hj, rfl, rfl, hlt, _⟩ := (h.2 a b).1 he
    simp only
    omega, h.1⟩
end Go.Proofs.Ytlebimolgienkaa
namespace Go.Proofs.Ytlebimolgienkaa

/-- All numbers below n but v. -/
def othL (n v : Nat) : List Int := ((List.range n).filter (fun i => i ≠ v)).map (fun i : Nat => (i : Int))
/-- Who stands at place i, when v is gone. -/
def upN (v i : Nat) : Nat := if i < v then i else i + 1
end Go.Proofs.Ytlebimolgienkaa
