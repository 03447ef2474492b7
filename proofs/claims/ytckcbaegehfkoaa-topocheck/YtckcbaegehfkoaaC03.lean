/-
  graph.Degrees: of each vertex how many neighbours it has.
  carcanetlaw03.shown answers true.
  A graph in a variable; what the laws of a raw graph do first: a copy of its first five hundred edges.
  Edges, a graph and two numbers that came in, as the walks take them.
  Rows of numbers, lists of rows, and a Net that came in, as the walks of layer 5 take them.
  A model that came in (layer 8).
  A subdivision that came in (layer 9).
  Paths, cycles, what is whole, the least of the shortest ways, rings: as the document says them. No program is named here.
  Graphs made of a graph (layer 6): what some vertices induce, what is left when one goes, two neighbours made one. No program is named here.
  Who goes, and what is left (layer 6): renumbered edges. No program is named here.
-/
import Derived.Test.YtckcbaegehfkoaaC02
import Derived.Deep.SlicePairs
import Derived.WideKeyPair
import Derived.OpenShut
import Derived.ProofKit
import Derived.Deep.Slices
import Derived.ChangeSlices
import Derived.Test.YtckcbaegehfkoaaC01
namespace Go.Proofs.Ytckcbaegehfkoaa
open Go.RowKit Go.Lib

/-- A row of numbers that may be written, place by place. -/
def Row1 (w : World) (g n : Nat) (c : Nat → Int) : Prop := g < w.heap.size ∧ ∀ j, j < n → w.cell? ⟨g, j, none⟩ = some (.int .i64 (c j)) ∧ w.frozen? ⟨g, j, none⟩ = false
theorem Row1.put {w : World} {g n : Nat} {c : Nat → Int} (h : Row1 w g n c) {i : Nat} (hi : i < n) (x : Int) : Row1 (w.setCell ⟨g, i, none⟩ (.int .i64 x)) g n (fun j => if j = i then x else c j) := by
  refine ⟨by simpa using h.1, fun j hj => ?_⟩
  obtain ⟨a, fa⟩ := h.2 j hj
  simp only [World.frozen?_setCell]
  refine ⟨?_, fa⟩
  by_cases e : j = i
  · subst e
    rw [if_pos rfl]
    exact World.cell?_setCell_same' _ _ _ (by rw [a]; rfl)
  · rw [if_neg e, World.cell?_setCell_other _ _ _ _ (by simp <;> omega)]
    exact a
theorem Row1.alloc {w : World} {g n : Nat} {c : Nat → Int} (h : Row1 w g n c) (o : Obj) : Row1 (w.alloc o) g n c := by
  have hB : Below w.heap.size w (w.alloc o) := (Below.refl _ _).alloc (Nat.le_refl _) _
  refine ⟨Nat.lt_of_lt_of_le h.1 hB.size, fun j hj => ⟨(hB.cell (p := ⟨g, j, none⟩) h.1).trans (h.2 j hj).1, ?_⟩⟩
  rw [← (h.2 j hj).2]
  unfold World.frozen?
  rw [hB.block g h.1]
theorem Row1.iat {w : World} {g n : Nat} {c : Nat → Int} (h : Row1 w g n c) : IAt w (some ⟨g, 0, none⟩) ((List.range n).map c) := fun _ =>
  ⟨g, 0, rfl, h.1, fun k hk => by
    have hk' : k < n := by simpa using hk
    rw [Nat.zero_add, (h.2 k hk').1]
    simp⟩

theorem Row1.congr {w : World} {g n : Nat} {c d : Nat → Int} (h : Row1 w g n c) (e : ∀ j, j < n → c j = d j) : Row1 w g n d := ⟨h.1, fun j hj => by rw [← e j hj]; exact h.2 j hj⟩
theorem made_ints (n : Nat) : (madeCells (Value.int .i64 0).cells (n * 1)).toList = List.replicate n (.int .i64 0) := by
  apply List.ext_getElem
  · simp [madeCells]
  · intro i h1 h2
    simp [madeCells, Value.cells, Nat.mod_one]
theorem row1_made {w : World} {base g n : Nat} {e : TypeId} (h : w.ownsRow base e 1 (.slice (some ⟨g, 0, none⟩) n n) n (madeCells (Value.int .i64 0).cells (n * 1)).toList) (hg : g < w.heap.size) : Row1 w g n (fun _ => 0) := by
  rw [made_ints] at h
  refine ⟨hg, fun j hj => ?_⟩
  rcases h.2 with ⟨hv, _⟩ | ⟨g', cap, cur, hv, _, hgb, _⟩
  · simp at hv
  · simp only [Value.slice.injEq, Option.some.injEq, Addr.mk.injEq, and_true, true_and] at hv
    obtain ⟨rfl, _⟩ := hv
    have := h.cells (g := g) rfl j (.int .i64 0) (by rw [List.getElem?_replicate, if_pos hj])
    rw [add_at, Nat.zero_add] at this
    exact ⟨this, frozen_of_heap hgb _⟩
/-- What one edge more makes of the degrees. -/
theorem deg_next {es : List (Int × Int)} {k p q : Nat} {m : Nat} (hk : k < es.length) (h1 : (p : Int) = es[k].1) (h2 : (q : Int) = es[k].2) (hpq : p < q) : ∀ j, j < m →
    (if j = q then ((nbL (q : Int) (es.take k)).length : Int) + 1 else if j = p then ((nbL (p : Int) (es.take k)).length : Int) + 1 else ((nbL (j : Int) (es.take k)).length : Int)) = ((nbL (j : Int) (es.take (k + 1))).length : Int) := by
  intro j _
  rw [nbL_take hk, List.length_append]
  unfold other
  rw [← h1, ← h2]
  by_cases e1 : j = q
  · subst e1
    rw [if_pos rfl, if_neg (by omega), if_pos rfl]; simp
  · rw [if_neg e1]
    by_cases e2 : j = p
    · subst e2
      rw [if_pos rfl, if_pos rfl]; simp
    · rw [if_neg e2, if_neg (by omega), if_neg (by omega)]; simp

set_option maxHeartbeats 1000000 in
set_option maxRecDepth 100000 in
theorem degrees_any (n : Int) (a : Option Addr) (cap : Nat) (es : List (Int × Int)) (b : Bool) (w : World) (hN : es.length ≤ 1000000) (hE : EAt w a es) (hb : b = true ↔ RightG n es) :
    Calls Try.prog 76 #[.agg #[.int .i64 n, .slice a es.length cap]] w fun e w' => ∃ a' cap' D, e = .returned (.slice a' D.length cap') ∧ D = (if b = true then (List.range n.toNat).map (fun v : Nat => ((nbL v es).length : Int)) else []) ∧ IAt w' a' D ∧ Below w.heap.size w w' := by
  obtain ⟨N, hNe⟩ : ∃ N, N = es.length := ⟨_, rfl⟩
  have HR : Hid (∀ W, EAt W a es → Calls Try.prog 62 #[.agg #[.int .i64 n, .slice a N cap]] W fun e w' => e = .returned (.bool b) ∧ Below W.heap.size W w') := fun W h => by rw [hNe]; exact right_any n a cap es b W hN h hb
  rw [← hNe] at hN ⊢
  have HN : Hid (N = es.length) := hNe
  have HE : Hid (EAt w a es) := hE
  have HB : Hid (b = true ↔ RightG n es) := hb
  clear hNe hE hb
  go_enter Try.func76, Try.ntmps76
  have hbA : Below w.heap.size w (w.alloc (.cells #[.int .i64 n, .slice a N cap] 30)) := (Below.refl _ _).alloc (Nat.le_refl _) _
  have HEA : Hid (EAt (w.alloc (.cells #[.int .i64 n, .slice a N cap] 30)) a es) := HE.out.below hbA
  have hOA : (w.alloc (.cells #[.int .i64 n, .slice a N cap] 30)).heap[w.heap.size]? = some (.cells #[.int .i64 n, .slice a N cap] 30) := heap_alloc_new _ _
  have hsA : (w.alloc (.cells #[.int .i64 n, .slice a N cap] 30)).heap.size = w.heap.size + 1 := by simp
  have HOA : Hid ((w.alloc (.cells #[.int .i64 n, .slice a N cap] 30)).heap[w.heap.size]? = some (.cells #[.int .i64 n, .slice a N cap] 30)) := hOA
  clear hOA
  go_wp2_with fail
  refine (HR.out _ HEA.out).mono ?_
  rintro e w1 ⟨rfl, hb1⟩
  rw [hsA] at hb1
  have hbw : Below w.heap.size w w1 := hbA.trans (hb1.mono (by omega))
  have o1 := (hb1.block w.heap.size (by omega)).trans HOA.out
  have HE1 : Hid (EAt w1 a es) := HE.out.below hbw
  have hs1 := hb1.size
  rw [hsA] at hs1
  have c0 := cell_of_heap o1 0
  have c1 := cell_of_heap o1 1
  clear hb1 hbA hsA HR HEA HOA
  cases b with
  | false =>
    go_wp2
    go_ret
    exact ⟨none, 0, [], rfl, rfl, iat_nil _ _, hbw⟩
  | true =>
    have HRG : Hid (RightG n es) := HB.out.1 rfl
    obtain ⟨m, rfl⟩ : ∃ m : Nat, n = m := ⟨n.toNat, by have := HRG.out.1; omega⟩
    have hm : m ≤ 1000 := by have := HRG.out.2.1; omega
    have hNN : N ≤ 4000 := by have := HRG.out.2.2.1; rw [← HN.out] at this; exact this
    obtain ⟨i0, hi, hz0, hz1, hz2⟩ := info_parts Try.info3
    obtain ⟨w2, hrun, hown, hgrow⟩ := run_make_full (P := Try.prog) w1 w1.heap.size 25 3 i0 (.int .i64 0) 1 Try.underlying25 hi hz0 hz1 .i64 .i64 m (by rw [hz2]; omega) (by unfold maxLen; omega) (Nat.le_refl _)
    have hs2 : w1.heap.size < w2.heap.size := by
      rcases hown.2 with ⟨hv, _⟩ | ⟨g', cap, cur, hv, _, hgb, _⟩
      · simp at hv
      · simp only [Value.slice.injEq, Option.some.injEq, Addr.mk.injEq, and_true, true_and] at hv
        obtain ⟨rfl, _⟩ := hv
        exact (Array.getElem?_eq_some_iff.1 hgb).1
    have HRW : Hid (Row1 w2 w1.heap.size m (fun v => ((nbL (v : Int) (es.take 0)).length : Int))) := (row1_made hown hs2).congr (fun j _ => by simp [nbL])
    have hb2 : Below w1.heap.size w1 w2 := Below.grown (Below.refl _ _) hgrow (Nat.le_refl _) (fun k hk => by cases hk)
    have c1' : w2.cell? ⟨w.heap.size, 1, none⟩ = some (.slice a N cap) := (hb2.cell (p := ⟨w.heap.size, 1, none⟩) (by simp; omega)).trans c1
    have HRN : Hid (∀ W, W = w1 → (Instr.makeSlice 25 (.int .i64 m) (.int .i64 m)).run Try.prog W = .ok (.slice (some ⟨w1.heap.size, 0, none⟩) m m) w2) := fun W h => by rw [h]; exact hrun
    clear hown hgrow hi hz0 hz1 hz2 HB c1 HRN
    go_wp2
    go_loopw [15] (fun i wr => ∃ k : Nat, k ≤ N ∧ i = .int .i64 k ∧ Hid (Row1 wr w1.heap.size m (fun v => ((nbL (v : Int) (es.take k)).length : Int))) ∧ Below w1.heap.size w1 wr) (fun i _ => N - (RowKit.intOf i).toNat)
    case atStart => exact ⟨0, Nat.zero_le _, rfl, HRW, hb2⟩
    case round =>
      obtain ⟨k, hk, rfl, hrow, hbr⟩ := hrel
      by_cases hlt : k < N
      · have hkr : k < es.length := by rw [← HN.out]; exact hlt
        obtain ⟨g, off, rfl, hg, hcs⟩ := HE1.out.at hkr
        have hin := (HRG.out.at k hkr).1
        obtain ⟨p, hp⟩ : ∃ p : Nat, (p : Int) = es[k].1 := ⟨es[k].1.toNat, by omega⟩
        obtain ⟨q, hq⟩ : ∃ q : Nat, (q : Int) = es[k].2 := ⟨es[k].2.toNat, by omega⟩
        have d := hcs wr hbr k hkr
        rw [← hp, ← hq] at d hin
        obtain ⟨d0, d1⟩ := d
        have i1 : p < q := by omega
        have i2 : q < m := by omega
        have HD := deg_next (m := m) hkr hp hq i1
        obtain ⟨x1, hx1⟩ := ex_eq (nbL (p : Int) (es.take k)).length
        obtain ⟨x2, hx2⟩ := ex_eq (nbL (q : Int) (es.take k)).length
        have hl1 : x1 ≤ 4000 := by rw [hx1]; exact Nat.le_trans (nbL_len _ _) (by rw [List.length_take]; omega)
        have hl2 : x2 ≤ 4000 := by rw [hx2]; exact Nat.le_trans (nbL_len _ _) (by rw [List.length_take]; omega)
        obtain ⟨c, hc⟩ := ex_eq (fun v : Nat => ((nbL (v : Int) (es.take k)).length : Int))
        rw [← hc] at hrow
        have hcp : c p = x1 := by rw [hc, hx1]
        have hcq : c q = x2 := by rw [hc, hx2]
        have hrA := hrow.out.alloc (.cells #[.int .i64 p, .int .i64 q] 59)
        have r1 := hrA.2 p (by omega)
        have HR1 := hrA.put (i := p) (by omega) ((x1 : Int) + 1)
        have r2 := HR1.2 q i2
        rw [hcp] at r1
        have hqq : (fun j => if j = p then (x1 : Int) + 1 else c j) q = (x2 : Int) := by
          show (if q = p then (x1 : Int) + 1 else c q) = (x2 : Int)
          rw [if_neg (by omega), hcq]
        rw [hqq] at r2
        have HR2 := HR1.put (i := q) i2 ((x2 : Int) + 1)
        have HRX : Hid (Row1 (((wr.alloc (.cells #[.int .i64 p, .int .i64 q] 59)).setCell ⟨w1.heap.size, p, none⟩ (.int .i64 ((x1 : Int) + 1))).setCell ⟨w1.heap.size, q, none⟩ (.int .i64 ((x2 : Int) + 1))) w1.heap.size m (fun v => ((nbL (v : Int) (es.take (k + 1))).length : Int))) := HR2.congr (fun j hj => by
          rw [← HD j hj, hx1, hx2, hc])
        obtain ⟨r1, r1f⟩ := r1
        obtain ⟨r2, r2f⟩ := r2
        have hbX : Below w1.heap.size w1 (((wr.alloc (.cells #[.int .i64 p, .int .i64 q] 59)).setCell ⟨w1.heap.size, p, none⟩ (.int .i64 ((x1 : Int) + 1))).setCell ⟨w1.heap.size, q, none⟩ (.int .i64 ((x2 : Int) + 1))) := ((hbr.alloc hbr.size _).setCell (p := ⟨w1.heap.size, p, none⟩) (Nat.le_refl _) _).setCell (p := ⟨w1.heap.size, q, none⟩) (Nat.le_refl _) _
        have hsr : w1.heap.size < wr.heap.size := hrow.out.1
        have bx1 : ((wr.alloc (.cells #[.int .i64 p, .int .i64 q] 59)).setCell ⟨w1.heap.size, p, none⟩ (.int .i64 ((x1 : Int) + 1))).cell? ⟨wr.heap.size, 1, none⟩ = some (.int .i64 q) := by
          rw [World.cell?_setCell_other _ _ _ _ (by simp <;> omega)]
          exact cell_of_heap (heap_alloc_new _ _) 1
        have q1 : (p : Int) < (m : Int) := by omega
        have q2 : (q : Int) < (m : Int) := by omega
        clear hsr hqq HD hx1 hx2 hc hcp hcq hrA HR1 HR2 hp hq hin hcs hrow
        go_wp2
        go_roundw
        case rel => exact ⟨k + 1, by omega, by go_num, HRX, hbX⟩
        case measure => simp [RowKit.intOf]; omega
      · obtain rfl : k = N := by omega
        have htk : es.take k = es := by rw [HN.out, List.take_length]
        rw [htk] at hrow
        go_wp2
        go_ret
        have hl : ((List.range m).map (fun v : Nat => ((nbL (v : Int) es).length : Int))).length = m := by simp
        refine ⟨some ⟨w1.heap.size, 0, none⟩, m, (List.range m).map (fun v : Nat => ((nbL (v : Int) es).length : Int)), by rw [hl]; rfl, ?_, hrow.out.iat, hbw.trans (hbr.mono (by omega))⟩
        simp
end Go.Proofs.Ytckcbaegehfkoaa
namespace Go.Proofs.Ytckcbaegehfkoaa
open Go.RowKit Go.Lib

/-- A variable that holds a graph. -/
def GBox (w : World) (b : Nat) (n : Int) (sv : Value) : Prop := w.heap[b]? = some (.cells #[.int .i64 n, sv] 30)
theorem GBox.lt {w : World} {b : Nat} {n : Int} {sv : Value} (h : GBox w b n sv) : b < w.heap.size := (Array.getElem?_eq_some_iff.1 h).1
theorem GBox.on {w w' : World} {b : Nat} {n : Int} {sv : Value} (h : GBox w b n sv) (hb : Below w.heap.size w w') : GBox w' b n sv := (hb.block b h.lt).trans h
theorem GBox.cells {w : World} {b : Nat} {n : Int} {sv : Value} (h : GBox w b n sv) : w.cell? ⟨b, 0, none⟩ = some (.int .i64 n) ∧ w.cell? ⟨b, 1, none⟩ = some sv := ⟨cell_of_heap h 0, cell_of_heap h 1⟩
theorem eat_new (w : World) (es : List (Int × Int)) (cs : Array Value) (hcs : cs = (cellsE es).toArray) : EAt (w.alloc (.cells cs 59)) (some ⟨w.heap.size, 0, none⟩) es := by
  subst hcs
  refine eat_of_cells (by simp) (fun j u hu => ?_)
  rw [Nat.zero_add, cell_of_heap (heap_alloc_new _ _)]
  simpa using hu

end Go.Proofs.Ytckcbaegehfkoaa
namespace Go.Proofs.Ytckcbaegehfkoaa
open Go.RowKit Go.Lib

/-- A variable holds a graph whose edges lie in memory. -/
structure GC (w : World) (b : Nat) (n : Int) (a : Option Addr) (k cap : Nat) (es : List (Int × Int)) : Prop where
  n0 : w.cell? ⟨b, 0, none⟩ = some (.int .i64 n)
  e0 : w.cell? ⟨b, 1, none⟩ = some (.slice a k cap)
  at_ : EAt w a es
theorem GC.on {w w' : World} {b : Nat} {n : Int} {a : Option Addr} {k cap : Nat} {es : List (Int × Int)} (h : GC w b n a k cap es) (hb : Below w.heap.size w w') : GC w' b n a k cap es :=
  ⟨(hb.cell (block_lt_of_cell h.n0)).trans h.n0, (hb.cell (block_lt_of_cell h.e0)).trans h.e0, h.at_.below hb⟩
theorem GC.cells {w : World} {b : Nat} {n : Int} {a : Option Addr} {k cap : Nat} {es : List (Int × Int)} (h : GC w b n a k cap es) : w.cell? ⟨b, 0, none⟩ = some (.int .i64 n) ∧ w.cell? ⟨b, 1, none⟩ = some (.slice a k cap) := ⟨h.n0, h.e0⟩
theorem hid {p : Prop} (h : p) : Hid p := h
end Go.Proofs.Ytckcbaegehfkoaa
namespace Go.Proofs.Ytckcbaegehfkoaa
open Go.ChangeShapes Go.WideShapes Go.ChangeAt Go.RowKit Go.Deep Go.WideMaps

/-- What a walk is told of edges that came in. -/
structure Came (w : World) (a : Option Addr) (len cap : Nat) (l : List (Int × Int)) : Prop where
  len_ : len = l.length
  le : len ≤ cap
  max : cap ≤ maxLen
  nil : a = none → cap = 0
  at_ : EAt w a l

section
variable {H : Type} {enc : TypeId × Value → H}

set_option maxRecDepth 100000 in
theorem open_edges {W : World} {base : Nat} {held : Bool} {fuel : Nat} {cs : List Value} {x : DataW H × List MemPlace} (h : DataW.trod enc Try.prog W base (fun _ => true) held fuel 22 cs = some x) :
    ∃ a len cap l, cs = [.slice a len cap] ∧ Came W a len cap l := by
  rcases open_slice_pairs Try.underlying22 Try.underlying59 (by kernel_rfl) rfl rfl (by kernel_rfl) (by kernel_rfl) h with ⟨hcs, _⟩ | ⟨a, len, cap, m, n, V0, V1, D0, D1, P0, P1, hcs, _, hl, hm, hmm, _, hx⟩
  · exact ⟨none, 0, 0, [], hcs, rfl, Nat.le_refl _, Nat.zero_le _, fun _ => rfl, eat_nil _ _⟩
  · rw [if_pos rfl] at hmm
    subst hmm
    have hint : ∀ i, i < m → ∃ p q : Int, W.cell? (a.add (i * 2)) = some (.int .i64 p) ∧ W.cell? (a.add (i * 2 + 1)) = some (.int .i64 q) := fun i hi => by
      obtain ⟨c0, c1, t0, t1⟩ := hx i hi
      obtain ⟨p, e0, _⟩ := DataW.trod_int Try.underlying3 t0
      obtain ⟨q, e1, _⟩ := DataW.trod_int Try.underlying3 t1
      simp only [List.cons.injEq, and_true] at e0 e1
      exact ⟨p, q, by rw [c0, e0], by rw [c1, e1]⟩
    obtain ⟨p, hp⟩ : ∃ p : Nat → Int, ∀ i, i < m → ∃ q, W.cell? (a.add (i * 2)) = some (.int .i64 (p i)) ∧ W.cell? (a.add (i * 2 + 1)) = some (.int .i64 q) :=
      ⟨fun i => if h : i < m then (hint i h).choose else 0, fun i hi => by simp only [dif_pos hi]; exact (hint i hi).choose_spec⟩
    obtain ⟨q, hq⟩ : ∃ q : Nat → Int, ∀ i, i < m → W.cell? (a.add (i * 2)) = some (.int .i64 (p i)) ∧ W.cell? (a.add (i * 2 + 1)) = some (.int .i64 (q i)) :=
      ⟨fun i => if h : i < m then (hp i h).choose else 0, fun i hi => by simp only [dif_pos hi]; exact (hp i hi).choose_spec⟩
    refine ⟨some a, len, m, (List.range len).map (fun i => (p i, q i)), hcs, by simp, hl, hm, (fun h => by cases h), fun h0 => ?_⟩
    have h1 : 0 < len := by simpa using h0
    obtain ⟨b, off, spot⟩ := a
    have hs : spot = none := by simpa [Addr.add] using World.cell?_spot (hq 0 (by omega)).1
    subst hs
    refine ⟨b, off, rfl, World.block_lt_of_cell? W _ (hq 0 (by omega)).1, fun j hj => ?_⟩
    have hj' : j < len := by simpa using hj
    obtain ⟨z0, z1⟩ := hq j (by omega)
    rw [add_at] at z0 z1
    simp only [List.getElem_map, List.getElem_range]
    exact ⟨z0, by rw [← Nat.add_assoc] at z1; exact z1⟩

theorem Try.ends : ArrKey Try.prog 66 3 2 := ⟨Try.underlying66, by kernel_rfl, by kernel_rfl, by kernel_rfl⟩
end
end Go.Proofs.Ytckcbaegehfkoaa
namespace Go.Proofs.Ytckcbaegehfkoaa
open Go.ChangeShapes Go.WideShapes Go.ChangeAt Go.RowKit Go.Deep Go.WideMaps

/-- What a walk is told of a row that came in. -/
structure CameI (w : World) (a : Option Addr) (len cap : Nat) (l : List Int) : Prop where
  len_ : len = l.length
  le : len ≤ cap
  max : cap ≤ maxLen
  nil : a = none → cap = 0
  at_ : IAt w a l
  wf : ∀ x ∈ l, (Lit.int .i64 x).wf = true
/-- What a walk is told of a list of rows that came in. -/
structure CameR (w : World) (a : Option Addr) (len cap : Nat) (LL : List (List Int)) : Prop where
  len_ : len = LL.length
  le : len ≤ cap
  max : cap ≤ maxLen
  nil : a = none → cap = 0
  at_ : 0 < LL.length → ∃ g off, a = some ⟨g, off, none⟩ ∧ g < w.heap.size ∧ ∀ k (hk : k < LL.length), ∃ ak ck, w.cell? ⟨g, off + k, none⟩ = some (.slice ak LL[k].length ck) ∧ CameI w ak LL[k].length ck LL[k]

section
variable {H : Type} {enc : TypeId × Value → H}

set_option maxRecDepth 100000 in
theorem open_row {W : World} {base : Nat} {held : Bool} {fuel : Nat} {cs : List Value} {x : DataW H × List MemPlace} (h : DataW.trod enc Try.prog W base (fun _ => true) held fuel 25 cs = some x) :
    ∃ a len cap l, cs = [.slice a len cap] ∧ CameI W a len cap l := by
  rcases open_ints Try.underlying25 Try.underlying3 (by kernel_rfl) h with ⟨hcs, _⟩ | ⟨a, len, cap, zs, hcs, _, hl, hm, hzl, _, hx, hwf⟩
  · exact ⟨none, 0, 0, [], hcs, rfl, Nat.le_refl _, Nat.zero_le _, fun _ => rfl, iat_nil _ _, by simp⟩
  · rw [if_pos rfl] at hzl
    refine ⟨some a, len, cap, zs.take len, hcs, by rw [List.length_take]; omega, hl, hm, (fun h => by cases h), fun h0 => ?_, fun x hx => hwf x (List.mem_of_mem_take hx)⟩
    have h1 : 0 < len := by rw [List.length_take] at h0; omega
    obtain ⟨b, off, spot⟩ := a
    have hs : spot = none := by simpa [Addr.add] using World.cell?_spot (hx 0 (by omega))
    subst hs
    have c0 := hx 0 (by omega)
    refine ⟨b, off, rfl, World.block_lt_of_cell? W _ c0, fun j hj => ?_⟩
    rw [List.length_take] at hj
    have cj := hx j (by omega)
    rw [add_at] at cj
    rw [cj, List.getElem_take]
    simp [List.getD, show j < zs.length by omega]

set_option maxRecDepth 100000 in
theorem net_in {W : World} {base : Nat} {held : Bool} {r : Reach} {b0 : Nat} {v : Value} {d : DataW H} {ps : List MemPlace} (hval : Value.okWide Try.prog W r b0 24 v) (h : DataW.Trod enc Try.prog W base (fun _ => true) held 24 v d ps) :
    ∃ n a len cap l, v = .agg #[.int .i64 n, .slice a len cap] ∧ Came W a len cap l := by
  obtain ⟨cs, rfl, hsz⟩ := okWide_struct Try.underlying24 hval
  rw [show Try.prog.cellsOf 24 = 2 by kernel_rfl] at hsz
  obtain ⟨fuel, hf⟩ := h
  obtain ⟨l0⟩ := cs
  match l0, hsz with
  | [c0, c1], _ =>
    obtain ⟨y0, y1, n, _, _, t0, t1⟩ := trod_struct2 Try.underlying24 hf
    simp only [show Try.prog.cellsOf 3 = 1 by kernel_rfl, show Try.prog.cellsOf 22 = 1 by kernel_rfl, Value.cells, List.drop, List.take] at t0 t1
    obtain ⟨n0, e0, _⟩ := DataW.trod_int Try.underlying3 t0
    obtain ⟨a, len, cap, l, e1, hc⟩ := open_edges t1
    simp only [List.cons.injEq, and_true] at e0 e1
    subst e0
    subst e1
    exact ⟨n0, a, len, cap, l, rfl, hc⟩
end
end Go.Proofs.Ytckcbaegehfkoaa
namespace Go.Proofs.Ytckcbaegehfkoaa
open Go.ChangeShapes Go.WideShapes Go.ChangeAt Go.RowKit Go.Deep Go.WideMaps

section
variable {H : Type} {enc : TypeId × Value → H}

set_option maxRecDepth 100000 in
theorem open_rows {W : World} {base : Nat} {held : Bool} {fuel : Nat} {cs : List Value} {x : DataW H × List MemPlace} (hf : DataW.trod enc Try.prog W base (fun _ => true) held fuel 26 cs = some x) :
    ∃ a len cap LL, cs = [.slice a len cap] ∧ CameR W a len cap LL := by
  rcases open_slice1 Try.underlying26 (by kernel_rfl) hf with ⟨hcs, _⟩ | ⟨a, len, cap, m, n, V, D, Pl, hcs, _, hl, hm, hmm, _, hx⟩
  · exact ⟨none, 0, 0, [], hcs, rfl, Nat.le_refl _, Nat.zero_le _, fun _ => rfl, fun h => absurd h (by simp)⟩
  · rw [if_pos rfl] at hmm
    subst hmm
    have hrow : ∀ i, i < m → ∃ L : List Int, ∃ ak ck, V i = .slice ak L.length ck ∧ CameI W ak L.length ck L := fun i hi => by
      obtain ⟨_, t⟩ := hx i hi
      obtain ⟨ak, lk, ck, L, e, hc⟩ := open_row t
      simp only [List.cons.injEq, and_true] at e
      have := hc.len_
      subst this
      exact ⟨L, ak, ck, e, hc⟩
    obtain ⟨F, hF⟩ : ∃ F : Nat → List Int, ∀ i, i < m → ∃ ak ck, V i = .slice ak (F i).length ck ∧ CameI W ak (F i).length ck (F i) :=
      ⟨fun i => if h : i < m then (hrow i h).choose else [], fun i hi => by simp only [dif_pos hi]; exact (hrow i hi).choose_spec⟩
    refine ⟨some a, len, m, (List.range len).map F, hcs, by simp, hl, hm, (fun h => by cases h), fun h0 => ?_⟩
    have h1 : 0 < len := by simpa using h0
    obtain ⟨b, off, spot⟩ := a
    have hs : spot = none := by simpa [Addr.add] using World.cell?_spot (hx 0 (by omega)).1
    subst hs
    refine ⟨b, off, rfl, World.block_lt_of_cell? W _ (hx 0 (by omega)).1, fun k hk => ?_⟩
    have hk' : k < len := by simpa using hk
    obtain ⟨ak, ck, e, hc⟩ := hF k (by omega)
    have cj := (hx k (by omega)).1
    rw [add_at, e] at cj
    simp only [List.getElem_map, List.getElem_range]
    exact ⟨ak, ck, cj, hc⟩

end
end Go.Proofs.Ytckcbaegehfkoaa
namespace Go.Proofs.Ytckcbaegehfkoaa
open Go.ChangeShapes Go.WideShapes Go.ChangeAt Go.RowKit Go.Deep Go.WideMaps

section
variable {H : Type} {enc : TypeId × Value → H}

theorem trodY3 {P : Program} {w : World} {base : Nat} {spare : Nat → Bool} {held : Bool} {t : TypeId} {f0 f1 f2 : Field} {fuel : Nat} {cs : List Value} {x : DataW H × List MemPlace} (ht : P.underlying t = some (.struct #[f0, f1, f2])) (h : DataW.trod enc P w base spare held fuel t cs = some x) :
    ∃ y0 y1 y2 n, x = (.agg [y0.1, y1.1, y2.1], y0.2 ++ y1.2 ++ y2.2) ∧ cs.length = P.cellsOf t ∧ DataW.trod enc P w base spare held n f0.type ((cs.drop f0.offset).take (P.cellsOf f0.type)) = some y0 ∧
      DataW.trod enc P w base spare held n f1.type ((cs.drop f1.offset).take (P.cellsOf f1.type)) = some y1 ∧ DataW.trod enc P w base spare held n f2.type ((cs.drop f2.offset).take (P.cellsOf f2.type)) = some y2 := by
  obtain ⟨xs, n, _, rfl, hl, hlen, hf⟩ := DataW.trod_struct ht h
  match xs, hlen with
  | [y0, y1, y2], _ => exact ⟨y0, y1, y2, n, by simp, hl, by simpa using hf 0 f0 rfl, by simpa using hf 1 f1 rfl, by simpa using hf 2 f2 rfl⟩

set_option maxRecDepth 100000 in
theorem sub_in {W : World} {base : Nat} {held : Bool} {r : Reach} {b0 : Nat} {v : Value} {d : DataW H} {ps : List MemPlace} (hval : Value.okWide Try.prog W r b0 28 v) (h : DataW.Trod enc Try.prog W base (fun _ => true) held 28 v d ps) :
    ∃ n ta tl tc tt a len cap LL, v = .agg #[.int .i64 n, .slice ta tl tc, .slice a len cap] ∧ CameI W ta tl tc tt ∧ CameR W a len cap LL := by
  obtain ⟨cs, rfl, hsz⟩ := okWide_struct Try.underlying28 hval
  rw [show Try.prog.cellsOf 28 = 3 by kernel_rfl] at hsz
  obtain ⟨fuel, hf⟩ := h
  obtain ⟨l0⟩ := cs
  match l0, hsz with
  | [c0, c1, c2], _ =>
    obtain ⟨y0, y1, y2, n, _, _, t0, t1, t2⟩ := trodY3 Try.underlying28 hf
    simp only [show Try.prog.cellsOf 3 = 1 by kernel_rfl, show Try.prog.cellsOf 25 = 1 by kernel_rfl, show Try.prog.cellsOf 26 = 1 by kernel_rfl, Value.cells, List.drop, List.take] at t0 t1 t2
    obtain ⟨n0, e0, _⟩ := DataW.trod_int Try.underlying3 t0
    obtain ⟨ta, tl, tc, tt, e1, hi⟩ := open_row t1
    obtain ⟨a, len, cap, l, e2, hc⟩ := open_rows t2
    simp only [List.cons.injEq, and_true] at e0 e1 e2
    subst e0
    subst e1
    subst e2
    exact ⟨n0, ta, tl, tc, tt, a, len, cap, l, rfl, hi, hc⟩
end
end Go.Proofs.Ytckcbaegehfkoaa
namespace Go.Proofs.Ytckcbaegehfkoaa

/-- Two are neighbours. -/
def Adj (es : List (Int × Int)) (x y : Int) : Prop := (x, y) ∈ es ∨ (y, x) ∈ es
theorem Adj.symm {es : List (Int × Int)} {x y : Int} (h : Adj es x y) : Adj es y x := h.elim Or.inr Or.inl
theorem Adj.in {n : Int} {es : List (Int × Int)} (hR : RightG n es) {x y : Int} (h : Adj es x y) : (0 ≤ x ∧ x < n) ∧ (0 ≤ y ∧ y < n) ∧ x ≠ y := by
  rcases h with h | h
  · have := hR.2.2.2.1 _ h; simp only at this; omega
  · have := hR.2.2.2.1 _ h; simp only at this; omega
/-- Each two that follow each other are neighbours. -/
def Links (es : List (Int × Int)) (p : List Int) : Prop := ∀ i (h : i + 1 < p.length), Adj es (p[i]'(by omega)) p[i + 1]
/-- A path (E1). -/
structure PathL (n : Int) (es : List (Int × Int)) (p : List Int) : Prop where
  ne : p ≠ []
  nd : p.Nodup
  inn : ∀ x ∈ p, 0 ≤ x ∧ x < n
  lk : Links es p
theorem PathL.pos {n : Int} {es : List (Int × Int)} {p : List Int} (h : PathL n es p) : 0 < p.length := List.length_pos_iff.2 h.ne
/-- What one comes to from x, going by members of l alone. -/
def Rch (es : List (Int × Int)) (l : List Int) (x y : Int) : Prop := ∀ S : Int → Prop, S x → (∀ u v, S u → Adj es u v → v ∈ l → S v) → S y
theorem Rch.refl (es : List (Int × Int)) (l : List Int) (x : Int) : Rch es l x x := fun _ h _ => h
theorem Rch.step {es : List (Int × Int)} {l : List Int} {x u v : Int} (h : Rch es l x u) (ha : Adj es u v) (hv : v ∈ l) : Rch es l x v := fun S h0 hs => hs u v (h S h0 hs) ha hv
theorem Rch.trans {es : List (Int × Int)} {l : List Int} {x y z : Int} (h : Rch es l x y) (k : Rch es l y z) : Rch es l x z := fun S h0 hs => k S (h S h0 hs) hs
theorem Rch.mono {es : List (Int × Int)} {l l' : List Int} {x y : Int} (h : Rch es l x y) (hs : ∀ z ∈ l, z ∈ l') : Rch es l' x y := fun S h0 hst => h S h0 (fun u v hu ha hv => hst u v hu ha (hs v hv))
theorem Rch.mem {es : List (Int × Int)} {l : List Int} {x y : Int} (h : Rch es l x y) (hx : x ∈ l) : y ∈ l := h (fun z => z ∈ l) hx (fun _ _ _ _ hv => hv)
theorem Rch.symm {es : List (Int × Int)} {l : List Int} {x y : Int} (h : Rch es l x y) (hx : x ∈ l) : Rch es l y x := by
  have := h (fun z => z ∈ l ∧ Rch es l z x) ⟨hx, Rch.refl es l x⟩ (fun u v hu ha hv => ⟨hv, ((Rch.refl es l v).step ha.symm hu.1).trans hu.2⟩)
  exact this.2
/-- Whole (E4). -/
structure WholeL (n : Int) (es : List (Int × Int)) (l : List Int) : Prop where
  ne : l ≠ []
  nd : l.Nodup
  inn : ∀ x ∈ l, 0 ≤ x ∧ x < n
  one : ∀ x ∈ l, ∀ y ∈ l, Rch es l x y
theorem WholeL.of_head {n : Int} {es : List (Int × Int)} {l : List Int} (nd : l.Nodup) (inn : ∀ x ∈ l, 0 ≤ x ∧ x < n) (h0 : 0 < l.length) (h : ∀ y ∈ l, Rch es l l[0] y) : WholeL n es l :=
  ⟨List.length_pos_iff.1 h0, nd, inn, fun x hx y hy => ((h x hx).symm (List.getElem_mem h0)).trans (h y hy)⟩
/-- What is reached, while one looks at one behind the other. -/
structure Got (es : List (Int × Int)) (l : List Int) (x : Int) (got : List Int) : Prop where
  nd : got.Nodup
  at_ : ∀ y ∈ got, y ∈ l ∧ Rch es l x y
  has : x ∈ got
theorem Got.put {es : List (Int × Int)} {l got : List Int} {x u v : Int} (h : Got es l x got) (hu : u ∈ got) (ha : Adj es u v) (hv : v ∈ l) (hn : v ∉ got) : Got es l x (got ++ [v]) := by
  refine ⟨List.nodup_append.2 ⟨h.nd, by simp, fun a ham b hb => by simp at hb; subst hb; exact fun e => hn (e ▸ ham)⟩, fun y hy => ?_, List.mem_append_left _ h.has⟩
  rcases List.mem_append.1 hy with h1 | h1
  · exact h.at_ y h1
  · simp at h1; subst h1; exact ⟨hv, (h.at_ u hu).2.step ha hv⟩
theorem len_le_subI {a b : List Int} (h : a.Nodup) (hs : ∀ e ∈ a, e ∈ b) : a.length ≤ b.length := by
  induction a generalizing b with
  | nil => simp
  | cons x a ih =>
    have hx : x ∈ b := hs x (by simp)
    obtain ⟨h1, h2⟩ := List.nodup_cons.1 h
    have := ih (b := b.erase x) h2 (fun e he => (List.mem_erase_of_ne (fun e' => h1 (by rw [← e']; exact he))).2 (hs e (List.mem_cons_of_mem _ he)))
    rw [List.length_erase_of_mem hx] at this
    have := List.length_pos_of_mem hx
    simp only [List.length_cons]
    omega
theorem Got.len {es : List (Int × Int)} {l got : List Int} {x : Int} (h : Got es l x got) : got.length ≤ l.length := len_le_subI h.nd (fun e he => (h.at_ e he).1)
/-- All is looked at: what is reached is all that can be. -/
theorem Got.done {n : Int} {es : List (Int × Int)} {l got : List Int} (nd : l.Nodup) (inn : ∀ x ∈ l, 0 ≤ x ∧ x < n) (h0 : 0 < l.length) (h : Got es l l[0] got) (hc : ∀ u ∈ got, ∀ v, Adj es u v → v ∈ l → v ∈ got) : got.length = l.length ↔ WholeL n es l := by
  constructor
  · intro hl
    refine WholeL.of_head nd inn h0 (fun y hy => ?_)
    by_cases hg : y ∈ got
    · exact (h.at_ y hg).2
    · exfalso
      have := len_le_subI (a := y :: got) (b := l) (List.nodup_cons.2 ⟨hg, h.nd⟩) (fun e he => by
        rcases List.mem_cons.1 he with rfl | he
        · exact hy
        · exact (h.at_ e he).1)
      simp at this
      omega
  · intro hw
    have : ∀ y ∈ l, y ∈ got := fun y hy => hw.one l[0] (List.getElem_mem h0) y hy (fun z => z ∈ got) h.has (fun u v hu ha hv => hc u hu v ha hv)
    have h1 := len_le_subI nd this
    have h2 := h.len
    omega

/-- A row stands ahead of another one, held against it number by number. -/
def lexL : List Int → List Int → Bool
  | [], [] => false
  | [], _ :: _ => true
  | _ :: _, [] => false
  | x :: a, y :: b => decide (x < y) || (x == y && lexL a b)
theorem lexL_irrefl : ∀ a : List Int, lexL a a = false
  | [] => rfl
  | x :: a => by simp [lexL, lexL_irrefl a]
theorem lexL_tri : ∀ {a b : List Int}, lexL a b = false → lexL b a = false → a = b
  | [], [], _, _ => rfl
  | [], _ :: _, h, _ => by simp [lexL] at h
  | _ :: _, [], _, h => by simp [lexL] at h
  | x :: a, y :: b, h, k => by
    simp only [lexL, Bool.or_eq_false_iff, decide_eq_false_iff_not, Bool.and_eq_false_iff, beq_eq_false_iff_ne] at h k
    have e : x = y := by omega
    subst e
    rw [lexL_tri (h.2.resolve_left (fun h => h rfl)) (k.2.resolve_left (fun h => h rfl))]
theorem lexL_trans : ∀ {a b c : List Int}, lexL a b = true → lexL b c = true → lexL a c = true
  | [], [], _, h, _ => by simp [lexL] at h
  | [], _ :: _, [], _, h => by simp [lexL] at h
  | [], _ :: _, _ :: _, _, _ => rfl
  | _ :: _, [], _, h, _ => by simp [lexL] at h
  | _ :: _, _ :: _, [], _, h => by simp [lexL] at h
  | x :: a, y :: b, z :: c, h, k => by
    simp only [lexL, Bool.or_eq_true, decide_eq_true_eq, Bool.and_eq_true, beq_iff_eq] at h k ⊢
    rcases h with h | ⟨rfl, h⟩
    · rcases k with k | ⟨rfl, k⟩
      · exact Or.inl (by omega)
      · exact Or.inl h
    · rcases k with k | ⟨rfl, k⟩
      · exact Or.inl k
      · exact Or.inr ⟨rfl, lexL_trans h k⟩
theorem lexL_asymm {a b : List Int} (h : lexL a b = true) : lexL b a = false := by
  cases h2 : lexL b a with
  | false => rfl
  | true => have := lexL_trans h h2; rw [lexL_irrefl] at this; cases this

/-- A way from a to b that keeps away (E2). -/
structure Way (n : Int) (es : List (Int × Int)) (a b : Int) (away p : List Int) : Prop where
  path : PathL n es p
  first : p.head? = some a
  last : p.getLast? = some b
  off : ∀ x ∈ p, x ∉ away
/-- The least of the shortest ways, or none (E2). -/
def RouteIs (n : Int) (es : List (Int × Int)) (a b : Int) (away L : List Int) : Prop :=
  (L = [] ∧ ∀ p, ¬ Way n es a b away p) ∨ (Way n es a b away L ∧ ∀ p, Way n es a b away p → L.length < p.length ∨ (L.length = p.length ∧ lexL p L = false))
theorem RouteIs.one {n : Int} {es : List (Int × Int)} {a b : Int} {away L M : List Int} (h : RouteIs n es a b away L) (k : RouteIs n es a b away M) : L = M := by
  rcases h with ⟨rfl, h⟩ | ⟨h, h2⟩
  · rcases k with ⟨rfl, _⟩ | ⟨k, _⟩
    · rfl
    · exact absurd k (h M)
  · rcases k with ⟨rfl, k⟩ | ⟨k, k2⟩
    · exact absurd h (k L)
    · rcases h2 M k with e | ⟨e, e2⟩
      · rcases k2 L h with e' | ⟨e', _⟩ <;> omega
      · rcases k2 L h with e' | ⟨_, e3⟩
        · omega
        · exact lexL_tri e3 e2
/-- What a call of Route tells: of a graph that is not right nothing. -/
def RouteG (n : Int) (es : List (Int × Int)) (a b : Int) (away L : List Int) : Prop := (RightG n es ∧ RouteIs n es a b away L) ∨ (¬ RightG n es ∧ L = [])
theorem RouteG.one {n : Int} {es : List (Int × Int)} {a b : Int} {away L M : List Int} (h : RouteG n es a b away L) (k : RouteG n es a b away M) : L = M := by
  rcases h with ⟨h, h2⟩ | ⟨h, rfl⟩
  · rcases k with ⟨_, k2⟩ | ⟨k, _⟩
    · exact h2.one k2
    · exact absurd h k
  · rcases k with ⟨k, _⟩ | ⟨_, rfl⟩
    · exact absurd k h
    · rfl

/-- An inner number stands at no other place of any row (E5). -/
def ApartL (LL : List (List Int)) : Prop := ∀ L ∈ LL, ∀ k (h : k + 1 < L.length), 1 ≤ k → LL.flatten.count (L[k]'(by omega)) = 1
end Go.Proofs.Ytckcbaegehfkoaa
namespace Go.Proofs.Ytckcbaegehfkoaa

/-- The edges of the graph that the vertices at l's places induce (F1). -/
def IndE (es : List (Int × Int)) (l : List Int) (E : List (Int × Int)) : Prop := Rises E ∧ ∀ a b : Int, (a, b) ∈ E ↔ ∃ i j : Nat, ∃ (hi : i < l.length) (hj : j < l.length), a = i ∧ b = j ∧ i < j ∧ Adj es l[i] l[j]
theorem IndE.one {es : List (Int × Int)} {l : List Int} {E E' : List (Int × Int)} (h : IndE es l E) (k : IndE es l E') : E = E' := rises_one h.1 k.1 (fun e => by
  obtain ⟨a, b⟩ := e
  exact (h.2 a b).trans (k.2 a b).symm)
theorem nodup_inj {l : List Int} (h : l.Nodup) {i j : Nat} (hi : i < l.length) (hj : j < l.length) (e : l[i] = l[j]) : i = j := by
  by_cases h1 : i < j
  · exact absurd e (List.pairwise_iff_getElem.1 h i j hi hj h1)
  · by_cases h2 : j < i
    · exact absurd e.symm (List.pairwise_iff_getElem.1 h j i hj hi h2)
    · omega
/-- There are no more edges than there were. -/
theorem IndE.len {es : List (Int × Int)} {l : List Int} {E : List (Int × Int)} (h : IndE es l E) (hn : l.Nodup) : E.length ≤ es.length := by
  have hnd := rises_nodup h.1
  -- each edge goes to one of es
  let f : Int × Int → Int × Int := fun e => if (l.getD e.1.toNat 0, l.getD e.2.toNat 0) ∈ es then (l.getD e.1.toNat 0, l.getD e.2.toNat 0) else (l.getD e.2.toNat 0, l.getD e.1.toNat 0)
  have hmem : ∀ e ∈ E, f e ∈ es := fun e he => by
    obtain ⟨a, b⟩ := e
    obtain ⟨i, j, hi, hj, rfl, rfl, hlt, hadj⟩ := (h.2 a b).1 he
    show (if _ then _ else _) ∈ es
    simp only [Int.toNat_natCast, List.getD, List.getElem?_eq_getElem hi, List.getElem?_eq_getElem hj, Option.getD_some]
    split
    · assumption
    · rcases hadj with h1 | h1
      · contradiction
      · exact h1
  have hinj : (E.map f).Nodup := by
    rw [List.nodup_iff_pairwise_ne, List.pairwise_map]
    refine hnd.imp_of_mem (fun {x y} hx hy hne e => hne ?_)
    obtain ⟨a, b⟩ := x
    obtain ⟨c, d⟩ := y
    obtain ⟨i, j, hi, hj, rfl, rfl, hlt, _⟩ := (h.2 a b).1 hx
    obtain ⟨p, q, hp, hq, rfl, rfl, hlt2, _⟩ := (h.2 c d).1 hy
    have e' : (if _ then _ else _ : Int × Int) = (if _ then _ else _) := e
    simp only [Int.toNat_natCast, List.getD, List.getElem?_eq_getElem hi, List.getElem?_eq_getElem hj, List.getElem?_eq_getElem hp, List.getElem?_eq_getElem hq, Option.getD_some] at e'
    have key : (l[i] = l[p] ∧ l[j] = l[q]) ∨ (l[i] = l[q] ∧ l[j] = l[p]) := by
      split at e' <;> split at e' <;> simp only [Prod.mk.injEq] at e' <;> first | exact Or.inl e' | exact Or.inr e' | exact Or.inr ⟨e'.2, e'.1⟩ | exact Or.inl ⟨e'.2, e'.1⟩
    rcases key with ⟨h1, h2⟩ | ⟨h1, h2⟩
    · rw [nodup_inj hn hi hp h1, nodup_inj hn hj hq h2]
    · have := nodup_inj hn hi hq h1
      have := nodup_inj hn hj hp h2
      omega
  have := len_le_of_sub hinj (b := es) (fun e he => by
    obtain ⟨x, hx, rfl⟩ := List.mem_map.1 he
    exact hmem x hx)
  simpa using this
/-- What is induced is right. -/
theorem IndE.right {n : Int} {es : List (Int × Int)} {l : List Int} {E : List (Int × Int)} (hR : RightG n es) (h : IndE es l E) (hn : l.Nodup) (hl : l.length ≤ 1000) : RightG l.length E :=
  ⟨by omega, by omega, Nat.le_trans (h.len hn) hR.2.2.1, fun e he => by
    obtain ⟨a, b⟩ := e
    obtain ⟨i, j, hi, hj, rfl, rfl, hlt, _⟩ := (h.2 a b).1 he
    simp only
    omega, h.1⟩
end Go.Proofs.Ytckcbaegehfkoaa
namespace Go.Proofs.Ytckcbaegehfkoaa

/-- All numbers below n but v. -/
def othL (n v : Nat) : List Int := ((List.range n).filter (fun i => i ≠ v)).map (fun i : Nat => (i : Int))
/-- Who stands at place i, when v is gone. -/
def upN (v i : Nat) : Nat := if i < v then i else i + 1
end Go.Proofs.Ytckcbaegehfkoaa
