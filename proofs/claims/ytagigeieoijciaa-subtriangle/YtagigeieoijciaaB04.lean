/-
  graph.Has: are two vertices neighbours?
  graph.Near: the neighbours of a vertex; slices.Collect and slices.AppendSeq walked.
  graph.Degrees: of each vertex how many neighbours it has.
  carcanetlaw03.shown answers true.
  A graph in a variable; what the laws of a raw graph do first: a copy of its first five hundred edges.
  Paths, cycles, what is whole, the least of the shortest ways, rings: as the document says them. No program is named here.
  Graphs made of a graph (layer 6): what some vertices induce, what is left when one goes, two neighbours made one. No program is named here.
  Who goes, and what is left (layer 6): renumbered edges. No program is named here.
  What the calls of layer 6 tell, and what follows of it. No program is named here.
-/
import Derived.Test.YtagigeieoijciaaB03
import Derived.Maps.AppendAt
import Derived.Test.YtagigeieoijciaaB01
namespace Go.Proofs.Ytagigeieoijciaa
open Go.RowKit Go.Lib Go.Shelf
attribute [local go_sem] Oper.semAt_some

theorem mem_stop {L pre : List Int} {x y : Int} (hL : L.Pairwise (· < ·)) (hp : pre ++ [x] <+: L) (hlt : ∀ z ∈ pre, z < y) (hx : y ≤ x) : (x == y) = decide (y ∈ L) := by
  obtain ⟨r, rfl⟩ := hp
  rw [List.append_assoc] at hL
  have h2 := (List.pairwise_append.1 hL).2.1
  rw [List.singleton_append, List.pairwise_cons] at h2
  rw [Bool.eq_iff_iff, beq_iff_eq, decide_eq_true_eq]
  constructor
  · rintro rfl; simp
  · intro hy
    rw [List.append_assoc] at hy
    rcases List.mem_append.1 hy with hy | hy
    · have := hlt y hy; omega
    · rcases List.mem_append.1 hy with hy | hy
      · simp at hy; exact hy.symm
      · have := h2.1 y hy; omega

theorem alloc_at {w : World} {o : Obj} {k : Nat} (h : k < w.heap.size) : (w.alloc o).heap[k]? = w.heap[k]? := Below.heap_alloc _ _ _ h
theorem five_new (w : World) (o1 o2 o3 o4 o5 : Obj) : ∃ W0, W0 = ((((w.alloc o1).alloc o2).alloc o3).alloc o4).alloc o5 ∧ W0.heap.size = w.heap.size + 1 + 1 + 1 + 1 + 1 ∧ W0.heap[w.heap.size + 1]? = some o2 ∧ W0.heap[w.heap.size + 1 + 1]? = some o3 ∧ W0.heap[w.heap.size + 1 + 1 + 1]? = some o4 ∧ W0.heap[w.heap.size + 1 + 1 + 1 + 1]? = some o5 ∧ Below w.heap.size w W0 := by
  have s1 : (w.alloc o1).heap.size = w.heap.size + 1 := by simp
  have s2 : ((w.alloc o1).alloc o2).heap.size = w.heap.size + 1 + 1 := by simp
  have s3 : (((w.alloc o1).alloc o2).alloc o3).heap.size = w.heap.size + 1 + 1 + 1 := by simp
  have s4 : ((((w.alloc o1).alloc o2).alloc o3).alloc o4).heap.size = w.heap.size + 1 + 1 + 1 + 1 := by simp
  refine ⟨_, rfl, by simp, ?_, ?_, ?_, ?_, ?_⟩
  · rw [alloc_at (by omega), alloc_at (by omega), alloc_at (by omega), ← s1]; exact heap_alloc_new _ _
  · rw [alloc_at (by omega), alloc_at (by omega), ← s2]; exact heap_alloc_new _ _
  · rw [alloc_at (by omega), ← s3]; exact heap_alloc_new _ _
  · rw [← s4]; exact heap_alloc_new _ _
  · exact (((((Below.refl _ _).alloc (Nat.le_refl _) _).alloc (by omega) _).alloc (by omega) _).alloc (by omega) _).alloc (by omega) _

set_option maxRecDepth 100000 in
set_option maxHeartbeats 2000000 in
theorem has_any (n : Int) (a : Option Addr) (cap : Nat) (es : List (Int × Int)) (x y : Int) (b : Bool) (L : List Int) (w : World) (hN : es.length ≤ 1000000) (hE : EAt w a es) (hb : b = true ↔ RightG n es) (hL : L = if b = true then nbL x es else []) :
    Calls Try.prog 22 #[.agg #[.int .i64 n, .slice a es.length cap], .int .i64 x, .int .i64 y] w fun e w' => e = .returned (.bool (decide (y ∈ L))) ∧ Below w.heap.size w w' := by
  have HLR : Hid (L.Pairwise (· < ·)) := by
    show L.Pairwise (· < ·)
    rw [hL]
    cases b with
    | false => exact List.Pairwise.nil
    | true => exact nbL_rises (hb.1 rfl)
  refine (callsIn_wide (n := 6)).1 ?_
  refine callsIn_of_wp_marks Try.func22 rfl trivial ?_ rfl
  simp only [Try.ntmps22, List.size_toArray, List.length_cons, List.length_nil, Nat.reduceAdd, Nat.reduceSub, Array.replicate_succ, Array.replicate_zero, List.push_toArray, List.append_toArray, List.nil_append, List.cons_append]
  gi_wp2_with fail
  refine ⟨trivial, ?_⟩
  refine (callsIn_wide.2 (neighbours_any _ n a es.length cap x _ rfl)).mono ?_
  rintro e w' ⟨rfl, rfl⟩
  gi_wp2_with fail
  obtain ⟨W0, hW0, hsz, o2, o3, o4, o5, hB0⟩ := five_new w (.cells #[.int .i64 n, .slice a es.length cap] 27) (.cells #[.int .i64 y] 3) (.cells #[.bool false] 4) (.cells #[.int .i64 n, .slice a es.length cap] 27) (.cells #[.int .i64 x] 3)
  rw [← hW0]
  clear hW0
  have y0 : W0.cell? ⟨w.heap.size + 1, 0, none⟩ = some (.int .i64 y) := cell_of_heap o2 0
  have r0 : W0.cell? ⟨w.heap.size + 1 + 1, 0, none⟩ = some (.bool false) := cell_of_heap o3 0
  have rf := frozen_of_heap o3 0
  have hE0 : EAt W0 a es := hE.below hB0
  refine wpIn_rangeFunc_ownF rfl (by omega) (gf := 47) (lb := #[.pointer (some ⟨w.heap.size + 1 + 1 + 1, 0, none⟩), .pointer (some ⟨w.heap.size + 1 + 1 + 1 + 1, 0, none⟩)]) rfl trivial (enters_of Try.func47 (by kernel_rfl) rfl)
    (nb_stops 5 (by omega) (w.heap.size + 1 + 1 + 1) (w.heap.size + 1 + 1 + 1 + 1) W0.heap.size n x a cap es b L hL hN hb W0 (Nat.le_refl _) (by omega) (by omega) (cell_of_heap o4 0) (cell_of_heap o4 1) (cell_of_heap o5 0) hE0 hE0.lt) kpE_t (kpE_b (Nat.le_refl _)) (Below.refl _ _) (fun _ => rfl)
    (fun pre W => ((∀ z ∈ pre, z < y) ∧ W.cell? ⟨w.heap.size + 1, 0, none⟩ = some (.int .i64 y) ∧ W.cell? ⟨w.heap.size + 1 + 1, 0, none⟩ = some (.bool false) ∧ W.frozen? ⟨w.heap.size + 1 + 1, 0, none⟩ = false) ∧ Below w.heap.size w W)
    (fun c pre W => (c = .ret ∧ (∃ pre' z, pre = pre' ++ [z] ∧ (∀ u ∈ pre', u < y) ∧ y ≤ z ∧ W.cell? ⟨w.heap.size + 1 + 1, 0, none⟩ = some (.bool (z == y)))) ∧ Below w.heap.size w W)
    (OwnFrom.and (Own.from (fun s A B row hs hg hr => ⟨hs.1, cell_kept hs.2.1 hg hr, cell_kept hs.2.2.1 hg hr, (frozen_kept hs.2.2.1 hg hr).trans hs.2.2.2⟩) _) (ownFrom_below (Nat.le_refl _) (by omega)))
    (fun c => OwnFrom.and (Own.from (fun s A B row hs hg hr => ⟨hs.1, by obtain ⟨p, z, h1, h2, h3, h4⟩ := hs.2; exact ⟨p, z, h1, h2, h3, cell_kept h4 hg hr⟩⟩) _) (ownFrom_below (Nat.le_refl _) (by omega)))
    ⟨⟨by simp, y0, r0, rf⟩, hB0⟩
    (fun z => { tmps := #[.agg #[.int .i64 n, .slice a es.length cap], .int .i64 x, .int .i64 y, .pointer (some ⟨w.heap.size, 0, none⟩), undef, .pointer (some ⟨w.heap.size + 1, 0, none⟩), .pointer (some ⟨w.heap.size + 1 + 1, 0, none⟩), .int .i64 z, .agg #[.int .i64 n, .slice a es.length cap], .int .i64 x, .func (.func 47) #[] #[.pointer (some ⟨w.heap.size + 1 + 1 + 1, 0, none⟩), .pointer (some ⟨w.heap.size + 1 + 1 + 1 + 1, 0, none⟩)], .int .i64 z, undef, undef, undef, undef, undef, undef], defers := [] }) ?assign ?body ?done ?stop
  case assign =>
    intro l x W K hK
    gi_wp2
    exact hK
  case body =>
    rintro l pre z W ⟨⟨hp, hcy, hcr, hfr⟩, hB⟩ _
    by_cases hz : y ≤ z
    · gi_wp2
      exact ⟨KeepsOthers.setCell _ _ _, ⟨rfl, pre, z, rfl, hp, hz, World.cell?_setCell_same' _ _ _ (by rw [hcr]; rfl)⟩, hB.setCell (p := ⟨w.heap.size + 1 + 1, 0, none⟩) (by simp; omega) _⟩
    · gi_wp2
      exact ⟨KeepsOthers.refl _, kpE_refl _ _, ⟨fun u hu => (List.mem_append.1 hu).elim (hp u) (fun e => by simp at e; omega), hcy, hcr, hfr⟩, hB⟩
  case done =>
    rintro D ys W hD rfl ⟨⟨hne, _, hcr, hfr⟩, hB⟩ hK
    gi_wp2
    have hK' := (KeepsOthers.setCell W ⟨w.heap.size + 1 + 1, 0, none⟩ (.bool false)).same D _ hK rfl
    refine ⟨by simp, .inl ⟨_, _, rfl, run_takeDeferred hK', ?_⟩⟩
    have hc5 := cell_kept (World.cell?_setCell_same' W ⟨w.heap.size + 1 + 1, 0, none⟩ (.bool false) (by rw [hcr]; rfl)) (grownBy_putObj' _ D (.deferred none)) (fun r e => by cases e; exact ⟨_, hK', rfl⟩)
    refine ⟨.bool false, ?_, by rw [decide_eq_false (fun h => absurd (hne y h) (by omega))], (hB.setCell (p := ⟨w.heap.size + 1 + 1, 0, none⟩) (by simp; omega) _).trans (belowK_b (w := w) (Nat.le_refl _) _ D _ _ (by omega) hK' rfl rfl)⟩
    simp [results, Try.f22, go_sem, hc5]
  case stop =>
    rintro D c pre W hD hpre ⟨⟨rfl, p', z, rfl, hlt, hz, hcr⟩, hB⟩ hK
    rw [mem_stop HLR.out hpre hlt hz] at hcr
    gi_wp2
    refine ⟨by simp, .inl ⟨_, _, rfl, run_takeDeferred hK, ?_⟩⟩
    have hc5 := cell_kept hcr (grownBy_putObj' _ D (.deferred none)) (fun r e => by cases e; exact ⟨_, hK, rfl⟩)
    refine ⟨.bool (decide (y ∈ L)), ?_, rfl, hB.trans (belowK_b (w := w) (Nat.le_refl _) W D _ _ (by omega) hK rfl rfl)⟩
    simp [results, Try.f22, go_sem, hc5]
end Go.Proofs.Ytagigeieoijciaa
namespace Go.Proofs.Ytagigeieoijciaa
open Go.RowKit Go.Lib Go.Shelf
attribute [local go_sem] Oper.semAt_some

/-- A row of numbers in memory. -/
def IAt (w : World) (a : Option Addr) (xs : List Int) : Prop :=
  0 < xs.length → ∃ g off, a = some ⟨g, off, none⟩ ∧ g < w.heap.size ∧ ∀ k (hk : k < xs.length), w.cell? ⟨g, off + k, none⟩ = some (.int .i64 xs[k])
theorem iat_nil (w : World) (a : Option Addr) : IAt w a [] := fun h => absurd h (by simp)
theorem IAt.below {w w' : World} {a : Option Addr} {xs : List Int} (h : IAt w a xs) (hb : Below w.heap.size w w') : IAt w' a xs := by
  intro h0
  obtain ⟨g, off, ha, hg, hc⟩ := h h0
  exact ⟨g, off, ha, Nat.lt_of_lt_of_le hg hb.size, fun k hk => (hb.cell (p := ⟨g, off + k, none⟩) hg).trans (hc k hk)⟩
theorem iat_own {w : World} {base : Nat} {e : TypeId} {v : Value} {xs : List Int} (h : w.ownsRow base e 1 v xs.length (xs.map (Value.int .i64))) : ∃ a cap, v = .slice a xs.length cap ∧ IAt w a xs := by
  by_cases hn : 0 < xs.length
  · obtain ⟨g, cap, hv, hb, hg, hc, hcs⟩ := own_row h hn
    exact ⟨_, cap, hv, fun _ => ⟨g, 0, rfl, hg, fun k hk => by rw [Nat.zero_add]; exact hcs k _ (by rw [List.getElem?_map, List.getElem?_eq_getElem hk]; rfl)⟩⟩
  · rcases h.2 with ⟨hv, h0⟩ | ⟨g, cap, cur, hv, _, _, hc, _⟩
    · exact ⟨none, 0, by rw [hv, h0], fun h => absurd h hn⟩
    · exact ⟨_, cap, hv, fun h => absurd h hn⟩

theorem new_two (w : World) (o1 o2 : Obj) : ∃ W0, W0 = (w.alloc o1).alloc o2 ∧ W0.heap.size = w.heap.size + 1 + 1 ∧ W0.heap[w.heap.size]? = some o1 ∧ W0.heap[w.heap.size + 1]? = some o2 ∧ Below w.heap.size w W0 := by
  have s1 : (w.alloc o1).heap.size = w.heap.size + 1 := by simp
  refine ⟨_, rfl, by simp, ?_, ?_, ((Below.refl _ _).alloc (Nat.le_refl _) _).alloc (by omega) _⟩
  · rw [alloc_at (by omega)]; exact heap_alloc_new _ _
  · rw [← s1]; exact heap_alloc_new _ _

end Go.Proofs.Ytagigeieoijciaa
namespace Go.Proofs.Ytagigeieoijciaa
open Go.RowKit Go.Lib

/-- A row of numbers that may be written, place by place. -/
def Row1 (w : World) (g n : Nat) (c : Nat → Int) : Prop := g < w.heap.size ∧ ∀ j, j < n → w.cell? ⟨g, j, none⟩ = some (.int .i64 (c j)) ∧ w.frozen? ⟨g, j, none⟩ = false
theorem Row1.put {w : World} {g n : Nat} {c : Nat → Int} (h : Row1 w g n c) {i : Nat} (hi : i < n) (x : Int) : Row1 (w.setCell ⟨g, i, none⟩ (.int .i64 x)) g n (fun j => if j = i then x else c j) := by
  refine ⟨by simpa using h.1, fun j hj => ?_⟩
  obtain ⟨a, fa⟩ := h.2 j hj
  simp only [World.frozen?_setCell]
  refine ⟨?_, fa⟩
  by_cases e : j = i
  · subst e
    rw [if_pos rfl]
    exact World.cell?_setCell_same' _ _ _ (by rw [a]; rfl)
  · rw [if_neg e, World.cell?_setCell_other _ _ _ _ (by simp <;> omega)]
    exact a
theorem Row1.alloc {w : World} {g n : Nat} {c : Nat → Int} (h : Row1 w g n c) (o : Obj) : Row1 (w.alloc o) g n c := by
  have hB : Below w.heap.size w (w.alloc o) := (Below.refl _ _).alloc (Nat.le_refl _) _
  refine ⟨Nat.lt_of_lt_of_le h.1 hB.size, fun j hj => ⟨(hB.cell (p := ⟨g, j, none⟩) h.1).trans (h.2 j hj).1, ?_⟩⟩
  rw [← (h.2 j hj).2]
  unfold World.frozen?
  rw [hB.block g h.1]
theorem Row1.iat {w : World} {g n : Nat} {c : Nat → Int} (h : Row1 w g n c) : IAt w (some ⟨g, 0, none⟩) ((List.range n).map c) := fun _ =>
  ⟨g, 0, rfl, h.1, fun k hk => by
    have hk' : k < n := by simpa using hk
    rw [Nat.zero_add, (h.2 k hk').1]
    simp⟩

theorem Row1.congr {w : World} {g n : Nat} {c d : Nat → Int} (h : Row1 w g n c) (e : ∀ j, j < n → c j = d j) : Row1 w g n d := ⟨h.1, fun j hj => by rw [← e j hj]; exact h.2 j hj⟩
theorem made_ints (n : Nat) : (madeCells (Value.int .i64 0).cells (n * 1)).toList = List.replicate n (.int .i64 0) := by
  apply List.ext_getElem
  · simp [madeCells]
  · intro i h1 h2
    simp [madeCells, Value.cells, Nat.mod_one]
end Go.Proofs.Ytagigeieoijciaa
namespace Go.Proofs.Ytagigeieoijciaa
open Go.RowKit Go.Lib

/-- A variable that holds a graph. -/
def GBox (w : World) (b : Nat) (n : Int) (sv : Value) : Prop := w.heap[b]? = some (.cells #[.int .i64 n, sv] 27)
theorem GBox.lt {w : World} {b : Nat} {n : Int} {sv : Value} (h : GBox w b n sv) : b < w.heap.size := (Array.getElem?_eq_some_iff.1 h).1
theorem GBox.on {w w' : World} {b : Nat} {n : Int} {sv : Value} (h : GBox w b n sv) (hb : Below w.heap.size w w') : GBox w' b n sv := (hb.block b h.lt).trans h
theorem GBox.cells {w : World} {b : Nat} {n : Int} {sv : Value} (h : GBox w b n sv) : w.cell? ⟨b, 0, none⟩ = some (.int .i64 n) ∧ w.cell? ⟨b, 1, none⟩ = some sv := ⟨cell_of_heap h 0, cell_of_heap h 1⟩
theorem GBox.new (w : World) (n : Int) (sv : Value) : GBox (w.alloc (.cells #[.int .i64 n, sv] 27)) w.heap.size n sv := heap_alloc_new _ _
end Go.Proofs.Ytagigeieoijciaa
namespace Go.Proofs.Ytagigeieoijciaa
open Go.RowKit Go.Lib

/-- A variable holds a graph whose edges lie in memory. -/
structure GC (w : World) (b : Nat) (n : Int) (a : Option Addr) (k cap : Nat) (es : List (Int × Int)) : Prop where
  n0 : w.cell? ⟨b, 0, none⟩ = some (.int .i64 n)
  e0 : w.cell? ⟨b, 1, none⟩ = some (.slice a k cap)
  at_ : EAt w a es
theorem GC.on {w w' : World} {b : Nat} {n : Int} {a : Option Addr} {k cap : Nat} {es : List (Int × Int)} (h : GC w b n a k cap es) (hb : Below w.heap.size w w') : GC w' b n a k cap es :=
  ⟨(hb.cell (block_lt_of_cell h.n0)).trans h.n0, (hb.cell (block_lt_of_cell h.e0)).trans h.e0, h.at_.below hb⟩
theorem GC.cells {w : World} {b : Nat} {n : Int} {a : Option Addr} {k cap : Nat} {es : List (Int × Int)} (h : GC w b n a k cap es) : w.cell? ⟨b, 0, none⟩ = some (.int .i64 n) ∧ w.cell? ⟨b, 1, none⟩ = some (.slice a k cap) := ⟨h.n0, h.e0⟩
theorem hid {p : Prop} (h : p) : Hid p := h
end Go.Proofs.Ytagigeieoijciaa
namespace Go.Proofs.Ytagigeieoijciaa

/-- Two are neighbours. -/
def Adj (es : List (Int × Int)) (x y : Int) : Prop := (x, y) ∈ es ∨ (y, x) ∈ es
theorem Adj.symm {es : List (Int × Int)} {x y : Int} (h : Adj es x y) : Adj es y x := h.elim Or.inr Or.inl
theorem Adj.in {n : Int} {es : List (Int × Int)} (hR : RightG n es) {x y : Int} (h : Adj es x y) : (0 ≤ x ∧ x < n) ∧ (0 ≤ y ∧ y < n) ∧ x ≠ y := by
  rcases h with h | h
  · have := hR.2.2.2.1 _ h; simp only at this; omega
  · have := hR.2.2.2.1 _ h; simp only at this; omega
/-- Each two that follow each other are neighbours. -/
def Links (es : List (Int × Int)) (p : List Int) : Prop := ∀ i (h : i + 1 < p.length), Adj es (p[i]'(by omega)) p[i + 1]
/-- A path (E1). -/
structure PathL (n : Int) (es : List (Int × Int)) (p : List Int) : Prop where
  ne : p ≠ []
  nd : p.Nodup
  inn : ∀ x ∈ p, 0 ≤ x ∧ x < n
  lk : Links es p
theorem PathL.pos {n : Int} {es : List (Int × Int)} {p : List Int} (h : PathL n es p) : 0 < p.length := List.length_pos_iff.2 h.ne
/-- What one comes to from x, going by members of l alone. -/
def Rch (es : List (Int × Int)) (l : List Int) (x y : Int) : Prop := ∀ S : Int → Prop, S x → (∀ u v, S u → Adj es u v → v ∈ l → S v) → S y
theorem Rch.refl (es : List (Int × Int)) (l : List Int) (x : Int) : Rch es l x x := fun _ h _ => h
theorem Rch.step {es : List (Int × Int)} {l : List Int} {x u v : Int} (h : Rch es l x u) (ha : Adj es u v) (hv : v ∈ l) : Rch es l x v := fun S h0 hs => hs u v (h S h0 hs) ha hv
theorem Rch.trans {es : List (Int × Int)} {l : List Int} {x y z : Int} (h : Rch es l x y) (k : Rch es l y z) : Rch es l x z := fun S h0 hs => k S (h S h0 hs) hs
theorem Rch.mono {es : List (Int × Int)} {l l' : List Int} {x y : Int} (h : Rch es l x y) (hs : ∀ z ∈ l, z ∈ l') : Rch es l' x y := fun S h0 hst => h S h0 (fun u v hu ha hv => hst u v hu ha (hs v hv))
theorem Rch.mem {es : List (Int × Int)} {l : List Int} {x y : Int} (h : Rch es l x y) (hx : x ∈ l) : y ∈ l := h (fun z => z ∈ l) hx (fun _ _ _ _ hv => hv)
theorem Rch.symm {es : List (Int × Int)} {l : List Int} {x y : Int} (h : Rch es l x y) (hx : x ∈ l) : Rch es l y x := by
  have := h (fun z => z ∈ l ∧ Rch es l z x) ⟨hx, Rch.refl es l x⟩ (fun u v hu ha hv => ⟨hv, ((Rch.refl es l v).step ha.symm hu.1).trans hu.2⟩)
  exact this.2
/-- Whole (E4). -/
structure WholeL (n : Int) (es : List (Int × Int)) (l : List Int) : Prop where
  ne : l ≠ []
  nd : l.Nodup
  inn : ∀ x ∈ l, 0 ≤ x ∧ x < n
  one : ∀ x ∈ l, ∀ y ∈ l, Rch es l x y
theorem WholeL.of_head {n : Int} {es : List (Int × Int)} {l : List Int} (nd : l.Nodup) (inn : ∀ x ∈ l, 0 ≤ x ∧ x < n) (h0 : 0 < l.length) (h : ∀ y ∈ l, Rch es l l[0] y) : WholeL n es l :=
  ⟨List.length_pos_iff.1 h0, nd, inn, fun x hx y hy => ((h x hx).symm (List.getElem_mem h0)).trans (h y hy)⟩
/-- What is reached, while one looks at one behind the other. -/
structure Got (es : List (Int × Int)) (l : List Int) (x : Int) (got : List Int) : Prop where
  nd : got.Nodup
  at_ : ∀ y ∈ got, y ∈ l ∧ Rch es l x y
  has : x ∈ got
theorem Got.put {es : List (Int × Int)} {l got : List Int} {x u v : Int} (h : Got es l x got) (hu : u ∈ got) (ha : Adj es u v) (hv : v ∈ l) (hn : v ∉ got) : Got es l x (got ++ [v]) := by
  refine ⟨List.nodup_append.2 ⟨h.nd, by simp, fun a ham b hb => by simp at hb; subst hb; exact fun e => hn (e ▸ ham)⟩, fun y hy => ?_, List.mem_append_left _ h.has⟩
  rcases List.mem_append.1 hy with h1 | h1
  · exact h.at_ y h1
  · simp at h1; subst h1; exact ⟨hv, (h.at_ u hu).2.step ha hv⟩
theorem len_le_subI {a b : List Int} (h : a.Nodup) (hs : ∀ e ∈ a, e ∈ b) : a.length ≤ b.length := by
  induction a generalizing b with
  | nil => simp
  | cons x a ih =>
    have hx : x ∈ b := hs x (by simp)
    obtain ⟨h1, h2⟩ := List.nodup_cons.1 h
    have := ih (b := b.erase x) h2 (fun e he => (List.mem_erase_of_ne (fun e' => h1 (by rw [← e']; exact he))).2 (hs e (List.mem_cons_of_mem _ he)))
    rw [List.length_erase_of_mem hx] at this
    have := List.length_pos_of_mem hx
    simp only [List.length_cons]
    omega
theorem Got.len {es : List (Int × Int)} {l got : List Int} {x : Int} (h : Got es l x got) : got.length ≤ l.length := len_le_subI h.nd (fun e he => (h.at_ e he).1)
/-- All is looked at: what is reached is all that can be. -/
theorem Got.done {n : Int} {es : List (Int × Int)} {l got : List Int} (nd : l.Nodup) (inn : ∀ x ∈ l, 0 ≤ x ∧ x < n) (h0 : 0 < l.length) (h : Got es l l[0] got) (hc : ∀ u ∈ got, ∀ v, Adj es u v → v ∈ l → v ∈ got) : got.length = l.length ↔ WholeL n es l := by
  constructor
  · intro hl
    refine WholeL.of_head nd inn h0 (fun y hy => ?_)
    by_cases hg : y ∈ got
    · exact (h.at_ y hg).2
    · exfalso
      have := len_le_subI (a := y :: got) (b := l) (List.nodup_cons.2 ⟨hg, h.nd⟩) (fun e he => by
        rcases List.mem_cons.1 he with rfl | he
        · exact hy
        · exact (h.at_ e he).1)
      simp at this
      omega
  · intro hw
    have : ∀ y ∈ l, y ∈ got := fun y hy => hw.one l[0] (List.getElem_mem h0) y hy (fun z => z ∈ got) h.has (fun u v hu ha hv => hc u hu v ha hv)
    have h1 := len_le_subI nd this
    have h2 := h.len
    omega

/-- A row stands ahead of another one, held against it number by number. -/
def lexL : List Int → List Int → Bool
  | [], [] => false
  | [], _ :: _ => true
  | _ :: _, [] => false
  | x :: a, y :: b => decide (x < y) || (x == y && lexL a b)
theorem lexL_irrefl : ∀ a : List Int, lexL a a = false
  | [] => rfl
  | x :: a => by simp [lexL, lexL_irrefl a]
theorem lexL_tri : ∀ {a b : List Int}, lexL a b = false → lexL b a = false → a = b
  | [], [], _, _ => rfl
  | [], _ :: _, h, _ => by simp [lexL] at h
  | _ :: _, [], _, h => by simp [lexL] at h
  | x :: a, y :: b, h, k => by
    simp only [lexL, Bool.or_eq_false_iff, decide_eq_false_iff_not, Bool.and_eq_false_iff, beq_eq_false_iff_ne] at h k
    have e : x = y := by omega
    subst e
    rw [lexL_tri (h.2.resolve_left (fun h => h rfl)) (k.2.resolve_left (fun h => h rfl))]
theorem lexL_trans : ∀ {a b c : List Int}, lexL a b = true → lexL b c = true → lexL a c = true
  | [], [], _, h, _ => by simp [lexL] at h
  | [], _ :: _, [], _, h => by simp [lexL] at h
  | [], _ :: _, _ :: _, _, _ => rfl
  | _ :: _, [], _, h, _ => by simp [lexL] at h
  | _ :: _, _ :: _, [], _, h => by simp [lexL] at h
  | x :: a, y :: b, z :: c, h, k => by
    simp only [lexL, Bool.or_eq_true, decide_eq_true_eq, Bool.and_eq_true, beq_iff_eq] at h k ⊢
    rcases h with h | ⟨rfl, h⟩
    · rcases k with k | ⟨rfl, k⟩
      · exact Or.inl (by omega)
      · exact Or.inl h
    · rcases k with k | ⟨rfl, k⟩
      · exact Or.inl k
      · exact Or.inr ⟨rfl, lexL_trans h k⟩
/-- A way from a to b that keeps away (E2). -/
structure Way (n : Int) (es : List (Int × Int)) (a b : Int) (away p : List Int) : Prop where
  path : PathL n es p
  first : p.head? = some a
  last : p.getLast? = some b
  off : ∀ x ∈ p, x ∉ away
/-- The least of the shortest ways, or none (E2). -/
def RouteIs (n : Int) (es : List (Int × Int)) (a b : Int) (away L : List Int) : Prop :=
  (L = [] ∧ ∀ p, ¬ Way n es a b away p) ∨ (Way n es a b away L ∧ ∀ p, Way n es a b away p → L.length < p.length ∨ (L.length = p.length ∧ lexL p L = false))
theorem RouteIs.one {n : Int} {es : List (Int × Int)} {a b : Int} {away L M : List Int} (h : RouteIs n es a b away L) (k : RouteIs n es a b away M) : L = M := by
  rcases h with ⟨rfl, h⟩ | ⟨h, h2⟩
  · rcases k with ⟨rfl, _⟩ | ⟨k, _⟩
    · rfl
    · exact absurd k (h M)
  · rcases k with ⟨rfl, k⟩ | ⟨k, k2⟩
    · exact absurd h (k L)
    · rcases h2 M k with e | ⟨e, e2⟩
      · rcases k2 L h with e' | ⟨e', _⟩ <;> omega
      · rcases k2 L h with e' | ⟨_, e3⟩
        · omega
        · exact lexL_tri e3 e2
/-- What a call of Route tells: of a graph that is not right nothing. -/
def RouteG (n : Int) (es : List (Int × Int)) (a b : Int) (away L : List Int) : Prop := (RightG n es ∧ RouteIs n es a b away L) ∨ (¬ RightG n es ∧ L = [])
theorem RouteG.one {n : Int} {es : List (Int × Int)} {a b : Int} {away L M : List Int} (h : RouteG n es a b away L) (k : RouteG n es a b away M) : L = M := by
  rcases h with ⟨h, h2⟩ | ⟨h, rfl⟩
  · rcases k with ⟨_, k2⟩ | ⟨k, _⟩
    · exact h2.one k2
    · exact absurd h k
  · rcases k with ⟨k, _⟩ | ⟨_, rfl⟩
    · exact absurd k h
    · rfl

end Go.Proofs.Ytagigeieoijciaa
namespace Go.Proofs.Ytagigeieoijciaa

/-- The edges of the graph that the vertices at l's places induce (F1). -/
def IndE (es : List (Int × Int)) (l : List Int) (E : List (Int × Int)) : Prop := Rises E ∧ ∀ a b : Int, (a, b) ∈ E ↔ ∃ i j : Nat, ∃ (hi : i < l.length) (hj : j < l.length), a = i ∧ b = j ∧ i < j ∧ Adj es l[i] l[j]
theorem IndE.one {es : List (Int × Int)} {l : List Int} {E E' : List (Int × Int)} (h : IndE es l E) (k : IndE es l E') : E = E' := rises_one h.1 k.1 (fun e => by
  obtain ⟨a, b⟩ := e
  exact (h.2 a b).trans (k.2 a b).symm)
/-- What one place more adds is told by its pairs alone. -/
theorem IndE.adj {es : List (Int × Int)} {l : List Int} {E : List (Int × Int)} (h : IndE es l E) {i j : Nat} (hi : i < l.length) (hj : j < l.length) (hne : i ≠ j) : Adj E (i : Int) (j : Int) ↔ Adj es l[i] l[j] := by
  unfold Adj
  rw [h.2, h.2]
  constructor
  · rintro (⟨a, b, ha, hb, e1, e2, hlt, hadj⟩ | ⟨a, b, ha, hb, e1, e2, hlt, hadj⟩)
    · obtain rfl : i = a := by omega
      obtain rfl : j = b := by omega
      exact hadj
    · obtain rfl : j = a := by omega
      obtain rfl : i = b := by omega
      exact hadj.symm
  · intro hadj
    by_cases e : i < j
    · exact Or.inl ⟨i, j, hi, hj, rfl, rfl, e, hadj⟩
    · exact Or.inr ⟨j, i, hj, hi, rfl, rfl, by omega, Adj.symm hadj⟩
theorem nodup_inj {l : List Int} (h : l.Nodup) {i j : Nat} (hi : i < l.length) (hj : j < l.length) (e : l[i] = l[j]) : i = j := by
  by_cases h1 : i < j
  · exact absurd e (List.pairwise_iff_getElem.1 h i j hi hj h1)
  · by_cases h2 : j < i
    · exact absurd e.symm (List.pairwise_iff_getElem.1 h j i hj hi h2)
    · omega
/-- There are no more edges than there were. -/
theorem IndE.len {es : List (Int × Int)} {l : List Int} {E : List (Int × Int)} (h : IndE es l E) (hn : l.Nodup) : E.length ≤ es.length := by
  have hnd := rises_nodup h.1
  -- each edge goes to one of es
  let f : Int × Int → Int × Int := fun e => if (l.getD e.1.toNat 0, l.getD e.2.toNat 0) ∈ es then (l.getD e.1.toNat 0, l.getD e.2.toNat 0) else (l.getD e.2.toNat 0, l.getD e.1.toNat 0)
  have hmem : ∀ e ∈ E, f e ∈ es := fun e he => by
    obtain ⟨a, b⟩ := e
    obtain ⟨i, j, hi, hj, rfl, rfl, hlt, hadj⟩ := (h.2 a b).1 he
    show (if _ then _ else _) ∈ es
    simp only [Int.toNat_natCast, List.getD, List.getElem?_eq_getElem hi, List.getElem?_eq_getElem hj, Option.getD_some]
    split
    · assumption
    · rcases hadj with h1 | h1
      · contradiction
      · exact h1
  have hinj : (E.map f).Nodup := by
    rw [List.nodup_iff_pairwise_ne, List.pairwise_map]
    refine hnd.imp_of_mem (fun {x y} hx hy hne e => hne ?_)
    obtain ⟨a, b⟩ := x
    obtain ⟨c, d⟩ := y
    obtain ⟨i, j, hi, hj, rfl, rfl, hlt, _⟩ := (h.2 a b).1 hx
    obtain ⟨p, q, hp, hq, rfl, rfl, hlt2, _⟩ := (h.2 c d).1 hy
    have e' : (if _ then _ else _ : Int × Int) = (if _ then _ else _) := e
    simp only [Int.toNat_natCast, List.getD, List.getElem?_eq_getElem hi, List.getElem?_eq_getElem hj, List.getElem?_eq_getElem hp, List.getElem?_eq_getElem hq, Option.getD_some] at e'
    have key : (l[i] = l[p] ∧ l[j] = l[q]) ∨ (l[i] = l[q] ∧ l[j] = l[p]) := by
      split at e' <;> split at e' <;> simp only [Prod.mk.injEq] at e' <;> first | exact Or.inl e' | exact Or.inr e' | exact Or.inr ⟨e'.2, e'.1⟩ | exact Or.inl ⟨e'.2, e'.1⟩
    rcases key with ⟨h1, h2⟩ | ⟨h1, h2⟩
    · rw [nodup_inj hn hi hp h1, nodup_inj hn hj hq h2]
    · have := nodup_inj hn hi hq h1
      have := nodup_inj hn hj hp h2
      omega
  have := len_le_of_sub hinj (b := es) (fun e he => by
    obtain ⟨x, hx, rfl⟩ := List.mem_map.1 he
    exact hmem x hx)
  simpa using this
/-- What is induced is right. -/
theorem IndE.right {n : Int} {es : List (Int × Int)} {l : List Int} {E : List (Int × Int)} (hR : RightG n es) (h : IndE es l E) (hn : l.Nodup) (hl : l.length ≤ 1000) : RightG l.length E :=
  ⟨by omega, by omega, Nat.le_trans (h.len hn) hR.2.2.1, fun e he => by
    obtain ⟨a, b⟩ := e
    obtain ⟨i, j, hi, hj, rfl, rfl, hlt, _⟩ := (h.2 a b).1 he
    simp only
    omega, h.1⟩
end Go.Proofs.Ytagigeieoijciaa
namespace Go.Proofs.Ytagigeieoijciaa

/-- All numbers below n but v. -/
def othL (n v : Nat) : List Int := ((List.range n).filter (fun i => i ≠ v)).map (fun i : Nat => (i : Int))
theorem mem_othL {n v : Nat} {x : Int} : x ∈ othL n v ↔ (0 ≤ x ∧ x < n) ∧ x ≠ v := by
  unfold othL
  simp only [List.mem_map, List.mem_filter, List.mem_range, decide_eq_true_eq]
  constructor
  · rintro ⟨i, ⟨h1, h2⟩, rfl⟩; exact ⟨by omega, by omega⟩
  · rintro ⟨h1, h2⟩; exact ⟨x.toNat, ⟨by omega, by omega⟩, by omega⟩
theorem othL_nodup (n v : Nat) : (othL n v).Nodup := by
  unfold othL
  rw [List.nodup_iff_pairwise_ne, List.pairwise_map]
  exact (List.nodup_range.filter _).imp (fun h e => h (by omega))
theorem range_split {n v : Nat} (hv : v < n) : (List.range n).filter (fun i => i ≠ v) = List.range v ++ (List.range (n - v - 1)).map (fun i => i + (v + 1)) := by
  have e : List.range n = List.range v ++ (v :: (List.range (n - v - 1)).map (fun i => i + (v + 1))) := by
    refine List.ext_getElem (by simp; omega) (fun i h1 h2 => ?_)
    simp only [List.length_range] at h1
    by_cases h : i < v
    · rw [List.getElem_append_left (by simpa using h)]; simp
    · rw [List.getElem_append_right (by simpa using h)]
      by_cases h3 : i = v
      · subst h3; simp
      · obtain ⟨d, hd⟩ : ∃ d, i - v = d + 1 := ⟨i - v - 1, by omega⟩
        simp only [List.length_range, hd, List.getElem_cons_succ, List.getElem_map, List.getElem_range]
        omega
  rw [e, List.filter_append, List.filter_cons]
  have h1 : (List.range v).filter (fun i => i ≠ v) = List.range v := by
    rw [List.filter_eq_self]
    intro x hx
    simp at hx ⊢
    omega
  have h2 : ((List.range (n - v - 1)).map (fun i => i + (v + 1))).filter (fun i => i ≠ v) = (List.range (n - v - 1)).map (fun i => i + (v + 1)) := by
    rw [List.filter_eq_self]
    intro x hx
    simp at hx ⊢
    omega
  rw [h1, h2]
  simp
theorem othL_len {n v : Nat} (hv : v < n) : (othL n v).length = n - 1 := by
  unfold othL
  rw [List.length_map, range_split hv]
  simp
  omega
/-- Who stands at place i, when v is gone. -/
def upN (v i : Nat) : Nat := if i < v then i else i + 1
theorem othL_at {n v i : Nat} (hv : v < n) (hi : i < (othL n v).length) : (othL n v)[i] = (upN v i : Int) := by
  have e : othL n v = (List.range v ++ (List.range (n - v - 1)).map (fun i => i + (v + 1))).map (fun i : Nat => (i : Int)) := by unfold othL; rw [range_split hv]
  have hl := othL_len hv
  rw [List.getElem_of_eq e, List.getElem_map]
  unfold upN
  by_cases h : i < v
  · rw [List.getElem_append_left (by simpa using h), if_pos h]; simp
  · rw [List.getElem_append_right (by simpa using h), if_neg h]; simp; omega
/-- A vertex's new number, when v is gone. -/
def dnI (v : Nat) (x : Int) : Int := if x < v then x else x - 1
/-- The edges that do not meet v, renumbered, are those that the others induce. -/
theorem del_ind {n v : Nat} {es : List (Int × Int)} (hR : RightG n es) (hv : v < n) : IndE es (othL n v) ((es.filter (fun e => !(e.1 == (v : Int)) && !(e.2 == (v : Int)))).map (fun e => (dnI v e.1, dnI v e.2))) := by
  have hl := othL_len hv
  refine ⟨?_, fun a b => ?_⟩
  · unfold Rises
    rw [List.pairwise_map]
    refine (hR.2.2.2.2.filter _).imp_of_mem (fun {x y} hx hy h => ?_)
    simp only [List.mem_filter, Bool.and_eq_true, Bool.not_eq_true', beq_eq_false_iff_ne] at hx hy
    rw [ltE_iff] at h ⊢
    unfold dnI
    simp only
    have hxr := hR.2.2.2.1 x hx.1
    have hyr := hR.2.2.2.1 y hy.1
    split <;> split <;> split <;> split <;> omega
  · simp only [List.mem_map, List.mem_filter, Bool.and_eq_true, Bool.not_eq_true', beq_eq_false_iff_ne, Prod.mk.injEq]
    constructor
    · rintro ⟨⟨x, y⟩, ⟨hm, h1, h2⟩, rfl, rfl⟩
      have hr := hR.2.2.2.1 _ hm
      simp only at hr h1 h2
      have ha : 0 ≤ dnI v x ∧ dnI v x < dnI v y ∧ dnI v y < n - 1 := by unfold dnI; split <;> split <;> omega
      obtain ⟨p, hp⟩ : ∃ p : Nat, dnI v x = (p : Int) := ⟨(dnI v x).toNat, by omega⟩
      obtain ⟨q, hq⟩ : ∃ q : Nat, dnI v y = (q : Int) := ⟨(dnI v y).toNat, by omega⟩
      have e1 : (upN v p : Int) = x := by unfold dnI at hp; unfold upN; split at hp <;> split <;> omega
      have e2 : (upN v q : Int) = y := by unfold dnI at hq; unfold upN; split at hq <;> split <;> omega
      rw [hp, hq] at ha ⊢
      refine ⟨p, q, by omega, by omega, rfl, rfl, by omega, ?_⟩
      rw [othL_at hv, othL_at hv]
      rw [e1, e2]
      exact Or.inl hm
    · rintro ⟨i, j, hi, hj, rfl, rfl, hlt, hadj⟩
      rw [othL_at hv, othL_at hv] at hadj
      have hu : upN v i < upN v j ∧ upN v i ≠ v ∧ upN v j ≠ v := by unfold upN; split <;> split <;> omega
      rcases hadj with hm | hm
      · refine ⟨(_, _), ⟨hm, by simp only; omega, by simp only; omega⟩, ?_, ?_⟩
        · unfold dnI upN; split <;> split <;> omega
        · unfold dnI upN; split <;> split <;> omega
      · exfalso
        have := hR.2.2.2.1 _ hm
        simp only at this
        omega
end Go.Proofs.Ytagigeieoijciaa
namespace Go.Proofs.Ytagigeieoijciaa

/-- All are vertices. -/
def InL (n : Int) (l : List Int) : Prop := ∀ x ∈ l, 0 ≤ x ∧ x < n
/-- Induced (F1): the code, how many vertices, the edges. -/
def IndS (n : Int) (es : List (Int × Int)) (l : List Int) (er N : Int) (E : List (Int × Int)) : Prop :=
  (¬ RightG n es ∧ er = 1 ∧ N = 0 ∧ E = []) ∨ (RightG n es ∧ ¬ InL n l ∧ er = 4 ∧ N = 0 ∧ E = []) ∨ (RightG n es ∧ InL n l ∧ ¬ l.Nodup ∧ er = 1 ∧ N = 0 ∧ E = []) ∨ (RightG n es ∧ InL n l ∧ l.Nodup ∧ er = 0 ∧ N = l.length ∧ IndE es l E)
theorem IndS.one {n : Int} {es : List (Int × Int)} {l : List Int} {er N er' N' : Int} {E E' : List (Int × Int)} (h : IndS n es l er N E) (k : IndS n es l er' N' E') : er = er' ∧ N = N' ∧ E = E' := by
  rcases h with ⟨h1, rfl, rfl, rfl⟩ | ⟨h1, h2, rfl, rfl, rfl⟩ | ⟨h1, h2, h3, rfl, rfl, rfl⟩ | ⟨h1, h2, h3, rfl, rfl, h4⟩
  · rcases k with ⟨_, rfl, rfl, rfl⟩ | ⟨k1, _⟩ | ⟨k1, _⟩ | ⟨k1, _⟩
    · exact ⟨rfl, rfl, rfl⟩
    all_goals exact absurd k1 h1
  · rcases k with ⟨k1, _⟩ | ⟨_, _, rfl, rfl, rfl⟩ | ⟨_, k2, _⟩ | ⟨_, k2, _⟩
    · exact absurd h1 k1
    · exact ⟨rfl, rfl, rfl⟩
    all_goals exact absurd k2 h2
  · rcases k with ⟨k1, _⟩ | ⟨_, k2, _⟩ | ⟨_, _, _, rfl, rfl, rfl⟩ | ⟨_, _, k3, _⟩
    · exact absurd h1 k1
    · exact absurd h2 k2
    · exact ⟨rfl, rfl, rfl⟩
    · exact absurd k3 h3
  · rcases k with ⟨k1, _⟩ | ⟨_, k2, _⟩ | ⟨_, _, k3, _⟩ | ⟨_, _, _, rfl, rfl, k4⟩
    · exact absurd h1 k1
    · exact absurd h2 k2
    · exact absurd h3 k3
    · exact ⟨rfl, rfl, h4.one k4⟩
/-- Delete (F2). -/
def DelS (n : Int) (es : List (Int × Int)) (v er N : Int) (E : List (Int × Int)) : Prop :=
  (¬ RightG n es ∧ er = 1 ∧ N = 0 ∧ E = []) ∨ (RightG n es ∧ ¬ (0 ≤ v ∧ v < n) ∧ er = 4 ∧ N = 0 ∧ E = []) ∨ (RightG n es ∧ (0 ≤ v ∧ v < n) ∧ er = 0 ∧ N = n - 1 ∧ IndE es (othL n.toNat v.toNat) E)
theorem DelS.one {n : Int} {es : List (Int × Int)} {v er N er' N' : Int} {E E' : List (Int × Int)} (h : DelS n es v er N E) (k : DelS n es v er' N' E') : er = er' ∧ N = N' ∧ E = E' := by
  rcases h with ⟨h1, rfl, rfl, rfl⟩ | ⟨h1, h2, rfl, rfl, rfl⟩ | ⟨h1, h2, rfl, rfl, h4⟩
  · rcases k with ⟨_, rfl, rfl, rfl⟩ | ⟨k1, _⟩ | ⟨k1, _⟩
    · exact ⟨rfl, rfl, rfl⟩
    all_goals exact absurd k1 h1
  · rcases k with ⟨k1, _⟩ | ⟨_, _, rfl, rfl, rfl⟩ | ⟨_, k2, _⟩
    · exact absurd h1 k1
    · exact ⟨rfl, rfl, rfl⟩
    · exact absurd k2 h2
  · rcases k with ⟨k1, _⟩ | ⟨_, k2, _⟩ | ⟨_, _, rfl, rfl, k4⟩
    · exact absurd h1 k1
    · exact absurd h2 k2
    · exact ⟨rfl, rfl, h4.one k4⟩
/-- Neighbours, when hi's are lo's, too. -/
def MAdj (es : List (Int × Int)) (lo hi x y : Int) : Prop := Adj es x y ∨ (x = lo ∧ y ≠ lo ∧ Adj es hi y) ∨ (y = lo ∧ x ≠ lo ∧ Adj es hi x)
theorem MAdj.symm {es : List (Int × Int)} {lo hi x y : Int} (h : MAdj es lo hi x y) : MAdj es lo hi y x := by
  rcases h with h | h | h
  · exact Or.inl h.symm
  · exact Or.inr (Or.inr h)
  · exact Or.inr (Or.inl h)
/-- The edges, when two neighbours are one (F3). -/
def ConE (n : Nat) (es : List (Int × Int)) (lo hi : Nat) (E : List (Int × Int)) : Prop := Rises E ∧ ∀ a b : Int, (a, b) ∈ E ↔ ∃ i j : Nat, a = i ∧ b = j ∧ i < j ∧ j + 1 < n ∧ MAdj es lo hi (upN hi i) (upN hi j)
theorem ConE.one {n : Nat} {es : List (Int × Int)} {lo hi : Nat} {E E' : List (Int × Int)} (h : ConE n es lo hi E) (k : ConE n es lo hi E') : E = E' := rises_one h.1 k.1 (fun e => by
  obtain ⟨a, b⟩ := e
  exact (h.2 a b).trans (k.2 a b).symm)
/-- Contract (F3). -/
def ConS (n : Int) (es : List (Int × Int)) (a b er N : Int) (E : List (Int × Int)) : Prop :=
  (¬ RightG n es ∧ er = 1 ∧ N = 0 ∧ E = []) ∨ (RightG n es ∧ ¬ ((0 ≤ a ∧ a < n) ∧ (0 ≤ b ∧ b < n)) ∧ er = 4 ∧ N = 0 ∧ E = []) ∨ (RightG n es ∧ ((0 ≤ a ∧ a < n) ∧ (0 ≤ b ∧ b < n)) ∧ ¬ Adj es a b ∧ er = 6 ∧ N = 0 ∧ E = []) ∨ (RightG n es ∧ ((0 ≤ a ∧ a < n) ∧ (0 ≤ b ∧ b < n)) ∧ Adj es a b ∧ er = 0 ∧ N = n - 1 ∧ ConE n.toNat es (min a b).toNat (max a b).toNat E)
theorem ConS.one {n : Int} {es : List (Int × Int)} {a b er N er' N' : Int} {E E' : List (Int × Int)} (h : ConS n es a b er N E) (k : ConS n es a b er' N' E') : er = er' ∧ N = N' ∧ E = E' := by
  rcases h with ⟨h1, rfl, rfl, rfl⟩ | ⟨h1, h2, rfl, rfl, rfl⟩ | ⟨h1, h2, h3, rfl, rfl, rfl⟩ | ⟨h1, h2, h3, rfl, rfl, h4⟩
  · rcases k with ⟨_, rfl, rfl, rfl⟩ | ⟨k1, _⟩ | ⟨k1, _⟩ | ⟨k1, _⟩
    · exact ⟨rfl, rfl, rfl⟩
    all_goals exact absurd k1 h1
  · rcases k with ⟨k1, _⟩ | ⟨_, _, rfl, rfl, rfl⟩ | ⟨_, k2, _⟩ | ⟨_, k2, _⟩
    · exact absurd h1 k1
    · exact ⟨rfl, rfl, rfl⟩
    all_goals exact absurd k2 h2
  · rcases k with ⟨k1, _⟩ | ⟨_, k2, _⟩ | ⟨_, _, _, rfl, rfl, rfl⟩ | ⟨_, _, k3, _⟩
    · exact absurd h1 k1
    · exact absurd h2 k2
    · exact ⟨rfl, rfl, rfl⟩
    · exact absurd k3 h3
  · rcases k with ⟨k1, _⟩ | ⟨_, k2, _⟩ | ⟨_, _, k3, _⟩ | ⟨_, _, _, rfl, rfl, k4⟩
    · exact absurd h1 k1
    · exact absurd h2 k2
    · exact absurd h3 k3
    · exact ⟨rfl, rfl, h4.one k4⟩
end Go.Proofs.Ytagigeieoijciaa
