/-
  Rows of edges: in which order they stand, what a graph that may be is, which edges were told. No program is named here.
  Rows of edges in memory; the calls of graph that only reckon.
  graph.Right and the document's Right: which graphs may be.
  Contracts of the library at this program, laid by the tool, in plain words: slices.SortFunc at rows, slices.Sort, Index, Contains, ContainsFunc at numbers, slices.Clone at edges, sort.Search, math/bits.Mul.
  graph.place: where an edge stands among rising ones, or would stand, and whether it does.
  slices.Clone, slices.Grow at nil, slices.Concat, at edges: walked.
  graph.Add, graph.Without: one edge more, one edge less.
-/
import Derived.Test.YtckcbaegehfkoaaRows
import Derived.WalkKit
import Derived.WalkSpells
import Derived.WalkLawsBesides
import Derived.WalkSmall
import Derived.Lib.OthersKept
import Derived.Laws.Cover4
import Derived.Sort.Grow
import Derived.Lib.QuietBelow
import Derived.BigQuiet
import Derived.Shelf.SlSortCmp.Whole1
import Derived.Shelf.SlSortCmp.NoneTotal
import Derived.Shelf.SlSorted.Search
import Derived.Shelf.Bits.Mul64
import Derived.Shelf.Slices.Turned
import Derived.Shelf.Slices.Clone
import Derived.Shelf.SlicesE.Clone
import Derived.Shelf.SlicesE.IndexFunc
import Derived.Test.YtckcbaegehfkoaaProg
import Derived.Shelf.SlSortCmp.QuietGrown
import Derived.Lib.AppendZeros
import Derived.Lib.SliceRun
import Derived.Laws.AppendOwnNone
import Derived.Deep.DeepCutAuto
import Derived.Deep.RegionHeld3
namespace Go.Proofs.Ytckcbaegehfkoaa

/-- One edge stands ahead of another one. -/
def ltE (x y : Int × Int) : Bool := decide (x.1 < y.1 ∨ (x.1 = y.1 ∧ x.2 < y.2))
theorem ltE_iff (x y : Int × Int) : ltE x y = true ↔ (x.1 < y.1 ∨ (x.1 = y.1 ∧ x.2 < y.2)) := by unfold ltE; rw [decide_eq_true_eq]
theorem ltE_no (x y : Int × Int) : ltE x y = false ↔ ¬ (x.1 < y.1 ∨ (x.1 = y.1 ∧ x.2 < y.2)) := by unfold ltE; rw [decide_eq_false_iff_not]
theorem ltE_irrefl (x : Int × Int) : ltE x x = false := by rw [ltE_no]; omega
theorem ltE_trans {x y z : Int × Int} (h : ltE x y = true) (h' : ltE y z = true) : ltE x z = true := by rw [ltE_iff] at *; omega
theorem ltE_asymm {x y : Int × Int} (h : ltE x y = true) : ltE y x = false := by rw [ltE_iff] at h; rw [ltE_no]; omega
theorem ltE_tri (x y : Int × Int) (h : ltE x y = false) (h' : ltE y x = false) : x = y := by
  rw [ltE_no] at h h'
  exact Prod.ext (by omega) (by omega)
theorem ltE_ntrans {x y z : Int × Int} (h : ltE x y = false) (h' : ltE y z = false) : ltE x z = false := by rw [ltE_no] at *; omega

def Rises (es : List (Int × Int)) : Prop := es.Pairwise (fun x y => ltE x y = true)
theorem rises_nil : Rises [] := List.Pairwise.nil
theorem rises_cons {x : Int × Int} {es : List (Int × Int)} : Rises (x :: es) ↔ (∀ y ∈ es, ltE x y = true) ∧ Rises es := List.pairwise_cons

/-- Rising rows that have the same edges are the same. -/
theorem rises_one : ∀ {a b : List (Int × Int)}, Rises a → Rises b → (∀ e, e ∈ a ↔ e ∈ b) → a = b
  | [], [], _, _, _ => rfl
  | [], y :: b, _, _, h => by have := (h y).2 (by simp); simp at this
  | x :: a, [], _, _, h => by have := (h x).1 (by simp); simp at this
  | x :: a, y :: b, ha, hb, h => by
    rw [rises_cons] at ha hb
    have hxy : x = y := by
      have h1 := (h x).1 (by simp)
      have h2 := (h y).2 (by simp)
      rcases List.mem_cons.1 h1 with e | h1
      · exact e
      rcases List.mem_cons.1 h2 with e | h2
      · exact e.symm
      have l1 := hb.1 x h1
      have l2 := ha.1 y h2
      rw [ltE_asymm l1] at l2
      exact absurd l2 (by simp)
    subst hxy
    congr 1
    refine rises_one ha.2 hb.2 (fun e => ⟨fun he => ?_, fun he => ?_⟩)
    · rcases List.mem_cons.1 ((h e).1 (by simp [he])) with e1 | h1
      · subst e1; have := ha.1 e he; rw [ltE_irrefl] at this; simp at this
      · exact h1
    · rcases List.mem_cons.1 ((h e).2 (by simp [he])) with e1 | h1
      · subst e1; have := hb.1 e he; rw [ltE_irrefl] at this; simp at this
      · exact h1

theorem rises_of_chain : ∀ (es : List (Int × Int)), (∀ i (h : i + 1 < es.length), ltE (es[i]'(by omega)) es[i + 1] = true) → Rises es
  | [], _ => rises_nil
  | [x], _ => by unfold Rises; simp
  | x :: y :: es, h => by
    have hr : Rises (y :: es) := rises_of_chain (y :: es) (fun i hi => h (i + 1) (by simpa using hi))
    have h0 := h 0 (by simp)
    simp only [List.getElem_cons_zero, List.getElem_cons_succ, Nat.zero_add] at h0
    refine rises_cons.2 ⟨fun z hz => ?_, hr⟩
    rcases List.mem_cons.1 hz with rfl | hz
    · exact h0
    · exact ltE_trans h0 ((rises_cons.1 hr).1 z hz)
theorem rises_at {es : List (Int × Int)} (h : Rises es) {i j : Nat} (hij : i < j) (hj : j < es.length) : ltE (es[i]'(by omega)) es[j] = true :=
  List.pairwise_iff_getElem.1 h i j (by omega) hj hij

/-- A graph that may be. -/
def RightG (n : Int) (es : List (Int × Int)) : Prop := 0 ≤ n ∧ n ≤ 1000 ∧ es.length ≤ 4000 ∧ (∀ e ∈ es, 0 ≤ e.1 ∧ e.1 < e.2 ∧ e.2 < n) ∧ Rises es
/-- The same, place by place. -/
def OkAt (n : Int) (es : List (Int × Int)) (i : Nat) : Prop := ∀ h : i < es.length, (0 ≤ es[i].1 ∧ es[i].1 < es[i].2 ∧ es[i].2 < n) ∧ (0 < i → ltE (es[i - 1]'(by omega)) es[i] = true)
theorem right_of {n : Int} {es : List (Int × Int)} (h0 : 0 ≤ n) (h1 : n ≤ 1000) (h2 : es.length ≤ 4000) (h : ∀ i, i < es.length → OkAt n es i) : RightG n es := by
  refine ⟨h0, h1, h2, fun e he => ?_, rises_of_chain es (fun i hi => ?_)⟩
  · obtain ⟨i, hi, rfl⟩ := List.getElem_of_mem he
    exact (h i hi hi).1
  · exact (h (i + 1) hi hi).2 (by omega)
theorem RightG.at {n : Int} {es : List (Int × Int)} (h : RightG n es) (i : Nat) : OkAt n es i := fun hi =>
  ⟨h.2.2.2.1 _ (List.getElem_mem _), fun h0 => rises_at h.2.2.2.2 (by omega) hi⟩

/-- The edges that were told, the lesser end first; a vertex beside itself is passed over. -/
def prs (l : List (Int × Int)) : List (Int × Int) := (l.filter (fun e => !(e.1 == e.2))).map (fun e => (min e.1 e.2, max e.1 e.2))
theorem prs_nil : prs [] = [] := rfl
theorem prs_snoc (l : List (Int × Int)) (e : Int × Int) : prs (l ++ [e]) = prs l ++ prs [e] := by unfold prs; rw [List.filter_append, List.map_append]
theorem prs_same {e : Int × Int} (h : e.1 = e.2) : prs [e] = [] := by unfold prs; simp [h]
theorem prs_one {e : Int × Int} (h : e.1 ≠ e.2) : prs [e] = [(min e.1 e.2, max e.1 e.2)] := by unfold prs; simp [h]
theorem mem_prs {l : List (Int × Int)} {x : Int × Int} : x ∈ prs l ↔ ∃ e ∈ l, e.1 ≠ e.2 ∧ x = (min e.1 e.2, max e.1 e.2) := by
  unfold prs
  simp only [List.mem_map, List.mem_filter]
  constructor
  · rintro ⟨e, ⟨h1, h2⟩, rfl⟩; exact ⟨e, h1, by simpa using h2, rfl⟩
  · rintro ⟨e, h1, h2, rfl⟩; exact ⟨e, ⟨h1, by simpa using h2⟩, rfl⟩
theorem prs_len (l : List (Int × Int)) : (prs l).length ≤ l.length := by unfold prs; rw [List.length_map]; exact List.length_filter_le _ _

def AllIn (n : Int) (l : List (Int × Int)) : Prop := ∀ e ∈ l, (0 ≤ e.1 ∧ e.1 < n) ∧ (0 ≤ e.2 ∧ e.2 < n)
/-- The edges, in order, each once. -/
def IsNorm (l es : List (Int × Int)) : Prop := Rises es ∧ ∀ e, e ∈ es ↔ e ∈ prs l
theorem IsNorm.one {l a b : List (Int × Int)} (h : IsNorm l a) (h' : IsNorm l b) : a = b := rises_one h.1 h'.1 (fun e => (h.2 e).trans (h'.2 e).symm)
theorem IsNorm.right {n : Int} {l es : List (Int × Int)} (h : IsNorm l es) (hl : AllIn n l) (h0 : 0 ≤ n) (h1 : n ≤ 1000) (h2 : es.length ≤ 4000) : RightG n es := by
  refine ⟨h0, h1, h2, fun e he => ?_, h.1⟩
  obtain ⟨x, hx, hne, rfl⟩ := mem_prs.1 ((h.2 e).1 he)
  have := hl x hx
  simp only
  omega
theorem rises_nodup {es : List (Int × Int)} (h : Rises es) : es.Nodup := by
  refine List.Pairwise.imp ?_ h
  intro a b hab e
  subst e
  rw [ltE_irrefl] at hab
  simp at hab
theorem len_le_of_sub {a b : List (Int × Int)} (h : a.Nodup) (hs : ∀ e ∈ a, e ∈ b) : a.length ≤ b.length := by
  induction a generalizing b with
  | nil => simp
  | cons x a ih =>
    have hx := hs x (by simp)
    have hnd := List.nodup_cons.1 h
    have := ih (b := b.erase x) hnd.2 (fun e he => by
      refine (List.mem_erase_of_ne ?_).2 (hs e (by simp [he]))
      rintro rfl
      exact hnd.1 he)
    rw [List.length_erase_of_mem hx] at this
    have : 0 < b.length := List.length_pos_of_mem hx
    simp; omega
theorem IsNorm.len {l es : List (Int × Int)} (h : IsNorm l es) : es.length ≤ l.length :=
  Nat.le_trans (len_le_of_sub (rises_nodup h.1) (fun e he => (h.2 e).1 he)) (prs_len l)

end Go.Proofs.Ytckcbaegehfkoaa
namespace Go.Proofs.Ytckcbaegehfkoaa
open Go.RowKit Go.Lib

theorem Try.info59 : (Try.prog.info? 59).map (fun i => (i.zero, i.size, i.bytes)) = some (some (.agg #[.int .i64 0, .int .i64 0]), 2, 16) := by kernel_rfl
theorem Try.info3 : (Try.prog.info? 3).map (fun i => (i.zero, i.size, i.bytes)) = some (some (.int .i64 0), 1, 8) := by kernel_rfl

theorem ret_bool {a b : Bool} (h : a = b) : Ending.returned (.bool a) = .returned (.bool b) := by rw [h]
theorem ex_eq {α : Type} (x : α) : ∃ y, y = x := ⟨x, rfl⟩
theorem add_at (b off j : Nat) : (⟨b, off, none⟩ : Addr).add j = ⟨b, off + j, none⟩ := by unfold Addr.add; split <;> simp_all
theorem own_row {w : World} {base : Nat} {e : TypeId} {size : Nat} {v : Value} {n : Nat} {xs : List Value} (h : w.ownsRow base e size v n xs) (hn : 0 < n) :
    ∃ g cap, v = .slice (some ⟨g, 0, none⟩) n cap ∧ base ≤ g ∧ g < w.heap.size ∧ n ≤ cap ∧ ∀ j u, xs[j]? = some u → w.cell? ⟨g, j, none⟩ = some u := by
  have hc := h
  rcases h.2 with ⟨_, h0⟩ | ⟨g, cap, cur, hv, hb, hg, hnc, _⟩
  · omega
  · refine ⟨g, cap, hv, hb, (Array.getElem?_eq_some_iff.1 hg).1, hnc, fun j u hu => ?_⟩
    have := hc.cells (g := g) (by rw [hv]; rfl) j u hu
    rw [add_at, Nat.zero_add] at this
    exact this
theorem own_below {w w' : World} {base : Nat} {e : TypeId} {size : Nat} {v : Value} {n : Nat} {xs : List Value} (h : w.ownsRow base e size v n xs) (hb : Below w.heap.size w w') : w'.ownsRow base e size v n xs := by
  refine ⟨h.1, ?_⟩
  rcases h.2 with h2 | ⟨g, cap, cur, hv, hg, hgc, r⟩
  · exact Or.inl h2
  · exact Or.inr ⟨g, cap, cur, hv, hg, (hb.block g (Array.getElem?_eq_some_iff.1 hgc).1).trans hgc, r⟩

/-- The cells of a row of edges. -/
def cellsE : List (Int × Int) → List Value
  | [] => []
  | e :: es => .int .i64 e.1 :: .int .i64 e.2 :: cellsE es
theorem cellsE_append (a b : List (Int × Int)) : cellsE (a ++ b) = cellsE a ++ cellsE b := by
  induction a with
  | nil => rfl
  | cons e a ih => simp [cellsE, ih]
theorem cellsE_len (a : List (Int × Int)) : (cellsE a).length = a.length * 2 := by
  induction a with
  | nil => rfl
  | cons e a ih => simp [cellsE, ih]; omega
theorem cellsE_at (es : List (Int × Int)) : ∀ (k : Nat) (h : k < es.length), (cellsE es)[k * 2]? = some (.int .i64 es[k].1) ∧ (cellsE es)[k * 2 + 1]? = some (.int .i64 es[k].2) := by
  induction es with
  | nil => intro k h; simp at h
  | cons r rs ih =>
    intro k h
    cases k with
    | zero => simp [cellsE]
    | succ k =>
      have := ih k (by simpa using h)
      rw [show (k + 1) * 2 = k * 2 + 1 + 1 by omega]
      simp only [cellsE, List.getElem?_cons_succ, List.getElem_cons_succ]
      exact this
/-- A row of edges in memory. -/
def EAt (w : World) (a : Option Addr) (es : List (Int × Int)) : Prop :=
  0 < es.length → ∃ g off, a = some ⟨g, off, none⟩ ∧ g < w.heap.size ∧
    ∀ k (hk : k < es.length), w.cell? ⟨g, off + k * 2, none⟩ = some (.int .i64 es[k].1) ∧ w.cell? ⟨g, off + k * 2 + 1, none⟩ = some (.int .i64 es[k].2)
theorem eat_nil (w : World) (a : Option Addr) : EAt w a [] := fun h => absurd h (by simp)
theorem EAt.below {w w' : World} {a : Option Addr} {es : List (Int × Int)} (h : EAt w a es) (hb : Below w.heap.size w w') : EAt w' a es := by
  intro h0
  obtain ⟨g, off, ha, hg, hc⟩ := h h0
  exact ⟨g, off, ha, Nat.lt_of_lt_of_le hg hb.size, fun k hk => ⟨(hb.cell (p := ⟨g, off + k * 2, none⟩) hg).trans (hc k hk).1, (hb.cell (p := ⟨g, off + k * 2 + 1, none⟩) hg).trans (hc k hk).2⟩⟩
theorem EAt.set {w : World} {a : Option Addr} {es : List (Int × Int)} {p : Addr} (h : EAt w a es) (hne : ∀ g off, 0 < es.length → a = some ⟨g, off, none⟩ → g ≠ p.block) (v : Value) : EAt (w.setCell p v) a es := by
  intro h0
  obtain ⟨g, off, ha, hg, hc⟩ := h h0
  have hn := hne g off h0 ha
  refine ⟨g, off, ha, by simpa using hg, fun k hk => ?_⟩
  rw [World.cell?_setCell_other _ _ _ _ (fun e => hn (congrArg Addr.block e).symm), World.cell?_setCell_other _ _ _ _ (fun e => hn (congrArg Addr.block e).symm)]
  exact hc k hk
theorem EAt.cells {w : World} {g off : Nat} {es : List (Int × Int)} (h : EAt w (some ⟨g, off, none⟩) es) (j : Nat) (u : Value) (hu : (cellsE es)[j]? = some u) : w.cell? ⟨g, off + j, none⟩ = some u := by
  have hj : j < es.length * 2 := by rw [← cellsE_len]; exact (List.getElem?_eq_some_iff.1 hu).1
  obtain ⟨g', off', e, _, hc⟩ := h (by omega)
  simp only [Option.some.injEq, Addr.mk.injEq, and_true] at e
  obtain ⟨rfl, rfl⟩ := e
  have hk := hc (j / 2) (by omega)
  have hk2 := cellsE_at es (j / 2) (by omega)
  rcases Nat.mod_two_eq_zero_or_one j with h0 | h0
  · rw [show j / 2 * 2 = j by omega] at hk hk2
    rw [hk2.1] at hu
    rw [← Option.some.inj hu]
    exact hk.1
  · rw [show j / 2 * 2 + 1 = j by omega] at hk2
    rw [show off + j / 2 * 2 + 1 = off + j by omega] at hk
    rw [hk2.2] at hu
    rw [← Option.some.inj hu]
    exact hk.2
theorem eat_of_cells {w : World} {g off : Nat} {es : List (Int × Int)} (hg : g < w.heap.size) (h : ∀ j u, (cellsE es)[j]? = some u → w.cell? ⟨g, off + j, none⟩ = some u) : EAt w (some ⟨g, off, none⟩) es := fun _ =>
  ⟨g, off, rfl, hg, fun k hk => ⟨h _ _ (cellsE_at es k hk).1, by rw [Nat.add_assoc]; exact h _ _ (cellsE_at es k hk).2⟩⟩
/-- A slice's capacity. -/
def Sl (a : Option Addr) (cap n : Nat) : Prop := n ≤ cap ∧ (a = none → cap = 0) ∧ (a = none ∨ ∃ g off, a = some ⟨g, off, none⟩)
theorem sl_nil : Sl none 0 0 := ⟨Nat.le_refl _, fun _ => rfl, Or.inl rfl⟩
theorem sl_some {g off cap n : Nat} (h : n ≤ cap) : Sl (some ⟨g, off, none⟩) cap n := ⟨h, (fun h => by cases h), Or.inr ⟨g, off, rfl⟩⟩
theorem eat_own {w : World} {base : Nat} {e : TypeId} {v : Value} {es : List (Int × Int)} (h : w.ownsRow base e 2 v es.length (cellsE es)) : ∃ a cap, v = .slice a es.length cap ∧ Sl a cap es.length ∧ EAt w a es := by
  by_cases hn : 0 < es.length
  · obtain ⟨g, cap, hv, hb, hg, hc, hcs⟩ := own_row h hn
    exact ⟨_, cap, hv, sl_some hc, eat_of_cells hg (fun j u hu => by rw [Nat.zero_add]; exact hcs j u hu)⟩
  · rcases h.2 with ⟨hv, h0⟩ | ⟨g, cap, cur, hv, _, _, hc, _⟩
    · exact ⟨none, 0, by rw [hv, h0], by rw [h0]; exact sl_nil, fun h => absurd h hn⟩
    · exact ⟨_, cap, hv, sl_some hc, fun h => absurd h hn⟩

theorem grow_below (w : World) (os : Array Obj) : Below w.heap.size w (Sort.grow w os) := by
  obtain ⟨l, rfl⟩ : ∃ l : List Obj, os = l.toArray := ⟨os.toList, by simp⟩
  have h : ∀ (l : List Obj) (w : World), ∃ w', Sort.grow w l.toArray = w' ∧ Below w.heap.size w w' := by
    intro l
    induction l with
    | nil => intro w; exact ⟨w, Sort.grow_empty w, Below.refl _ _⟩
    | cons o l ih =>
      intro w
      obtain ⟨w', h1, h2⟩ := ih (w.alloc o)
      refine ⟨w', ?_, ?_⟩
      · rw [← h1, Sort.alloc_eq_grow, Sort.grow_grow]
        congr 1
        simp
      · exact ((Below.refl _ w).alloc (Nat.le_refl _) o).trans (h2.mono (by simp))
  obtain ⟨w', h1, h2⟩ := h l w
  rw [h1]
  exact h2

theorem results_cell1 {fn : Func} {p : Tmp} {ty : TypeId} (h : fn.results = #[.cell p ty]) (tmps : Array Value) (P : Program) (w : World) :
    (results fn tmps).run P w = ((asAddr (tmps.getD p undef)).run P w).andThen fun a w₁ => (loadVar ty a).run P w₁ := by
  simp only [results, h]
  simp [Sem.run_bind, Result.andThen]

set_option maxHeartbeats 400000 in
theorem before_any (x y : Int × Int) (w : World) : Calls Try.prog 90 #[.agg #[.int .i64 x.1, .int .i64 x.2], .agg #[.int .i64 y.1, .int .i64 y.2]] w fun e w' => e = .returned (.bool (ltE x y)) ∧ ∃ os, w' = Sort.grow w os := by
  go_enter Try.func90, Try.ntmps90
  go_wp2
  all_goals go_ret
  all_goals
    refine ⟨ret_bool ?_, _, by rw [Sort.alloc_eq_grow, Sort.alloc_eq_grow, Sort.grow_grow]⟩
    unfold ltE
    first | (simp; omega) | (rw [Bool.eq_iff_iff]; simp; omega)

/-- What the closure of eachOnce says. -/
def cmpE (x y : Int × Int) : Int := if x = y then 0 else if ltE x y = true then -1 else 1
theorem cmpE_lt (x y : Int × Int) : decide (cmpE x y < 0) = ltE x y := by
  unfold cmpE
  by_cases h : x = y
  · rw [if_pos h, h, ltE_irrefl]; rfl
  · rw [if_neg h]
    cases ltE x y <;> simp

end Go.Proofs.Ytckcbaegehfkoaa
namespace Go.Proofs.Ytckcbaegehfkoaa
open Go.RowKit Go.Lib

theorem EAt.at {w : World} {a : Option Addr} {es : List (Int × Int)} (h : EAt w a es) {k : Nat} (hk : k < es.length) : ∃ g off, a = some ⟨g, off, none⟩ ∧ g < w.heap.size ∧ ∀ w', Below w.heap.size w w' → ∀ j (hj : j < es.length), w'.cell? ⟨g, off + j * 2, none⟩ = some (.int .i64 es[j].1) ∧ w'.cell? ⟨g, off + j * 2 + 1, none⟩ = some (.int .i64 es[j].2) := by
  obtain ⟨g, off, ha, hg, hc⟩ := h (by omega)
  exact ⟨g, off, ha, hg, fun w' hb j hj => ⟨(hb.cell (p := ⟨g, off + j * 2, none⟩) hg).trans (hc j hj).1, (hb.cell (p := ⟨g, off + j * 2 + 1, none⟩) hg).trans (hc j hj).2⟩⟩

theorem cell_alloc_old {w : World} {a : Addr} {v : Value} (h : w.cell? a = some v) (o : Obj) : (w.alloc o).cell? a = some v := (((Below.refl _ w).alloc (Nat.le_refl _) o).cell (block_lt_of_cell h)).trans h
theorem wrap_small (m : Nat) (h : m ≤ 1000000) : IntKind.i64.wrap (m : Int) = m := by simp [IntKind.wrap, IntKind.bits, IntKind.signed]; omega
theorem b_false {b : Bool} {p : Prop} (h : b = true ↔ p) (hn : ¬ p) : b = false := by
  cases b
  · rfl
  · exact absurd (h.1 rfl) hn
theorem before_below (a b c d : Int) (w : World) : Calls Try.prog 90 #[.agg #[.int .i64 a, .int .i64 b], .agg #[.int .i64 c, .int .i64 d]] w fun e w' => e = .returned (.bool (ltE (a, b) (c, d))) ∧ Below w.heap.size w w' :=
  (before_any (a, b) (c, d) w).mono fun _ _ ⟨h, os, hw⟩ => ⟨h, hw ▸ grow_below w os⟩

theorem okAt_next {n : Int} {es : List (Int × Int)} {k : Nat} {hk : k < es.length} {e1 e2 : Int} (h : ∀ j, j < k → OkAt n es j) (he : e1 = es[k].1 ∧ e2 = es[k].2) (hin : 0 ≤ e1 ∧ e1 < e2 ∧ e2 < n) (hlt : 0 < k → ltE (es[k - 1]'(by omega)) es[k] = true) : ∀ j, j < k + 1 → OkAt n es j := by
  intro j hj
  by_cases h' : j < k
  · exact h j h'
  · obtain rfl : j = k := by omega
    intro _
    rw [he.1, he.2] at hin
    exact ⟨hin, hlt⟩

set_option maxHeartbeats 1000000 in
set_option maxRecDepth 100000 in
theorem right_any (n : Int) (a : Option Addr) (cap : Nat) (es : List (Int × Int)) (b : Bool) (w : World) (hN : es.length ≤ 1000000) (hE : EAt w a es) (hb : b = true ↔ RightG n es) :
    Calls Try.prog 62 #[.agg #[.int .i64 n, .slice a es.length cap]] w fun e w' => e = .returned (.bool b) ∧ Below w.heap.size w w' := by
  obtain ⟨N, hNe⟩ : ∃ N, N = es.length := ⟨_, rfl⟩
  rw [← hNe] at hN ⊢
  have HN : Hid (N = es.length) := hNe
  have HE : Hid (EAt w a es) := hE
  have HB : Hid (b = true ↔ RightG n es) := hb
  clear hNe hE hb
  by_cases h1 : n < 0
  · obtain rfl : b = false := b_false HB.out (fun h => absurd h.1 (by omega))
    clear HB
    go_enter Try.func62, Try.ntmps62
    go_wp2
    go_ret
    exact ⟨rfl, (Below.refl _ _).alloc (Nat.le_refl _) _⟩
  by_cases h2 : 1000 < n
  · obtain rfl : b = false := b_false HB.out (fun h => absurd h.2.1 (by omega))
    clear HB
    go_enter Try.func62, Try.ntmps62
    go_wp2
    go_ret
    exact ⟨rfl, (Below.refl _ _).alloc (Nat.le_refl _) _⟩
  by_cases h3 : 4000 < N
  · obtain rfl : b = false := b_false HB.out (fun h => absurd h.2.2.1 (by rw [← HN.out]; omega))
    clear HB
    go_enter Try.func62, Try.ntmps62
    go_wp2
    go_ret
    exact ⟨rfl, (Below.refl _ _).alloc (Nat.le_refl _) _⟩
  have h1' : 0 ≤ n := by omega
  have h2' : n ≤ 1000 := by omega
  have h3' : N ≤ 4000 := by omega
  clear h1 h2 h3
  go_enter Try.func62, Try.ntmps62
  go_wp2
  go_loopw [22] (fun i wr => ∃ k : Nat, k ≤ N ∧ i = .int .i64 k ∧ Hid (∀ j, j < k → OkAt n es j) ∧ Below w.heap.size w wr ∧ w.heap.size < wr.heap.size ∧ wr.cell? ⟨w.heap.size, 0, none⟩ = some (.int .i64 n) ∧ wr.cell? ⟨w.heap.size, 1, none⟩ = some (.slice a N cap)) (fun i _ => N - (RowKit.intOf i).toNat)
  case atStart =>
    refine ⟨0, Nat.zero_le _, rfl, fun j hj => absurd hj (by omega), (Below.refl _ _).alloc (Nat.le_refl _) _, by simp, ?_, ?_⟩
    · exact cell_of_heap (heap_alloc_new _ _) 0
    · exact cell_of_heap (heap_alloc_new _ _) 1
  case round =>
    obtain ⟨k, hk, rfl, hok, hbr, hsz, hc0, hc1⟩ := hrel
    by_cases hlt : k < N
    · have hkr : k < es.length := by rw [← HN.out]; exact hlt
      obtain ⟨g, off, rfl, hg, hcs⟩ := HE.out.at hkr
      obtain ⟨e1, he1⟩ := ex_eq es[k].1
      obtain ⟨e2, he2⟩ := ex_eq es[k].2
      have d := hcs wr hbr k hkr
      rw [← he1, ← he2] at d
      obtain ⟨d0, d1⟩ := d
      have HES : Hid (e1 = es[k].1 ∧ e2 = es[k].2) := ⟨he1, he2⟩
      have HCS : Hid (∀ j (hj : j < es.length), wr.cell? ⟨g, off + j * 2, none⟩ = some (.int .i64 es[j].1) ∧ wr.cell? ⟨g, off + j * 2 + 1, none⟩ = some (.int .i64 es[j].2)) := hcs wr hbr
      clear hcs he1 he2
      by_cases hin : 0 ≤ e1 ∧ e1 < e2 ∧ e2 < n
      · obtain ⟨i1, i2, i3⟩ := hin
        have hbW : Below w.heap.size w (wr.alloc (.cells #[.int .i64 e1, .int .i64 e2] 59)) := hbr.alloc hbr.size _
        have hnW : (wr.alloc (.cells #[.int .i64 e1, .int .i64 e2] 59)).heap[wr.heap.size]? = some (.cells #[.int .i64 e1, .int .i64 e2] 59) := heap_alloc_new _ _
        have b0 := cell_of_heap hnW 0
        have b1 := cell_of_heap hnW 1
        have f0 : (wr.alloc (.cells #[.int .i64 e1, .int .i64 e2] 59)).cell? ⟨w.heap.size, 0, none⟩ = some (.int .i64 n) := cell_alloc_old hc0 _
        have f1 : (wr.alloc (.cells #[.int .i64 e1, .int .i64 e2] 59)).cell? ⟨w.heap.size, 1, none⟩ = some (.slice (some ⟨g, off, none⟩) N cap) := cell_alloc_old hc1 _
        by_cases hk0 : k = 0
        · subst hk0
          clear b0 b1 f0 f1 hnW
          rw [Nat.zero_mul, Nat.add_zero] at d0 d1
          go_wp2
          go_quiet (fail)
          go_wp2
          go_roundw
          case rel => exact ⟨1, by omega, by go_num, okAt_next hok.out HES.out ⟨i1, i2, i3⟩ (fun h => absurd h (by omega)), below_drewN hbW _, by simp; omega, by go_simp, by go_simp⟩
          case measure => simp [RowKit.intOf]; omega
        · have hk1 : k - 1 < es.length := by omega
          obtain ⟨p1, hp1⟩ := ex_eq es[k - 1].1
          obtain ⟨p2, hp2⟩ := ex_eq es[k - 1].2
          have c := HCS.out (k - 1) hk1
          rw [← hp1, ← hp2] at c
          obtain ⟨c0, c1⟩ := c
          have g0 : (wr.alloc (.cells #[.int .i64 e1, .int .i64 e2] 59)).cell? ⟨g, off + (k - 1) * 2, none⟩ = some (.int .i64 p1) := cell_alloc_old c0 _
          have g1 : (wr.alloc (.cells #[.int .i64 e1, .int .i64 e2] 59)).cell? ⟨g, off + (k - 1) * 2 + 1, none⟩ = some (.int .i64 p2) := cell_alloc_old c1 _
          have HPS : Hid (p1 = es[k - 1].1 ∧ p2 = es[k - 1].2) := ⟨hp1, hp2⟩
          obtain ⟨m, rfl⟩ : ∃ m, k = m + 1 := ⟨k - 1, by omega⟩
          rw [Nat.add_sub_cancel] at g0 g1
          clear hp1 hp2 c0 c1
          obtain ⟨r, hr⟩ := ex_eq (ltE (p1, p2) (e1, e2))
          have HR : Hid (r = ltE (p1, p2) (e1, e2)) := hr
          have HC : ∀ W, Calls Try.prog 90 #[.agg #[.int .i64 p1, .int .i64 p2], .agg #[.int .i64 e1, .int .i64 e2]] W fun e w' => e = .returned (.bool r) ∧ Below W.heap.size W w' := fun W => by rw [hr]; exact before_below p1 p2 e1 e2 W
          clear hr
          have q0 : (m : Int) < (N : Int) := by omega
          go_wp2_with fail
          obtain ⟨W, hW⟩ : ∃ W, W = wr.alloc (.cells #[.int .i64 e1, .int .i64 e2] 59) := ⟨_, rfl⟩
          have hszW : w.heap.size < (wr.alloc (.cells #[.int .i64 e1, .int .i64 e2] 59)).heap.size := by simp; omega
          rw [← hW] at b0 b1 f0 f1 g0 g1 hbW hszW ⊢
          clear hW
          have B0 := fun d os => cell_regrown b0 d os
          have B1 := fun d os => cell_regrown b1 d os
          have F1 := fun d os => cell_regrown f1 d os
          have G0 := fun d os => cell_regrown g0 d os
          have G1 := fun d os => cell_regrown g1 d os
          clear b0 b1 f1 g0 g1
          have wm := wrap_small m (by omega)
          refine wp_region_quiet_below (by kernel_rfl) (by kernel_rfl) ?_
          repeat (quiet_step (exact Calls.regrown_of (HC _)))
          refine wpQuiet_nil ?_
          intro _ hw'
          obtain ⟨⟨dq, osq⟩, hw''⟩ := hw'
          subst hw''
          have hbQ : Below w.heap.size w (Sort.grow (redrawn W dq) osq) := hbW.trans ((below_regrown W dq osq).mono hbW.size)
          have F0 := cell_regrown f0 dq osq
          have F1' := F1 dq osq
          have hszQ := Nat.lt_of_lt_of_le hszW (below_regrown W dq osq).size
          obtain ⟨V, hV⟩ : ∃ V, V = Sort.grow (redrawn W dq) osq := ⟨_, rfl⟩
          rw [← hV] at F0 F1' hbQ hszQ ⊢
          clear B0 B1 F1 G0 G1 hV f0
          cases r with
          | false =>
            obtain rfl : b = false := b_false HB.out (fun h => by
              have := (h.at (m + 1) hkr).2 (by omega)
              simp only [Nat.add_sub_cancel] at this
              obtain ⟨hp1, hp2⟩ := HPS.out
              obtain ⟨he1, he2⟩ := HES.out
              have hr := HR.out
              rw [hp1, hp2, he1, he2] at hr
              simp only [Nat.add_sub_cancel] at hr
              rw [hr.symm] at this
              simp at this)
            clear HB
            go_wp2
            go_ret
            exact ⟨rfl, hbQ⟩
          | true =>
            go_wp2
            go_roundw
            case rel =>
              refine ⟨m + 1 + 1, by omega, by go_num, okAt_next hok.out HES.out ⟨i1, i2, i3⟩ (fun h => ?_), hbQ, hszQ, F0, F1'⟩
              obtain ⟨hp1, hp2⟩ := HPS.out
              obtain ⟨he1, he2⟩ := HES.out
              have hr := HR.out
              rw [hp1, hp2, he1, he2] at hr
              simp only [Nat.add_sub_cancel] at hr ⊢
              exact hr.symm
            case measure => simp [RowKit.intOf]; omega
      · obtain rfl : b = false := b_false HB.out (fun h => by
          have := (h.at k hkr).1
          rw [← HES.out.1, ← HES.out.2] at this
          exact hin this)
        clear HB
        go_wp2
        all_goals go_ret
        all_goals exact ⟨rfl, hbr.alloc hbr.size _⟩
    · obtain rfl : k = N := by omega
      obtain rfl : b = true := HB.out.2 (right_of h1' h2' (by rw [← HN.out]; exact h3') (fun i hi => hok.out i (by rw [HN.out]; exact hi)))
      clear HB
      go_wp2
      go_ret
      exact ⟨rfl, hbr⟩
end Go.Proofs.Ytckcbaegehfkoaa
namespace Go.Proofs
open Go.Shelf
def Try.sortR_ren : Go.Shelf.Ren := ⟨fun | 6 => 79 | 15 => 82 | 14 => 100 | 28 => 109 | 29 => 110 | 20 => 114 | 21 => 115 | 22 => 116 | 23 => 117 | 24 => 118 | 25 => 119 | 26 => 120 | 27 => 121 | 46 => 129 | 47 => 123 | 48 => 124 | 49 => 130 | 50 => 131 | 57 => 133 | n => n, fun | 22 => 26 | 24 => 25 | 25 => 110 | 3 => 3 | 39 => 113 | 0 => 0 | 53 => 137 | 55 => 139 | 4 => 4 | 46 => 131 | 45 => 130 | 50 => 99 | 5 => 5 | 9 => 9 | 66 => 149 | 70 => 153 | 76 => 161 | 77 => 79 | n => n, fun | n => n⟩
theorem Try.sortR : Go.Proofs.SlLaysF.n6 Try.prog Try.sortR_ren := {
  mixed := by kernel_rfl
  f6 := ⟨Try.f79.name, by decide, Try.func79.trans (congrArg some (by kernel_rfl))⟩
  f14 := ⟨Try.f100.name, by decide, Try.func100.trans (congrArg some (by kernel_rfl))⟩
  f15 := Try.func82.trans (congrArg some (by kernel_rfl))
  f20 := ⟨Try.f114.name, by decide, Try.func114.trans (congrArg some (by kernel_rfl))⟩
  f21 := ⟨Try.f115.name, by decide, Try.func115.trans (congrArg some (by kernel_rfl))⟩
  f22 := ⟨Try.f116.name, by decide, Try.func116.trans (congrArg some (by kernel_rfl))⟩
  f23 := ⟨Try.f117.name, by decide, Try.func117.trans (congrArg some (by kernel_rfl))⟩
  f24 := ⟨Try.f118.name, by decide, Try.func118.trans (congrArg some (by kernel_rfl))⟩
  f25 := ⟨Try.f119.name, by decide, Try.func119.trans (congrArg some (by kernel_rfl))⟩
  f26 := ⟨Try.f120.name, by decide, Try.func120.trans (congrArg some (by kernel_rfl))⟩
  f27 := ⟨Try.f121.name, by decide, Try.func121.trans (congrArg some (by kernel_rfl))⟩
  f28 := Try.func109.trans (congrArg some (by kernel_rfl))
  f29 := Try.func110.trans (congrArg some (by kernel_rfl))
  f46 := ⟨Try.f129.name, by decide, Try.func129.trans (congrArg some (by kernel_rfl))⟩
  f47 := Try.func123.trans (congrArg some (by kernel_rfl))
  f48 := Try.func124.trans (congrArg some (by kernel_rfl))
  f49 := ⟨Try.f130.name, by decide, Try.func130.trans (congrArg some (by kernel_rfl))⟩
  f50 := ⟨Try.f131.name, by decide, Try.func131.trans (congrArg some (by kernel_rfl))⟩
  f57 := ⟨Try.f133.name, by decide, Try.func133.trans (congrArg some (by kernel_rfl))⟩
  t0 := Try.underlying0
  a0 := Try.isAgg0
  z0 := Try.sizeOf0
  v0 := Try.zeroValue0
  t3 := Try.underlying3
  a3 := Try.isAgg3
  z3 := Try.sizeOf3
  v3 := Try.zeroValue3
  t4 := Try.underlying4
  a4 := Try.isAgg4
  z4 := Try.sizeOf4
  v4 := Try.zeroValue4
  t5 := Try.underlying5
  a5 := Try.isAgg5
  z5 := Try.sizeOf5
  v5 := Try.zeroValue5
  t9 := Try.underlying9
  a9 := Try.isAgg9
  z9 := Try.sizeOf9
  v9 := Try.zeroValue9
  t22 := Try.underlying26
  a22 := Try.isAgg26
  z22 := Try.sizeOf26
  v22 := Try.zeroValue26
  a24 := Try.isAgg25
  z24 := Try.sizeOf25
  t25 := Try.underlying110
  a25 := Try.isAgg110
  z25 := Try.sizeOf110
  v25 := Try.zeroValue110
  t39 := Try.underlying113
  a39 := Try.isAgg113
  z39 := Try.sizeOf113
  v39 := Try.zeroValue113
  t45 := Try.underlying130
  a45 := Try.isAgg130
  z45 := Try.sizeOf130
  v45 := Try.zeroValue130
  t46 := Try.underlying131
  a46 := Try.isAgg131
  z46 := Try.sizeOf131
  v46 := Try.zeroValue131
  t50 := Try.underlying99
  a50 := Try.isAgg99
  z50 := Try.sizeOf99
  v50 := Try.zeroValue99
  t53 := Try.underlying137
  a53 := Try.isAgg137
  z53 := Try.sizeOf137
  v53 := Try.zeroValue137
  t55 := Try.underlying139
  a55 := Try.isAgg139
  z55 := Try.sizeOf139
  v55 := Try.zeroValue139
  t66 := Try.underlying149
  a66 := Try.isAgg149
  z66 := Try.sizeOf149
  v66 := Try.zeroValue149
  t70 := Try.underlying153
  a70 := Try.isAgg153
  z70 := Try.sizeOf153
  v70 := Try.zeroValue153
  t76 := Try.underlying161
  a76 := Try.isAgg161
  z76 := Try.sizeOf161
  v76 := Try.zeroValue161
  t77 := Try.underlying79
  a77 := Try.isAgg79
  z77 := Try.sizeOf79
  v77 := Try.zeroValue79 }
def Try.sortE_ren : Go.Shelf.Ren := ⟨fun | 6 => 50 | 15 => 82 | 14 => 81 | 28 => 109 | 29 => 110 | 20 => 101 | 21 => 102 | 22 => 103 | 23 => 104 | 24 => 105 | 25 => 106 | 26 => 107 | 27 => 108 | 46 => 122 | 47 => 123 | 48 => 124 | 49 => 125 | 50 => 126 | 57 => 132 | n => n, fun | 22 => 22 | 24 => 59 | 25 => 89 | 3 => 3 | 39 => 113 | 0 => 0 | 53 => 137 | 55 => 139 | 4 => 4 | 46 => 131 | 45 => 130 | 50 => 99 | 5 => 5 | 9 => 9 | 66 => 149 | 70 => 153 | 76 => 161 | 77 => 79 | n => n, fun | n => n⟩
theorem Try.sortE : Go.Proofs.SlLaysF0.n6 Try.prog Try.sortE_ren := {
  mixed := by kernel_rfl
  f6 := ⟨Try.f50.name, by decide, Try.func50.trans (congrArg some (by kernel_rfl))⟩
  f14 := ⟨Try.f81.name, by decide, Try.func81.trans (congrArg some (by kernel_rfl))⟩
  f15 := Try.func82.trans (congrArg some (by kernel_rfl))
  f20 := ⟨Try.f101.name, by decide, Try.func101.trans (congrArg some (by kernel_rfl))⟩
  f21 := ⟨Try.f102.name, by decide, Try.func102.trans (congrArg some (by kernel_rfl))⟩
  f22 := ⟨Try.f103.name, by decide, Try.func103.trans (congrArg some (by kernel_rfl))⟩
  f23 := ⟨Try.f104.name, by decide, Try.func104.trans (congrArg some (by kernel_rfl))⟩
  f24 := ⟨Try.f105.name, by decide, Try.func105.trans (congrArg some (by kernel_rfl))⟩
  f25 := ⟨Try.f106.name, by decide, Try.func106.trans (congrArg some (by kernel_rfl))⟩
  f26 := ⟨Try.f107.name, by decide, Try.func107.trans (congrArg some (by kernel_rfl))⟩
  f27 := ⟨Try.f108.name, by decide, Try.func108.trans (congrArg some (by kernel_rfl))⟩
  f28 := Try.func109.trans (congrArg some (by kernel_rfl))
  f29 := Try.func110.trans (congrArg some (by kernel_rfl))
  f46 := ⟨Try.f122.name, by decide, Try.func122.trans (congrArg some (by kernel_rfl))⟩
  f47 := Try.func123.trans (congrArg some (by kernel_rfl))
  f48 := Try.func124.trans (congrArg some (by kernel_rfl))
  f49 := ⟨Try.f125.name, by decide, Try.func125.trans (congrArg some (by kernel_rfl))⟩
  f50 := ⟨Try.f126.name, by decide, Try.func126.trans (congrArg some (by kernel_rfl))⟩
  f57 := ⟨Try.f132.name, by decide, Try.func132.trans (congrArg some (by kernel_rfl))⟩
  t0 := Try.underlying0
  a0 := Try.isAgg0
  z0 := Try.sizeOf0
  v0 := Try.zeroValue0
  t3 := Try.underlying3
  a3 := Try.isAgg3
  z3 := Try.sizeOf3
  v3 := Try.zeroValue3
  t4 := Try.underlying4
  a4 := Try.isAgg4
  z4 := Try.sizeOf4
  v4 := Try.zeroValue4
  t5 := Try.underlying5
  a5 := Try.isAgg5
  z5 := Try.sizeOf5
  v5 := Try.zeroValue5
  t9 := Try.underlying9
  a9 := Try.isAgg9
  z9 := Try.sizeOf9
  v9 := Try.zeroValue9
  t22 := Try.underlying22
  a22 := Try.isAgg22
  z22 := Try.sizeOf22
  v22 := Try.zeroValue22
  t25 := Try.underlying89
  a25 := Try.isAgg89
  z25 := Try.sizeOf89
  v25 := Try.zeroValue89
  t39 := Try.underlying113
  a39 := Try.isAgg113
  z39 := Try.sizeOf113
  v39 := Try.zeroValue113
  t45 := Try.underlying130
  a45 := Try.isAgg130
  z45 := Try.sizeOf130
  v45 := Try.zeroValue130
  t46 := Try.underlying131
  a46 := Try.isAgg131
  z46 := Try.sizeOf131
  v46 := Try.zeroValue131
  t50 := Try.underlying99
  a50 := Try.isAgg99
  z50 := Try.sizeOf99
  v50 := Try.zeroValue99
  t53 := Try.underlying137
  a53 := Try.isAgg137
  z53 := Try.sizeOf137
  v53 := Try.zeroValue137
  t55 := Try.underlying139
  a55 := Try.isAgg139
  z55 := Try.sizeOf139
  v55 := Try.zeroValue139
  t66 := Try.underlying149
  a66 := Try.isAgg149
  z66 := Try.sizeOf149
  v66 := Try.zeroValue149
  t70 := Try.underlying153
  a70 := Try.isAgg153
  z70 := Try.sizeOf153
  v70 := Try.zeroValue153
  t76 := Try.underlying161
  a76 := Try.isAgg161
  z76 := Try.sizeOf161
  v76 := Try.zeroValue161
  t77 := Try.underlying79
  a77 := Try.isAgg79
  z77 := Try.sizeOf79
  v77 := Try.zeroValue79 }
def Try.contains_ren : Go.Shelf.Ren := ⟨fun | 107 => 72 | 108 => 98 | n => n, fun | 28 => 25 | 3 => 3 | 4 => 4 | 0 => 0 | n => n, fun | n => n⟩
theorem Try.contains : Go.Proofs.Lays.n107 Try.prog Try.contains_ren := {
  mixed := by kernel_rfl
  f107 := Try.func72.trans (congrArg some (by kernel_rfl))
  f108 := Try.func98.trans (congrArg some (by kernel_rfl))
  t0 := Try.underlying0
  a0 := Try.isAgg0
  z0 := Try.sizeOf0
  v0 := Try.zeroValue0
  t3 := Try.underlying3
  a3 := Try.isAgg3
  z3 := Try.sizeOf3
  v3 := Try.zeroValue3
  t4 := Try.underlying4
  a4 := Try.isAgg4
  z4 := Try.sizeOf4
  v4 := Try.zeroValue4
  t28 := Try.underlying25
  a28 := Try.isAgg25
  z28 := Try.sizeOf25
  v28 := Try.zeroValue25 }
def Try.containsRows_ren : Go.Shelf.Ren := ⟨fun | 8 => 73 | 6 => 99 | n => n, fun | 22 => 26 | 23 => 25 | 25 => 78 | 4 => 4 | 3 => 3 | 0 => 0 | n => n, fun | n => n⟩
theorem Try.containsRows : Go.Proofs.SlLaysH.n8 Try.prog Try.containsRows_ren := {
  mixed := by kernel_rfl
  f6 := ⟨Try.f99.name, by decide, Try.func99.trans (congrArg some (by kernel_rfl))⟩
  f8 := ⟨Try.f73.name, by decide, Try.func73.trans (congrArg some (by kernel_rfl))⟩
  t0 := Try.underlying0
  a0 := Try.isAgg0
  z0 := Try.sizeOf0
  v0 := Try.zeroValue0
  t3 := Try.underlying3
  a3 := Try.isAgg3
  z3 := Try.sizeOf3
  v3 := Try.zeroValue3
  t4 := Try.underlying4
  a4 := Try.isAgg4
  z4 := Try.sizeOf4
  v4 := Try.zeroValue4
  t22 := Try.underlying26
  a22 := Try.isAgg26
  z22 := Try.sizeOf26
  v22 := Try.zeroValue26
  a23 := Try.isAgg25
  z23 := Try.sizeOf25
  t25 := Try.underlying78
  a25 := Try.isAgg78
  z25 := Try.sizeOf78
  v25 := Try.zeroValue78 }
end Go.Proofs
namespace Go.Proofs.Ytckcbaegehfkoaa
open Go.RowKit Go.Lib Go.Sort

/-- What place tells: how many edges stand ahead, and whether the edge is one of them. -/
structure PlaceAt (es : List (Int × Int)) (e : Int × Int) (at_ : Nat) (has : Bool) : Prop where
  le : at_ ≤ es.length
  ahead : ∀ i (h : i < es.length), i < at_ → ltE es[i] e = true
  behind : ∀ i (h : i < es.length), at_ ≤ i → ltE es[i] e = false
  has_iff : has = true ↔ ∃ h : at_ < es.length, es[at_] = e
theorem PlaceAt.mem {es : List (Int × Int)} {e : Int × Int} {at_ : Nat} {has : Bool} (h : PlaceAt es e at_ has) (hr : Rises es) : has = true ↔ e ∈ es := by
  rw [h.has_iff]
  constructor
  · rintro ⟨h1, h2⟩; rw [← h2]; exact List.getElem_mem _
  · intro he
    obtain ⟨i, hi, rfl⟩ := List.getElem_of_mem he
    have h1 : ¬ i < at_ := fun hlt => by have := h.ahead i hi hlt; rw [ltE_irrefl] at this; exact absurd this (by simp)
    have h2 : ¬ at_ < i := fun hlt => by
      have h3 := rises_at hr hlt hi
      rw [h.behind at_ (by omega) (Nat.le_refl _)] at h3
      exact absurd h3 (by simp)
    obtain rfl : at_ = i := by omega
    exact ⟨hi, rfl⟩

end Go.Proofs.Ytckcbaegehfkoaa
namespace Go.Proofs.Ytckcbaegehfkoaa
open Go.RowKit Go.Lib

theorem EAt.news {w : World} {ad : Addr} {es : List (Int × Int)} (h : EAt w (some ad) es) : ∀ j u, (cellsE es)[j]? = some u → w.cell? (ad.add j) = some u := by
  intro j u hu
  have hj : j < es.length * 2 := by rw [← cellsE_len]; exact (List.getElem?_eq_some_iff.1 hu).1
  obtain ⟨g, off, e, _, _⟩ := h (by omega)
  obtain rfl := Option.some.inj e
  rw [add_at]
  exact h.cells j u hu
theorem own_ge {w : World} {base : Nat} {e : TypeId} {size n cap : Nat} {a : Option Addr} {xs : List Value} (h : w.ownsRow base e size (.slice a n cap) n xs) : ∀ g off, a = some ⟨g, off, none⟩ → base ≤ g := fun g off ha => by
  rcases h.2 with ⟨hv, _⟩ | ⟨g', cap', cur, hv, hb, _⟩
  · simp only [Value.slice.injEq] at hv
    rw [hv.1] at ha
    cases ha
  · simp only [Value.slice.injEq] at hv
    rw [hv.1] at ha
    simp only [Option.some.injEq, Addr.mk.injEq, and_true] at ha
    omega

end Go.Proofs.Ytckcbaegehfkoaa
namespace Go.Proofs.Ytckcbaegehfkoaa
open Go.RowKit Go.Lib

theorem new_two' (w : World) (o1 o2 : Obj) : ∃ W0, W0 = (w.alloc o1).alloc o2 ∧ W0.heap.size = w.heap.size + 1 + 1 ∧ W0.heap[w.heap.size]? = some o1 ∧ W0.heap[w.heap.size + 1]? = some o2 ∧ Below w.heap.size w W0 := by
  have s1 : (w.alloc o1).heap.size = w.heap.size + 1 := by simp
  refine ⟨_, rfl, by simp, ?_, ?_, ((Below.refl _ _).alloc (Nat.le_refl _) _).alloc (by omega) _⟩
  · rw [Below.heap_alloc _ _ _ (by omega)]; exact heap_alloc_new _ _
  · rw [← s1]; exact heap_alloc_new _ _
end Go.Proofs.Ytckcbaegehfkoaa
