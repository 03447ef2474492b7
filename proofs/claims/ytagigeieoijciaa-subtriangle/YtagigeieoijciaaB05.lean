/-
  What some vertices induce, pair by pair. No program is named here.
  Pairs with a property, in their order; two neighbours made one. No program is named here.
  A graph's vertices get new numbers, or none: what becomes of its edges. No program is named here.
  The document's Same, SameEdges, SameGraph: are two rows, two graphs the same?
  The document's Has, In: are two vertices neighbours; does a number stand in a row?
  The document's Sorted: a row of numbers, rising.
-/
import Derived.Test.YtagigeieoijciaaB04
import Derived.Test.YtagigeieoijciaaB01
import Derived.Test.YtagigeieoijciaaB03
import Derived.BigQuiet
import Derived.Laws.IdiomCopy
import Derived.Deep.DeepCutAuto
namespace Go.Proofs.Ytagigeieoijciaa

def adjB (es : List (Int × Int)) (x y : Int) : Bool := decide ((x, y) ∈ es) || decide ((y, x) ∈ es)
theorem adjB_iff {es : List (Int × Int)} {x y : Int} : adjB es x y = true ↔ Adj es x y := by
  unfold adjB Adj
  rw [Bool.or_eq_true, decide_eq_true_eq, decide_eq_true_eq]
/-- The pairs of place a with those ahead of place j. -/
def rowI (es : List (Int × Int)) (l : List Int) (a j : Nat) : List (Int × Int) := ((List.range j).filter (fun b => decide (a < b) && adjB es (l.getD a 0) (l.getD b 0))).map (fun b : Nat => ((a : Int), (b : Int)))
theorem rowI_none (es : List (Int × Int)) (l : List Int) {a j : Nat} (h : j ≤ a + 1) : rowI es l a j = [] := by
  unfold rowI
  rw [List.filter_eq_nil_iff.2]
  · rfl
  · intro b hb
    have : b < j := by simpa using hb
    simp only [Bool.and_eq_true, decide_eq_true_eq, not_and]
    omega
theorem mem_rowI {es : List (Int × Int)} {l : List Int} {a j : Nat} {x y : Int} : (x, y) ∈ rowI es l a j ↔ ∃ b : Nat, x = a ∧ y = b ∧ a < b ∧ b < j ∧ Adj es (l.getD a 0) (l.getD b 0) := by
  unfold rowI
  simp only [List.mem_map, List.mem_filter, List.mem_range, Bool.and_eq_true, decide_eq_true_eq, adjB_iff, Prod.mk.injEq]
  constructor
  · rintro ⟨b, ⟨h1, h2, h3⟩, rfl, rfl⟩; exact ⟨b, rfl, rfl, h2, h1, h3⟩
  · rintro ⟨b, rfl, rfl, h1, h2, h3⟩; exact ⟨b, ⟨h2, h1, h3⟩, rfl, rfl⟩
/-- All pairs ahead of (i, j). -/
def indTo (es : List (Int × Int)) (l : List Int) (i j : Nat) : List (Int × Int) := (List.range i).flatMap (fun a => rowI es l a l.length) ++ rowI es l i j
theorem indTo_all (es : List (Int × Int)) (l : List Int) {j : Nat} (hj : j ≤ l.length + 1) : IndE es l (indTo es l l.length j) := by
  have e : indTo es l l.length j = (List.range l.length).flatMap (fun a => rowI es l a l.length) := by
    unfold indTo
    rw [rowI_none es l hj, List.append_nil]
  rw [e]
  have hrise : ∀ n, Rises ((List.range n).flatMap (fun a => rowI es l a l.length)) := fun n => by
    induction n with
    | zero => exact rises_nil
    | succ n ih =>
      rw [List.range_succ, List.flatMap_append]
      unfold Rises at ih ⊢
      rw [List.pairwise_append]
      refine ⟨ih, ?_, fun x hx y hy => ?_⟩
      · simp only [List.flatMap_cons, List.flatMap_nil, List.append_nil]
        unfold rowI
        rw [List.pairwise_map]
        refine (List.pairwise_lt_range.filter _).imp (fun {p q} h => ?_)
        rw [ltE_iff]
        exact Or.inr ⟨rfl, (show (p : Int) < (q : Int) by omega)⟩
      · simp only [List.mem_flatMap, List.mem_range] at hx
        simp only [List.flatMap_cons, List.flatMap_nil, List.append_nil] at hy
        obtain ⟨a, ha, hx⟩ := hx
        obtain ⟨x1, x2⟩ := x
        obtain ⟨y1, y2⟩ := y
        obtain ⟨b, rfl, rfl, _⟩ := mem_rowI.1 hx
        obtain ⟨c, rfl, rfl, _⟩ := mem_rowI.1 hy
        rw [ltE_iff]
        exact Or.inl (show (a : Int) < (n : Int) by omega)
  refine ⟨hrise _, fun x y => ?_⟩
  simp only [List.mem_flatMap, List.mem_range]
  constructor
  · rintro ⟨a, ha, hm⟩
    obtain ⟨b, rfl, rfl, h1, h2, h3⟩ := mem_rowI.1 hm
    refine ⟨a, b, ha, h2, rfl, rfl, h1, ?_⟩
    simpa [List.getD, ha, h2] using h3
  · rintro ⟨i, k, hi, hk, rfl, rfl, hlt, h3⟩
    refine ⟨i, hi, mem_rowI.2 ⟨k, rfl, rfl, hlt, hk, ?_⟩⟩
    simpa [List.getD, hi, hk] using h3
end Go.Proofs.Ytagigeieoijciaa
namespace Go.Proofs.Ytagigeieoijciaa

/-- The pairs of a with those ahead of j that have P. -/
def rowP (P : Nat → Nat → Bool) (a j : Nat) : List (Int × Int) := ((List.range j).filter (fun b => decide (a < b) && P a b)).map (fun b : Nat => ((a : Int), (b : Int)))
theorem mem_rowP {P : Nat → Nat → Bool} {a j : Nat} {x y : Int} : (x, y) ∈ rowP P a j ↔ ∃ b : Nat, x = a ∧ y = b ∧ a < b ∧ b < j ∧ P a b = true := by
  unfold rowP
  simp only [List.mem_map, List.mem_filter, List.mem_range, Bool.and_eq_true, decide_eq_true_eq, Prod.mk.injEq]
  constructor
  · rintro ⟨b, ⟨h1, h2, h3⟩, rfl, rfl⟩; exact ⟨b, rfl, rfl, h2, h1, h3⟩
  · rintro ⟨b, rfl, rfl, h1, h2, h3⟩; exact ⟨b, ⟨h2, h1, h3⟩, rfl, rfl⟩
/-- All of them. -/
def allP (P : Nat → Nat → Bool) (n : Nat) : List (Int × Int) := (List.range n).flatMap (fun a => rowP P a n)
theorem mem_allP {P : Nat → Nat → Bool} {n : Nat} {x y : Int} : (x, y) ∈ allP P n ↔ ∃ i j : Nat, x = i ∧ y = j ∧ i < j ∧ j < n ∧ P i j = true := by
  unfold allP
  simp only [List.mem_flatMap, List.mem_range]
  constructor
  · rintro ⟨a, ha, hm⟩
    obtain ⟨b, rfl, rfl, h1, h2, h3⟩ := mem_rowP.1 hm
    exact ⟨a, b, rfl, rfl, h1, h2, h3⟩
  · rintro ⟨i, j, rfl, rfl, h1, h2, h3⟩
    exact ⟨i, by omega, mem_rowP.2 ⟨j, rfl, rfl, h1, h2, h3⟩⟩
theorem allP_rises (P : Nat → Nat → Bool) (n : Nat) : Rises (allP P n) := by
  have key : ∀ k, Rises ((List.range k).flatMap (fun a => rowP P a n)) := fun k => by
    induction k with
    | zero => exact rises_nil
    | succ k ih =>
      rw [List.range_succ, List.flatMap_append]
      unfold Rises at ih ⊢
      rw [List.pairwise_append]
      refine ⟨ih, ?_, fun x hx y hy => ?_⟩
      · simp only [List.flatMap_cons, List.flatMap_nil, List.append_nil]
        unfold rowP
        rw [List.pairwise_map]
        refine (List.pairwise_lt_range.filter _).imp (fun {p q} h => ?_)
        rw [ltE_iff]
        exact Or.inr ⟨rfl, (show (p : Int) < (q : Int) by omega)⟩
      · simp only [List.mem_flatMap, List.mem_range] at hx
        simp only [List.flatMap_cons, List.flatMap_nil, List.append_nil] at hy
        obtain ⟨a, ha, hx⟩ := hx
        obtain ⟨x1, x2⟩ := x
        obtain ⟨y1, y2⟩ := y
        obtain ⟨b, rfl, rfl, _⟩ := mem_rowP.1 hx
        obtain ⟨c, rfl, rfl, _⟩ := mem_rowP.1 hy
        rw [ltE_iff]
        exact Or.inl (show (a : Int) < (k : Int) by omega)
  exact key n
def mAdjB (es : List (Int × Int)) (lo hi x y : Int) : Bool := adjB es x y || (decide (x = lo) && decide (y ≠ lo) && adjB es hi y) || (decide (y = lo) && decide (x ≠ lo) && adjB es hi x)
theorem mAdjB_iff {es : List (Int × Int)} {lo hi x y : Int} : mAdjB es lo hi x y = true ↔ MAdj es lo hi x y := by
  unfold mAdjB MAdj
  simp only [Bool.or_eq_true, Bool.and_eq_true, decide_eq_true_eq, adjB_iff]
  constructor
  · rintro ((h | ⟨⟨h1, h2⟩, h3⟩) | ⟨⟨h1, h2⟩, h3⟩)
    · exact Or.inl h
    · exact Or.inr (Or.inl ⟨h1, h2, h3⟩)
    · exact Or.inr (Or.inr ⟨h1, h2, h3⟩)
  · rintro (h | ⟨h1, h2, h3⟩ | ⟨h1, h2, h3⟩)
    · exact Or.inl (Or.inl h)
    · exact Or.inl (Or.inr ⟨⟨h1, h2⟩, h3⟩)
    · exact Or.inr ⟨⟨h1, h2⟩, h3⟩
/-- The edges, when two are one, as they can be reckoned. -/
def conL (n : Nat) (es : List (Int × Int)) (lo hi : Nat) : List (Int × Int) := allP (fun i j => mAdjB es lo hi (upN hi i) (upN hi j)) (n - 1)
theorem conL_con (n : Nat) (es : List (Int × Int)) (lo hi : Nat) : ConE n es lo hi (conL n es lo hi) := by
  refine ⟨allP_rises _ _, fun a b => ?_⟩
  unfold conL
  rw [mem_allP]
  constructor
  · rintro ⟨i, j, h1, h2, h3, h4, h5⟩; exact ⟨i, j, h1, h2, h3, by omega, mAdjB_iff.1 h5⟩
  · rintro ⟨i, j, h1, h2, h3, h4, h5⟩; exact ⟨i, j, h1, h2, h3, by omega, mAdjB_iff.2 h5⟩
end Go.Proofs.Ytagigeieoijciaa
namespace Go.Proofs.Ytagigeieoijciaa

/-- The edges under new numbers; -1: none. -/
def renL (f : Int → Int) (es : List (Int × Int)) : List (Int × Int) := (es.map (fun e => (f e.1, f e.2))).filter (fun e => decide (e.1 ≠ -1) && decide (e.2 ≠ -1))
theorem renL_len (f : Int → Int) (es : List (Int × Int)) : (renL f es).length ≤ es.length := by
  unfold renL
  exact Nat.le_trans (List.length_filter_le _ _) (by rw [List.length_map]; exact Nat.le_refl _)
theorem renL_next {f : Int → Int} {es : List (Int × Int)} {k : Nat} (hk : k < es.length) : renL f (es.take (k + 1)) = renL f (es.take k) ++ (if f es[k].1 ≠ -1 ∧ f es[k].2 ≠ -1 then [(f es[k].1, f es[k].2)] else []) := by
  unfold renL
  rw [← List.take_append_getElem hk, List.map_append, List.filter_append]
  congr 1
  by_cases h : f es[k].1 ≠ -1 ∧ f es[k].2 ≠ -1
  · rw [if_pos h]; simp [h.1, h.2]
  · rw [if_neg h]
    simp only [List.map_cons, List.map_nil]
    rw [List.filter_cons_of_neg]
    · simp
    · simpa using h
theorem mem_renL {f : Int → Int} {es : List (Int × Int)} {a b : Int} : (a, b) ∈ renL f es ↔ ∃ e ∈ es, f e.1 = a ∧ f e.2 = b ∧ a ≠ -1 ∧ b ≠ -1 := by
  unfold renL
  simp only [List.mem_filter, List.mem_map, Bool.and_eq_true, decide_eq_true_eq]
  constructor
  · rintro ⟨⟨e, he, h⟩, h1, h2⟩
    have e1 : f e.1 = a := congrArg Prod.fst h
    have e2 : f e.2 = b := congrArg Prod.snd h
    exact ⟨e, he, e1, e2, h1, h2⟩
  · rintro ⟨e, he, rfl, rfl, h1, h2⟩
    exact ⟨⟨e, he, rfl⟩, h1, h2⟩
theorem renL_all {n N : Int} {f : Int → Int} {es : List (Int × Int)} (hR : RightG n es) (h : ∀ v, 0 ≤ v → v < n → f v = -1 ∨ (0 ≤ f v ∧ f v < N)) : AllIn N (renL f es) := by
  rintro ⟨a, b⟩ hab
  obtain ⟨e, he, rfl, rfl, h1, h2⟩ := mem_renL.1 hab
  have ha : Adj es e.1 e.2 := Or.inl he
  obtain ⟨p, q, _⟩ := ha.in hR
  have h3 := h e.1 p.1 p.2
  have h4 := h e.2 q.1 q.2
  constructor
  · show 0 ≤ f e.1 ∧ f e.1 < N
    rcases h3 with h3 | h3
    · exact absurd h3 h1
    · exact h3
  · show 0 ≤ f e.2 ∧ f e.2 < N
    rcases h4 with h4 | h4
    · exact absurd h4 h2
    · exact h4
theorem ren_norm {f : Int → Int} {es E : List (Int × Int)} (h : IsNorm (renL f es) E) (a b : Int) : (a, b) ∈ E ↔ a < b ∧ a ≠ -1 ∧ b ≠ -1 ∧ ∃ x y, Adj es x y ∧ f x = a ∧ f y = b := by
  rw [h.2, mem_prs]
  constructor
  · rintro ⟨⟨p, q⟩, he, hne, e⟩
    obtain ⟨z, hz, rfl, rfl, h1, h2⟩ := mem_renL.1 he
    have e1 : a = min (f z.1) (f z.2) := congrArg Prod.fst e
    have e2 : b = max (f z.1) (f z.2) := congrArg Prod.snd e
    have hne' : f z.1 ≠ f z.2 := hne
    by_cases hlt : f z.1 < f z.2
    · have : a = f z.1 := by omega
      have : b = f z.2 := by omega
      exact ⟨by omega, by omega, by omega, z.1, z.2, Or.inl hz, by omega, by omega⟩
    · have : a = f z.2 := by omega
      have : b = f z.1 := by omega
      exact ⟨by omega, by omega, by omega, z.2, z.1, Or.inr hz, by omega, by omega⟩
  · rintro ⟨hlt, h1, h2, x, y, hadj, rfl, rfl⟩
    rcases hadj with hz | hz
    · refine ⟨(f x, f y), mem_renL.2 ⟨_, hz, rfl, rfl, h1, h2⟩, ?_, ?_⟩
      · show f x ≠ f y; omega
      · show (f x, f y) = (min (f x) (f y), max (f x) (f y))
        rw [Int.min_eq_left (by omega), Int.max_eq_right (by omega)]
    · refine ⟨(f y, f x), mem_renL.2 ⟨_, hz, rfl, rfl, h2, h1⟩, ?_, ?_⟩
      · show f y ≠ f x; omega
      · show (f x, f y) = (min (f y) (f x), max (f y) (f x))
        rw [Int.min_eq_right (by omega), Int.max_eq_left (by omega)]
/-- Each vertex's place in a row. -/
def PlaceIs (n : Int) (l : List Int) (f : Int → Int) : Prop := ∀ v, 0 ≤ v → v < n → (f v = -1 ∧ v ∉ l) ∨ ∃ (i : Nat) (hi : i < l.length), l[i] = v ∧ f v = i
theorem ren_ind {n : Int} {l : List Int} {f : Int → Int} {es E : List (Int × Int)} (hR : RightG n es) (hn : l.Nodup) (hf : PlaceIs n l f) (h : IsNorm (renL f es) E) : IndE es l E := by
  refine ⟨h.1, fun a b => ?_⟩
  rw [ren_norm h]
  constructor
  · rintro ⟨hlt, h1, h2, x, y, hadj, rfl, rfl⟩
    obtain ⟨p, q, _⟩ := hadj.in hR
    rcases hf x p.1 p.2 with ⟨h3, _⟩ | ⟨i, hi, e1, e2⟩
    · exact absurd h3 h1
    · rcases hf y q.1 q.2 with ⟨h3, _⟩ | ⟨j, hj, e3, e4⟩
      · exact absurd h3 h2
      · exact ⟨i, j, hi, hj, e2, e4, by omega, by rw [e1, e3]; exact hadj⟩
  · rintro ⟨i, j, hi, hj, rfl, rfl, hlt, hadj⟩
    obtain ⟨p, q, _⟩ := hadj.in hR
    have key : ∀ (i : Nat) (hi : i < l.length), 0 ≤ l[i] → l[i] < n → f l[i] = i := fun i hi h1 h2 => by
      rcases hf _ h1 h2 with ⟨_, h3⟩ | ⟨k, hk, e1, e2⟩
      · exact absurd (List.getElem_mem hi) h3
      · rw [e2, nodup_inj hn hk hi e1]
    exact ⟨by omega, by omega, by omega, l[i], l[j], hadj, key i hi p.1 p.2, key j hj q.1 q.2⟩
/-- One goes, to its heir or to none; those above close up. -/
def fC (out : Nat) (heir x : Int) : Int := if x < out then x else if x = out then heir else x - 1
theorem fC_place {n v : Nat} (hv : v < n) : PlaceIs n (othL n v) (fC v (-1)) := fun x h0 h1 => by
  unfold fC
  by_cases h2 : x < v
  · refine Or.inr ⟨x.toNat, by rw [othL_len hv]; omega, ?_, ?_⟩
    · rw [othL_at hv]; unfold upN; rw [if_pos (by omega)]; omega
    · rw [if_pos h2]; omega
  · by_cases h3 : x = v
    · refine Or.inl ⟨by rw [if_neg h2, if_pos h3], fun h => ?_⟩
      exact (mem_othL.1 h).2 h3
    · refine Or.inr ⟨(x - 1).toNat, by rw [othL_len hv]; omega, ?_, ?_⟩
      · rw [othL_at hv]; unfold upN; rw [if_neg (by omega)]; omega
      · rw [if_neg h2, if_neg h3]; omega
theorem fC_in {n v : Nat} {heir : Int} (hh : heir = -1 ∨ (0 ≤ heir ∧ heir < (n : Int) - 1)) (hv : v < n) : ∀ x : Int, 0 ≤ x → x < n → fC v heir x = -1 ∨ (0 ≤ fC v heir x ∧ fC v heir x < (n : Int) - 1) := fun x h0 h1 => by
  unfold fC
  by_cases h2 : x < v
  · rw [if_pos h2]; omega
  · rw [if_neg h2]
    by_cases h3 : x = v
    · rw [if_pos h3]; exact hh
    · rw [if_neg h3]; omega
theorem fC_up {hi i : Nat} {lo : Int} : fC hi lo (upN hi i : Nat) = i := by
  unfold fC upN
  by_cases h : i < hi
  · rw [if_pos h, if_pos (by omega)]
  · rw [if_neg h, if_neg (by omega), if_neg (by omega)]; omega
theorem up_fC {hi : Nat} {lo : Int} {x : Int} {i : Nat} (hne : x ≠ hi) (e : fC hi lo x = i) : (upN hi i : Int) = x := by
  unfold fC at e
  unfold upN
  by_cases h : x < hi
  · rw [if_pos h] at e; rw [if_pos (by omega)]; omega
  · rw [if_neg h, if_neg hne] at e; rw [if_neg (by omega)]; omega
theorem fC_out {hi : Nat} {lo : Int} : fC hi lo hi = lo := by
  unfold fC
  rw [if_neg (by omega), if_pos rfl]
theorem fC_lo {hi lo : Nat} (hlt : lo < hi) (h : Int) : fC hi h lo = lo := by
  unfold fC
  rw [if_pos (by omega)]
theorem ren_con {n lo hi : Nat} {es E : List (Int × Int)} (hR : RightG n es) (hlt : lo < hi) (hh : hi < n) (h : IsNorm (renL (fC hi lo) es) E) : ConE n es lo hi E := by
  have hIn := fC_in (n := n) (v := hi) (heir := (lo : Int)) (Or.inr ⟨by omega, by omega⟩) hh
  refine ⟨h.1, fun a b => ?_⟩
  rw [ren_norm h]
  constructor
  · rintro ⟨hab, h1, h2, x, y, hadj, hx, hy⟩
    obtain ⟨p, q, hne⟩ := hadj.in hR
    have hi1 := hIn x p.1 p.2
    have hi2 := hIn y q.1 q.2
    rw [hx] at hi1
    rw [hy] at hi2
    refine ⟨a.toNat, b.toNat, by omega, by omega, by omega, by omega, ?_⟩
    by_cases ex : x = hi
    · have e2 := up_fC (lo := (lo : Int)) (i := b.toNat) (by omega) (by omega : fC hi lo y = (b.toNat : Int))
      rw [ex, fC_out] at hx
      have e1 : (upN hi a.toNat : Int) = lo := by unfold upN; rw [if_pos (by omega)]; omega
      rw [e1, e2]
      refine Or.inr (Or.inl ⟨rfl, fun e => ?_, by rw [← ex]; exact hadj⟩)
      rw [e, fC_lo hlt] at hy
      omega
    · have e1 := up_fC (lo := (lo : Int)) (i := a.toNat) ex (by omega : fC hi lo x = (a.toNat : Int))
      by_cases ey : y = hi
      · rw [ey, fC_out] at hy
        have e2 : (upN hi b.toNat : Int) = lo := by unfold upN; rw [if_pos (by omega)]; omega
        rw [e1, e2]
        refine Or.inr (Or.inr ⟨rfl, fun e => ?_, by rw [← ey]; exact hadj.symm⟩)
        rw [e, fC_lo hlt] at hx
        omega
      · have e2 := up_fC (lo := (lo : Int)) (i := b.toNat) ey (by omega : fC hi lo y = (b.toNat : Int))
        rw [e1, e2]
        exact Or.inl hadj
  · rintro ⟨i, j, rfl, rfl, hij, hj, hm⟩
    refine ⟨by omega, by omega, by omega, ?_⟩
    rcases hm with hm | ⟨e, _, hm⟩ | ⟨e, _, hm⟩
    · exact ⟨_, _, hm, fC_up, fC_up⟩
    · refine ⟨hi, _, hm, ?_, fC_up⟩
      rw [fC_out, ← e]
      have := fC_up (hi := hi) (i := i) (lo := (lo : Int))
      rw [e, fC_lo hlt] at this
      rw [e]; exact this
    · refine ⟨_, hi, hm.symm, fC_up, ?_⟩
      rw [fC_out]
      have := fC_up (hi := hi) (i := j) (lo := (lo : Int))
      rw [e, fC_lo hlt] at this
      exact this
/-- A row of vertices, each once, is no longer than there are vertices. -/
theorem inl_len {n : Nat} {l : List Int} (hi : InL n l) (hn : l.Nodup) : l.length ≤ n := by
  have h := len_le_subI (b := (List.range n).map (fun i : Nat => (i : Int))) hn (fun x hx => by
    have := hi x hx
    exact List.mem_map.2 ⟨x.toNat, List.mem_range.2 (by omega), by omega⟩)
  simpa using h
end Go.Proofs.Ytagigeieoijciaa
namespace Go.Proofs.Ytagigeieoijciaa
open Go.RowKit Go.Lib

theorem same_upto {α : Type} {xs ys : List α} (hl : xs.length = ys.length) (h : ∀ j (h1 : j < xs.length) (h2 : j < ys.length), xs[j] = ys[j]) : xs = ys := List.ext_getElem hl h

set_option maxHeartbeats 1000000 in
set_option maxRecDepth 100000 in
theorem sameEdges_any (a1 a2 : Option Addr) (c1 c2 : Nat) (xs ys : List (Int × Int)) (r : Bool) (w : World) (hN : xs.length ≤ 1000000) (h1 : EAt w a1 xs) (h2 : EAt w a2 ys) (hr : r = true ↔ xs = ys) :
    Calls Try.prog 34 #[.slice a1 xs.length c1, .slice a2 ys.length c2] w fun e w' => e = .returned (.bool r) ∧ Below w.heap.size w w' := by
  have H1 : Hid (EAt w a1 xs) := h1
  have H2 : Hid (EAt w a2 ys) := h2
  have HR : Hid (r = true ↔ xs = ys) := hr
  obtain ⟨N, hNe⟩ := ex_eq xs.length
  obtain ⟨M, hMe⟩ := ex_eq ys.length
  have HN : Hid (N = xs.length) := hNe
  have HM : Hid (M = ys.length) := hMe
  rw [← hNe] at hN ⊢
  rw [← hMe]
  clear h1 h2 hr hNe hMe
  by_cases hl : N = M
  · subst hl
    go_enter Try.func34, Try.ntmps34
    go_wp2
    go_loopw [5] (fun i wr => ∃ k : Nat, k ≤ N ∧ i = .int .i64 k ∧ Hid (∀ j (h1 : j < xs.length) (h2 : j < ys.length), j < k → xs[j] = ys[j]) ∧ Below w.heap.size w wr) (fun i _ => N - (RowKit.intOf i).toNat)
    case atStart => exact ⟨0, Nat.zero_le _, rfl, fun j _ _ h => absurd h (by omega), Below.refl _ _⟩
    case round =>
      obtain ⟨k, hk, rfl, heq, hbr⟩ := hrel
      by_cases hlt : k < N
      · have k1 : k < xs.length := by rw [← HN.out]; exact hlt
        have k2 : k < ys.length := by rw [← HM.out]; exact hlt
        obtain ⟨g1, o1, rfl, hg1, hc1⟩ := H1.out.at k1
        obtain ⟨g2, o2, rfl, hg2, hc2⟩ := H2.out.at k2
        obtain ⟨d1, d2⟩ := hc1 wr hbr k k1
        obtain ⟨f1, f2⟩ := hc2 wr hbr k k2
        have hso := same_or' xs[k] ys[k]
        obtain ⟨x1, hx1⟩ := ex_eq xs[k].1
        obtain ⟨x2, hx2⟩ := ex_eq xs[k].2
        obtain ⟨y1, hy1⟩ := ex_eq ys[k].1
        obtain ⟨y2, hy2⟩ := ex_eq ys[k].2
        rw [← hx1] at d1
        rw [← hx2] at d2
        rw [← hy1] at f1
        rw [← hy2] at f2
        rw [← hx1, ← hx2, ← hy1, ← hy2] at hso
        have HXY : Hid (x1 = xs[k].1 ∧ x2 = xs[k].2 ∧ y1 = ys[k].1 ∧ y2 = ys[k].2) := ⟨hx1, hx2, hy1, hy2⟩
        have q1 : (k : Int) < (N : Int) := by omega
        clear hc1 hc2 hx1 hx2 hy1 hy2
        have HNO : (x1 ≠ y1 ∨ x2 ≠ y2) → Hid (r = false) := fun h => b_false HR.out (fun e => by
          obtain ⟨h1, h2, h3, h4⟩ := HXY.out
          subst e
          rcases h with h | h
          · exact h (h1.trans h3.symm)
          · exact h (h2.trans h4.symm))
        rcases hso with ⟨e1, e2⟩ | ⟨e1, e2⟩ | e1
        · subst e1 e2
          have HEQ : Hid (∀ j (h1 : j < xs.length) (h2 : j < ys.length), j < k + 1 → xs[j] = ys[j]) := fun j h1 h2 hj => by
            by_cases e : j < k
            · exact heq.out j h1 h2 e
            · obtain rfl : j = k := by omega
              obtain ⟨h1, h2, h3, h4⟩ := HXY.out
              exact Prod.ext (h1.symm.trans h3) (h2.symm.trans h4)
          go_wp2
          go_quiet (fail)
          go_wp2
          go_roundw
          case rel => exact ⟨k + 1, by omega, by go_num, HEQ, below_drewN hbr _⟩
          case measure => simp [RowKit.intOf]; omega
        · obtain rfl := (HNO (Or.inr (beq_eq_false_iff_ne.1 e2))).out
          subst e1
          clear HR HNO
          go_wp2
          go_quiet (fail)
          go_wp2
          go_ret
          exact ⟨rfl, below_drewN hbr _⟩
        · obtain rfl := (HNO (Or.inl (beq_eq_false_iff_ne.1 e1))).out
          clear HR HNO
          go_wp2
          go_quiet (fail)
          go_wp2
          go_ret
          exact ⟨rfl, below_drewN hbr _⟩
      · obtain rfl : k = N := by omega
        obtain rfl : r = true := HR.out.2 (same_upto (by rw [← HN.out, ← HM.out]) (fun j h1 h2 => heq.out j h1 h2 (by rw [HN.out]; exact h1)))
        clear HR
        go_wp2
        go_ret
        exact ⟨rfl, hbr⟩
  · obtain rfl : r = false := b_false HR.out (fun e => hl (by rw [HN.out, HM.out, e]))
    have hq : ((N : Int) == (M : Int)) = false := beq_eq_false_iff_ne.2 (by omega)
    clear HR hl
    go_enter Try.func34, Try.ntmps34
    go_wp2
    go_ret
    exact ⟨rfl, Below.refl _ _⟩

set_option maxHeartbeats 1000000 in
theorem sameGraph_any (n m : Int) (a1 a2 : Option Addr) (c1 c2 : Nat) (xs ys : List (Int × Int)) (r : Bool) (w : World) (hN : xs.length ≤ 1000000) (h1 : EAt w a1 xs) (h2 : EAt w a2 ys) (hr : r = true ↔ (n = m ∧ xs = ys)) :
    Calls Try.prog 14 #[.agg #[.int .i64 n, .slice a1 xs.length c1], .agg #[.int .i64 m, .slice a2 ys.length c2]] w fun e w' => e = .returned (.bool r) ∧ Below w.heap.size w w' := by
  by_cases hnm : n = m
  · subst hnm
    have hr' : r = true ↔ xs = ys := by rw [hr]; simp
    have HS : Hid (∀ W, EAt W a1 xs → EAt W a2 ys → Calls Try.prog 34 #[.slice a1 xs.length c1, .slice a2 ys.length c2] W fun e w' => e = .returned (.bool r) ∧ Below W.heap.size W w') := fun W e1 e2 => sameEdges_any a1 a2 c1 c2 xs ys r W hN e1 e2 hr'
    have H1 : Hid (EAt w a1 xs) := h1
    have H2 : Hid (EAt w a2 ys) := h2
    obtain ⟨N, hNe⟩ := ex_eq xs.length
    obtain ⟨M, hMe⟩ := ex_eq ys.length
    rw [← hNe, ← hMe] at HS
    rw [← hNe, ← hMe]
    clear h1 h2 hr hr' hNe hMe
    go_enter Try.func14, Try.ntmps14
    go_wp2_with fail
    have hb : Below w.heap.size w ((w.alloc (.cells #[.int .i64 n, .slice a1 N c1] 27)).alloc (.cells #[.int .i64 n, .slice a2 M c2] 27)) := ((Below.refl _ _).alloc (Nat.le_refl _) _).alloc (by simp) _
    refine (HS.out _ (H1.out.below hb) (H2.out.below hb)).mono ?_
    rintro e w1 ⟨rfl, hb1⟩
    go_wp2
    go_ret
    exact ⟨rfl, hb.trans (hb1.mono hb.size)⟩
  · obtain rfl : r = false := b_false hr (fun h => hnm h.1)
    have hq : (n == m) = false := beq_eq_false_iff_ne.2 hnm
    clear hr h1 h2 hnm
    go_enter Try.func14, Try.ntmps14
    go_wp2
    go_ret
    exact ⟨rfl, ((Below.refl _ _).alloc (Nat.le_refl _) _).alloc (by simp) _⟩
end Go.Proofs.Ytagigeieoijciaa
namespace Go.Proofs.Ytagigeieoijciaa
open Go.RowKit Go.Lib

set_option maxHeartbeats 1000000 in
theorem in_any (a : Option Addr) (cap : Nat) (xs : List Int) (x : Int) (w : World) (hN : xs.length ≤ 1000000) (h : IAt w a xs) :
    Calls Try.prog 41 #[.slice a xs.length cap, .int .i64 x] w fun e w' => e = .returned (.bool (decide (x ∈ xs))) ∧ w' = w := by
  have H1 : Hid (IAt w a xs) := h
  obtain ⟨r, hr⟩ := ex_eq (decide (x ∈ xs))
  have HR : Hid (r = true ↔ x ∈ xs) := by
    show r = true ↔ x ∈ xs
    rw [hr, decide_eq_true_eq]
  rw [← hr]
  obtain ⟨N, hNe⟩ := ex_eq xs.length
  have HN : Hid (N = xs.length) := hNe
  rw [← hNe] at hN ⊢
  clear h hr hNe
  go_enter Try.func41, Try.ntmps41
  go_wp2
  go_loopw [5] (fun i wr => ∃ k : Nat, k ≤ N ∧ i = .int .i64 k ∧ Hid (x ∉ xs.take k) ∧ wr = w) (fun i _ => N - (RowKit.intOf i).toNat)
  case atStart => exact ⟨0, Nat.zero_le _, rfl, (by simp : x ∉ xs.take 0), rfl⟩
  case round =>
    obtain ⟨k, hk, rfl, hno, hw⟩ := hrel
    subst hw
    by_cases hlt : k < N
    · have hkr : k < xs.length := by rw [← HN.out]; exact hlt
      obtain ⟨g, off, rfl, hg, hc⟩ := H1.out (by omega)
      have d := hc k hkr
      obtain ⟨y, hy⟩ := ex_eq xs[k]
      rw [← hy] at d
      have HY : Hid (y = xs[k]) := hy
      have q1 : (k : Int) < (N : Int) := by omega
      clear hc hy
      by_cases hyx : y = x
      · obtain rfl : r = true := HR.out.2 (by rw [← hyx, HY.out]; exact List.getElem_mem _)
        subst hyx
        clear HR
        go_wp2
        go_ret
        exact ⟨rfl, rfl⟩
      · have hq : (y == x) = false := beq_eq_false_iff_ne.2 hyx
        have HNX : Hid (x ∉ xs.take (k + 1)) := by
          show x ∉ xs.take (k + 1)
          rw [List.take_succ_eq_append_getElem hkr, List.mem_append]
          rintro (h | h)
          · exact hno.out h
          · simp at h; exact hyx (by rw [HY.out]; exact h.symm)
        clear hyx
        go_wp2
        go_roundw
        case rel => exact ⟨k + 1, by omega, by go_num, HNX, by first | rfl | trivial⟩
        case measure => simp [RowKit.intOf]; omega
    · obtain rfl : k = N := by omega
      obtain rfl : r = false := b_false HR.out (fun h => hno.out (by rw [HN.out, List.take_length]; exact h))
      clear HR
      go_wp2
      go_ret
      exact ⟨rfl, rfl⟩
end Go.Proofs.Ytagigeieoijciaa
namespace Go.Proofs.Ytagigeieoijciaa
open Go.RowKit Go.Lib

/-- A number is put into a rising row: behind those that are not greater. -/
def ins (x : Int) : List Int → List Int
  | [] => [x]
  | y :: ys => if y ≤ x then y :: ins x ys else x :: y :: ys
theorem ins_len (x : Int) (ys : List Int) : (ins x ys).length = ys.length + 1 := by
  induction ys with
  | nil => rfl
  | cons y ys ih => unfold ins; split <;> simp [ih]
theorem ins_mem {x z : Int} {ys : List Int} : z ∈ ins x ys ↔ z = x ∨ z ∈ ys := by
  induction ys with
  | nil => simp [ins]
  | cons y ys ih =>
    unfold ins
    split
    · simp [ih]
      constructor
      · rintro (h | h | h)
        · exact Or.inr (Or.inl h)
        · exact Or.inl h
        · exact Or.inr (Or.inr h)
      · rintro (h | h | h)
        · exact Or.inr (Or.inl h)
        · exact Or.inl h
        · exact Or.inr (Or.inr h)
    · simp
def Up (xs : List Int) : Prop := xs.Pairwise (· ≤ ·)
theorem ins_up {x : Int} {ys : List Int} (h : Up ys) : Up (ins x ys) := by
  induction ys with
  | nil => unfold Up ins; simp
  | cons y ys ih =>
    unfold Up at h
    rw [List.pairwise_cons] at h
    unfold ins
    split
    · unfold Up
      rw [List.pairwise_cons]
      refine ⟨fun z hz => ?_, ih h.2⟩
      rcases ins_mem.1 hz with rfl | hz
      · assumption
      · exact h.1 z hz
    · unfold Up
      rw [List.pairwise_cons, List.pairwise_cons]
      refine ⟨fun z hz => ?_, h⟩
      rcases List.mem_cons.1 hz with rfl | hz
      · omega
      · have := h.1 z hz; omega
def srt : List Int → List Int → List Int
  | acc, [] => acc
  | acc, x :: xs => srt (ins x acc) xs
theorem srt_snoc (acc xs : List Int) (x : Int) : srt acc (xs ++ [x]) = ins x (srt acc xs) := by
  induction xs generalizing acc with
  | nil => rfl
  | cons y xs ih => exact ih (ins y acc)
theorem srt_up {acc xs : List Int} (h : Up acc) : Up (srt acc xs) := by
  induction xs generalizing acc with
  | nil => exact h
  | cons y xs ih => exact ih (ins_up h)
theorem srt_mem {acc xs : List Int} {z : Int} : z ∈ srt acc xs ↔ z ∈ acc ∨ z ∈ xs := by
  induction xs generalizing acc with
  | nil => simp [srt]
  | cons y xs ih =>
    show z ∈ srt (ins y acc) xs ↔ _
    rw [ih, ins_mem, List.mem_cons]
    constructor
    · rintro ((h | h) | h)
      · exact Or.inr (Or.inl h)
      · exact Or.inl h
      · exact Or.inr (Or.inr h)
    · rintro (h | h | h)
      · exact Or.inl (Or.inr h)
      · exact Or.inl (Or.inl h)
      · exact Or.inr h
theorem srt_len (acc xs : List Int) : (srt acc xs).length = acc.length + xs.length := by
  induction xs generalizing acc with
  | nil => simp [srt]
  | cons y xs ih =>
    show (srt (ins y acc) xs).length = _
    rw [ih, ins_len, List.length_cons]; omega
/-- Where the number goes. -/
theorem ins_at {x : Int} {ys : List Int} {k : Nat} (hk : k ≤ ys.length) (h1 : ∀ j (h : j < ys.length), j < k → ys[j] ≤ x) (h2 : ∀ j (h : j < ys.length), k ≤ j → x < ys[j]) : ins x ys = ys.take k ++ x :: ys.drop k := by
  induction ys generalizing k with
  | nil =>
    have : k = 0 := by simpa using hk
    subst this; rfl
  | cons y ys ih =>
    cases k with
    | zero =>
      have := h2 0 (by simp) (Nat.le_refl _)
      unfold ins
      simp only [List.getElem_cons_zero] at this
      rw [if_neg (by omega)]
      simp
    | succ k =>
      have := h1 0 (by simp) (by omega)
      simp only [List.getElem_cons_zero] at this
      unfold ins
      rw [if_pos this, ih (k := k) (by simpa using hk) (fun j h hj => h1 (j + 1) (by simpa using h) (by omega)) (fun j h hj => h2 (j + 1) (by simpa using h) (by omega))]
      simp
end Go.Proofs.Ytagigeieoijciaa
