/-
  slices.Compact at edges, and graph.eachOnce: the edges of a row, rising, each once.
-/
import Derived.Test.YtalhjankofdhgaaGSort
import Derived.BigQuiet
namespace Go.Proofs.Ytalhjankofdhgaa
open Go.RowKit Go.Lib Go.Sort

theorem same_or (x y : Int × Int) : (x.1 = y.1 ∧ x.2 = y.2) ∨ (x.1 = y.1 ∧ (x.2 == y.2) = false) ∨ (x.1 == y.1) = false := by
  by_cases h : x.1 = y.1
  · by_cases h2 : x.2 = y.2
    · exact Or.inl ⟨h, h2⟩
    · exact Or.inr (Or.inl ⟨h, beq_eq_false_iff_ne.2 h2⟩)
  · exact Or.inr (Or.inr (beq_eq_false_iff_ne.2 h))
theorem lt_next {c : Nat → Int × Int} {n : Nat} (hs : ∀ i j, i < j → j < n → ltE (c j) (c i) = false) {m : Nat} (hm : m + 1 < n) (hne : c (m + 1) ≠ c m) : ∀ j, j ≤ m → ltE (c j) (c (m + 1)) = true := by
  intro j hj
  cases h : ltE (c j) (c (m + 1)) with
  | true => rfl
  | false =>
    have e := ltE_tri _ _ h (hs j (m + 1) (by omega) hm)
    by_cases hjm : j = m
    · subst hjm; exact absurd e.symm hne
    · have h2 := hs j m (by omega) (by omega)
      have h3 := hs m (m + 1) (by omega) hm
      rw [e] at h2
      exact absurd (ltE_tri _ _ h3 h2) hne
theorem rise_next {c : Nat → Int × Int} {n m : Nat} (hs : ∀ i j, i < j → j < n → ltE (c j) (c i) = false) (hm : m + 1 < n) (hne : c (m + 1) ≠ c m) (h : Rises (lst c (m + 1))) : Rises (lst c (m + 1 + 1)) := by
  rw [lst_succ]
  refine rises_snoc h (fun y hy => ?_)
  obtain ⟨j, hj, rfl⟩ := mem_lst.1 hy
  exact lt_next hs hm hne j (by omega)
theorem rise_small (c : Nat → Int × Int) {n : Nat} (h : n < 2) : Rises (lst c n) := by
  unfold Rises lst
  rcases (by omega : n = 0 ∨ n = 1) with rfl | rfl <;> simp [List.range_succ]

/-- What the second loop has made: K places hold the edges of the first T, each once; those behind are as they were. -/
structure Made (c c' : Nat → Int × Int) (K T : Nat) : Prop where
  rises : Rises (lst c' K)
  mem : ∀ x, x ∈ lst c' K ↔ x ∈ lst c T
  high : ∀ j, K ≤ j → c' j = c j
theorem made_start {c : Nat → Int × Int} {m : Nat} (h : Rises (lst c (m + 1))) (e : c (m + 1) = c m) : Made c c (m + 1) (m + 1 + 1) := by
  refine ⟨h, fun x => ?_, fun _ _ => rfl⟩
  rw [lst_succ c (m + 1), List.mem_append]
  refine ⟨Or.inl, fun hx => ?_⟩
  rcases hx with hx | hx
  · exact hx
  · simp at hx
    rw [hx, e]
    exact mem_lst.2 ⟨m, by omega, rfl⟩
theorem made_skip {c c' : Nat → Int × Int} {K T : Nat} (h : Made c c' K (T + 1)) (e : c (T + 1) = c T) : Made c c' K (T + 1 + 1) := by
  refine ⟨h.rises, fun x => ?_, h.high⟩
  rw [h.mem, lst_succ c (T + 1), List.mem_append]
  refine ⟨Or.inl, fun hx => ?_⟩
  rcases hx with hx | hx
  · exact hx
  · simp at hx
    rw [hx, e]
    exact mem_lst.2 ⟨T, by omega, rfl⟩
theorem made_put {c c' : Nat → Int × Int} {K T n : Nat} (h : Made c c' K (T + 1)) (hs : ∀ i j, i < j → j < n → ltE (c j) (c i) = false) (hT : T + 1 < n) (hne : c (T + 1) ≠ c T) : Made c (fun j => if j = K then c (T + 1) else c' j) (K + 1) (T + 1 + 1) := by
  have e0 : lst (fun j => if j = K then c (T + 1) else c' j) K = lst c' K := lst_congr (fun j hj => if_neg (by omega))
  refine ⟨?_, fun x => ?_, fun j hj => ?_⟩
  · rw [lst_succ, e0]
    refine rises_snoc h.rises (fun y hy => ?_)
    rw [h.mem] at hy
    obtain ⟨j, hj, rfl⟩ := mem_lst.1 hy
    show ltE (c j) (if K = K then c (T + 1) else c' K) = true
    rw [if_pos rfl]
    exact lt_next hs hT hne j (by omega)
  · rw [lst_succ, lst_succ c (T + 1), e0, List.mem_append, List.mem_append, h.mem]
    simp
  · show (if j = K then c (T + 1) else c' j) = c j
    rw [if_neg (by omega)]
    exact h.high j (by omega)

/-- 'clear' of a row of edges: some cells of that block alone are written. -/
theorem run_clear_edges (w : World) (b o n c : Nat) (hn : 0 < n) (hc : ∀ j, j < n * 2 → (w.cell? ⟨b, o + j, none⟩).isSome = true) (hf : ∀ j, j < n * 2 → w.frozen? ⟨b, o + j, none⟩ = false) :
    ∃ vs : List Value, vs.length = n * 2 ∧ ∀ ty : TypeId, (Builtin.clear_ #[22] ty #[.slice (some ⟨b, o, none⟩) n c]).run Try.prog w = .ok (.tuple #[]) (w.setCells b o vs) := by
  obtain ⟨vs, hvs⟩ : ∃ vs : List Value, vs = (Builtin.zeroCells (Value.agg #[.int .i64 0, .int .i64 0]).cells n).toList := ⟨_, rfl⟩
  have hl : vs.length = n * 2 := by rw [hvs]; simp [Builtin.zeroCells, Value.cells]
  have h1 : ∀ v ∈ vs, v.oneCell' = true := by
    rw [hvs]
    intro v hv
    simp [Builtin.zeroCells, Value.cells] at hv
    obtain ⟨i, hi, rfl⟩ := hv
    rcases Nat.mod_two_eq_zero_or_one i with h0 | h0 <;> simp [h0] <;> rfl
  refine ⟨vs, hl, fun ty => ?_⟩
  have hst := run_storeCells_cells (P := Try.prog) b o vs 0 w (by rw [hl]; simpa using hc) (by rw [hl]; simpa using hf) h1
  simp only [Nat.add_zero] at hst
  obtain ⟨m, rfl⟩ : ∃ m, n = m + 1 := ⟨n - 1, by omega⟩
  simp [Builtin.clear_, run_underlying Try.underlying22, Try.zeroValue39, ← hvs, hst]
end Go.Proofs.Ytalhjankofdhgaa
