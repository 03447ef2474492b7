/-
  What the calls of layer 6 tell, and what follows of it. No program is named here.
  A graph's vertices get new numbers, or none: what becomes of its edges. No program is named here.
  How many edges a deletion and a contraction leave. No program is named here.
  In so many blocks: so many parts without it (layer 7). No program is named here.
  How many blocks have a vertex, and how many parts there are without it (layer 7). No program is named here.
  One edge more; a way round an edge (layer 7). No program is named here.
  The blocks of the first edges, one behind the other (layer 7). No program is named here.
-/
import Derived.Test.YtplhpinaadgkkaaGreatB08
import Derived.Test.YtplhpinaadgkkaaGreatB04
namespace Go.Proofs.YtplhpinaadgkkaaGreat

/-- All are vertices. -/
def InL (n : Int) (l : List Int) : Prop := ∀ x ∈ l, 0 ≤ x ∧ x < n
/-- Induced (F1): the code, how many vertices, the edges. -/
def IndS (n : Int) (es : List (Int × Int)) (l : List Int) (er N : Int) (E : List (Int × Int)) : Prop :=
  (¬ RightG n es ∧ er = 1 ∧ N = 0 ∧ E = []) ∨ (RightG n es ∧ ¬ InL n l ∧ er = 4 ∧ N = 0 ∧ E = []) ∨ (RightG n es ∧ InL n l ∧ ¬ l.Nodup ∧ er = 1 ∧ N = 0 ∧ E = []) ∨ (RightG n es ∧ InL n l ∧ l.Nodup ∧ er = 0 ∧ N = l.length ∧ IndE es l E)
theorem IndS.one {n : Int} {es : List (Int × Int)} {l : List Int} {er N er' N' : Int} {E E' : List (Int × Int)} (h : IndS n es l er N E) (k : IndS n es l er' N' E') : er = er' ∧ N = N' ∧ E = E' := by
  rcases h with ⟨h1, rfl, rfl, rfl⟩ | ⟨h1, h2, rfl, rfl, rfl⟩ | ⟨h1, h2, h3, rfl, rfl, rfl⟩ | ⟨h1, h2, h3, rfl, rfl, h4⟩
  · rcases k with ⟨_, rfl, rfl, rfl⟩ | ⟨k1, _⟩ | ⟨k1, _⟩ | ⟨k1, _⟩
    · exact ⟨rfl, rfl, rfl⟩
    all_goals exact absurd k1 h1
  · rcases k with ⟨k1, _⟩ | ⟨_, _, rfl, rfl, rfl⟩ | ⟨_, k2, _⟩ | ⟨_, k2, _⟩
    · exact absurd h1 k1
    · exact ⟨rfl, rfl, rfl⟩
    all_goals exact absurd k2 h2
  · rcases k with ⟨k1, _⟩ | ⟨_, k2, _⟩ | ⟨_, _, _, rfl, rfl, rfl⟩ | ⟨_, _, k3, _⟩
    · exact absurd h1 k1
    · exact absurd h2 k2
    · exact ⟨rfl, rfl, rfl⟩
    · exact absurd k3 h3
  · rcases k with ⟨k1, _⟩ | ⟨_, k2, _⟩ | ⟨_, _, k3, _⟩ | ⟨_, _, _, rfl, rfl, k4⟩
    · exact absurd h1 k1
    · exact absurd h2 k2
    · exact absurd h3 k3
    · exact ⟨rfl, rfl, h4.one k4⟩
/-- Delete (F2). -/
def DelS (n : Int) (es : List (Int × Int)) (v er N : Int) (E : List (Int × Int)) : Prop :=
  (¬ RightG n es ∧ er = 1 ∧ N = 0 ∧ E = []) ∨ (RightG n es ∧ ¬ (0 ≤ v ∧ v < n) ∧ er = 4 ∧ N = 0 ∧ E = []) ∨ (RightG n es ∧ (0 ≤ v ∧ v < n) ∧ er = 0 ∧ N = n - 1 ∧ IndE es (othL n.toNat v.toNat) E)
theorem DelS.one {n : Int} {es : List (Int × Int)} {v er N er' N' : Int} {E E' : List (Int × Int)} (h : DelS n es v er N E) (k : DelS n es v er' N' E') : er = er' ∧ N = N' ∧ E = E' := by
  rcases h with ⟨h1, rfl, rfl, rfl⟩ | ⟨h1, h2, rfl, rfl, rfl⟩ | ⟨h1, h2, rfl, rfl, h4⟩
  · rcases k with ⟨_, rfl, rfl, rfl⟩ | ⟨k1, _⟩ | ⟨k1, _⟩
    · exact ⟨rfl, rfl, rfl⟩
    all_goals exact absurd k1 h1
  · rcases k with ⟨k1, _⟩ | ⟨_, _, rfl, rfl, rfl⟩ | ⟨_, k2, _⟩
    · exact absurd h1 k1
    · exact ⟨rfl, rfl, rfl⟩
    · exact absurd k2 h2
  · rcases k with ⟨k1, _⟩ | ⟨_, k2, _⟩ | ⟨_, _, rfl, rfl, k4⟩
    · exact absurd h1 k1
    · exact absurd h2 k2
    · exact ⟨rfl, rfl, h4.one k4⟩
/-- Neighbours, when hi's are lo's, too. -/
def MAdj (es : List (Int × Int)) (lo hi x y : Int) : Prop := Adj es x y ∨ (x = lo ∧ y ≠ lo ∧ Adj es hi y) ∨ (y = lo ∧ x ≠ lo ∧ Adj es hi x)
theorem MAdj.symm {es : List (Int × Int)} {lo hi x y : Int} (h : MAdj es lo hi x y) : MAdj es lo hi y x := by
  rcases h with h | h | h
  · exact Or.inl h.symm
  · exact Or.inr (Or.inr h)
  · exact Or.inr (Or.inl h)
/-- The edges, when two neighbours are one (F3). -/
def ConE (n : Nat) (es : List (Int × Int)) (lo hi : Nat) (E : List (Int × Int)) : Prop := Rises E ∧ ∀ a b : Int, (a, b) ∈ E ↔ ∃ i j : Nat, a = i ∧ b = j ∧ i < j ∧ j + 1 < n ∧ MAdj es lo hi (upN hi i) (upN hi j)
theorem ConE.one {n : Nat} {es : List (Int × Int)} {lo hi : Nat} {E E' : List (Int × Int)} (h : ConE n es lo hi E) (k : ConE n es lo hi E') : E = E' := rises_one h.1 k.1 (fun e => by
  obtain ⟨a, b⟩ := e
  exact (h.2 a b).trans (k.2 a b).symm)
/-- Contract (F3). -/
def ConS (n : Int) (es : List (Int × Int)) (a b er N : Int) (E : List (Int × Int)) : Prop :=
  (¬ RightG n es ∧ er = 1 ∧ N = 0 ∧ E = []) ∨ (RightG n es ∧ ¬ ((0 ≤ a ∧ a < n) ∧ (0 ≤ b ∧ b < n)) ∧ er = 4 ∧ N = 0 ∧ E = []) ∨ (RightG n es ∧ ((0 ≤ a ∧ a < n) ∧ (0 ≤ b ∧ b < n)) ∧ ¬ Adj es a b ∧ er = 6 ∧ N = 0 ∧ E = []) ∨ (RightG n es ∧ ((0 ≤ a ∧ a < n) ∧ (0 ≤ b ∧ b < n)) ∧ Adj es a b ∧ er = 0 ∧ N = n - 1 ∧ ConE n.toNat es (min a b).toNat (max a b).toNat E)
theorem ConS.one {n : Int} {es : List (Int × Int)} {a b er N er' N' : Int} {E E' : List (Int × Int)} (h : ConS n es a b er N E) (k : ConS n es a b er' N' E') : er = er' ∧ N = N' ∧ E = E' := by
  rcases h with ⟨h1, rfl, rfl, rfl⟩ | ⟨h1, h2, rfl, rfl, rfl⟩ | ⟨h1, h2, h3, rfl, rfl, rfl⟩ | ⟨h1, h2, h3, rfl, rfl, h4⟩
  · rcases k with ⟨_, rfl, rfl, rfl⟩ | ⟨k1, _⟩ | ⟨k1, _⟩ | ⟨k1, _⟩
    · exact ⟨rfl, rfl, rfl⟩
    all_goals exact absurd k1 h1
  · rcases k with ⟨k1, _⟩ | ⟨_, _, rfl, rfl, rfl⟩ | ⟨_, k2, _⟩ | ⟨_, k2, _⟩
    · exact absurd h1 k1
    · exact ⟨rfl, rfl, rfl⟩
    all_goals exact absurd k2 h2
  · rcases k with ⟨k1, _⟩ | ⟨_, k2, _⟩ | ⟨_, _, _, rfl, rfl, rfl⟩ | ⟨_, _, k3, _⟩
    · exact absurd h1 k1
    · exact absurd h2 k2
    · exact ⟨rfl, rfl, rfl⟩
    · exact absurd k3 h3
  · rcases k with ⟨k1, _⟩ | ⟨_, k2, _⟩ | ⟨_, _, k3, _⟩ | ⟨_, _, _, rfl, rfl, k4⟩
    · exact absurd h1 k1
    · exact absurd h2 k2
    · exact absurd h3 k3
    · exact ⟨rfl, rfl, h4.one k4⟩
/-- It does not matter which end is named first. -/
theorem ConS.swap {n : Int} {es : List (Int × Int)} {a b er N : Int} {E : List (Int × Int)} (h : ConS n es a b er N E) : ConS n es b a er N E := by
  rcases h with h | ⟨h1, h2, h3⟩ | ⟨h1, h2, h3, h4⟩ | ⟨h1, h2, h3, h4, h5, h6⟩
  · exact Or.inl h
  · exact Or.inr (Or.inl ⟨h1, fun k => h2 ⟨k.2, k.1⟩, h3⟩)
  · exact Or.inr (Or.inr (Or.inl ⟨h1, ⟨h2.2, h2.1⟩, fun k => h3 k.symm, h4⟩))
  · exact Or.inr (Or.inr (Or.inr ⟨h1, ⟨h2.2, h2.1⟩, h3.symm, h4, h5, by rw [Int.min_comm, Int.max_comm]; exact h6⟩))
end Go.Proofs.YtplhpinaadgkkaaGreat
namespace Go.Proofs.YtplhpinaadgkkaaGreat

/-- The edges under new numbers; -1: none. -/
def renL (f : Int → Int) (es : List (Int × Int)) : List (Int × Int) := (es.map (fun e => (f e.1, f e.2))).filter (fun e => decide (e.1 ≠ -1) && decide (e.2 ≠ -1))
theorem renL_len (f : Int → Int) (es : List (Int × Int)) : (renL f es).length ≤ es.length := by
  unfold renL
  exact Nat.le_trans (List.length_filter_le _ _) (by rw [List.length_map]; exact Nat.le_refl _)
theorem renL_next {f : Int → Int} {es : List (Int × Int)} {k : Nat} (hk : k < es.length) : renL f (es.take (k + 1)) = renL f (es.take k) ++ (if f es[k].1 ≠ -1 ∧ f es[k].2 ≠ -1 then [(f es[k].1, f es[k].2)] else []) := by
  unfold renL
  rw [← List.take_append_getElem hk, List.map_append, List.filter_append]
  congr 1
  by_cases h : f es[k].1 ≠ -1 ∧ f es[k].2 ≠ -1
  · rw [if_pos h]; simp [h.1, h.2]
  · rw [if_neg h]
    simp only [List.map_cons, List.map_nil]
    rw [List.filter_cons_of_neg]
    · simp
    · simpa using h
theorem mem_renL {f : Int → Int} {es : List (Int × Int)} {a b : Int} : (a, b) ∈ renL f es ↔ ∃ e ∈ es, f e.1 = a ∧ f e.2 = b ∧ a ≠ -1 ∧ b ≠ -1 := by
  unfold renL
  simp only [List.mem_filter, List.mem_map, Bool.and_eq_true, decide_eq_true_eq]
  constructor
  · rintro ⟨⟨e, he, h⟩, h1, h2⟩
    have e1 : f e.1 = a := congrArg Prod.fst h
    have e2 : f e.2 = b := congrArg Prod.snd h
    exact ⟨e, he, e1, e2, h1, h2⟩
  · rintro ⟨e, he, rfl, rfl, h1, h2⟩
    exact ⟨⟨e, he, rfl⟩, h1, h2⟩
theorem renL_all {n N : Int} {f : Int → Int} {es : List (Int × Int)} (hR : RightG n es) (h : ∀ v, 0 ≤ v → v < n → f v = -1 ∨ (0 ≤ f v ∧ f v < N)) : AllIn N (renL f es) := by
  rintro ⟨a, b⟩ hab
  obtain ⟨e, he, rfl, rfl, h1, h2⟩ := mem_renL.1 hab
  have ha : Adj es e.1 e.2 := Or.inl he
  obtain ⟨p, q, _⟩ := ha.in hR
  have h3 := h e.1 p.1 p.2
  have h4 := h e.2 q.1 q.2
  constructor
  · show 0 ≤ f e.1 ∧ f e.1 < N
    rcases h3 with h3 | h3
    · exact absurd h3 h1
    · exact h3
  · show 0 ≤ f e.2 ∧ f e.2 < N
    rcases h4 with h4 | h4
    · exact absurd h4 h2
    · exact h4
theorem ren_norm {f : Int → Int} {es E : List (Int × Int)} (h : IsNorm (renL f es) E) (a b : Int) : (a, b) ∈ E ↔ a < b ∧ a ≠ -1 ∧ b ≠ -1 ∧ ∃ x y, Adj es x y ∧ f x = a ∧ f y = b := by
  rw [h.2, mem_prs]
  constructor
  · rintro ⟨⟨p, q⟩, he, hne, e⟩
    obtain ⟨z, hz, rfl, rfl, h1, h2⟩ := mem_renL.1 he
    have e1 : a = min (f z.1) (f z.2) := congrArg Prod.fst e
    have e2 : b = max (f z.1) (f z.2) := congrArg Prod.snd e
    have hne' : f z.1 ≠ f z.2 := hne
    by_cases hlt : f z.1 < f z.2
    · have : a = f z.1 := by omega
      have : b = f z.2 := by omega
      exact ⟨by omega, by omega, by omega, z.1, z.2, Or.inl hz, by omega, by omega⟩
    · have : a = f z.2 := by omega
      have : b = f z.1 := by omega
      exact ⟨by omega, by omega, by omega, z.2, z.1, Or.inr hz, by omega, by omega⟩
  · rintro ⟨hlt, h1, h2, x, y, hadj, rfl, rfl⟩
    rcases hadj with hz | hz
    · refine ⟨(f x, f y), mem_renL.2 ⟨_, hz, rfl, rfl, h1, h2⟩, ?_, ?_⟩
      · show f x ≠ f y; omega
      · show (f x, f y) = (min (f x) (f y), max (f x) (f y))
        rw [Int.min_eq_left (by omega), Int.max_eq_right (by omega)]
    · refine ⟨(f y, f x), mem_renL.2 ⟨_, hz, rfl, rfl, h2, h1⟩, ?_, ?_⟩
      · show f y ≠ f x; omega
      · show (f x, f y) = (min (f y) (f x), max (f y) (f x))
        rw [Int.min_eq_right (by omega), Int.max_eq_left (by omega)]
/-- Each vertex's place in a row. -/
def PlaceIs (n : Int) (l : List Int) (f : Int → Int) : Prop := ∀ v, 0 ≤ v → v < n → (f v = -1 ∧ v ∉ l) ∨ ∃ (i : Nat) (hi : i < l.length), l[i] = v ∧ f v = i
theorem ren_ind {n : Int} {l : List Int} {f : Int → Int} {es E : List (Int × Int)} (hR : RightG n es) (hn : l.Nodup) (hf : PlaceIs n l f) (h : IsNorm (renL f es) E) : IndE es l E := by
  refine ⟨h.1, fun a b => ?_⟩
  rw [ren_norm h]
  constructor
  · rintro ⟨hlt, h1, h2, x, y, hadj, rfl, rfl⟩
    obtain ⟨p, q, _⟩ := hadj.in hR
    rcases hf x p.1 p.2 with ⟨h3, _⟩ | ⟨i, hi, e1, e2⟩
    · exact absurd h3 h1
    · rcases hf y q.1 q.2 with ⟨h3, _⟩ | ⟨j, hj, e3, e4⟩
      · exact absurd h3 h2
      · exact ⟨i, j, hi, hj, e2, e4, by omega, by rw [e1, e3]; exact hadj⟩
  · rintro ⟨i, j, hi, hj, rfl, rfl, hlt, hadj⟩
    obtain ⟨p, q, _⟩ := hadj.in hR
    have key : ∀ (i : Nat) (hi : i < l.length), 0 ≤ l[i] → l[i] < n → f l[i] = i := fun i hi h1 h2 => by
      rcases hf _ h1 h2 with ⟨_, h3⟩ | ⟨k, hk, e1, e2⟩
      · exact absurd (List.getElem_mem hi) h3
      · rw [e2, nodup_inj hn hk hi e1]
    exact ⟨by omega, by omega, by omega, l[i], l[j], hadj, key i hi p.1 p.2, key j hj q.1 q.2⟩
/-- One goes, to its heir or to none; those above close up. -/
def fC (out : Nat) (heir x : Int) : Int := if x < out then x else if x = out then heir else x - 1
theorem fC_place {n v : Nat} (hv : v < n) : PlaceIs n (othL n v) (fC v (-1)) := fun x h0 h1 => by
  unfold fC
  by_cases h2 : x < v
  · refine Or.inr ⟨x.toNat, by rw [othL_len hv]; omega, ?_, ?_⟩
    · rw [othL_at hv]; unfold upN; rw [if_pos (by omega)]; omega
    · rw [if_pos h2]; omega
  · by_cases h3 : x = v
    · refine Or.inl ⟨by rw [if_neg h2, if_pos h3], fun h => ?_⟩
      exact (mem_othL.1 h).2 h3
    · refine Or.inr ⟨(x - 1).toNat, by rw [othL_len hv]; omega, ?_, ?_⟩
      · rw [othL_at hv]; unfold upN; rw [if_neg (by omega)]; omega
      · rw [if_neg h2, if_neg h3]; omega
theorem fC_in {n v : Nat} {heir : Int} (hh : heir = -1 ∨ (0 ≤ heir ∧ heir < (n : Int) - 1)) (hv : v < n) : ∀ x : Int, 0 ≤ x → x < n → fC v heir x = -1 ∨ (0 ≤ fC v heir x ∧ fC v heir x < (n : Int) - 1) := fun x h0 h1 => by
  unfold fC
  by_cases h2 : x < v
  · rw [if_pos h2]; omega
  · rw [if_neg h2]
    by_cases h3 : x = v
    · rw [if_pos h3]; exact hh
    · rw [if_neg h3]; omega
theorem fC_out {hi : Nat} {lo : Int} : fC hi lo hi = lo := by
  unfold fC
  rw [if_neg (by omega), if_pos rfl]
end Go.Proofs.YtplhpinaadgkkaaGreat
namespace Go.Proofs.YtplhpinaadgkkaaGreat

theorem nb_adj {n v y : Int} {es : List (Int × Int)} (h : RightG n es) : y ∈ nbL v es ↔ Adj es v y := nbL_right h
/-- Edges that do not meet v. -/
def offL (v : Int) (es : List (Int × Int)) : List (Int × Int) := es.filter (fun e => !(e.1 == v) && !(e.2 == v))
theorem mem_offL {v : Int} {es : List (Int × Int)} {e : Int × Int} : e ∈ offL v es ↔ e ∈ es ∧ e.1 ≠ v ∧ e.2 ≠ v := by
  unfold offL
  simp [List.mem_filter]
end Go.Proofs.YtplhpinaadgkkaaGreat
namespace Go.Proofs.YtplhpinaadgkkaaGreat

/-- Pairs of which none joins what the others, and what was joined ahead, join: each makes one class fewer. -/
theorem joins {m : Nat} {P : List (Nat × Nat)} {f0 : Nat → Nat} (hP : PairsIn m P) (h0 : Pt m f0) (t0 : Tells m f0 P) : ∀ (Q : List (Nat × Nat)), Q.reverse.Nodup → PairsIn m Q.reverse → (∀ p ∈ Q.reverse, ¬ Cl (P ++ Q.reverse.filter (fun q => decide (q ≠ p))) p.1 p.2) → ∃ f, Pt m f ∧ Tells m f (P ++ Q.reverse) ∧ (repsF m f).length + Q.length = (repsF m f0).length
  | [], _, _, _ => ⟨f0, h0, by simpa using t0, by simp⟩
  | p :: Q, hn, hin, hc => by
    rw [List.reverse_cons] at hn hin hc ⊢
    rw [List.nodup_append] at hn
    obtain ⟨hn1, _, hn2⟩ := hn
    have hne : ∀ q ∈ Q.reverse, q ≠ p := fun q hq => hn2 q hq p (by simp)
    obtain ⟨f, hf, ht, hl⟩ := joins hP h0 t0 Q hn1 (fun e he => hin e (List.mem_append_left _ he)) (fun q hq h => hc q (List.mem_append_left _ hq) (h.mono (fun e he => by
      refine Cl.of ?_
      rcases List.mem_append.1 he with he | he
      · exact List.mem_append_left _ he
      · refine List.mem_append_right _ ?_
        rw [List.mem_filter] at he ⊢
        exact ⟨List.mem_append_left _ he.1, he.2⟩)))
    have hp := hin p (by simp)
    have hpi : PairsIn m (P ++ Q.reverse) := fun e he => by
      rcases List.mem_append.1 he with he | he
      · exact hP e he
      · exact hin e (List.mem_append_left _ he)
    have hsep : f p.1 ≠ f p.2 := fun e => hc p (by simp) (((ht p.1 p.2 hp.1 hp.2).1 e).mono (fun e he => Cl.of (by
      rcases List.mem_append.1 he with he | he
      · exact List.mem_append_left _ he
      · refine List.mem_append_right _ ?_
        rw [List.mem_filter]
        exact ⟨List.mem_append_left _ he, decide_eq_true (hne e he)⟩)))
    have hj := reps_join hf hp.1 hp.2 hsep
    refine ⟨joinF f p.1 p.2, hf.join hp.1 hp.2, ?_, ?_⟩
    · rw [← List.append_assoc]; exact tells_join ht hpi hp.1 hp.2
    · rw [List.length_cons]
      omega
/-- Classes under other names are as many. -/
theorem reps_renamed {m k v : Nat} {fh f : Nat → Nat} (hv : v < m) (hk : m = k + 1) (hh : Pt k fh) (hf : Pt m f) (hfv : ∀ a, a < m → f a = f v → a = v) (hs : ∀ a b, a < k → b < k → (fh a = fh b ↔ f (upN v a) = f (upN v b))) : (repsF k fh).length + 1 = (repsF m f).length := by
  have hup : ∀ a, a < k → upN v a < m ∧ upN v a ≠ v := fun a ha => by unfold upN; split <;> omega
  have hfv0 : f v = v := by
    have h1 := hf.lt hv
    exact hfv (f v) h1 (hf.idem v hv)
  have hone : ((repsF m f).filter (fun i => decide (i ≠ v))).length + 1 = (repsF m f).length := by
    have hsplit : ∀ (l : List Nat), l.Nodup → v ∈ l → (l.filter (fun i => decide (i ≠ v))).length + 1 = l.length := fun l => by
      induction l with
      | nil => intro _ h; cases h
      | cons x l ih =>
        intro hn hm
        rw [List.nodup_cons] at hn
        rw [List.filter_cons]
        by_cases e : x = v
        · subst e
          rw [if_neg (by simp)]
          have : l.filter (fun i => decide (i ≠ x)) = l := by
            rw [List.filter_eq_self]
            intro y hy
            exact decide_eq_true (fun e => hn.1 (e ▸ hy))
          rw [this]; rfl
        · rw [if_pos (by simpa using e)]
          rcases List.mem_cons.1 hm with hm | hm
          · exact absurd hm.symm e
          · simp only [List.length_cons]
            have := ih hn.2 hm
            omega
    exact hsplit _ ((reps_rises m f).imp (fun h => by omega)) (mem_reps.2 ⟨hv, hfv0⟩)
  rw [← hone]
  congr 1
  -- each class by the name that it has there
  have hnodup : ((repsF k fh).map (fun r => f (upN v r))).Nodup := by
    rw [List.nodup_iff_pairwise_ne, List.pairwise_map]
    refine (reps_rises k fh).imp_of_mem (fun {a b} ha hb hab e => ?_)
    obtain ⟨a1, a2⟩ := mem_reps.1 ha
    obtain ⟨b1, b2⟩ := mem_reps.1 hb
    have := (hs a b a1 b1).2 e
    omega
  have hmem : ∀ x, x ∈ (repsF k fh).map (fun r => f (upN v r)) ↔ x ∈ (repsF m f).filter (fun i => decide (i ≠ v)) := fun x => by
    rw [List.mem_map, List.mem_filter, mem_reps, decide_eq_true_eq]
    constructor
    · rintro ⟨r, hr, rfl⟩
      obtain ⟨r1, _⟩ := mem_reps.1 hr
      obtain ⟨u1, u2⟩ := hup r r1
      exact ⟨⟨hf.lt u1, hf.idem _ u1⟩, fun e => u2 (hfv _ u1 (by rw [e, hfv0]))⟩
    · rintro ⟨⟨h1, h2⟩, h3⟩
      obtain ⟨a, ha, ea⟩ : ∃ a, a < k ∧ upN v a = x := by
        by_cases e : x < v
        · exact ⟨x, by omega, by unfold upN; rw [if_pos e]⟩
        · exact ⟨x - 1, by omega, by unfold upN; rw [if_neg (by omega)]; omega⟩
      refine ⟨fh a, mem_reps.2 ⟨hh.lt ha, hh.idem a ha⟩, ?_⟩
      have := (hs (fh a) a (hh.lt ha) ha).1 (hh.idem a ha)
      rw [this, ea, h2]
  have l1 : ((repsF k fh).map (fun r => f (upN v r))).length ≤ ((repsF m f).filter (fun i => decide (i ≠ v))).length := by
    have := len_le_subI (a := ((repsF k fh).map (fun r => f (upN v r))).map (fun i : Nat => (i : Int))) (b := ((repsF m f).filter (fun i => decide (i ≠ v))).map (fun i : Nat => (i : Int))) (by
      rw [List.nodup_iff_pairwise_ne, List.pairwise_map]
      exact (List.nodup_iff_pairwise_ne.1 hnodup).imp (fun h e => h (by omega))) (fun x hx => by
      obtain ⟨y, hy, rfl⟩ := List.mem_map.1 hx
      exact List.mem_map.2 ⟨y, (hmem y).1 hy, rfl⟩)
    simpa using this
  have l2 : ((repsF m f).filter (fun i => decide (i ≠ v))).length ≤ ((repsF k fh).map (fun r => f (upN v r))).length := by
    have := len_le_subI (a := ((repsF m f).filter (fun i => decide (i ≠ v))).map (fun i : Nat => (i : Int))) (b := ((repsF k fh).map (fun r => f (upN v r))).map (fun i : Nat => (i : Int))) (by
      rw [List.nodup_iff_pairwise_ne, List.pairwise_map]
      exact ((reps_rises m f).filter _).imp (fun h e => by omega)) (fun x hx => by
      obtain ⟨y, hy, rfl⟩ := List.mem_map.1 hx
      exact List.mem_map.2 ⟨y, (hmem y).2 hy, rfl⟩)
    simpa using this
  rw [List.length_map] at l1 l2
  omega
end Go.Proofs.YtplhpinaadgkkaaGreat
namespace Go.Proofs.YtplhpinaadgkkaaGreat

/-- A block with v in it is that of an edge of v. -/
theorem blk_at {n : Int} {es : List (Int × Int)} {B : List Int} {v : Int} (hR : RightG n es) (hB : IsBlk es B) (hv : v ∈ B) : ∃ x, Adj es v x ∧ ∀ z, z ∈ B ↔ Bl es (v, x) z := by
  obtain ⟨_, a, b, hab, ic⟩ := hB
  obtain ⟨f, hf, ht, hend⟩ := (ic v).1 hv
  have hne := (hab.in hR).2.2
  have hnf := (hf.in hR).2.2
  rcases hend with e | e
  · refine ⟨f.2, by rw [e]; exact hf, fun z => ?_⟩
    have e2 : (v, f.2) = f := by rw [e]
    rw [ic, e2]
    exact ⟨fun h => h.tog hne ht, fun h => h.tog hnf ht.symm⟩
  · have ha : Adj es v f.1 := by rw [e]; exact hf.symm
    have ht2 : Tog es (a, b) (v, f.1) := by
      have e2 : (f.1, v) = f := by rw [e]
      rw [← e2] at ht
      exact (Tog.turn ht.symm).symm
    refine ⟨f.1, ha, fun z => ?_⟩
    rw [ic]
    exact ⟨fun h => h.tog hne ht2, fun h => h.tog (ha.in hR).2.2 ht2.symm⟩
theorem av_self {es : List (Int × Int)} {v x : Int} (h : Av es v x v) (hx : x ≠ v) : False := h (fun z => z ≠ v) hx (fun _ _ _ _ _ hw => hw) rfl
/-- Blocks of edges at v are one just if the other ends belong together without v. -/
theorem blk_av {n : Int} {es : List (Int × Int)} {A B : List Int} {v x y : Int} (hR : RightG n es) (hA : IsBlk es A) (hB : IsBlk es B) (hx : Adj es v x) (hy : Adj es v y) (ix : ∀ z, z ∈ A ↔ Bl es (v, x) z) (iy : ∀ z, z ∈ B ↔ Bl es (v, y) z) : A = B ↔ Av es v x y := by
  have hvx := (hx.in hR).2.2
  have hvy := (hy.in hR).2.2
  constructor
  · intro e
    subst e
    have h1 : x ∈ A := (ix x).2 (Bl.own (e := (v, x)) hx (Or.inr rfl))
    have h2 : v ∈ A := (ix v).2 (Bl.own (e := (v, x)) hx (Or.inl rfl))
    have ht := edge_in (e := (v, y)) hx hvx ((iy v).1 h2) ((iy x).1 h1)
    exact (tog_at hx hy (fun e => hvx e.symm) (fun e => hvy e.symm)).1 ht.symm
  · intro h
    have ht := (tog_at hx hy (fun e => hvx e.symm) (fun e => hvy e.symm)).2 h
    refine up_oneB hA.1 hB.1 (fun z => ?_)
    rw [ix, iy]
    exact ⟨fun h => h.tog hvx ht, fun h => h.tog hvy ht.symm⟩
/-- The blocks with v in them. -/
def atL (Bs : List (List Int)) (v : Int) : List (List Int) := Bs.filter (fun B => decide (v ∈ B))
theorem block_parts {m v : Nat} {es : List (Int × Int)} {Bs : List (List Int)} {f f0 : Nat → Nat} (hR : RightG m es) (hv : v < m) (hB : BlocksL es Bs) (hf : Pt m f) (ht : Tells m f (prsN es)) (h0 : Pt m f0) (t0 : Tells m f0 (prsN (offL v es))) : (repsF m f).length + (atL Bs v).length = (repsF m f0).length := by
  have hRo : RightG m (offL v es) := ⟨hR.1, hR.2.1, Nat.le_trans (List.length_filter_le _ _) hR.2.2.1, fun f hf => hR.2.2.2.1 f (mem_offL.1 hf).1, hR.2.2.2.2.filter _⟩
  have hat : ∀ B, B ∈ atL Bs v → IsBlk es B ∧ (v : Int) ∈ B := fun B hb => by
    unfold atL at hb
    rw [List.mem_filter, decide_eq_true_eq] at hb
    exact ⟨(hB.is B).1 hb.1, hb.2⟩
  obtain ⟨nx, hnx⟩ : ∃ nx : List Int → Nat, ∀ B, B ∈ atL Bs v → Adj es v (nx B) ∧ ∀ z, z ∈ B ↔ Bl es ((v : Int), (nx B : Int)) z := by
    classical
    refine ⟨fun B => if h : ∃ x : Nat, Adj es v x ∧ ∀ z, z ∈ B ↔ Bl es ((v : Int), (x : Int)) z then h.choose else 0, fun B hb => ?_⟩
    obtain ⟨h1, h2⟩ := hat B hb
    obtain ⟨x, hx, ix⟩ := blk_at hR h1 h2
    have hin := (hx.in hR).2.1
    have hex : ∃ x : Nat, Adj es v x ∧ ∀ z, z ∈ B ↔ Bl es ((v : Int), (x : Int)) z := ⟨x.toNat, by rw [Int.toNat_of_nonneg hin.1]; exact ⟨hx, ix⟩⟩
    simp only [dif_pos hex]
    exact hex.choose_spec
  have hnv : ∀ B, B ∈ atL Bs v → (nx B : Int) ≠ v := fun B hb => fun e => ((hnx B hb).1.in hR).2.2 e.symm
  have hsame : ∀ A B, A ∈ atL Bs v → B ∈ atL Bs v → (A = B ↔ Av es v (nx A) (nx B)) := fun A B hA hb => blk_av hR (hat A hA).1 (hat B hb).1 (hnx A hA).1 (hnx B hb).1 (hnx A hA).2 (hnx B hb).2
  have hnd : (atL Bs v).Nodup := by
    unfold atL
    rw [List.nodup_iff_pairwise_ne]
    exact (hB.ord.filter _).imp (fun {A B} h e => by subst e; rw [lexL_irrefl] at h; cases h)
  have hQn : ((atL Bs v).map (fun B => (v, nx B))).Nodup := by
    rw [List.nodup_iff_pairwise_ne, List.pairwise_map]
    refine (List.nodup_iff_pairwise_ne.1 hnd).imp_of_mem (fun {A B} hA hb hne e => hne ((hsame A B hA hb).2 ?_))
    have e2 : nx A = nx B := congrArg Prod.snd e
    rw [e2]; exact Av.refl _ _ _
  have hQi : PairsIn m ((atL Bs v).map (fun B => (v, nx B))) := fun p hp => by
    obtain ⟨B, hb, rfl⟩ := List.mem_map.1 hp
    have := ((hnx B hb).1.in hR).2.1
    simp only
    omega
  have hsep : ∀ p ∈ (atL Bs v).map (fun B => (v, nx B)), ¬ Cl (prsN (offL v es) ++ ((atL Bs v).map (fun B => (v, nx B))).filter (fun q => decide (q ≠ p))) p.1 p.2 := fun p hp hcl => by
    obtain ⟨B, hb, rfl⟩ := List.mem_map.1 hp
    have key := hcl (fun a b => Av es v (nx B) (a : Int) ↔ Av es v (nx B) (b : Int)) (fun _ => Iff.rfl) (fun _ _ h => h.symm) (fun _ _ _ h k => h.trans k) (fun q hq => by
      rcases List.mem_append.1 hq with hq | hq
      · have hm := (mem_prsN (a := q.1) (b := q.2) hRo).1 hq
        obtain ⟨h1, h2, h3⟩ := mem_offL.1 hm
        simp only at h2 h3
        exact ⟨fun h => h.step (Or.inl h1) h2 h3, fun h => h.step (Or.inr h1) h3 h2⟩
      · rw [List.mem_filter] at hq
        obtain ⟨A, hA, rfl⟩ := List.mem_map.1 hq.1
        have hne : ((v, nx A) : Nat × Nat) ≠ (v, nx B) := of_decide_eq_true hq.2
        constructor
        · intro h; exact (av_self h (hnv B hb)).elim
        · intro h
          have := (hsame B A hb hA).2 h
          subst this
          exact absurd rfl hne)
    exact av_self (key.2 (Av.refl _ _ _)) (hnv B hb)
  obtain ⟨g, hg, tg, hl⟩ := joins (prsN_in hRo) h0 t0 ((atL Bs v).map (fun B => (v, nx B))).reverse (by rw [List.reverse_reverse]; exact hQn) (by rw [List.reverse_reverse]; exact hQi) (by rw [List.reverse_reverse]; exact hsep)
  rw [List.reverse_reverse] at tg
  have hfg : ∀ i, i < m → g i = f i := tells_one hg hf tg ht (fun p hp => by
    rcases List.mem_append.1 hp with hp | hp
    · have hm := (mem_prsN (a := p.1) (b := p.2) hRo).1 hp
      exact Cl.of ((mem_prsN (a := p.1) (b := p.2) hR).2 (mem_offL.1 hm).1)
    · obtain ⟨B, hb, rfl⟩ := List.mem_map.1 hp
      rcases (hnx B hb).1 with h | h
      · exact Cl.of (e := (v, nx B)) ((mem_prsN hR).2 h)
      · exact (Cl.of (e := (nx B, v)) ((mem_prsN hR).2 h)).symm) (fun e he => by
    have hm := (mem_prsN (a := e.1) (b := e.2) hR).1 he
    have viaAv : ∀ y : Nat, Adj es v y → Cl (prsN (offL v es) ++ (atL Bs v).map (fun B => (v, nx B))) v y := fun y hy => by
      obtain ⟨B, hb, b1, b2, _⟩ := blk_edge hR hB hy
      have hbA : B ∈ atL Bs v := by unfold atL; rw [List.mem_filter]; exact ⟨hb, decide_eq_true b1⟩
      obtain ⟨B2, k1, k2⟩ := blk_ex hR hy
      have e2 : B = B2 := blk_share hR ((hB.is B).1 hb) k1 (hy.in hR).2.2 b1 b2 ((k2 _).2 (Bl.own (e := ((v : Int), (y : Int))) hy (Or.inl rfl))) ((k2 _).2 (Bl.own (e := ((v : Int), (y : Int))) hy (Or.inr rfl)))
      have hav := (blk_av hR ((hB.is B).1 hb) ((hB.is B).1 hb) (hnx B hbA).1 hy (hnx B hbA).2 (by rw [e2]; exact k2)).1 rfl
      have h1 : Cl (prsN (offL v es) ++ (atL Bs v).map (fun B => (v, nx B))) v (nx B) := Cl.of (e := (v, nx B)) (List.mem_append_right _ (List.mem_map.2 ⟨B, hbA, rfl⟩))
      -- from the block's neighbour to y without v
      have h2 := hav (fun z => 0 ≤ z ∧ Cl (prsN (offL v es) ++ (atL Bs v).map (fun B => (v, nx B))) v z.toNat) ⟨by omega, by simpa using h1⟩ (fun u w hu hadj k1 k2 => by
        have hin := hadj.in hR
        refine ⟨hin.2.1.1, hu.2.trans ?_⟩
        rcases hadj with h | h
        · refine Cl.of (e := (u.toNat, w.toNat)) (List.mem_append_left _ ((mem_prsN hRo).2 (mem_offL.2 ⟨?_, ?_, ?_⟩)))
          · rw [Int.toNat_of_nonneg hin.1.1, Int.toNat_of_nonneg hin.2.1.1]; exact h
          · simp only; omega
          · simp only; omega
        · refine (Cl.of (e := (w.toNat, u.toNat)) (List.mem_append_left _ ((mem_prsN hRo).2 (mem_offL.2 ⟨?_, ?_, ?_⟩)))).symm
          · rw [Int.toNat_of_nonneg hin.1.1, Int.toNat_of_nonneg hin.2.1.1]; exact h
          · simp only; omega
          · simp only; omega)
      simpa using h2.2
    by_cases e1 : e.1 = v
    · have := viaAv e.2 (by rw [← e1]; exact Or.inl hm)
      rw [e1]; exact this
    · by_cases e2 : e.2 = v
      · have := viaAv e.1 (by rw [← e2]; exact Or.inr hm)
        rw [e2]; exact this.symm
      · exact Cl.of (e := (e.1, e.2)) (List.mem_append_left _ ((mem_prsN hRo).2 (mem_offL.2 ⟨hm, by simp only; omega, by simp only; omega⟩))))
  have hreps : repsF m g = repsF m f := by
    unfold repsF
    refine List.filter_congr (fun i hi => ?_)
    rw [hfg i (by simpa using hi)]
  rw [hreps, List.length_reverse, List.length_map] at hl
  exact hl
/-- A vertex is in a block just if it has a neighbour. -/
theorem at_none {m v : Nat} {es : List (Int × Int)} {Bs : List (List Int)} (hR : RightG m es) (hB : BlocksL es Bs) : atL Bs v = [] ↔ nbL v es = [] := by
  unfold atL
  rw [List.filter_eq_nil_iff]
  constructor
  · intro h
    apply List.eq_nil_iff_forall_not_mem.2
    intro y hy
    obtain ⟨B, hb, b1, _⟩ := blk_edge hR hB ((nb_adj hR).1 hy)
    exact h B hb (decide_eq_true b1)
  · intro h B hb hv
    obtain ⟨x, hx, _⟩ := blk_at hR ((hB.is B).1 hb) (of_decide_eq_true hv)
    have := (nb_adj hR).2 hx
    rw [h] at this
    cases this
/-- A cut is in two blocks and more. -/
theorem at_cut {m v : Nat} {es : List (Int × Int)} {Bs : List (List Int)} {Cs : List Int} (hR : RightG m es) (hB : BlocksL es Bs) (hC : CutsL es Cs) : (v : Int) ∈ Cs ↔ 2 ≤ (atL Bs v).length := by
  have hmem : ∀ B, B ∈ atL Bs v ↔ B ∈ Bs ∧ (v : Int) ∈ B := fun B => by unfold atL; rw [List.mem_filter, decide_eq_true_eq]
  have hnd : (atL Bs v).Pairwise (fun A B => lexL A B = true) := by unfold atL; exact hB.ord.filter _
  rw [hC.is]
  constructor
  · rintro ⟨x, y, hx, hy, hno⟩
    obtain ⟨A, h1, a1, a2, _⟩ := blk_edge hR hB hx
    obtain ⟨B, h2, b1, b2, _⟩ := blk_edge hR hB hy
    have hne : A ≠ B := fun e => by
      subst e
      obtain ⟨z, hz, iz⟩ := blk_at hR ((hB.is A).1 h1) a1
      have ha := (hz.in hR).2.2
      have t1 := edge_in (e := ((v : Int), z)) hx (hx.in hR).2.2 ((iz _).1 a1) ((iz _).1 a2)
      have t2 := edge_in (e := ((v : Int), z)) hy (hy.in hR).2.2 ((iz _).1 b1) ((iz _).1 b2)
      have hvx := (hx.in hR).2.2
      have hvy := (hy.in hR).2.2
      exact hno ((tog_at hx hy (fun e => hvx e.symm) (fun e => hvy e.symm)).1 (Tog.trans ha t1.symm t2))
    match hL : atL Bs v, hmem A, hmem B with
    | [], k1, _ => have := k1.2 ⟨h1, a1⟩; cases this
    | [C], k1, k2 =>
      have e1 := k1.2 ⟨h1, a1⟩
      have e2 := k2.2 ⟨h2, b1⟩
      simp at e1 e2
      exact absurd (e1.trans e2.symm) hne
    | _ :: _ :: _, _, _ => simp
  · intro h
    match hL : atL Bs v, h with
    | A :: B :: r, _ =>
      have hA := (hmem A).1 (by rw [hL]; simp)
      have hb := (hmem B).1 (by rw [hL]; simp)
      rw [hL] at hnd
      have hlt := (List.pairwise_cons.1 hnd).1 B (by simp)
      exact blk_cut hR ((hB.is A).1 hA.1) ((hB.is B).1 hb.1) (fun e => by subst e; rw [lexL_irrefl] at hlt; cases hlt) hA.2 hb.2
end Go.Proofs.YtplhpinaadgkkaaGreat
namespace Go.Proofs.YtplhpinaadgkkaaGreat

theorem BlocksL.nodup {es : List (Int × Int)} {Bs : List (List Int)} (h : BlocksL es Bs) : Bs.Nodup := by
  rw [List.nodup_iff_pairwise_ne]
  exact h.ord.imp (fun {A B} h e => by subst e; rw [lexL_irrefl] at h; cases h)
/-- A block's vertices are two and more. -/
theorem blk_two {n : Int} {es : List (Int × Int)} {B : List Int} (hR : RightG n es) (hB : IsBlk es B) : 2 ≤ B.length := by
  obtain ⟨hu, a, b, hab, ib⟩ := hB
  have h1 : a ∈ B := (ib a).2 (Bl.own (e := (a, b)) hab (Or.inl rfl))
  have h2 : b ∈ B := (ib b).2 (Bl.own (e := (a, b)) hab (Or.inr rfl))
  have := len_le_subI (a := [a, b]) (b := B) (by simp; exact (hab.in hR).2.2) (fun x hx => by
    simp at hx
    rcases hx with rfl | rfl
    · exact h1
    · exact h2)
  simpa using this
end Go.Proofs.YtplhpinaadgkkaaGreat
namespace Go.Proofs.YtplhpinaadgkkaaGreat

/-- A row laid into rows in their order. -/
def insR (l : List Int) : List (List Int) → List (List Int)
  | [] => [l]
  | x :: xs => if lexL l x then l :: x :: xs else x :: insR l xs
theorem mem_insR {l y : List Int} : ∀ {xs : List (List Int)}, y ∈ insR l xs ↔ y = l ∨ y ∈ xs
  | [] => by simp [insR]
  | x :: xs => by
    unfold insR
    split
    · simp
    · rw [List.mem_cons, mem_insR, List.mem_cons]
      constructor
      · rintro (h | h | h)
        · exact Or.inr (Or.inl h)
        · exact Or.inl h
        · exact Or.inr (Or.inr h)
      · rintro (h | h | h)
        · exact Or.inr (Or.inl h)
        · exact Or.inl h
        · exact Or.inr (Or.inr h)
theorem insR_ord {l : List Int} : ∀ {xs : List (List Int)}, xs.Pairwise (fun A B => lexL A B = true) → l ∉ xs → (insR l xs).Pairwise (fun A B => lexL A B = true)
  | [], _, _ => by simp [insR]
  | x :: xs, h, hn => by
    rw [List.pairwise_cons] at h
    unfold insR
    split
    · rename_i hlx
      rw [List.pairwise_cons]
      refine ⟨fun y hy => ?_, List.pairwise_cons.2 h⟩
      rcases List.mem_cons.1 hy with e | hy
      · rw [e]; exact hlx
      · exact lexL_trans hlx (h.1 y hy)
    · rename_i hlx
      have hxl : lexL x l = true := by
        cases k : lexL x l with
        | true => rfl
        | false => exact absurd (lexL_tri (by simpa using hlx) k) (fun e => hn (by rw [e]; simp))
      rw [List.pairwise_cons]
      refine ⟨fun y hy => ?_, insR_ord h.2 (fun k => hn (List.mem_cons_of_mem _ k))⟩
      rcases mem_insR.1 hy with e | hy
      · rw [e]; exact hxl
      · exact h.1 y hy
/-- What stands there behind the first i edges. -/
structure BlkUpto (es : List (Int × Int)) (i : Nat) (Bs : List (List Int)) : Prop where
  is : ∀ B, B ∈ Bs → ∃ j, ∃ h : j < es.length, j < i ∧ B.Pairwise (· < ·) ∧ ∀ x, x ∈ B ↔ Bl es es[j] x
  all : ∀ j (h : j < es.length), j < i → ∃ B, B ∈ Bs ∧ ∀ x, x ∈ B ↔ Bl es es[j] x
  ord : Bs.Pairwise (fun A B => lexL A B = true)
theorem BlkUpto.nil (es : List (Int × Int)) : BlkUpto es 0 [] := ⟨fun _ h => absurd h (by simp), fun _ _ h => absurd h (by omega), List.Pairwise.nil⟩
/-- One that belongs with none ahead of it adds its block. -/
theorem BlkUpto.add {n : Int} {es : List (Int × Int)} {i : Nat} {Bs : List (List Int)} {l : List Int} (hR : RightG n es) (h : BlkUpto es i Bs) (hi : i < es.length) (hd : ∀ j (hj : j < es.length), j < i → ¬ Tog es es[j] es[i]) (hu : l.Pairwise (· < ·)) (hl : ∀ x, x ∈ l ↔ Bl es es[i] x) : BlkUpto es (i + 1) (insR l Bs) := by
  have n2 := (hR.2.2.2.1 es[i] (List.getElem_mem hi)).2.1
  have hai : Adj es es[i].1 es[i].2 := Or.inl (List.getElem_mem hi)
  refine ⟨fun B hB => ?_, fun j hj hji => ?_, insR_ord h.ord (fun k => ?_)⟩
  · rcases mem_insR.1 hB with e | hB
    · exact ⟨i, hi, by omega, by rw [e]; exact hu, fun x => by rw [e]; exact hl x⟩
    · obtain ⟨j, hj, h1, h2⟩ := h.is B hB
      exact ⟨j, hj, by omega, h2⟩
  · by_cases e : j < i
    · obtain ⟨B, hB, ib⟩ := h.all j hj e
      exact ⟨B, mem_insR.2 (Or.inr hB), ib⟩
    · have e2 : j = i := by omega
      subst e2
      exact ⟨l, mem_insR.2 (Or.inl rfl), hl⟩
  · obtain ⟨j, hj, h1, _, ib⟩ := h.is l k
    have k1 := (ib _).1 ((hl _).2 (Bl.own hai (Or.inl rfl)))
    have k2 := (ib _).1 ((hl _).2 (Bl.own hai (Or.inr rfl)))
    exact hd j hj h1 (edge_in (x := es[i].1) (y := es[i].2) hai (by omega) k1 k2)
/-- Behind the last edge these are all blocks. -/
theorem BlkUpto.whole {es : List (Int × Int)} {i : Nat} {Bs : List (List Int)} (h : BlkUpto es i Bs) (hi : es.length ≤ i) : BlocksL es Bs := by
  refine ⟨fun B => ⟨fun hB => ?_, fun hB => ?_⟩, h.ord⟩
  · obtain ⟨j, hj, _, h2, h3⟩ := h.is B hB
    exact ⟨h2, es[j].1, es[j].2, Or.inl (List.getElem_mem hj), h3⟩
  · obtain ⟨hu, a, b, hab, ib⟩ := hB
    have fin : ∀ e : Int × Int, e ∈ es → (∀ x, x ∈ B ↔ Bl es e x) → B ∈ Bs := fun e he ie => by
      obtain ⟨j, hj, e2⟩ := List.getElem_of_mem he
      obtain ⟨C, hC, ic⟩ := h.all j hj (by omega)
      obtain ⟨_, _, _, uC, _⟩ := h.is C hC
      have : B = C := up_oneB hu uC (fun x => by rw [ie, ic, e2])
      rw [this]; exact hC
    rcases hab with hm | hm
    · exact fin (a, b) hm ib
    · refine fin (b, a) hm (fun x => (ib x).trans ⟨?_, ?_⟩)
      · rintro ⟨f, hf, ht, hx⟩; exact ⟨f, hf, Tog.turn ht, hx⟩
      · rintro ⟨f, hf, ht, hx⟩; exact ⟨f, hf, Tog.turn ht, hx⟩
end Go.Proofs.YtplhpinaadgkkaaGreat
