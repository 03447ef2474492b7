/-
  Who goes, and what is left (layer 6): renumbered edges. No program is named here.
  What the calls of layer 6 tell, and what follows of it. No program is named here.
  What some vertices induce, pair by pair. No program is named here.
  Pairs with a property, in their order; two neighbours made one. No program is named here.
  Two that are deleted, one behind the other, leave what all others induce. No program is named here.
-/
import Derived.Test.YtagigeieoijciaaB04
namespace Go.Proofs.Ytagigeieoijciaa

/-- All numbers below n but v. -/
def othL (n v : Nat) : List Int := ((List.range n).filter (fun i => i ≠ v)).map (fun i : Nat => (i : Int))
theorem mem_othL {n v : Nat} {x : Int} : x ∈ othL n v ↔ (0 ≤ x ∧ x < n) ∧ x ≠ v := by
  unfold othL
  simp only [List.mem_map, List.mem_filter, List.mem_range, decide_eq_true_eq]
  constructor
  · rintro ⟨i, ⟨h1, h2⟩, rfl⟩; exact ⟨by omega, by omega⟩
  · rintro ⟨h1, h2⟩; exact ⟨x.toNat, ⟨by omega, by omega⟩, by omega⟩
theorem othL_nodup (n v : Nat) : (othL n v).Nodup := by
  unfold othL
  rw [List.nodup_iff_pairwise_ne, List.pairwise_map]
  exact (List.nodup_range.filter _).imp (fun h e => h (by omega))
theorem range_split {n v : Nat} (hv : v < n) : (List.range n).filter (fun i => i ≠ v) = List.range v ++ (List.range (n - v - 1)).map (fun i => i + (v + 1)) := by
  have e : List.range n = List.range v ++ (v :: (List.range (n - v - 1)).map (fun i => i + (v + 1))) := by
    refine List.ext_getElem (by simp; omega) (fun i h1 h2 => ?_)
    simp only [List.length_range] at h1
    by_cases h : i < v
    · rw [List.getElem_append_left (by simpa using h)]; simp
    · rw [List.getElem_append_right (by simpa using h)]
      by_cases h3 : i = v
      · subst h3; simp
      · obtain ⟨d, hd⟩ : ∃ d, i - v = d + 1 := ⟨i - v - 1, by omega⟩
        simp only [List.length_range, hd, List.getElem_cons_succ, List.getElem_map, List.getElem_range]
        omega
  rw [e, List.filter_append, List.filter_cons]
  have h1 : (List.range v).filter (fun i => i ≠ v) = List.range v := by
    rw [List.filter_eq_self]
    intro x hx
    simp at hx ⊢
    omega
  have h2 : ((List.range (n - v - 1)).map (fun i => i + (v + 1))).filter (fun i => i ≠ v) = (List.range (n - v - 1)).map (fun i => i + (v + 1)) := by
    rw [List.filter_eq_self]
    intro x hx
    simp at hx ⊢
    omega
  rw [h1, h2]
  simp
theorem othL_len {n v : Nat} (hv : v < n) : (othL n v).length = n - 1 := by
  unfold othL
  rw [List.length_map, range_split hv]
  simp
  omega
/-- Who stands at place i, when v is gone. -/
def upN (v i : Nat) : Nat := if i < v then i else i + 1
theorem othL_at {n v i : Nat} (hv : v < n) (hi : i < (othL n v).length) : (othL n v)[i] = (upN v i : Int) := by
  have e : othL n v = (List.range v ++ (List.range (n - v - 1)).map (fun i => i + (v + 1))).map (fun i : Nat => (i : Int)) := by unfold othL; rw [range_split hv]
  have hl := othL_len hv
  rw [List.getElem_of_eq e, List.getElem_map]
  unfold upN
  by_cases h : i < v
  · rw [List.getElem_append_left (by simpa using h), if_pos h]; simp
  · rw [List.getElem_append_right (by simpa using h), if_neg h]; simp; omega
/-- A vertex's new number, when v is gone. -/
def dnI (v : Nat) (x : Int) : Int := if x < v then x else x - 1
/-- The edges that do not meet v, renumbered, are those that the others induce. -/
theorem del_ind {n v : Nat} {es : List (Int × Int)} (hR : RightG n es) (hv : v < n) : IndE es (othL n v) ((es.filter (fun e => !(e.1 == (v : Int)) && !(e.2 == (v : Int)))).map (fun e => (dnI v e.1, dnI v e.2))) := by
  have hl := othL_len hv
  refine ⟨?_, fun a b => ?_⟩
  · unfold Rises
    rw [List.pairwise_map]
    refine (hR.2.2.2.2.filter _).imp_of_mem (fun {x y} hx hy h => ?_)
    simp only [List.mem_filter, Bool.and_eq_true, Bool.not_eq_true', beq_eq_false_iff_ne] at hx hy
    rw [ltE_iff] at h ⊢
    unfold dnI
    simp only
    have hxr := hR.2.2.2.1 x hx.1
    have hyr := hR.2.2.2.1 y hy.1
    split <;> split <;> split <;> split <;> omega
  · simp only [List.mem_map, List.mem_filter, Bool.and_eq_true, Bool.not_eq_true', beq_eq_false_iff_ne, Prod.mk.injEq]
    constructor
    · rintro ⟨⟨x, y⟩, ⟨hm, h1, h2⟩, rfl, rfl⟩
      have hr := hR.2.2.2.1 _ hm
      simp only at hr h1 h2
      have ha : 0 ≤ dnI v x ∧ dnI v x < dnI v y ∧ dnI v y < n - 1 := by unfold dnI; split <;> split <;> omega
      obtain ⟨p, hp⟩ : ∃ p : Nat, dnI v x = (p : Int) := ⟨(dnI v x).toNat, by omega⟩
      obtain ⟨q, hq⟩ : ∃ q : Nat, dnI v y = (q : Int) := ⟨(dnI v y).toNat, by omega⟩
      have e1 : (upN v p : Int) = x := by unfold dnI at hp; unfold upN; split at hp <;> split <;> omega
      have e2 : (upN v q : Int) = y := by unfold dnI at hq; unfold upN; split at hq <;> split <;> omega
      rw [hp, hq] at ha ⊢
      refine ⟨p, q, by omega, by omega, rfl, rfl, by omega, ?_⟩
      rw [othL_at hv, othL_at hv]
      rw [e1, e2]
      exact Or.inl hm
    · rintro ⟨i, j, hi, hj, rfl, rfl, hlt, hadj⟩
      rw [othL_at hv, othL_at hv] at hadj
      have hu : upN v i < upN v j ∧ upN v i ≠ v ∧ upN v j ≠ v := by unfold upN; split <;> split <;> omega
      rcases hadj with hm | hm
      · refine ⟨(_, _), ⟨hm, by simp only; omega, by simp only; omega⟩, ?_, ?_⟩
        · unfold dnI upN; split <;> split <;> omega
        · unfold dnI upN; split <;> split <;> omega
      · exfalso
        have := hR.2.2.2.1 _ hm
        simp only at this
        omega
end Go.Proofs.Ytagigeieoijciaa
namespace Go.Proofs.Ytagigeieoijciaa

/-- All are vertices. -/
def InL (n : Int) (l : List Int) : Prop := ∀ x ∈ l, 0 ≤ x ∧ x < n
/-- Induced (F1): the code, how many vertices, the edges. -/
def IndS (n : Int) (es : List (Int × Int)) (l : List Int) (er N : Int) (E : List (Int × Int)) : Prop :=
  (¬ RightG n es ∧ er = 1 ∧ N = 0 ∧ E = []) ∨ (RightG n es ∧ ¬ InL n l ∧ er = 4 ∧ N = 0 ∧ E = []) ∨ (RightG n es ∧ InL n l ∧ ¬ l.Nodup ∧ er = 1 ∧ N = 0 ∧ E = []) ∨ (RightG n es ∧ InL n l ∧ l.Nodup ∧ er = 0 ∧ N = l.length ∧ IndE es l E)
theorem IndS.one {n : Int} {es : List (Int × Int)} {l : List Int} {er N er' N' : Int} {E E' : List (Int × Int)} (h : IndS n es l er N E) (k : IndS n es l er' N' E') : er = er' ∧ N = N' ∧ E = E' := by
  rcases h with ⟨h1, rfl, rfl, rfl⟩ | ⟨h1, h2, rfl, rfl, rfl⟩ | ⟨h1, h2, h3, rfl, rfl, rfl⟩ | ⟨h1, h2, h3, rfl, rfl, h4⟩
  · rcases k with ⟨_, rfl, rfl, rfl⟩ | ⟨k1, _⟩ | ⟨k1, _⟩ | ⟨k1, _⟩
    · exact ⟨rfl, rfl, rfl⟩
    all_goals exact absurd k1 h1
  · rcases k with ⟨k1, _⟩ | ⟨_, _, rfl, rfl, rfl⟩ | ⟨_, k2, _⟩ | ⟨_, k2, _⟩
    · exact absurd h1 k1
    · exact ⟨rfl, rfl, rfl⟩
    all_goals exact absurd k2 h2
  · rcases k with ⟨k1, _⟩ | ⟨_, k2, _⟩ | ⟨_, _, _, rfl, rfl, rfl⟩ | ⟨_, _, k3, _⟩
    · exact absurd h1 k1
    · exact absurd h2 k2
    · exact ⟨rfl, rfl, rfl⟩
    · exact absurd k3 h3
  · rcases k with ⟨k1, _⟩ | ⟨_, k2, _⟩ | ⟨_, _, k3, _⟩ | ⟨_, _, _, rfl, rfl, k4⟩
    · exact absurd h1 k1
    · exact absurd h2 k2
    · exact absurd h3 k3
    · exact ⟨rfl, rfl, h4.one k4⟩
/-- Delete (F2). -/
def DelS (n : Int) (es : List (Int × Int)) (v er N : Int) (E : List (Int × Int)) : Prop :=
  (¬ RightG n es ∧ er = 1 ∧ N = 0 ∧ E = []) ∨ (RightG n es ∧ ¬ (0 ≤ v ∧ v < n) ∧ er = 4 ∧ N = 0 ∧ E = []) ∨ (RightG n es ∧ (0 ≤ v ∧ v < n) ∧ er = 0 ∧ N = n - 1 ∧ IndE es (othL n.toNat v.toNat) E)
theorem DelS.one {n : Int} {es : List (Int × Int)} {v er N er' N' : Int} {E E' : List (Int × Int)} (h : DelS n es v er N E) (k : DelS n es v er' N' E') : er = er' ∧ N = N' ∧ E = E' := by
  rcases h with ⟨h1, rfl, rfl, rfl⟩ | ⟨h1, h2, rfl, rfl, rfl⟩ | ⟨h1, h2, rfl, rfl, h4⟩
  · rcases k with ⟨_, rfl, rfl, rfl⟩ | ⟨k1, _⟩ | ⟨k1, _⟩
    · exact ⟨rfl, rfl, rfl⟩
    all_goals exact absurd k1 h1
  · rcases k with ⟨k1, _⟩ | ⟨_, _, rfl, rfl, rfl⟩ | ⟨_, k2, _⟩
    · exact absurd h1 k1
    · exact ⟨rfl, rfl, rfl⟩
    · exact absurd k2 h2
  · rcases k with ⟨k1, _⟩ | ⟨_, k2, _⟩ | ⟨_, _, rfl, rfl, k4⟩
    · exact absurd h1 k1
    · exact absurd h2 k2
    · exact ⟨rfl, rfl, h4.one k4⟩
/-- Neighbours, when hi's are lo's, too. -/
def MAdj (es : List (Int × Int)) (lo hi x y : Int) : Prop := Adj es x y ∨ (x = lo ∧ y ≠ lo ∧ Adj es hi y) ∨ (y = lo ∧ x ≠ lo ∧ Adj es hi x)
theorem MAdj.symm {es : List (Int × Int)} {lo hi x y : Int} (h : MAdj es lo hi x y) : MAdj es lo hi y x := by
  rcases h with h | h | h
  · exact Or.inl h.symm
  · exact Or.inr (Or.inr h)
  · exact Or.inr (Or.inl h)
/-- The edges, when two neighbours are one (F3). -/
def ConE (n : Nat) (es : List (Int × Int)) (lo hi : Nat) (E : List (Int × Int)) : Prop := Rises E ∧ ∀ a b : Int, (a, b) ∈ E ↔ ∃ i j : Nat, a = i ∧ b = j ∧ i < j ∧ j + 1 < n ∧ MAdj es lo hi (upN hi i) (upN hi j)
theorem ConE.one {n : Nat} {es : List (Int × Int)} {lo hi : Nat} {E E' : List (Int × Int)} (h : ConE n es lo hi E) (k : ConE n es lo hi E') : E = E' := rises_one h.1 k.1 (fun e => by
  obtain ⟨a, b⟩ := e
  exact (h.2 a b).trans (k.2 a b).symm)
/-- Contract (F3). -/
def ConS (n : Int) (es : List (Int × Int)) (a b er N : Int) (E : List (Int × Int)) : Prop :=
  (¬ RightG n es ∧ er = 1 ∧ N = 0 ∧ E = []) ∨ (RightG n es ∧ ¬ ((0 ≤ a ∧ a < n) ∧ (0 ≤ b ∧ b < n)) ∧ er = 4 ∧ N = 0 ∧ E = []) ∨ (RightG n es ∧ ((0 ≤ a ∧ a < n) ∧ (0 ≤ b ∧ b < n)) ∧ ¬ Adj es a b ∧ er = 6 ∧ N = 0 ∧ E = []) ∨ (RightG n es ∧ ((0 ≤ a ∧ a < n) ∧ (0 ≤ b ∧ b < n)) ∧ Adj es a b ∧ er = 0 ∧ N = n - 1 ∧ ConE n.toNat es (min a b).toNat (max a b).toNat E)
theorem ConS.one {n : Int} {es : List (Int × Int)} {a b er N er' N' : Int} {E E' : List (Int × Int)} (h : ConS n es a b er N E) (k : ConS n es a b er' N' E') : er = er' ∧ N = N' ∧ E = E' := by
  rcases h with ⟨h1, rfl, rfl, rfl⟩ | ⟨h1, h2, rfl, rfl, rfl⟩ | ⟨h1, h2, h3, rfl, rfl, rfl⟩ | ⟨h1, h2, h3, rfl, rfl, h4⟩
  · rcases k with ⟨_, rfl, rfl, rfl⟩ | ⟨k1, _⟩ | ⟨k1, _⟩ | ⟨k1, _⟩
    · exact ⟨rfl, rfl, rfl⟩
    all_goals exact absurd k1 h1
  · rcases k with ⟨k1, _⟩ | ⟨_, _, rfl, rfl, rfl⟩ | ⟨_, k2, _⟩ | ⟨_, k2, _⟩
    · exact absurd h1 k1
    · exact ⟨rfl, rfl, rfl⟩
    all_goals exact absurd k2 h2
  · rcases k with ⟨k1, _⟩ | ⟨_, k2, _⟩ | ⟨_, _, _, rfl, rfl, rfl⟩ | ⟨_, _, k3, _⟩
    · exact absurd h1 k1
    · exact absurd h2 k2
    · exact ⟨rfl, rfl, rfl⟩
    · exact absurd k3 h3
  · rcases k with ⟨k1, _⟩ | ⟨_, k2, _⟩ | ⟨_, _, k3, _⟩ | ⟨_, _, _, rfl, rfl, k4⟩
    · exact absurd h1 k1
    · exact absurd h2 k2
    · exact absurd h3 k3
    · exact ⟨rfl, rfl, h4.one k4⟩
/-- What is induced of what is induced. -/
theorem ind_ind {es E E2 : List (Int × Int)} {l l2 : List Int} (h : IndE es l E) (k : IndE E l2 E2) (hin : InL l.length l2) (hn : l2.Nodup) : IndE es (l2.map (fun x => l.getD x.toNat 0)) E2 := by
  refine ⟨k.1, fun a b => ?_⟩
  rw [k.2]
  have key : ∀ i j (hi : i < l2.length) (hj : j < l2.length), i < j → (Adj E l2[i] l2[j] ↔ Adj es (l.getD l2[i].toNat 0) (l.getD l2[j].toNat 0)) := fun i j hi hj hij => by
    have h1 := hin _ (List.getElem_mem hi)
    have h2 := hin _ (List.getElem_mem hj)
    have hne : l2[i] ≠ l2[j] := List.pairwise_iff_getElem.1 hn i j hi hj hij
    have := h.adj (i := l2[i].toNat) (j := l2[j].toNat) (by omega) (by omega) (by omega)
    rw [Int.toNat_of_nonneg h1.1, Int.toNat_of_nonneg h2.1] at this
    rw [this]
    simp only [List.getD, List.getElem?_eq_getElem (show l2[i].toNat < l.length by omega), List.getElem?_eq_getElem (show l2[j].toNat < l.length by omega), Option.getD_some]
  constructor
  · rintro ⟨i, j, hi, hj, e1, e2, hlt, ha⟩
    refine ⟨i, j, by simpa using hi, by simpa using hj, e1, e2, hlt, ?_⟩
    simp only [List.getElem_map]
    exact (key i j hi hj hlt).1 ha
  · rintro ⟨i, j, hi, hj, e1, e2, hlt, ha⟩
    have hi' : i < l2.length := by simpa using hi
    have hj' : j < l2.length := by simpa using hj
    simp only [List.getElem_map] at ha
    exact ⟨i, j, hi', hj', e1, e2, hlt, (key i j hi' hj' hlt).2 ha⟩
/-- All vertices in their order induce the graph itself. -/
theorem ind_id {n : Nat} {es : List (Int × Int)} (hR : RightG n es) : IndE es ((List.range n).map (fun i : Nat => (i : Int))) es := by
  refine ⟨hR.2.2.2.2, fun a b => ⟨fun hm => ?_, ?_⟩⟩
  · have := hR.2.2.2.1 _ hm
    simp only at this
    refine ⟨a.toNat, b.toNat, by simp; omega, by simp; omega, by omega, by omega, by omega, ?_⟩
    simp only [List.getElem_map, List.getElem_range]
    rw [Int.toNat_of_nonneg (by omega), Int.toNat_of_nonneg (by omega)]
    exact Or.inl hm
  · rintro ⟨i, j, hi, hj, rfl, rfl, hlt, ha⟩
    simp only [List.getElem_map, List.getElem_range] at ha
    rcases ha with h | h
    · exact h
    · have := hR.2.2.2.1 _ h
      simp only at this
      omega
end Go.Proofs.Ytagigeieoijciaa
namespace Go.Proofs.Ytagigeieoijciaa

def adjB (es : List (Int × Int)) (x y : Int) : Bool := decide ((x, y) ∈ es) || decide ((y, x) ∈ es)
theorem adjB_iff {es : List (Int × Int)} {x y : Int} : adjB es x y = true ↔ Adj es x y := by
  unfold adjB Adj
  rw [Bool.or_eq_true, decide_eq_true_eq, decide_eq_true_eq]
/-- The pairs of place a with those ahead of place j. -/
def rowI (es : List (Int × Int)) (l : List Int) (a j : Nat) : List (Int × Int) := ((List.range j).filter (fun b => decide (a < b) && adjB es (l.getD a 0) (l.getD b 0))).map (fun b : Nat => ((a : Int), (b : Int)))
theorem rowI_next (es : List (Int × Int)) (l : List Int) (a j : Nat) : rowI es l a (j + 1) = rowI es l a j ++ (if (decide (a < j) && adjB es (l.getD a 0) (l.getD j 0)) = true then [((a : Int), (j : Int))] else []) := by
  unfold rowI
  rw [List.range_succ, List.filter_append, List.map_append]
  congr 1
  by_cases h : (decide (a < j) && adjB es (l.getD a 0) (l.getD j 0)) = true
  · rw [if_pos h, List.filter_cons, if_pos h]
    rfl
  · rw [if_neg h, List.filter_cons, if_neg h]
    rfl
theorem rowI_none (es : List (Int × Int)) (l : List Int) {a j : Nat} (h : j ≤ a + 1) : rowI es l a j = [] := by
  unfold rowI
  rw [List.filter_eq_nil_iff.2]
  · rfl
  · intro b hb
    have : b < j := by simpa using hb
    simp only [Bool.and_eq_true, decide_eq_true_eq, not_and]
    omega
theorem rowI_len (es : List (Int × Int)) (l : List Int) (a j : Nat) : (rowI es l a j).length ≤ j := by
  unfold rowI
  rw [List.length_map]
  exact Nat.le_trans (List.length_filter_le _ _) (by simp)
theorem mem_rowI {es : List (Int × Int)} {l : List Int} {a j : Nat} {x y : Int} : (x, y) ∈ rowI es l a j ↔ ∃ b : Nat, x = a ∧ y = b ∧ a < b ∧ b < j ∧ Adj es (l.getD a 0) (l.getD b 0) := by
  unfold rowI
  simp only [List.mem_map, List.mem_filter, List.mem_range, Bool.and_eq_true, decide_eq_true_eq, adjB_iff, Prod.mk.injEq]
  constructor
  · rintro ⟨b, ⟨h1, h2, h3⟩, rfl, rfl⟩; exact ⟨b, rfl, rfl, h2, h1, h3⟩
  · rintro ⟨b, rfl, rfl, h1, h2, h3⟩; exact ⟨b, ⟨h2, h1, h3⟩, rfl, rfl⟩
/-- All pairs ahead of (i, j). -/
def indTo (es : List (Int × Int)) (l : List Int) (i j : Nat) : List (Int × Int) := (List.range i).flatMap (fun a => rowI es l a l.length) ++ rowI es l i j
theorem indTo_next (es : List (Int × Int)) (l : List Int) (i j : Nat) : indTo es l i (j + 1) = indTo es l i j ++ (if (decide (i < j) && adjB es (l.getD i 0) (l.getD j 0)) = true then [((i : Int), (j : Int))] else []) := by
  unfold indTo
  rw [rowI_next, List.append_assoc]
theorem indTo_row (es : List (Int × Int)) (l : List Int) {i j j' : Nat} (hj : j = l.length) (h : j' ≤ i + 2) : indTo es l i j = indTo es l (i + 1) j' := by
  subst hj
  unfold indTo
  rw [List.range_succ, List.flatMap_append, rowI_none es l (show j' ≤ i + 1 + 1 by omega)]
  simp
theorem indTo_len (es : List (Int × Int)) (l : List Int) : ∀ (i j : Nat), (indTo es l i j).length ≤ i * l.length + j
  | i, j => by
    unfold indTo
    rw [List.length_append]
    have h1 : ((List.range i).flatMap (fun a => rowI es l a l.length)).length ≤ i * l.length := by
      induction i with
      | zero => simp
      | succ i ih =>
        rw [List.range_succ, List.flatMap_append, List.length_append, Nat.succ_mul]
        have := rowI_len es l i l.length
        simp only [List.flatMap_cons, List.flatMap_nil, List.append_nil]
        omega
    have h2 := rowI_len es l i j
    omega
theorem indTo_all (es : List (Int × Int)) (l : List Int) {j : Nat} (hj : j ≤ l.length + 1) : IndE es l (indTo es l l.length j) := by
  have e : indTo es l l.length j = (List.range l.length).flatMap (fun a => rowI es l a l.length) := by
    unfold indTo
    rw [rowI_none es l hj, List.append_nil]
  rw [e]
  have hrise : ∀ n, Rises ((List.range n).flatMap (fun a => rowI es l a l.length)) := fun n => by
    induction n with
    | zero => exact rises_nil
    | succ n ih =>
      rw [List.range_succ, List.flatMap_append]
      unfold Rises at ih ⊢
      rw [List.pairwise_append]
      refine ⟨ih, ?_, fun x hx y hy => ?_⟩
      · simp only [List.flatMap_cons, List.flatMap_nil, List.append_nil]
        unfold rowI
        rw [List.pairwise_map]
        refine (List.pairwise_lt_range.filter _).imp (fun {p q} h => ?_)
        rw [ltE_iff]
        exact Or.inr ⟨rfl, (show (p : Int) < (q : Int) by omega)⟩
      · simp only [List.mem_flatMap, List.mem_range] at hx
        simp only [List.flatMap_cons, List.flatMap_nil, List.append_nil] at hy
        obtain ⟨a, ha, hx⟩ := hx
        obtain ⟨x1, x2⟩ := x
        obtain ⟨y1, y2⟩ := y
        obtain ⟨b, rfl, rfl, _⟩ := mem_rowI.1 hx
        obtain ⟨c, rfl, rfl, _⟩ := mem_rowI.1 hy
        rw [ltE_iff]
        exact Or.inl (show (a : Int) < (n : Int) by omega)
  refine ⟨hrise _, fun x y => ?_⟩
  simp only [List.mem_flatMap, List.mem_range]
  constructor
  · rintro ⟨a, ha, hm⟩
    obtain ⟨b, rfl, rfl, h1, h2, h3⟩ := mem_rowI.1 hm
    refine ⟨a, b, ha, h2, rfl, rfl, h1, ?_⟩
    simpa [List.getD, ha, h2] using h3
  · rintro ⟨i, k, hi, hk, rfl, rfl, hlt, h3⟩
    refine ⟨i, hi, mem_rowI.2 ⟨k, rfl, rfl, hlt, hk, ?_⟩⟩
    simpa [List.getD, hi, hk] using h3
end Go.Proofs.Ytagigeieoijciaa
namespace Go.Proofs.Ytagigeieoijciaa

/-- The pairs of a with those ahead of j that have P. -/
def rowP (P : Nat → Nat → Bool) (a j : Nat) : List (Int × Int) := ((List.range j).filter (fun b => decide (a < b) && P a b)).map (fun b : Nat => ((a : Int), (b : Int)))
theorem rowP_next (P : Nat → Nat → Bool) (a j : Nat) : rowP P a (j + 1) = rowP P a j ++ (if (decide (a < j) && P a j) = true then [((a : Int), (j : Int))] else []) := by
  unfold rowP
  rw [List.range_succ, List.filter_append, List.map_append]
  congr 1
  by_cases h : (decide (a < j) && P a j) = true
  · rw [if_pos h, List.filter_cons, if_pos h]; rfl
  · rw [if_neg h, List.filter_cons, if_neg h]; rfl
theorem rowP_none (P : Nat → Nat → Bool) {a j : Nat} (h : j ≤ a + 1) : rowP P a j = [] := by
  unfold rowP
  rw [List.filter_eq_nil_iff.2]
  · rfl
  · intro b hb
    have : b < j := by simpa using hb
    simp only [Bool.and_eq_true, decide_eq_true_eq, not_and]
    omega
theorem rowP_len (P : Nat → Nat → Bool) (a j : Nat) : (rowP P a j).length ≤ j := by
  unfold rowP
  rw [List.length_map]
  exact Nat.le_trans (List.length_filter_le _ _) (by simp)
theorem mem_rowP {P : Nat → Nat → Bool} {a j : Nat} {x y : Int} : (x, y) ∈ rowP P a j ↔ ∃ b : Nat, x = a ∧ y = b ∧ a < b ∧ b < j ∧ P a b = true := by
  unfold rowP
  simp only [List.mem_map, List.mem_filter, List.mem_range, Bool.and_eq_true, decide_eq_true_eq, Prod.mk.injEq]
  constructor
  · rintro ⟨b, ⟨h1, h2, h3⟩, rfl, rfl⟩; exact ⟨b, rfl, rfl, h2, h1, h3⟩
  · rintro ⟨b, rfl, rfl, h1, h2, h3⟩; exact ⟨b, ⟨h2, h1, h3⟩, rfl, rfl⟩
/-- All such pairs below n ahead of (i, j). -/
def prsTo (P : Nat → Nat → Bool) (n i j : Nat) : List (Int × Int) := (List.range i).flatMap (fun a => rowP P a n) ++ rowP P i j
theorem prsTo_next (P : Nat → Nat → Bool) (n i j : Nat) : prsTo P n i (j + 1) = prsTo P n i j ++ (if (decide (i < j) && P i j) = true then [((i : Int), (j : Int))] else []) := by
  unfold prsTo
  rw [rowP_next, List.append_assoc]
theorem prsTo_row (P : Nat → Nat → Bool) {n i j' : Nat} (h : j' ≤ i + 2) : prsTo P n i n = prsTo P n (i + 1) j' := by
  unfold prsTo
  rw [List.range_succ, List.flatMap_append, rowP_none P (show j' ≤ i + 1 + 1 by omega)]
  simp
theorem prsTo_len (P : Nat → Nat → Bool) (n i j : Nat) : (prsTo P n i j).length ≤ i * n + j := by
  unfold prsTo
  rw [List.length_append]
  have h1 : ((List.range i).flatMap (fun a => rowP P a n)).length ≤ i * n := by
    induction i with
    | zero => simp
    | succ i ih =>
      rw [List.range_succ, List.flatMap_append, List.length_append, Nat.succ_mul]
      have := rowP_len P i n
      simp only [List.flatMap_cons, List.flatMap_nil, List.append_nil]
      omega
  have h2 := rowP_len P i j
  omega
/-- All of them. -/
def allP (P : Nat → Nat → Bool) (n : Nat) : List (Int × Int) := (List.range n).flatMap (fun a => rowP P a n)
theorem prsTo_all (P : Nat → Nat → Bool) {n j : Nat} (hj : j ≤ n + 1) : prsTo P n n j = allP P n := by
  unfold prsTo allP
  rw [rowP_none P hj, List.append_nil]
theorem mem_allP {P : Nat → Nat → Bool} {n : Nat} {x y : Int} : (x, y) ∈ allP P n ↔ ∃ i j : Nat, x = i ∧ y = j ∧ i < j ∧ j < n ∧ P i j = true := by
  unfold allP
  simp only [List.mem_flatMap, List.mem_range]
  constructor
  · rintro ⟨a, ha, hm⟩
    obtain ⟨b, rfl, rfl, h1, h2, h3⟩ := mem_rowP.1 hm
    exact ⟨a, b, rfl, rfl, h1, h2, h3⟩
  · rintro ⟨i, j, rfl, rfl, h1, h2, h3⟩
    exact ⟨i, by omega, mem_rowP.2 ⟨j, rfl, rfl, h1, h2, h3⟩⟩
theorem allP_rises (P : Nat → Nat → Bool) (n : Nat) : Rises (allP P n) := by
  have key : ∀ k, Rises ((List.range k).flatMap (fun a => rowP P a n)) := fun k => by
    induction k with
    | zero => exact rises_nil
    | succ k ih =>
      rw [List.range_succ, List.flatMap_append]
      unfold Rises at ih ⊢
      rw [List.pairwise_append]
      refine ⟨ih, ?_, fun x hx y hy => ?_⟩
      · simp only [List.flatMap_cons, List.flatMap_nil, List.append_nil]
        unfold rowP
        rw [List.pairwise_map]
        refine (List.pairwise_lt_range.filter _).imp (fun {p q} h => ?_)
        rw [ltE_iff]
        exact Or.inr ⟨rfl, (show (p : Int) < (q : Int) by omega)⟩
      · simp only [List.mem_flatMap, List.mem_range] at hx
        simp only [List.flatMap_cons, List.flatMap_nil, List.append_nil] at hy
        obtain ⟨a, ha, hx⟩ := hx
        obtain ⟨x1, x2⟩ := x
        obtain ⟨y1, y2⟩ := y
        obtain ⟨b, rfl, rfl, _⟩ := mem_rowP.1 hx
        obtain ⟨c, rfl, rfl, _⟩ := mem_rowP.1 hy
        rw [ltE_iff]
        exact Or.inl (show (a : Int) < (k : Int) by omega)
  exact key n
def mAdjB (es : List (Int × Int)) (lo hi x y : Int) : Bool := adjB es x y || (decide (x = lo) && decide (y ≠ lo) && adjB es hi y) || (decide (y = lo) && decide (x ≠ lo) && adjB es hi x)
theorem mAdjB_iff {es : List (Int × Int)} {lo hi x y : Int} : mAdjB es lo hi x y = true ↔ MAdj es lo hi x y := by
  unfold mAdjB MAdj
  simp only [Bool.or_eq_true, Bool.and_eq_true, decide_eq_true_eq, adjB_iff]
  constructor
  · rintro ((h | ⟨⟨h1, h2⟩, h3⟩) | ⟨⟨h1, h2⟩, h3⟩)
    · exact Or.inl h
    · exact Or.inr (Or.inl ⟨h1, h2, h3⟩)
    · exact Or.inr (Or.inr ⟨h1, h2, h3⟩)
  · rintro (h | ⟨h1, h2, h3⟩ | ⟨h1, h2, h3⟩)
    · exact Or.inl (Or.inl h)
    · exact Or.inl (Or.inr ⟨⟨h1, h2⟩, h3⟩)
    · exact Or.inr ⟨⟨h1, h2⟩, h3⟩
/-- The edges, when two are one, as they can be reckoned. -/
def conL (n : Nat) (es : List (Int × Int)) (lo hi : Nat) : List (Int × Int) := allP (fun i j => mAdjB es lo hi (upN hi i) (upN hi j)) (n - 1)
theorem conL_con (n : Nat) (es : List (Int × Int)) (lo hi : Nat) : ConE n es lo hi (conL n es lo hi) := by
  refine ⟨allP_rises _ _, fun a b => ?_⟩
  unfold conL
  rw [mem_allP]
  constructor
  · rintro ⟨i, j, h1, h2, h3, h4, h5⟩; exact ⟨i, j, h1, h2, h3, by omega, mAdjB_iff.1 h5⟩
  · rintro ⟨i, j, h1, h2, h3, h4, h5⟩; exact ⟨i, j, h1, h2, h3, by omega, mAdjB_iff.2 h5⟩
/-- The greater one's neighbours are the lesser one's, then it goes: two are one. -/
theorem con_of_ind {n lo hi : Nat} {es E : List (Int × Int)} (hh : hi < n) (h : IndE (allP (fun i j => mAdjB es lo hi i j) n) (othL n hi) E) : ConE n es lo hi E := by
  have hl := othL_len hh
  refine ⟨h.1, fun a b => ?_⟩
  rw [h.2]
  have up : ∀ {i j : Nat}, i < j → upN hi i < upN hi j := fun {i j} hij => by unfold upN; split <;> split <;> omega
  have upl : ∀ {i : Nat}, i + 1 < n → upN hi i < n := fun {i} hi' => by unfold upN; split <;> omega
  constructor
  · rintro ⟨i, j, hi', hj', rfl, rfl, hlt, ha⟩
    rw [othL_at hh, othL_at hh] at ha
    refine ⟨i, j, rfl, rfl, hlt, by omega, ?_⟩
    rcases ha with hm | hm
    · obtain ⟨p, q, e1, e2, _, _, e5⟩ := mem_allP.1 hm
      have e5' := mAdjB_iff.1 e5
      rw [← e1, ← e2] at e5'
      exact e5'
    · obtain ⟨p, q, e1, e2, e3, _, _⟩ := mem_allP.1 hm
      have := up hlt
      omega
  · rintro ⟨i, j, rfl, rfl, hlt, hjn, hm⟩
    refine ⟨i, j, by omega, by omega, rfl, rfl, hlt, ?_⟩
    rw [othL_at hh, othL_at hh]
    exact Or.inl (mem_allP.2 ⟨upN hi i, upN hi j, rfl, rfl, up hlt, upl (by omega), mAdjB_iff.2 hm⟩)
end Go.Proofs.Ytagigeieoijciaa
namespace Go.Proofs.Ytagigeieoijciaa

/-- Rising rows with the same members are one. -/
theorem up_one : ∀ {a b : List Int}, a.Pairwise (· < ·) → b.Pairwise (· < ·) → (∀ x, x ∈ a ↔ x ∈ b) → a = b
  | [], [], _, _, _ => rfl
  | [], y :: b, _, _, h => by have := (h y).2 (by simp); simp at this
  | x :: a, [], _, _, h => by have := (h x).1 (by simp); simp at this
  | x :: a, y :: b, ha, hb, h => by
    obtain ⟨h1, h2⟩ := List.pairwise_cons.1 ha
    obtain ⟨k1, k2⟩ := List.pairwise_cons.1 hb
    have e : x = y := by
      rcases List.mem_cons.1 ((h x).1 (by simp)) with e | e
      · exact e
      · rcases List.mem_cons.1 ((h y).2 (by simp)) with e' | e'
        · exact e'.symm
        · have := k1 x e
          have := h1 y e'
          omega
    subst e
    congr 1
    refine up_one h2 k2 (fun z => ⟨fun hz => ?_, fun hz => ?_⟩)
    · rcases List.mem_cons.1 ((h z).1 (List.mem_cons_of_mem _ hz)) with e | e
      · have := h1 z hz; omega
      · exact e
    · rcases List.mem_cons.1 ((h z).2 (List.mem_cons_of_mem _ hz)) with e | e
      · have := k1 z hz; omega
      · exact e
/-- All numbers below n but two. -/
def oth2 (n p q : Nat) : List Int := ((List.range n).filter (fun i => decide (i ≠ p) && decide (i ≠ q))).map (fun i : Nat => (i : Int))
theorem oth2_swap (n p q : Nat) : oth2 n p q = oth2 n q p := by
  unfold oth2
  congr 2
  funext i
  rw [Bool.and_comm]
theorem mem_oth2 {n p q : Nat} {x : Int} : x ∈ oth2 n p q ↔ (0 ≤ x ∧ x < n) ∧ x ≠ p ∧ x ≠ q := by
  unfold oth2
  simp only [List.mem_map, List.mem_filter, List.mem_range, Bool.and_eq_true, decide_eq_true_eq]
  constructor
  · rintro ⟨i, ⟨h1, h2, h3⟩, rfl⟩; exact ⟨by omega, by omega, by omega⟩
  · rintro ⟨h1, h2, h3⟩; exact ⟨x.toNat, ⟨by omega, by omega, by omega⟩, by omega⟩
theorem oth2_up (n p q : Nat) : (oth2 n p q).Pairwise (· < ·) := by
  unfold oth2
  rw [List.pairwise_map]
  exact (List.pairwise_lt_range.filter _).imp (fun h => by omega)
theorem othL_up (n v : Nat) : (othL n v).Pairwise (· < ·) := by
  unfold othL
  rw [List.pairwise_map]
  exact (List.pairwise_lt_range.filter _).imp (fun h => by omega)
/-- The places of those that stay, when first hi goes, then lo; or first lo, then hi, whose number is one less. -/
theorem oth_oth {n p q r : Nat} (hp : p < n) (hr : r < n - 1) (hq : (upN p r) = q) : (othL (n - 1) r).map (fun x => (othL n p).getD x.toNat 0) = oth2 n p q := by
  have hl := othL_len hp
  have hat : ∀ x : Int, 0 ≤ x → x < ((n - 1 : Nat) : Int) → (othL n p).getD x.toNat 0 = (upN p x.toNat : Int) := fun x h0 h1 => by
    have h : x.toNat < (othL n p).length := by omega
    rw [List.getD, List.getElem?_eq_getElem h, Option.getD_some, othL_at hp]
  refine up_one ?_ (oth2_up n p q) (fun x => ?_)
  · rw [List.pairwise_map]
    refine (othL_up (n - 1) r).imp_of_mem (fun {a b} ha hb h => ?_)
    have ha' := (mem_othL.1 ha).1
    have hb' := (mem_othL.1 hb).1
    rw [hat a ha'.1 ha'.2, hat b hb'.1 hb'.2]
    unfold upN
    split <;> split <;> omega
  · rw [List.mem_map, mem_oth2]
    constructor
    · rintro ⟨y, hy, rfl⟩
      obtain ⟨hy1, hy2⟩ := mem_othL.1 hy
      rw [hat y hy1.1 hy1.2, ← hq]
      unfold upN
      split <;> split <;> omega
    · rintro ⟨h1, h2, h3⟩
      rw [← hq] at h3
      unfold upN at h3
      refine ⟨if x < p then x else x - 1, mem_othL.2 ⟨?_, ?_⟩, ?_⟩
      · split <;> omega
      · split at h3 <;> split <;> omega
      · rw [hat _ (by split <;> omega) (by split <;> omega)]
        unfold upN
        split <;> split <;> omega
/-- The greater one first. -/
theorem leaves_hi {n lo hi : Nat} {es E1 E2 : List (Int × Int)} (hlt : lo < hi) (hh : hi < n) (h1 : IndE es (othL n hi) E1) (h2 : IndE E1 (othL (n - 1) lo) E2) : IndE es (oth2 n hi lo) E2 := by
  have h := ind_ind h1 h2 (fun x hx => by rw [othL_len hh]; exact (mem_othL.1 hx).1) (othL_nodup _ _)
  rw [oth_oth hh (by omega) (show upN hi lo = lo by unfold upN; rw [if_pos hlt])] at h
  exact h
/-- The lesser one first. -/
theorem leaves_lo {n lo hi : Nat} {es E1 E2 : List (Int × Int)} (hlt : lo < hi) (hh : hi < n) (h1 : IndE es (othL n lo) E1) (h2 : IndE E1 (othL (n - 1) (hi - 1)) E2) : IndE es (oth2 n hi lo) E2 := by
  have h := ind_ind h1 h2 (fun x hx => by rw [othL_len (show lo < n by omega)]; exact (mem_othL.1 hx).1) (othL_nodup _ _)
  rw [oth_oth (show lo < n by omega) (by omega) (show upN lo (hi - 1) = hi by unfold upN; rw [if_neg (by omega)]; omega), oth2_swap] at h
  exact h
end Go.Proofs.Ytagigeieoijciaa
