/-
  What the calls of layer 6 tell, and what follows of it. No program is named here.
  How many edges a deletion and a contraction leave. No program is named here.
  Contractions as images; three that are neighbours, made one. No program is named here.
  Models of patterns, as the document says them (layer 8); what stays one.
  Rings: the ways round, and the least of them. No program is named here.
  Numbers that belong to classes: each number has the least one of its class. No program is named here.
-/
import Derived.Test.YtlebimolgienkaaW02
import Derived.Test.YtlebimolgienkaaRows
namespace Go.Proofs.Ytlebimolgienkaa

/-- All are vertices. -/
def InL (n : Int) (l : List Int) : Prop := ∀ x ∈ l, 0 ≤ x ∧ x < n
/-- Induced (F1): the code, how many vertices, the edges. -/
def IndS (n : Int) (es : List (Int × Int)) (l : List Int) (er N : Int) (E : List (Int × Int)) : Prop :=
  (¬ RightG n es ∧ er = 1 ∧ N = 0 ∧ E = []) ∨ (RightG n es ∧ ¬ InL n l ∧ er = 4 ∧ N = 0 ∧ E = []) ∨ (RightG n es ∧ InL n l ∧ ¬ l.Nodup ∧ er = 1 ∧ N = 0 ∧ E = []) ∨ (RightG n es ∧ InL n l ∧ l.Nodup ∧ er = 0 ∧ N = l.length ∧ IndE es l E)
theorem IndS.one {n : Int} {es : List (Int × Int)} {l : List Int} {er N er' N' : Int} {E E' : List (Int × Int)} (h : IndS n es l er N E) (k : IndS n es l er' N' E') : er = er' ∧ N = N' ∧ E = E' := by
  rcases h with ⟨h1, rfl, rfl, rfl⟩ | ⟨h1, h2, rfl, rfl, rfl⟩ | ⟨h1, h2, h3, rfl, rfl, rfl⟩ | ⟨h1, h2, h3, rfl, rfl, h4⟩
  · rcases k with ⟨_, rfl, rfl, rfl⟩ | ⟨k1, _⟩ | ⟨k1, _⟩ | ⟨k1, _⟩
    · exact ⟨rfl, rfl, rfl⟩
    all_goals exact absurd k1 h1
  · rcases k with ⟨k1, _⟩ | ⟨_, _, rfl, rfl, rfl⟩ | ⟨_, k2, _⟩ | ⟨_, k2, _⟩
    · exact absurd h1 k1
    · exact ⟨rfl, rfl, rfl⟩
    all_goals exact absurd k2 h2
  · rcases k with ⟨k1, _⟩ | ⟨_, k2, _⟩ | ⟨_, _, _, rfl, rfl, rfl⟩ | ⟨_, _, k3, _⟩
    · exact absurd h1 k1
    · exact absurd h2 k2
    · exact ⟨rfl, rfl, rfl⟩
    · exact absurd k3 h3
  · rcases k with ⟨k1, _⟩ | ⟨_, k2, _⟩ | ⟨_, _, k3, _⟩ | ⟨_, _, _, rfl, rfl, k4⟩
    · exact absurd h1 k1
    · exact absurd h2 k2
    · exact absurd h3 k3
    · exact ⟨rfl, rfl, h4.one k4⟩
/-- Delete (F2). -/
def DelS (n : Int) (es : List (Int × Int)) (v er N : Int) (E : List (Int × Int)) : Prop :=
  (¬ RightG n es ∧ er = 1 ∧ N = 0 ∧ E = []) ∨ (RightG n es ∧ ¬ (0 ≤ v ∧ v < n) ∧ er = 4 ∧ N = 0 ∧ E = []) ∨ (RightG n es ∧ (0 ≤ v ∧ v < n) ∧ er = 0 ∧ N = n - 1 ∧ IndE es (othL n.toNat v.toNat) E)
theorem DelS.one {n : Int} {es : List (Int × Int)} {v er N er' N' : Int} {E E' : List (Int × Int)} (h : DelS n es v er N E) (k : DelS n es v er' N' E') : er = er' ∧ N = N' ∧ E = E' := by
  rcases h with ⟨h1, rfl, rfl, rfl⟩ | ⟨h1, h2, rfl, rfl, rfl⟩ | ⟨h1, h2, rfl, rfl, h4⟩
  · rcases k with ⟨_, rfl, rfl, rfl⟩ | ⟨k1, _⟩ | ⟨k1, _⟩
    · exact ⟨rfl, rfl, rfl⟩
    all_goals exact absurd k1 h1
  · rcases k with ⟨k1, _⟩ | ⟨_, _, rfl, rfl, rfl⟩ | ⟨_, k2, _⟩
    · exact absurd h1 k1
    · exact ⟨rfl, rfl, rfl⟩
    · exact absurd k2 h2
  · rcases k with ⟨k1, _⟩ | ⟨_, k2, _⟩ | ⟨_, _, rfl, rfl, k4⟩
    · exact absurd h1 k1
    · exact absurd h2 k2
    · exact ⟨rfl, rfl, h4.one k4⟩
/-- Neighbours, when hi's are lo's, too. -/
def MAdj (es : List (Int × Int)) (lo hi x y : Int) : Prop := Adj es x y ∨ (x = lo ∧ y ≠ lo ∧ Adj es hi y) ∨ (y = lo ∧ x ≠ lo ∧ Adj es hi x)
theorem MAdj.symm {es : List (Int × Int)} {lo hi x y : Int} (h : MAdj es lo hi x y) : MAdj es lo hi y x := by
  rcases h with h | h | h
  · exact Or.inl h.symm
  · exact Or.inr (Or.inr h)
  · exact Or.inr (Or.inl h)
/-- The edges, when two neighbours are one (F3). -/
def ConE (n : Nat) (es : List (Int × Int)) (lo hi : Nat) (E : List (Int × Int)) : Prop := Rises E ∧ ∀ a b : Int, (a, b) ∈ E ↔ ∃ i j : Nat, a = i ∧ b = j ∧ i < j ∧ j + 1 < n ∧ MAdj es lo hi (upN hi i) (upN hi j)
theorem ConE.one {n : Nat} {es : List (Int × Int)} {lo hi : Nat} {E E' : List (Int × Int)} (h : ConE n es lo hi E) (k : ConE n es lo hi E') : E = E' := rises_one h.1 k.1 (fun e => by
  obtain ⟨a, b⟩ := e
  exact (h.2 a b).trans (k.2 a b).symm)
/-- Contract (F3). -/
def ConS (n : Int) (es : List (Int × Int)) (a b er N : Int) (E : List (Int × Int)) : Prop :=
  (¬ RightG n es ∧ er = 1 ∧ N = 0 ∧ E = []) ∨ (RightG n es ∧ ¬ ((0 ≤ a ∧ a < n) ∧ (0 ≤ b ∧ b < n)) ∧ er = 4 ∧ N = 0 ∧ E = []) ∨ (RightG n es ∧ ((0 ≤ a ∧ a < n) ∧ (0 ≤ b ∧ b < n)) ∧ ¬ Adj es a b ∧ er = 6 ∧ N = 0 ∧ E = []) ∨ (RightG n es ∧ ((0 ≤ a ∧ a < n) ∧ (0 ≤ b ∧ b < n)) ∧ Adj es a b ∧ er = 0 ∧ N = n - 1 ∧ ConE n.toNat es (min a b).toNat (max a b).toNat E)
theorem ConS.one {n : Int} {es : List (Int × Int)} {a b er N er' N' : Int} {E E' : List (Int × Int)} (h : ConS n es a b er N E) (k : ConS n es a b er' N' E') : er = er' ∧ N = N' ∧ E = E' := by
  rcases h with ⟨h1, rfl, rfl, rfl⟩ | ⟨h1, h2, rfl, rfl, rfl⟩ | ⟨h1, h2, h3, rfl, rfl, rfl⟩ | ⟨h1, h2, h3, rfl, rfl, h4⟩
  · rcases k with ⟨_, rfl, rfl, rfl⟩ | ⟨k1, _⟩ | ⟨k1, _⟩ | ⟨k1, _⟩
    · exact ⟨rfl, rfl, rfl⟩
    all_goals exact absurd k1 h1
  · rcases k with ⟨k1, _⟩ | ⟨_, _, rfl, rfl, rfl⟩ | ⟨_, k2, _⟩ | ⟨_, k2, _⟩
    · exact absurd h1 k1
    · exact ⟨rfl, rfl, rfl⟩
    all_goals exact absurd k2 h2
  · rcases k with ⟨k1, _⟩ | ⟨_, k2, _⟩ | ⟨_, _, _, rfl, rfl, rfl⟩ | ⟨_, _, k3, _⟩
    · exact absurd h1 k1
    · exact absurd h2 k2
    · exact ⟨rfl, rfl, rfl⟩
    · exact absurd k3 h3
  · rcases k with ⟨k1, _⟩ | ⟨_, k2, _⟩ | ⟨_, _, k3, _⟩ | ⟨_, _, _, rfl, rfl, k4⟩
    · exact absurd h1 k1
    · exact absurd h2 k2
    · exact absurd h3 k3
    · exact ⟨rfl, rfl, h4.one k4⟩
end Go.Proofs.Ytlebimolgienkaa
namespace Go.Proofs.Ytlebimolgienkaa

/-- Edges that do not meet v. -/
def offL (v : Int) (es : List (Int × Int)) : List (Int × Int) := es.filter (fun e => !(e.1 == v) && !(e.2 == v))
theorem mem_offL {v : Int} {es : List (Int × Int)} {e : Int × Int} : e ∈ offL v es ↔ e ∈ es ∧ e.1 ≠ v ∧ e.2 ≠ v := by
  unfold offL
  simp [List.mem_filter]
end Go.Proofs.Ytlebimolgienkaa
namespace Go.Proofs.Ytlebimolgienkaa

/-- The edges under new numbers, in order. -/
def Img (es : List (Int × Int)) (f : Int → Int) (E : List (Int × Int)) : Prop := Rises E ∧ ∀ a b : Int, (a, b) ∈ E ↔ a < b ∧ ∃ x y, Adj es x y ∧ f x = a ∧ f y = b
theorem Img.one {es E E' : List (Int × Int)} {f g : Int → Int} (h : Img es f E) (k : Img es g E') (e : ∀ x y, Adj es x y → f x = g x) : E = E' := rises_one h.1 k.1 (fun z => by
  obtain ⟨a, b⟩ := z
  rw [h.2, k.2]
  constructor
  · rintro ⟨h0, x, y, h1, h2, h3⟩; exact ⟨h0, x, y, h1, by rw [← e x y h1]; exact h2, by rw [← e y x h1.symm]; exact h3⟩
  · rintro ⟨h0, x, y, h1, h2, h3⟩; exact ⟨h0, x, y, h1, by rw [e x y h1]; exact h2, by rw [e y x h1.symm]; exact h3⟩)
end Go.Proofs.Ytlebimolgienkaa
namespace Go.Proofs.Ytlebimolgienkaa

/-- How many vertices a pattern has. -/
def patN (k : Int) : Nat := if k = 1 then 4 else if k = 2 then 5 else 0
/-- Its edges (H1). -/
def patE (k : Int) : List (Int × Int) := if k = 1 then [(0, 1), (0, 2), (0, 3), (1, 2), (1, 3), (2, 3)] else if k = 2 then [(0, 2), (0, 3), (0, 4), (1, 2), (1, 3), (1, 4)] else []
theorem patN_none {k : Int} (h : ¬ (k = 1 ∨ k = 2)) : patN k = 0 := by
  unfold patN; rw [if_neg (fun e => h (Or.inl e)), if_neg (fun e => h (Or.inr e))]
theorem patE_in {k : Int} {e : Int × Int} (h : e ∈ patE k) : 0 ≤ e.1 ∧ e.1 < e.2 ∧ e.2 < patN k := by
  unfold patE at h
  unfold patN
  split at h
  · rename_i e1; rw [if_pos e1]; revert h; revert e; decide
  · rename_i e1
    split at h
    · rename_i e2; rw [if_neg e1, if_pos e2]; revert h; revert e; decide
    · cases h
/-- Some vertex of the one is a neighbour of some of the other. -/
def Touch (es : List (Int × Int)) (A B : List Int) : Prop := ∃ x y, x ∈ A ∧ y ∈ B ∧ Adj es x y
theorem Touch.symm {es : List (Int × Int)} {A B : List Int} (h : Touch es A B) : Touch es B A := by
  obtain ⟨x, y, h1, h2, h3⟩ := h; exact ⟨y, x, h2, h1, h3.symm⟩
/-- The set of a pattern's vertex. -/
def setAt (Ss : List (List Int)) (i : Int) : List Int := Ss.getD i.toNat []
/-- A model (H2). -/
structure ModelL (n : Int) (es : List (Int × Int)) (k : Int) (Ss : List (List Int)) : Prop where
  kind : k = 1 ∨ k = 2
  right : RightG n es
  len : Ss.length = patN k
  whole : ∀ S ∈ Ss, WholeL n es S
  apart : ∀ i j, i < j → ∀ x, x ∈ Ss.getD i [] → x ∉ Ss.getD j []
  meet : ∀ e ∈ patE k, Touch es (setAt Ss e.1) (setAt Ss e.2)
theorem getD_mem {Ss : List (List Int)} {i : Nat} (h : i < Ss.length) : Ss.getD i [] ∈ Ss := by
  rw [List.getD_eq_getElem?_getD, List.getElem?_eq_getElem h]; exact List.getElem_mem h
theorem mem_getD {Ss : List (List Int)} {i : Nat} {x : Int} (h : x ∈ Ss.getD i []) : i < Ss.length := by
  rw [List.getD_eq_getElem?_getD] at h
  rcases Nat.lt_or_ge i Ss.length with h1 | h1
  · exact h1
  · rw [List.getElem?_eq_none h1] at h; cases h
theorem getD_map' {Ss : List (List Int)} {g : List Int → List Int} (h0 : g [] = []) (i : Nat) : (Ss.map g).getD i [] = g (Ss.getD i []) := by
  rw [List.getD_eq_getElem?_getD, List.getD_eq_getElem?_getD, List.getElem?_map]
  cases Ss[i]? with
  | none => simp [h0]
  | some x => rfl
theorem ModelL.ne {n : Int} {es : List (Int × Int)} {k : Int} {Ss : List (List Int)} (h : ModelL n es k Ss) : ∀ i j, i ≠ j → ∀ x, x ∈ Ss.getD i [] → x ∉ Ss.getD j [] := fun i j hij x hx hy => by
  rcases Nat.lt_or_gt_of_ne hij with h1 | h1
  · exact h.apart i j h1 x hx hy
  · exact h.apart j i h1 x hy hx
/-- Sets changed one by one. -/
theorem ModelL.turn {n n' : Int} {es E : List (Int × Int)} {k : Int} {Ss : List (List Int)} (h : ModelL n' E k Ss) (hR : RightG n es) {g : List Int → List Int} (h0 : g [] = [])
    (hw : ∀ S, WholeL n' E S → WholeL n es (g S)) (hd : ∀ A B, (∀ x ∈ A, 0 ≤ x ∧ x < n') → (∀ x ∈ B, 0 ≤ x ∧ x < n') → (∀ x ∈ A, x ∉ B) → ∀ x ∈ g A, x ∉ g B)
    (ht : ∀ A B, Touch E A B → Touch es (g A) (g B)) : ModelL n es k (Ss.map g) := by
  have hin : ∀ i, ∀ x ∈ Ss.getD i [], 0 ≤ x ∧ x < n' := fun _ x hx => (h.whole _ (getD_mem (mem_getD hx))).inn x hx
  refine ⟨h.kind, hR, by rw [List.length_map]; exact h.len, fun S hS => ?_, fun i j hij x hx => ?_, fun e he => ?_⟩
  · obtain ⟨T, hT, rfl⟩ := List.mem_map.1 hS
    exact hw T (h.whole T hT)
  · rw [getD_map' h0] at hx ⊢
    exact hd _ _ (hin i) (hin j) (h.apart i j hij) x hx
  · unfold setAt
    rw [getD_map' h0, getD_map' h0]
    exact ht _ _ (h.meet e he)
/-- A number, when a vertex comes to stand at v. -/
def upI (v x : Int) : Int := if x < v then x else x + 1
/-- A set, lifted. -/
def liftS (lo hi : Int) (S : List Int) : List Int := S.map (upI hi) ++ (if lo ∈ S then [hi] else [])
/-- Lifted (H3). -/
def liftL (a b : Int) (Ss : List (List Int)) : List (List Int) := if min a b < 0 ∨ min a b = max a b then Ss else Ss.map (liftS (min a b) (max a b))
/-- In which set each vertex is. -/
def HomeIs (n : Int) (Ss : List (List Int)) (D : Int → Int) : Prop := ∀ x, 0 ≤ x → x < n → ∀ i : Nat, i < Ss.length → (D x = i ↔ x ∈ Ss.getD i [])
/-- Which sets an edge leads between. -/
def metE (D : Int → Int) (e : Int × Int) : Int × Int := (min (D e.1) (D e.2), max (D e.1) (D e.2))
theorem meet_iff {n : Int} {es : List (Int × Int)} {k : Int} {Ss : List (List Int)} {D : Int → Int} (hR : RightG n es) (hl : Ss.length = patN k) (hin : ∀ i, ∀ x ∈ Ss.getD i [], 0 ≤ x ∧ x < n) (hD : HomeIs n Ss D) (p : Int × Int) (hp : p ∈ patE k) : p ∈ es.map (metE D) ↔ Touch es (setAt Ss p.1) (setAt Ss p.2) := by
  obtain ⟨p1, p2, p3⟩ := patE_in hp
  have l1 : p.1.toNat < Ss.length := by omega
  have l2 : p.2.toNat < Ss.length := by omega
  unfold setAt
  constructor
  · intro h
    obtain ⟨e, he, hm⟩ := List.mem_map.1 h
    obtain ⟨q1, q2, q3⟩ := hR.2.2.2.1 e he
    have hm1 : min (D e.1) (D e.2) = p.1 := congrArg Prod.fst hm
    have hm2 : max (D e.1) (D e.2) = p.2 := congrArg Prod.snd hm
    by_cases hle : D e.1 ≤ D e.2
    · exact ⟨e.1, e.2, (hD e.1 q1 (by omega) _ l1).1 (by omega), (hD e.2 (by omega) q3 _ l2).1 (by omega), Or.inl he⟩
    · exact ⟨e.2, e.1, (hD e.2 (by omega) q3 _ l1).1 (by omega), (hD e.1 q1 (by omega) _ l2).1 (by omega), Or.inr he⟩
  · rintro ⟨x, y, hx, hy, ha⟩
    have ix := hin _ x hx
    have iy := hin _ y hy
    have dx := (hD x ix.1 ix.2 _ l1).2 hx
    have dy := (hD y iy.1 iy.2 _ l2).2 hy
    rcases ha with h | h
    · refine List.mem_map.2 ⟨_, h, Prod.ext ?_ ?_⟩
      · show min (D x) (D y) = _; omega
      · show max (D x) (D y) = _; omega
    · refine List.mem_map.2 ⟨_, h, Prod.ext ?_ ?_⟩
      · show min (D y) (D x) = _; omega
      · show max (D y) (D x) = _; omega
theorem home_ex {n : Int} {es : List (Int × Int)} {k : Int} {Ss : List (List Int)} (h : ModelL n es k Ss) : ∃ D, HomeIs n Ss D := by
  classical
  refine ⟨fun x => if hx : ∃ i : Nat, x ∈ Ss.getD i [] then ((Classical.choose hx : Nat) : Int) else -1, fun x _ _ i _ => ?_⟩
  constructor
  · intro e
    by_cases hx : ∃ i : Nat, x ∈ Ss.getD i []
    · simp only [dif_pos hx] at e
      have := Classical.choose_spec hx
      rw [show Classical.choose hx = i by omega] at this
      exact this
    · simp only [dif_neg hx] at e; omega
  · intro hi
    have hx : ∃ i : Nat, x ∈ Ss.getD i [] := ⟨i, hi⟩
    simp only [dif_pos hx]
    have := Classical.choose_spec hx
    by_cases e : Classical.choose hx = i
    · rw [e]
    · exact absurd hi (h.ne _ _ e x this)
theorem ModelL.inn {n : Int} {es : List (Int × Int)} {k : Int} {Ss : List (List Int)} (h : ModelL n es k Ss) : ∀ i, ∀ x ∈ Ss.getD i [], 0 ≤ x ∧ x < n := fun _ x hx => (h.whole _ (getD_mem (mem_getD hx))).inn x hx
end Go.Proofs.Ytlebimolgienkaa
namespace Go.Proofs.Ytlebimolgienkaa

/-- A ring (E3). -/
def Ring (c : List Int) : Prop := 3 ≤ c.length ∧ c.Nodup
/-- From place s on, the one way round; and the other. -/
def oneL (c : List Int) (s : Nat) : List Int := (List.range c.length).map (fun i => c.getD ((s + i) % c.length) 0)
def twoL (c : List Int) (s : Nat) : List Int := (List.range c.length).map (fun i => c.getD ((s + c.length - i) % c.length) 0)
theorem oneL_len (c : List Int) (s : Nat) : (oneL c s).length = c.length := by simp [oneL]
theorem twoL_len (c : List Int) (s : Nat) : (twoL c s).length = c.length := by simp [twoL]
theorem oneL_at {c : List Int} {s i : Nat} (h : i < (oneL c s).length) : (oneL c s)[i] = c.getD ((s + i) % c.length) 0 := by simp [oneL]
theorem twoL_at {c : List Int} {s i : Nat} (h : i < (twoL c s).length) : (twoL c s)[i] = c.getD ((s + c.length - i) % c.length) 0 := by simp [twoL]
theorem oneL_zero (c : List Int) : oneL c 0 = c := List.ext_getElem (oneL_len c 0) (fun i h1 h2 => by
  rw [oneL_at h1, Nat.zero_add, Nat.mod_eq_of_lt h2]; simp [List.getD, h2])
/-- A way round. -/
def Round (c L : List Int) : Prop := ∃ s, s < c.length ∧ (L = oneL c s ∨ L = twoL c s)
theorem Round.len {c L : List Int} (h : Round c L) : L.length = c.length := by
  obtain ⟨s, _, rfl | rfl⟩ := h
  · exact oneL_len c s
  · exact twoL_len c s
/-- Turn (E3): the least of the ways round. -/
def TurnIs (c L : List Int) : Prop := (¬ Ring c ∧ L = c) ∨ (Ring c ∧ Round c L ∧ ∀ M, Round c M → lexL M L = false)
theorem TurnIs.one {c L M : List Int} (h : TurnIs c L) (k : TurnIs c M) : L = M := by
  rcases h with ⟨h, rfl⟩ | ⟨h, h1, h2⟩
  · rcases k with ⟨_, rfl⟩ | ⟨k, _⟩
    · rfl
    · exact absurd k h
  · rcases k with ⟨k, _⟩ | ⟨_, k1, k2⟩
    · exact absurd h k
    · exact lexL_tri (k2 L h1) (h2 M k1)
theorem TurnIs.len {c L : List Int} (h : TurnIs c L) : L.length = c.length := by
  rcases h with ⟨_, rfl⟩ | ⟨_, h, _⟩
  · rfl
  · exact h.len
/-- The best so far, of the ways from the first k places on. -/
def BestTo (c B : List Int) (k : Nat) : Prop := Round c B ∧ ∀ s, s < k → lexL (oneL c s) B = false ∧ lexL (twoL c s) B = false
theorem lex_low {M A B : List Int} (h : lexL M B = false) (k : A = B ∨ lexL A B = true) : lexL M A = false := by
  rcases k with rfl | k
  · exact h
  · cases h2 : lexL M A with
    | false => rfl
    | true => rw [lexL_trans h2 k] at h; cases h
theorem BestTo.low {c A B : List Int} {k : Nat} (h : BestTo c B k) (hA : Round c A) (hk : lexL A B = true) : BestTo c A k :=
  ⟨hA, fun s hs => ⟨lex_low (h.2 s hs).1 (Or.inr hk), lex_low (h.2 s hs).2 (Or.inr hk)⟩⟩
theorem BestTo.put {c B B1 B2 : List Int} {k : Nat} (h : BestTo c B k) (hk : k < c.length) (h1 : B1 = if lexL (oneL c k) B = true then oneL c k else B) (h2 : B2 = if lexL (twoL c k) B1 = true then twoL c k else B1) : BestTo c B2 (k + 1) := by
  have a1 : BestTo c B1 k ∧ lexL (oneL c k) B1 = false := by
    by_cases e : lexL (oneL c k) B = true
    · rw [if_pos e] at h1; subst h1; exact ⟨h.low ⟨k, hk, Or.inl rfl⟩ e, lexL_irrefl _⟩
    · rw [if_neg e] at h1; subst h1; exact ⟨h, by simpa using e⟩
  have a2 : BestTo c B2 k ∧ lexL (oneL c k) B2 = false ∧ lexL (twoL c k) B2 = false := by
    by_cases e : lexL (twoL c k) B1 = true
    · rw [if_pos e] at h2; subst h2; exact ⟨a1.1.low ⟨k, hk, Or.inr rfl⟩ e, lex_low a1.2 (Or.inr e), lexL_irrefl _⟩
    · rw [if_neg e] at h2; subst h2; exact ⟨a1.1, a1.2, by simpa using e⟩
  refine ⟨a2.1.1, fun s hs => ?_⟩
  by_cases e : s < k
  · exact a2.1.2 s e
  · obtain rfl : s = k := by omega
    exact a2.2
theorem BestTo.turn {c B : List Int} (h : BestTo c B c.length) (hc : Ring c) : TurnIs c B := Or.inr ⟨hc, h.1, fun M hM => by
  obtain ⟨s, hs, rfl | rfl⟩ := hM
  · exact (h.2 s hs).1
  · exact (h.2 s hs).2⟩

theorem mod_sub_self {n p : Nat} : (p + n - p) % n = 0 := by
  rw [Nat.add_sub_cancel_left]; exact Nat.mod_self n
/-- A way round of a way round is a way round. -/
theorem getD_mod {c : List Int} {n : Nat} {f : Nat → Nat} (L : List Int) (hL : L = (List.range c.length).map (fun i => c.getD (f i % c.length) 0)) (hn : n = c.length) (i : Nat) (hi : i < n) : L.getD i 0 = c.getD (f i % c.length) 0 := by
  subst hL
  subst hn
  simp [List.getD, hi]
theorem one_one {c : List Int} (hc : 0 < c.length) (s t : Nat) : oneL (oneL c s) t = oneL c ((s + t) % c.length) := by
  refine List.ext_getElem (by rw [oneL_len, oneL_len, oneL_len]) (fun i h1 h2 => ?_)
  rw [oneL_at h1, oneL_at h2, oneL_len]
  rw [getD_mod (f := fun i => s + i) (oneL c s) rfl rfl _ (Nat.mod_lt _ hc)]
  congr 1
  simp only [Nat.add_mod_mod, Nat.mod_add_mod, Nat.add_assoc]
theorem sub_mod' {n a b : Nat} (hb : b ≤ n) : (a + n - b) % n = (a % n + n - b) % n := by
  have h : a + n - b = a % n + n - b + n * (a / n) := by
    have := Nat.mod_add_div a n
    omega
  rw [h, Nat.add_mul_mod_self_left]
theorem two_one {c : List Int} (hc : 0 < c.length) (s t : Nat) : oneL (twoL c s) t = twoL c ((s + c.length - t % c.length) % c.length) := by
  refine List.ext_getElem (by rw [oneL_len, twoL_len, twoL_len]) (fun i h1 h2 => ?_)
  rw [oneL_at h1, twoL_at h2, twoL_len]
  have hlt := Nat.mod_lt (t + i) hc
  rw [getD_mod (f := fun i => s + c.length - i) (twoL c s) rfl rfl _ hlt]
  have hi : i < c.length := by rw [twoL_len] at h2; exact h2
  congr 1
  have ht := Nat.mod_lt t hc
  show (s + c.length - (t + i) % c.length) % c.length = ((s + c.length - t % c.length) % c.length + c.length - i) % c.length
  rw [← sub_mod' (Nat.le_of_lt hi)]
  have e : (t + i) % c.length = (t % c.length + i) % c.length := by rw [Nat.mod_add_mod]
  rw [e]
  by_cases h : t % c.length + i < c.length
  · rw [Nat.mod_eq_of_lt h]
    have : s + c.length - t % c.length + c.length - i = s + c.length - (t % c.length + i) + c.length := by omega
    rw [this, Nat.add_mod_right]
  · have e2 : (t % c.length + i) % c.length = t % c.length + i - c.length := by
      rw [Nat.mod_eq_sub_mod (by omega), Nat.mod_eq_of_lt (by omega)]
    rw [e2]
    congr 1
    omega
theorem one_two {c : List Int} (hc : 0 < c.length) (s t : Nat) : twoL (oneL c s) t = twoL c ((s + t) % c.length) := by
  refine List.ext_getElem (by rw [twoL_len, oneL_len, twoL_len]) (fun i h1 h2 => ?_)
  rw [twoL_at h1, twoL_at h2, oneL_len]
  have hi : i < c.length := by rw [twoL_len] at h2; exact h2
  rw [getD_mod (f := fun i => s + i) (oneL c s) rfl rfl _ (Nat.mod_lt _ hc)]
  congr 1
  show (s + (t + c.length - i) % c.length) % c.length = ((s + t) % c.length + c.length - i) % c.length
  rw [Nat.add_mod_mod, ← sub_mod' (Nat.le_of_lt hi)]
  congr 1
  omega
theorem two_two {c : List Int} (hc : 0 < c.length) (s t : Nat) : twoL (twoL c s) t = oneL c ((s + c.length - t % c.length) % c.length) := by
  refine List.ext_getElem (by rw [twoL_len, twoL_len, oneL_len]) (fun i h1 h2 => ?_)
  rw [twoL_at h1, oneL_at h2, twoL_len]
  have hi : i < c.length := by rw [oneL_len] at h2; exact h2
  have hlt := Nat.mod_lt (t + c.length - i) hc
  rw [getD_mod (f := fun i => s + c.length - i) (twoL c s) rfl rfl _ hlt]
  congr 1
  show (s + c.length - (t + c.length - i) % c.length) % c.length = ((s + c.length - t % c.length) % c.length + i) % c.length
  have ht := Nat.mod_lt t hc
  rw [Nat.mod_add_mod, sub_mod' (a := t) (Nat.le_of_lt hi)]
  by_cases h : t % c.length < i
  · rw [Nat.mod_eq_of_lt (a := t % c.length + c.length - i) (by omega), show s + c.length - t % c.length + i = s + c.length - (t % c.length + c.length - i) + c.length by omega, Nat.add_mod_right]
  · have e2 : (t % c.length + c.length - i) % c.length = t % c.length - i := by
      rw [show t % c.length + c.length - i = t % c.length - i + c.length by omega, Nat.add_mod_right, Nat.mod_eq_of_lt (by omega)]
    rw [e2]
    congr 1
    omega
/-- The ways round of a way round are those of the ring. -/
theorem Round.trans {c L M : List Int} (h : Round c L) (k : Round L M) : Round c M := by
  have hl := h.len
  obtain ⟨t, ht, hM⟩ := k
  have hc : 0 < c.length := by omega
  obtain ⟨s, hs, rfl | rfl⟩ := h
  · rcases hM with rfl | rfl
    · exact ⟨_, Nat.mod_lt _ hc, Or.inl (one_one hc s t)⟩
    · exact ⟨_, Nat.mod_lt _ hc, Or.inr (one_two hc s t)⟩
  · rcases hM with rfl | rfl
    · exact ⟨_, Nat.mod_lt _ hc, Or.inr (two_one hc s t)⟩
    · exact ⟨_, Nat.mod_lt _ hc, Or.inl (two_two hc s t)⟩
theorem Round.symm {c L : List Int} (h : Round c L) : Round L c := by
  have hl := h.len
  obtain ⟨s, hs, rfl | rfl⟩ := h
  · refine ⟨(c.length - s) % c.length, by rw [hl]; exact Nat.mod_lt _ (by omega), Or.inl ?_⟩
    rw [one_one (by omega), Nat.add_mod_mod, show s + (c.length - s) = c.length by omega, Nat.mod_self, oneL_zero]
  · refine ⟨s, by rw [hl]; exact hs, Or.inr ?_⟩
    rw [two_two (by omega), Nat.mod_eq_of_lt hs, mod_sub_self, oneL_zero]
theorem Round.mem {c L : List Int} (h : Round c L) {x : Int} (hx : x ∈ L) : x ∈ c := by
  have hl := h.len
  have hp := List.length_pos_of_mem hx
  have hc : 0 < c.length := by omega
  obtain ⟨s, hs, rfl | rfl⟩ := h
  · obtain ⟨i, _, rfl⟩ := List.mem_map.1 hx
    have := Nat.mod_lt (s + i) hc
    simp [List.getD, this]
  · obtain ⟨i, _, rfl⟩ := List.mem_map.1 hx
    have := Nat.mod_lt (s + c.length - i) hc
    simp [List.getD, this]
theorem nodup_of_sub {a b : List Int} (h : a.Nodup) (hl : b.length = a.length) (hs : ∀ x ∈ a, x ∈ b) : b.Nodup := by
  induction a generalizing b with
  | nil => simp at hl; subst hl; simp
  | cons x a ih =>
    have hx : x ∈ b := hs x (by simp)
    obtain ⟨h1, h2⟩ := List.nodup_cons.1 h
    have hle : (b.erase x).length = a.length := by rw [List.length_erase_of_mem hx]; simp at hl; omega
    have hsub : ∀ e ∈ a, e ∈ b.erase x := fun e he => (List.mem_erase_of_ne (fun e' => h1 (by rw [← e']; exact he))).2 (hs e (List.mem_cons_of_mem _ he))
    have hn := ih h2 hle hsub
    have hxn : x ∉ b.erase x := fun hm => by
      have := len_le_subI (a := x :: a) (b := b.erase x) h (fun e he => by
        rcases List.mem_cons.1 he with rfl | he
        · exact hm
        · exact hsub e he)
      simp at this
      omega
    exact (List.perm_cons_erase hx).nodup_iff.2 (List.nodup_cons.2 ⟨hxn, hn⟩)
theorem Round.ring {c L : List Int} (h : Round c L) (hc : Ring c) : Ring L := ⟨by rw [h.len]; exact hc.1, nodup_of_sub hc.2 h.len (fun _ hx => h.symm.mem hx)⟩
/-- A ring's Turn is the Turn of each of its ways round. -/
theorem TurnIs.round {c d L : List Int} (h : TurnIs c L) (hd : Round c d) (hc : Ring c) : TurnIs d L := by
  rcases h with ⟨h, _⟩ | ⟨_, h1, h2⟩
  · exact absurd hc h
  · exact Or.inr ⟨hd.ring hc, hd.symm.trans h1, fun M hM => h2 M (hd.trans hM)⟩
theorem TurnIs.again {c L : List Int} (h : TurnIs c L) : TurnIs L L := by
  by_cases hc : Ring c
  · have h' := h
    rcases h with ⟨h, _⟩ | ⟨_, h1, _⟩
    · exact absurd hc h
    · exact h'.round h1 hc
  · rcases h with ⟨_, rfl⟩ | ⟨h, _⟩
    · exact Or.inl ⟨hc, rfl⟩
    · exact absurd h hc
/-- The way back from the same place. -/
theorem two_back {c : List Int} (hc : 0 < c.length) : twoL c 0 = (c.headD 0) :: c.tail.reverse := by
  obtain ⟨x, l, rfl⟩ : ∃ x l, c = x :: l := by
    cases c with
    | nil => simp at hc
    | cons x l => exact ⟨x, l, rfl⟩
  refine List.ext_getElem (by rw [twoL_len]; simp) (fun i h1 h2 => ?_)
  rw [twoL_at h1]
  cases i with
  | zero => simp
  | succ j =>
    have hj : j < l.length := by rw [twoL_len] at h1; simpa using h1
    simp only [List.headD_cons, List.tail_cons, List.getElem_cons_succ, List.getElem_reverse, List.length_cons, Nat.zero_add]
    rw [Nat.mod_eq_of_lt (by omega), show l.length + 1 - (j + 1) = (l.length - 1 - j) + 1 by omega]
    simp [List.getD]
    rw [List.getElem?_eq_getElem (by omega)]
    rfl
/-- The Turn of a ring begins with its least number and goes on to the lesser neighbour. -/
theorem TurnIs.first {c L : List Int} (h : TurnIs c L) (hc : Ring c) : ∀ (h1 : 1 < L.length), L[1] < L[L.length - 1] := by
  intro h1
  have hr : Ring L := by
    rcases h with ⟨h, _⟩ | ⟨_, h2, _⟩
    · exact absurd hc h
    · exact h2.ring hc
  have hself := h.again
  rcases hself with ⟨h2, _⟩ | ⟨_, _, h2⟩
  · exact absurd hr h2
  · have h3 := h2 (twoL L 0) ⟨0, by omega, Or.inr rfl⟩
    rw [two_back (by omega)] at h3
    have hl := hr.1
    match L, h1, hr, h3, hl with
    | x :: z :: w :: l, h1, hr, h3, hl =>
      have hne : (x :: z :: w :: l).tail.reverse ≠ [] := by simp
      obtain ⟨u, t, ht⟩ := List.exists_cons_of_ne_nil hne
      have hu : u = (x :: z :: w :: l)[(x :: z :: w :: l).length - 1]'(by simp) := by
        have : ((x :: z :: w :: l).tail.reverse)[0]'(by rw [ht]; simp) = u := by rw [List.getElem_of_eq ht]; rfl
        rw [← this, List.getElem_reverse, List.getElem_tail]
        congr 1
      rw [ht] at h3
      simp only [List.headD_cons, lexL, Int.lt_irrefl, decide_false, beq_self_eq_true, Bool.true_and, Bool.false_or] at h3
      rw [Bool.or_eq_false_iff, decide_eq_false_iff_not] at h3
      have hz : z ≠ u := by
        intro e
        have := List.pairwise_iff_getElem.1 hr.2 1 ((x :: z :: w :: l).length - 1) (by simp) (by simp) (by simp)
        apply this
        rw [← hu, ← e]
        rfl
      rw [← hu]
      show z < u
      have := h3.1
      omega
end Go.Proofs.Ytlebimolgienkaa
namespace Go.Proofs.Ytlebimolgienkaa

/-- Each of the numbers below n has the least one of its class. -/
structure Pt (n : Nat) (f : Nat → Nat) : Prop where
  le : ∀ i, i < n → f i ≤ i
  idem : ∀ i, i < n → f (f i) = f i
theorem pt_new (n : Nat) : Pt n (fun i => i) := ⟨fun _ _ => Nat.le_refl _, fun _ _ => rfl⟩
theorem Pt.lt {n : Nat} {f : Nat → Nat} (h : Pt n f) {i : Nat} (hi : i < n) : f i < n := Nat.lt_of_le_of_lt (h.le i hi) hi
theorem Pt.congr {n : Nat} {f g : Nat → Nat} (h : Pt n f) (e : ∀ i, i < n → f i = g i) : Pt n g :=
  ⟨fun i hi => by rw [← e i hi]; exact h.le i hi, fun i hi => by rw [← e i hi, ← e (f i) (h.lt hi)]; exact h.idem i hi⟩
/-- What a join makes of it. -/
def joinF (f : Nat → Nat) (a b i : Nat) : Nat := if f i = max (f a) (f b) then min (f a) (f b) else f i
theorem Pt.join {n : Nat} {f : Nat → Nat} (h : Pt n f) {a b : Nat} (ha : a < n) (hb : b < n) : Pt n (joinF f a b) := by
  have ia := h.idem a ha
  have ib := h.idem b hb
  refine ⟨fun i hi => ?_, fun i hi => ?_⟩
  · have := h.le i hi
    unfold joinF
    split <;> omega
  · have ii := h.idem i hi
    unfold joinF
    by_cases e : f i = max (f a) (f b)
    · rw [if_pos e]
      have hm : f (min (f a) (f b)) = min (f a) (f b) := by
        rcases Nat.le_total (f a) (f b) with h1 | h1
        · rw [Nat.min_eq_left h1]; exact ia
        · rw [Nat.min_eq_right h1]; exact ib
      rw [hm]
      split <;> rfl
    · rw [if_neg e, ii, if_neg e]
theorem joinF_same (f : Nat → Nat) (a b i k : Nat) : joinF f a b i = joinF f a b k ↔ f i = f k ∨ (f i = f a ∧ f k = f b) ∨ (f i = f b ∧ f k = f a) := by
  unfold joinF
  by_cases e1 : f i = max (f a) (f b)
  · by_cases e2 : f k = max (f a) (f b)
    · rw [if_pos e1, if_pos e2]; omega
    · rw [if_pos e1, if_neg e2]; omega
  · by_cases e2 : f k = max (f a) (f b)
    · rw [if_neg e1, if_pos e2]; omega
    · rw [if_neg e1, if_neg e2]; omega
theorem joinF_one {f : Nat → Nat} {a b : Nat} (h : f a = f b) (i : Nat) : joinF f a b i = f i := by
  unfold joinF
  rw [h, Nat.max_self, Nat.min_self]
  split
  · next e => exact e.symm
  · rfl

/-- Belonging together by pairs: the least relation of that kind. -/
def Cl (P : List (Nat × Nat)) (a b : Nat) : Prop :=
  ∀ R : Nat → Nat → Prop, (∀ x, R x x) → (∀ x y, R x y → R y x) → (∀ x y z, R x y → R y z → R x z) → (∀ e ∈ P, R e.1 e.2) → R a b
theorem Cl.refl (P : List (Nat × Nat)) (a : Nat) : Cl P a a := fun _ h _ _ _ => h a
theorem Cl.symm {P : List (Nat × Nat)} {a b : Nat} (h : Cl P a b) : Cl P b a := fun R r s t p => s _ _ (h R r s t p)
theorem Cl.trans {P : List (Nat × Nat)} {a b c : Nat} (h : Cl P a b) (k : Cl P b c) : Cl P a c := fun R r s t p => t _ _ _ (h R r s t p) (k R r s t p)
theorem Cl.of {P : List (Nat × Nat)} {e : Nat × Nat} (h : e ∈ P) : Cl P e.1 e.2 := fun _ _ _ _ p => p e h
theorem Cl.mono {P Q : List (Nat × Nat)} {a b : Nat} (h : Cl P a b) (hs : ∀ e ∈ P, Cl Q e.1 e.2) : Cl Q a b :=
  h (Cl Q) (Cl.refl Q) (fun _ _ => Cl.symm) (fun _ _ _ => Cl.trans) hs
/-- The classes are those of the pairs. -/
def Tells (n : Nat) (f : Nat → Nat) (P : List (Nat × Nat)) : Prop := ∀ a b, a < n → b < n → (f a = f b ↔ Cl P a b)
def PairsIn (n : Nat) (P : List (Nat × Nat)) : Prop := ∀ e ∈ P, e.1 < n ∧ e.2 < n
theorem cl_nil {a b : Nat} (h : Cl [] a b) : a = b := h (fun x y => x = y) (fun _ => rfl) (fun _ _ h => h.symm) (fun _ _ _ h k => h.trans k) (fun e he => absurd he (by simp))
theorem tells_new (n : Nat) : Tells n (fun i => i) [] := fun a b _ _ => ⟨fun h => by have h' : a = b := h; rw [h']; exact Cl.refl _ _, cl_nil⟩
theorem tells_join {n : Nat} {f : Nat → Nat} {P : List (Nat × Nat)} (h : Tells n f P) (hP : PairsIn n P) {a b : Nat} (ha : a < n) (hb : b < n) : Tells n (joinF f a b) (P ++ [(a, b)]) := by
  have up : ∀ x y, Cl P x y → Cl (P ++ [(a, b)]) x y := fun x y hx => hx.mono (fun e he => Cl.of (List.mem_append_left _ he))
  have ab : Cl (P ++ [(a, b)]) a b := Cl.of (e := (a, b)) (by simp)
  intro i k hi hk
  constructor
  · intro e
    rcases (joinF_same f a b i k).1 e with e | ⟨e1, e2⟩ | ⟨e1, e2⟩
    · exact up _ _ ((h i k hi hk).1 e)
    · exact (up _ _ ((h i a hi ha).1 e1)).trans (ab.trans (up _ _ ((h k b hk hb).1 e2)).symm)
    · exact (up _ _ ((h i b hi hb).1 e1)).trans (ab.symm.trans (up _ _ ((h k a hk ha).1 e2)).symm)
  · intro hc
    have := hc (fun x y => x = y ∨ (x < n ∧ y < n ∧ joinF f a b x = joinF f a b y)) (fun x => Or.inl rfl) ?_ ?_ ?_
    · rcases this with e | ⟨_, _, e⟩
      · rw [e]
      · exact e
    · rintro x y (e | ⟨h1, h2, h3⟩)
      · exact Or.inl e.symm
      · exact Or.inr ⟨h2, h1, h3.symm⟩
    · rintro x y z (e | ⟨h1, h2, h3⟩) (e' | ⟨h1', h2', h3'⟩)
      · exact Or.inl (e.trans e')
      · rw [e]; exact Or.inr ⟨h1', h2', h3'⟩
      · rw [← e']; exact Or.inr ⟨h1, h2, h3⟩
      · exact Or.inr ⟨h1, h2', h3.trans h3'⟩
    · intro e he
      rcases List.mem_append.1 he with he | he
      · have hin := hP e he
        exact Or.inr ⟨hin.1, hin.2, (joinF_same _ _ _ _ _).2 (Or.inl ((h _ _ hin.1 hin.2).2 (Cl.of he)))⟩
      · simp at he
        subst he
        exact Or.inr ⟨ha, hb, (joinF_same _ _ _ _ _).2 (Or.inr (Or.inl ⟨rfl, rfl⟩))⟩
/-- There is one way alone to tell classes by their least numbers. -/
theorem pt_one {n : Nat} {f g : Nat → Nat} (hf : Pt n f) (hg : Pt n g) (h : ∀ a b, a < n → b < n → (f a = f b ↔ g a = g b)) : ∀ i, i < n → f i = g i := fun i hi => by
  have h1 : g (f i) = g i := (h _ _ (hf.lt hi) hi).1 (hf.idem i hi)
  have h2 : f (g i) = f i := (h _ _ (hg.lt hi) hi).2 (hg.idem i hi)
  have h3 := hg.le (f i) (hf.lt hi)
  have h4 := hf.le (g i) (hg.lt hi)
  omega
theorem tells_one {n : Nat} {f g : Nat → Nat} {P Q : List (Nat × Nat)} (hf : Pt n f) (hg : Pt n g) (tf : Tells n f P) (tg : Tells n g Q) (hPQ : ∀ e ∈ P, Cl Q e.1 e.2) (hQP : ∀ e ∈ Q, Cl P e.1 e.2) : ∀ i, i < n → f i = g i :=
  pt_one hf hg (fun a b ha hb => (tf a b ha hb).trans ((Iff.intro (fun h => h.mono hPQ) (fun h => h.mono hQP)).trans (tg a b ha hb).symm))

/-- The least numbers, and each one's class. -/
def repsF (n : Nat) (f : Nat → Nat) : List Nat := (List.range n).filter (fun i => f i == i)
theorem mem_reps {n : Nat} {f : Nat → Nat} {i : Nat} : i ∈ repsF n f ↔ i < n ∧ f i = i := by simp [repsF]
theorem reps_rises (n : Nat) (f : Nat → Nat) : (repsF n f).Pairwise (· < ·) := List.Pairwise.filter _ List.pairwise_lt_range
/-- A join makes one class fewer. -/
theorem reps_join {n : Nat} {f : Nat → Nat} (h : Pt n f) {a b : Nat} (ha : a < n) (hb : b < n) (hne : f a ≠ f b) : (repsF n f).length = (repsF n (joinF f a b)).length + 1 := by
  have hy : max (f a) (f b) ∈ repsF n f := by
    rw [mem_reps]
    rcases Nat.le_total (f a) (f b) with h1 | h1
    · rw [Nat.max_eq_right h1]; exact ⟨h.lt hb, h.idem b hb⟩
    · rw [Nat.max_eq_left h1]; exact ⟨h.lt ha, h.idem a ha⟩
  have e : repsF n (joinF f a b) = (repsF n f).filter (fun i => !(i == max (f a) (f b))) := by
    unfold repsF
    rw [List.filter_filter]
    refine List.filter_congr (fun i _ => ?_)
    unfold joinF
    by_cases h1 : f i = max (f a) (f b)
    · rw [if_pos h1]
      by_cases h2 : i = max (f a) (f b)
      · have h3 : ¬ min (f a) (f b) = i := by omega
        have h4 : (min (f a) (f b) == i) = false := beq_eq_false_iff_ne.2 h3
        have h5 : (i == max (f a) (f b)) = true := beq_iff_eq.2 h2
        rw [h4, h5]; rfl
      · have h3 : ¬ f i = i := by omega
        have h4 : ¬ min (f a) (f b) = i := fun e => by
          have : f i = i := by
            rw [← e]
            rcases Nat.le_total (f a) (f b) with h5 | h5
            · rw [Nat.min_eq_left h5]; exact h.idem a ha
            · rw [Nat.min_eq_right h5]; exact h.idem b hb
          omega
        rw [beq_eq_false_iff_ne.2 h3, beq_eq_false_iff_ne.2 h4, Bool.and_false]
    · rw [if_neg h1]
      by_cases h2 : i = max (f a) (f b)
      · have h4 : (f i == i) = false := beq_eq_false_iff_ne.2 (by omega)
        rw [h4, Bool.and_false]
      · simp [h2]
  rw [e]
  have hnd : (repsF n f).Nodup := (reps_rises n f).imp (fun h => by omega)
  have := List.length_eq_countP_add_countP (fun i => i == max (f a) (f b)) (l := repsF n f)
  rw [List.countP_eq_length_filter, List.countP_eq_length_filter] at this
  have h1 : ((repsF n f).filter (fun i => i == max (f a) (f b))).length = 1 := by
    rw [← List.countP_eq_length_filter]
    exact Nat.le_antisymm (List.nodup_iff_count.1 hnd _) (List.count_pos_iff.2 hy)
  rw [h1] at this
  rw [this, Nat.add_comm]
  congr 2
  refine List.filter_congr (fun i _ => by cases h : (i == max (f a) (f b)) <;> simp)
end Go.Proofs.Ytlebimolgienkaa
