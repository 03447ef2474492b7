/-
  What the calls of layer 6 tell, and what follows of it. No program is named here.
  How many edges a deletion and a contraction leave. No program is named here.
  Contractions as images; three that are neighbours, made one. No program is named here.
  Models of patterns, as the document says them (layer 8); what stays one.
  Subdivisions of patterns, as the document says them (layer 9); what stays one.
  The document's Right, Has: which graphs may be; are two vertices neighbours?
  The document's Sorted: a row of numbers, rising.
-/
import Derived.Test.YtckcbaegehfkoaaC03
import Derived.Test.YtckcbaegehfkoaaC02
import Derived.BigQuiet
import Derived.Laws.IdiomCopy
import Derived.Deep.DeepCutAuto
namespace Go.Proofs.Ytckcbaegehfkoaa

/-- All are vertices. -/
def InL (n : Int) (l : List Int) : Prop := ∀ x ∈ l, 0 ≤ x ∧ x < n
/-- Induced (F1): the code, how many vertices, the edges. -/
def IndS (n : Int) (es : List (Int × Int)) (l : List Int) (er N : Int) (E : List (Int × Int)) : Prop :=
  (¬ RightG n es ∧ er = 1 ∧ N = 0 ∧ E = []) ∨ (RightG n es ∧ ¬ InL n l ∧ er = 4 ∧ N = 0 ∧ E = []) ∨ (RightG n es ∧ InL n l ∧ ¬ l.Nodup ∧ er = 1 ∧ N = 0 ∧ E = []) ∨ (RightG n es ∧ InL n l ∧ l.Nodup ∧ er = 0 ∧ N = l.length ∧ IndE es l E)
theorem IndS.one {n : Int} {es : List (Int × Int)} {l : List Int} {er N er' N' : Int} {E E' : List (Int × Int)} (h : IndS n es l er N E) (k : IndS n es l er' N' E') : er = er' ∧ N = N' ∧ E = E' := by
  rcases h with ⟨h1, rfl, rfl, rfl⟩ | ⟨h1, h2, rfl, rfl, rfl⟩ | ⟨h1, h2, h3, rfl, rfl, rfl⟩ | ⟨h1, h2, h3, rfl, rfl, h4⟩
  · rcases k with ⟨_, rfl, rfl, rfl⟩ | ⟨k1, _⟩ | ⟨k1, _⟩ | ⟨k1, _⟩
    · exact ⟨rfl, rfl, rfl⟩
    all_goals exact absurd k1 h1
  · rcases k with ⟨k1, _⟩ | ⟨_, _, rfl, rfl, rfl⟩ | ⟨_, k2, _⟩ | ⟨_, k2, _⟩
    · exact absurd h1 k1
    · exact ⟨rfl, rfl, rfl⟩
    all_goals exact absurd k2 h2
  · rcases k with ⟨k1, _⟩ | ⟨_, k2, _⟩ | ⟨_, _, _, rfl, rfl, rfl⟩ | ⟨_, _, k3, _⟩
    · exact absurd h1 k1
    · exact absurd h2 k2
    · exact ⟨rfl, rfl, rfl⟩
    · exact absurd k3 h3
  · rcases k with ⟨k1, _⟩ | ⟨_, k2, _⟩ | ⟨_, _, k3, _⟩ | ⟨_, _, _, rfl, rfl, k4⟩
    · exact absurd h1 k1
    · exact absurd h2 k2
    · exact absurd h3 k3
    · exact ⟨rfl, rfl, h4.one k4⟩
/-- Delete (F2). -/
def DelS (n : Int) (es : List (Int × Int)) (v er N : Int) (E : List (Int × Int)) : Prop :=
  (¬ RightG n es ∧ er = 1 ∧ N = 0 ∧ E = []) ∨ (RightG n es ∧ ¬ (0 ≤ v ∧ v < n) ∧ er = 4 ∧ N = 0 ∧ E = []) ∨ (RightG n es ∧ (0 ≤ v ∧ v < n) ∧ er = 0 ∧ N = n - 1 ∧ IndE es (othL n.toNat v.toNat) E)
theorem DelS.one {n : Int} {es : List (Int × Int)} {v er N er' N' : Int} {E E' : List (Int × Int)} (h : DelS n es v er N E) (k : DelS n es v er' N' E') : er = er' ∧ N = N' ∧ E = E' := by
  rcases h with ⟨h1, rfl, rfl, rfl⟩ | ⟨h1, h2, rfl, rfl, rfl⟩ | ⟨h1, h2, rfl, rfl, h4⟩
  · rcases k with ⟨_, rfl, rfl, rfl⟩ | ⟨k1, _⟩ | ⟨k1, _⟩
    · exact ⟨rfl, rfl, rfl⟩
    all_goals exact absurd k1 h1
  · rcases k with ⟨k1, _⟩ | ⟨_, _, rfl, rfl, rfl⟩ | ⟨_, k2, _⟩
    · exact absurd h1 k1
    · exact ⟨rfl, rfl, rfl⟩
    · exact absurd k2 h2
  · rcases k with ⟨k1, _⟩ | ⟨_, k2, _⟩ | ⟨_, _, rfl, rfl, k4⟩
    · exact absurd h1 k1
    · exact absurd h2 k2
    · exact ⟨rfl, rfl, h4.one k4⟩
/-- Neighbours, when hi's are lo's, too. -/
def MAdj (es : List (Int × Int)) (lo hi x y : Int) : Prop := Adj es x y ∨ (x = lo ∧ y ≠ lo ∧ Adj es hi y) ∨ (y = lo ∧ x ≠ lo ∧ Adj es hi x)
theorem MAdj.symm {es : List (Int × Int)} {lo hi x y : Int} (h : MAdj es lo hi x y) : MAdj es lo hi y x := by
  rcases h with h | h | h
  · exact Or.inl h.symm
  · exact Or.inr (Or.inr h)
  · exact Or.inr (Or.inl h)
/-- The edges, when two neighbours are one (F3). -/
def ConE (n : Nat) (es : List (Int × Int)) (lo hi : Nat) (E : List (Int × Int)) : Prop := Rises E ∧ ∀ a b : Int, (a, b) ∈ E ↔ ∃ i j : Nat, a = i ∧ b = j ∧ i < j ∧ j + 1 < n ∧ MAdj es lo hi (upN hi i) (upN hi j)
theorem ConE.one {n : Nat} {es : List (Int × Int)} {lo hi : Nat} {E E' : List (Int × Int)} (h : ConE n es lo hi E) (k : ConE n es lo hi E') : E = E' := rises_one h.1 k.1 (fun e => by
  obtain ⟨a, b⟩ := e
  exact (h.2 a b).trans (k.2 a b).symm)
/-- Contract (F3). -/
def ConS (n : Int) (es : List (Int × Int)) (a b er N : Int) (E : List (Int × Int)) : Prop :=
  (¬ RightG n es ∧ er = 1 ∧ N = 0 ∧ E = []) ∨ (RightG n es ∧ ¬ ((0 ≤ a ∧ a < n) ∧ (0 ≤ b ∧ b < n)) ∧ er = 4 ∧ N = 0 ∧ E = []) ∨ (RightG n es ∧ ((0 ≤ a ∧ a < n) ∧ (0 ≤ b ∧ b < n)) ∧ ¬ Adj es a b ∧ er = 6 ∧ N = 0 ∧ E = []) ∨ (RightG n es ∧ ((0 ≤ a ∧ a < n) ∧ (0 ≤ b ∧ b < n)) ∧ Adj es a b ∧ er = 0 ∧ N = n - 1 ∧ ConE n.toNat es (min a b).toNat (max a b).toNat E)
theorem ConS.one {n : Int} {es : List (Int × Int)} {a b er N er' N' : Int} {E E' : List (Int × Int)} (h : ConS n es a b er N E) (k : ConS n es a b er' N' E') : er = er' ∧ N = N' ∧ E = E' := by
  rcases h with ⟨h1, rfl, rfl, rfl⟩ | ⟨h1, h2, rfl, rfl, rfl⟩ | ⟨h1, h2, h3, rfl, rfl, rfl⟩ | ⟨h1, h2, h3, rfl, rfl, h4⟩
  · rcases k with ⟨_, rfl, rfl, rfl⟩ | ⟨k1, _⟩ | ⟨k1, _⟩ | ⟨k1, _⟩
    · exact ⟨rfl, rfl, rfl⟩
    all_goals exact absurd k1 h1
  · rcases k with ⟨k1, _⟩ | ⟨_, _, rfl, rfl, rfl⟩ | ⟨_, k2, _⟩ | ⟨_, k2, _⟩
    · exact absurd h1 k1
    · exact ⟨rfl, rfl, rfl⟩
    all_goals exact absurd k2 h2
  · rcases k with ⟨k1, _⟩ | ⟨_, k2, _⟩ | ⟨_, _, _, rfl, rfl, rfl⟩ | ⟨_, _, k3, _⟩
    · exact absurd h1 k1
    · exact absurd h2 k2
    · exact ⟨rfl, rfl, rfl⟩
    · exact absurd k3 h3
  · rcases k with ⟨k1, _⟩ | ⟨_, k2, _⟩ | ⟨_, _, k3, _⟩ | ⟨_, _, _, rfl, rfl, k4⟩
    · exact absurd h1 k1
    · exact absurd h2 k2
    · exact absurd h3 k3
    · exact ⟨rfl, rfl, h4.one k4⟩
end Go.Proofs.Ytckcbaegehfkoaa
namespace Go.Proofs.Ytckcbaegehfkoaa

theorem nbL_nodup {n v : Int} {es : List (Int × Int)} (h : RightG n es) : (nbL v es).Nodup := by
  rw [List.nodup_iff_pairwise_ne]
  exact (nbL_rises h).imp (fun h => by omega)
theorem nb_adj {n v y : Int} {es : List (Int × Int)} (h : RightG n es) : y ∈ nbL v es ↔ Adj es v y := nbL_right h
/-- Edges that do not meet v. -/
def offL (v : Int) (es : List (Int × Int)) : List (Int × Int) := es.filter (fun e => !(e.1 == v) && !(e.2 == v))
end Go.Proofs.Ytckcbaegehfkoaa
namespace Go.Proofs.Ytckcbaegehfkoaa

/-- The edges under new numbers, in order. -/
def Img (es : List (Int × Int)) (f : Int → Int) (E : List (Int × Int)) : Prop := Rises E ∧ ∀ a b : Int, (a, b) ∈ E ↔ a < b ∧ ∃ x y, Adj es x y ∧ f x = a ∧ f y = b
theorem Img.one {es E E' : List (Int × Int)} {f g : Int → Int} (h : Img es f E) (k : Img es g E') (e : ∀ x y, Adj es x y → f x = g x) : E = E' := rises_one h.1 k.1 (fun z => by
  obtain ⟨a, b⟩ := z
  rw [h.2, k.2]
  constructor
  · rintro ⟨h0, x, y, h1, h2, h3⟩; exact ⟨h0, x, y, h1, by rw [← e x y h1]; exact h2, by rw [← e y x h1.symm]; exact h3⟩
  · rintro ⟨h0, x, y, h1, h2, h3⟩; exact ⟨h0, x, y, h1, by rw [e x y h1]; exact h2, by rw [e y x h1.symm]; exact h3⟩)
end Go.Proofs.Ytckcbaegehfkoaa
namespace Go.Proofs.Ytckcbaegehfkoaa

/-- How many vertices a pattern has. -/
def patN (k : Int) : Nat := if k = 1 then 4 else if k = 2 then 5 else 0
/-- Its edges (H1). -/
def patE (k : Int) : List (Int × Int) := if k = 1 then [(0, 1), (0, 2), (0, 3), (1, 2), (1, 3), (2, 3)] else if k = 2 then [(0, 2), (0, 3), (0, 4), (1, 2), (1, 3), (1, 4)] else []
/-- Some vertex of the one is a neighbour of some of the other. -/
def Touch (es : List (Int × Int)) (A B : List Int) : Prop := ∃ x y, x ∈ A ∧ y ∈ B ∧ Adj es x y
theorem Touch.symm {es : List (Int × Int)} {A B : List Int} (h : Touch es A B) : Touch es B A := by
  obtain ⟨x, y, h1, h2, h3⟩ := h; exact ⟨y, x, h2, h1, h3.symm⟩
/-- The set of a pattern's vertex. -/
def setAt (Ss : List (List Int)) (i : Int) : List Int := Ss.getD i.toNat []
/-- A model (H2). -/
structure ModelL (n : Int) (es : List (Int × Int)) (k : Int) (Ss : List (List Int)) : Prop where
  kind : k = 1 ∨ k = 2
  right : RightG n es
  len : Ss.length = patN k
  whole : ∀ S ∈ Ss, WholeL n es S
  apart : ∀ i j, i < j → ∀ x, x ∈ Ss.getD i [] → x ∉ Ss.getD j []
  meet : ∀ e ∈ patE k, Touch es (setAt Ss e.1) (setAt Ss e.2)
theorem getD_mem {Ss : List (List Int)} {i : Nat} (h : i < Ss.length) : Ss.getD i [] ∈ Ss := by
  rw [List.getD_eq_getElem?_getD, List.getElem?_eq_getElem h]; exact List.getElem_mem h
theorem mem_getD {Ss : List (List Int)} {i : Nat} {x : Int} (h : x ∈ Ss.getD i []) : i < Ss.length := by
  rw [List.getD_eq_getElem?_getD] at h
  rcases Nat.lt_or_ge i Ss.length with h1 | h1
  · exact h1
  · rw [List.getElem?_eq_none h1] at h; cases h
theorem getD_map' {Ss : List (List Int)} {g : List Int → List Int} (h0 : g [] = []) (i : Nat) : (Ss.map g).getD i [] = g (Ss.getD i []) := by
  rw [List.getD_eq_getElem?_getD, List.getD_eq_getElem?_getD, List.getElem?_map]
  cases Ss[i]? with
  | none => simp [h0]
  | some x => rfl
theorem ModelL.ne {n : Int} {es : List (Int × Int)} {k : Int} {Ss : List (List Int)} (h : ModelL n es k Ss) : ∀ i j, i ≠ j → ∀ x, x ∈ Ss.getD i [] → x ∉ Ss.getD j [] := fun i j hij x hx hy => by
  rcases Nat.lt_or_gt_of_ne hij with h1 | h1
  · exact h.apart i j h1 x hx hy
  · exact h.apart j i h1 x hy hx
/-- An edge more (what follows). -/
theorem adj_more {es es' : List (Int × Int)} (hs : ∀ e ∈ es, e ∈ es') {x y : Int} (h : Adj es x y) : Adj es' x y := h.elim (fun h => Or.inl (hs _ h)) (fun h => Or.inr (hs _ h))
theorem ModelL.more {n : Int} {es es' : List (Int × Int)} {k : Int} {Ss : List (List Int)} (h : ModelL n es k Ss) (hR : RightG n es') (hs : ∀ e ∈ es, e ∈ es') : ModelL n es' k Ss :=
  ⟨h.kind, hR, h.len, fun S hS => ⟨(h.whole S hS).ne, (h.whole S hS).nd, (h.whole S hS).inn, fun x hx y hy => fun P h0 hst => (h.whole S hS).one x hx y hy P h0 (fun u v hu ha hv => hst u v hu (adj_more hs ha) hv)⟩, h.apart, fun e he => by
    obtain ⟨x, y, h1, h2, h3⟩ := h.meet e he
    exact ⟨x, y, h1, h2, adj_more hs h3⟩⟩
/-- Sets changed one by one. -/
theorem ModelL.turn {n n' : Int} {es E : List (Int × Int)} {k : Int} {Ss : List (List Int)} (h : ModelL n' E k Ss) (hR : RightG n es) {g : List Int → List Int} (h0 : g [] = [])
    (hw : ∀ S, WholeL n' E S → WholeL n es (g S)) (hd : ∀ A B, (∀ x ∈ A, 0 ≤ x ∧ x < n') → (∀ x ∈ B, 0 ≤ x ∧ x < n') → (∀ x ∈ A, x ∉ B) → ∀ x ∈ g A, x ∉ g B)
    (ht : ∀ A B, Touch E A B → Touch es (g A) (g B)) : ModelL n es k (Ss.map g) := by
  have hin : ∀ i, ∀ x ∈ Ss.getD i [], 0 ≤ x ∧ x < n' := fun _ x hx => (h.whole _ (getD_mem (mem_getD hx))).inn x hx
  refine ⟨h.kind, hR, by rw [List.length_map]; exact h.len, fun S hS => ?_, fun i j hij x hx => ?_, fun e he => ?_⟩
  · obtain ⟨T, hT, rfl⟩ := List.mem_map.1 hS
    exact hw T (h.whole T hT)
  · rw [getD_map' h0] at hx ⊢
    exact hd _ _ (hin i) (hin j) (h.apart i j hij) x hx
  · unfold setAt
    rw [getD_map' h0, getD_map' h0]
    exact ht _ _ (h.meet e he)
/-- In which set each vertex is. -/
def HomeIs (n : Int) (Ss : List (List Int)) (D : Int → Int) : Prop := ∀ x, 0 ≤ x → x < n → ∀ i : Nat, i < Ss.length → (D x = i ↔ x ∈ Ss.getD i [])
theorem ModelL.inn {n : Int} {es : List (Int × Int)} {k : Int} {Ss : List (List Int)} (h : ModelL n es k Ss) : ∀ i, ∀ x ∈ Ss.getD i [], 0 ≤ x ∧ x < n := fun _ x hx => (h.whole _ (getD_mem (mem_getD hx))).inn x hx
end Go.Proofs.Ytckcbaegehfkoaa
namespace Go.Proofs.Ytckcbaegehfkoaa

/-- The tops between which the k-th path leads. -/
def fromL (kind : Int) (k : Nat) : Nat × Nat := if kind = 2 then (0, 1) else if k < 3 then (0, k + 1) else if k < 5 then (1, k - 1) else (2, 3)
/-- A subdivision (I1). -/
structure SubL (n : Int) (es : List (Int × Int)) (kd : Int) (tops : List Int) (paths : List (List Int)) : Prop where
  kind : kd = 1 ∨ kd = 2
  right : RightG n es
  tl : tops.length = if kd = 1 then 4 else 2
  pl : paths.length = if kd = 1 then 6 else 3
  nd : tops.Nodup
  path : ∀ k (h : k < paths.length), PathL n es paths[k] ∧ kd + 1 ≤ paths[k].length ∧ paths[k].head? = tops[(fromL kd k).1]? ∧ paths[k].getLast? = tops[(fromL kd k).2]?
  apart : ApartL paths
theorem PathL.more {n : Int} {es es' : List (Int × Int)} {p : List Int} (h : PathL n es p) (hs : ∀ e ∈ es, e ∈ es') : PathL n es' p := ⟨h.ne, h.nd, h.inn, fun i hi => adj_more hs (h.lk i hi)⟩
/-- An edge more (what follows). -/
theorem SubL.more {n : Int} {es es' : List (Int × Int)} {kd : Int} {tops : List Int} {paths : List (List Int)} (h : SubL n es kd tops paths) (hR : RightG n es') (hs : ∀ e ∈ es, e ∈ es') : SubL n es' kd tops paths :=
  ⟨h.kind, hR, h.tl, h.pl, h.nd, fun k hk => ⟨(h.path k hk).1.more hs, (h.path k hk).2⟩, h.apart⟩
/-- What lies inside a path. -/
def innL (p : List Int) : List Int := (p.drop 1).dropLast
/-- The model's sets, as the document makes them (I3). -/
def subSets (kd : Int) (tops : List Int) (paths : List (List Int)) : List (List Int) :=
  if kd = 1 then (List.range tops.length).map (fun i => tops.getD i 0 :: ((List.range paths.length).filter (fun k => (fromL 1 k).1 == i)).flatMap (fun k => innL (paths.getD k [])))
  else tops.map (fun t => [t]) ++ paths.map innL
/-- As many tops and paths as there should be, none too short to lead from one top to another. -/
def Formed (kd : Int) (nt : Nat) (paths : List (List Int)) : Prop := (kd = 1 ∨ kd = 2) ∧ nt = (if kd = 1 then 4 else 2) ∧ paths.length = (if kd = 1 then 6 else 3) ∧ ∀ L ∈ paths, 2 ≤ L.length
theorem SubL.formed {n : Int} {es : List (Int × Int)} {kd : Int} {tops : List Int} {paths : List (List Int)} (h : SubL n es kd tops paths) : Formed kd tops.length paths :=
  ⟨h.kind, h.tl, h.pl, fun L hL => by
    obtain ⟨k, hk, rfl⟩ := List.getElem_of_mem hL
    have := (h.path k hk).2.1
    have := h.kind
    omega⟩
theorem path_ends {n : Int} {es : List (Int × Int)} {p : List Int} {x y : Int} (h : PathL n es p) (h2 : 2 ≤ p.length) (hx : p.head? = some x) (hy : p.getLast? = some y) : x ≠ y := fun e => by
  rw [List.head?_eq_getElem?, List.getElem?_eq_some_iff] at hx
  rw [List.getLast?_eq_getElem?, List.getElem?_eq_some_iff] at hy
  obtain ⟨_, hx⟩ := hx
  obtain ⟨h3, hy⟩ := hy
  have := h.nd
  rw [List.nodup_iff_pairwise_ne, List.pairwise_iff_getElem] at this
  exact this 0 (p.length - 1) (by omega) h3 (by omega) (by rw [hx, hy, e])
theorem sub_of {n : Int} {es : List (Int × Int)} {kd : Int} {tops : List Int} {paths : List (List Int)} (hF : Formed kd tops.length paths) (hA : ApartL paths) (hR : RightG n es)
    (hp : ∀ k (h : k < paths.length), PathL n es paths[k] ∧ paths[k].head? = tops[(fromL kd k).1]? ∧ paths[k].getLast? = tops[(fromL kd k).2]?) (h3 : kd = 2 → ∀ L ∈ paths, 3 ≤ L.length) : SubL n es kd tops paths := by
  obtain ⟨hk, ht, hl, h2⟩ := hF
  have hne : ∀ k (h : k < paths.length) x y, tops[(fromL kd k).1]? = some x → tops[(fromL kd k).2]? = some y → x ≠ y := fun k h x y hx hy => by
    obtain ⟨h4, h5, h6⟩ := hp k h
    exact path_ends h4 (h2 _ (List.getElem_mem h)) (h5.trans hx) (h6.trans hy)
  refine ⟨hk, hR, ht, hl, ?_, fun k h => ⟨(hp k h).1, ?_, (hp k h).2⟩, hA⟩
  · rcases hk with rfl | rfl
    · rw [if_pos rfl] at ht hl
      match tops, ht with
      | [a, b, c, d], _ =>
        have n0 := hne 0 (by omega) a b rfl rfl
        have n1 := hne 1 (by omega) a c rfl rfl
        have n2 := hne 2 (by omega) a d rfl rfl
        have n3 := hne 3 (by omega) b c rfl rfl
        have n4 := hne 4 (by omega) b d rfl rfl
        have n5 := hne 5 (by omega) c d rfl rfl
        simp [n0, n1, n2, n3, n4, n5]
    · rw [if_neg (by decide)] at ht hl
      match tops, ht with
      | [a, b], _ =>
        have n0 := hne 0 (by omega) a b rfl rfl
        simp [n0]
  · have := h2 _ (List.getElem_mem h)
    rcases hk with rfl | rfl
    · omega
    · have := h3 rfl _ (List.getElem_mem h); omega
theorem fromL_lt {kd : Int} (hk : kd = 1 ∨ kd = 2) {k : Nat} (h : k < (if kd = 1 then 6 else 3)) : (fromL kd k).1 < (if kd = 1 then 4 else 2) ∧ (fromL kd k).2 < (if kd = 1 then 4 else 2) ∧ (fromL kd k).1 < (fromL kd k).2 := by
  rcases hk with rfl | rfl
  · rw [if_pos rfl] at h
    rcases (by omega : k = 0 ∨ k = 1 ∨ k = 2 ∨ k = 3 ∨ k = 4 ∨ k = 5) with rfl | rfl | rfl | rfl | rfl | rfl <;> decide
  · rw [if_neg (by decide)] at h
    rcases (by omega : k = 0 ∨ k = 1 ∨ k = 2) with rfl | rfl | rfl <;> decide
end Go.Proofs.Ytckcbaegehfkoaa
namespace Go.Proofs.Ytckcbaegehfkoaa
open Go.RowKit Go.Lib

set_option maxHeartbeats 2000000 in
set_option maxRecDepth 100000 in
theorem rright_any (n : Int) (a : Option Addr) (cap : Nat) (es : List (Int × Int)) (b : Bool) (w : World) (hN : es.length ≤ 1000000) (hE : EAt w a es) (hb : b = true ↔ RightG n es) :
    Calls Try.prog 45 #[.agg #[.int .i64 n, .slice a es.length cap]] w fun e w' => e = .returned (.bool b) ∧ Below w.heap.size w w' := by
  obtain ⟨N, hNe⟩ : ∃ N, N = es.length := ⟨_, rfl⟩
  rw [← hNe] at hN ⊢
  have HN : Hid (N = es.length) := hNe
  have HE : Hid (EAt w a es) := hE
  have HB : Hid (b = true ↔ RightG n es) := hb
  clear hNe hE hb
  by_cases h1 : n < 0
  · obtain rfl : b = false := b_false HB.out (fun h => absurd h.1 (by omega))
    clear HB
    go_enter Try.func45, Try.ntmps45
    go_wp2
    go_ret
    exact ⟨rfl, (Below.refl _ _).alloc (Nat.le_refl _) _⟩
  by_cases h2 : 1000 < n
  · obtain rfl : b = false := b_false HB.out (fun h => absurd h.2.1 (by omega))
    clear HB
    go_enter Try.func45, Try.ntmps45
    go_wp2
    go_ret
    exact ⟨rfl, (Below.refl _ _).alloc (Nat.le_refl _) _⟩
  by_cases h3 : 4000 < N
  · obtain rfl : b = false := b_false HB.out (fun h => absurd h.2.2.1 (by rw [← HN.out]; omega))
    clear HB
    go_enter Try.func45, Try.ntmps45
    go_wp2
    go_ret
    exact ⟨rfl, (Below.refl _ _).alloc (Nat.le_refl _) _⟩
  have h1' : 0 ≤ n := by omega
  have h2' : n ≤ 1000 := by omega
  have h3' : N ≤ 4000 := by omega
  clear h1 h2 h3
  go_enter Try.func45, Try.ntmps45
  go_wp2
  go_loopw [3] (fun i wr => ∃ k : Nat, k ≤ N ∧ i = .int .i64 k ∧ Hid (∀ j, j < k → OkAt n es j) ∧ Below w.heap.size w wr ∧ w.heap.size < wr.heap.size ∧ wr.cell? ⟨w.heap.size, 0, none⟩ = some (.int .i64 n) ∧ wr.cell? ⟨w.heap.size, 1, none⟩ = some (.slice a N cap)) (fun i _ => N - (RowKit.intOf i).toNat)
  case atStart =>
    refine ⟨0, Nat.zero_le _, rfl, fun j hj => absurd hj (by omega), (Below.refl _ _).alloc (Nat.le_refl _) _, by simp, ?_, ?_⟩
    · exact cell_of_heap (heap_alloc_new _ _) 0
    · exact cell_of_heap (heap_alloc_new _ _) 1
  case round =>
    obtain ⟨k, hk, rfl, hok, hbr, hsz, hc0, hc1⟩ := hrel
    have HSZ : Hid (w.heap.size < wr.heap.size) := hsz
    clear hsz
    by_cases hlt : k < N
    · have hkr : k < es.length := by rw [← HN.out]; exact hlt
      obtain ⟨g, off, rfl, hg, hcs⟩ := HE.out.at hkr
      obtain ⟨e1, he1⟩ := ex_eq es[k].1
      obtain ⟨e2, he2⟩ := ex_eq es[k].2
      have d := hcs wr hbr k hkr
      rw [← he1, ← he2] at d
      obtain ⟨d0, d1⟩ := d
      have HES : Hid (e1 = es[k].1 ∧ e2 = es[k].2) := ⟨he1, he2⟩
      have HCS : Hid (∀ j (hj : j < es.length), wr.cell? ⟨g, off + j * 2, none⟩ = some (.int .i64 es[j].1) ∧ wr.cell? ⟨g, off + j * 2 + 1, none⟩ = some (.int .i64 es[j].2)) := hcs wr hbr
      clear hcs he1 he2
      have q1 : (k : Int) < (N : Int) := by omega
      have hbW : Below w.heap.size w (wr.alloc (.cells #[.int .i64 e1, .int .i64 e2] 59)) := hbr.alloc hbr.size _
      have f0 : (wr.alloc (.cells #[.int .i64 e1, .int .i64 e2] 59)).cell? ⟨w.heap.size, 0, none⟩ = some (.int .i64 n) := cell_alloc_old hc0 _
      have f1 : (wr.alloc (.cells #[.int .i64 e1, .int .i64 e2] 59)).cell? ⟨w.heap.size, 1, none⟩ = some (.slice (some ⟨g, off, none⟩) N cap) := cell_alloc_old hc1 _
      by_cases hin : 0 ≤ e1 ∧ e1 < e2 ∧ e2 < n
      · obtain ⟨i1, i2, i3⟩ := hin
        by_cases hk0 : k = 0
        · subst hk0
          rw [Nat.zero_mul, Nat.add_zero] at d0 d1
          go_wp2
          go_quiet (fail)
          go_wp2
          go_roundw
          case rel => exact ⟨1, by omega, by go_num, okAt_next hok.out HES.out ⟨i1, i2, i3⟩ (fun h => absurd h (by omega)), below_drewN hbW _, by have := HSZ.out; simp; omega, by go_simp, by go_simp⟩
          case measure => simp [RowKit.intOf]; omega
        · have hk1 : k - 1 < es.length := by omega
          obtain ⟨p1, hp1⟩ := ex_eq es[k - 1].1
          obtain ⟨p2, hp2⟩ := ex_eq es[k - 1].2
          have c := HCS.out (k - 1) hk1
          rw [← hp1, ← hp2] at c
          obtain ⟨c0, c1⟩ := c
          have g0 : (wr.alloc (.cells #[.int .i64 e1, .int .i64 e2] 59)).cell? ⟨g, off + (k - 1) * 2, none⟩ = some (.int .i64 p1) := cell_alloc_old c0 _
          have g1 : (wr.alloc (.cells #[.int .i64 e1, .int .i64 e2] 59)).cell? ⟨g, off + (k - 1) * 2 + 1, none⟩ = some (.int .i64 p2) := cell_alloc_old c1 _
          have HPS : Hid (p1 = es[k - 1].1 ∧ p2 = es[k - 1].2) := ⟨hp1, hp2⟩
          obtain ⟨m, rfl⟩ : ∃ m, k = m + 1 := ⟨k - 1, by omega⟩
          rw [Nat.add_sub_cancel] at g0 g1
          clear hp1 hp2 c0 c1
          have q0 : (m : Int) < (N : Int) := by omega
          have HLT : Hid (ltE (es[m + 1 - 1]'(by omega)) es[m + 1] = true ↔ (p1 < e1 ∨ (p1 = e1 ∧ p2 < e2))) := by
            show _ ↔ _
            rw [ltE_iff, HPS.out.1, HPS.out.2, HES.out.1, HES.out.2]
          by_cases t1 : e1 < p1
          · obtain rfl : b = false := b_false HB.out (fun h => by
              have := (h.at (m + 1) hkr).2 (by omega)
              rw [HLT.out] at this; omega)
            clear HB
            go_wp2
            go_quiet (fail)
            go_wp2
            go_ret
            exact ⟨rfl, below_drewN hbW _⟩
          by_cases t2 : p1 = e1
          · subst t2
            by_cases t3 : e2 ≤ p2
            · obtain rfl : b = false := b_false HB.out (fun h => by
                have := (h.at (m + 1) hkr).2 (by omega)
                rw [HLT.out] at this; omega)
              clear HB
              go_wp2
              go_quiet (fail)
              go_wp2
              go_ret
              exact ⟨rfl, below_drewN hbW _⟩
            · have t3' : ¬ e2 ≤ p2 := t3
              go_wp2
              go_quiet (fail)
              go_wp2
              go_roundw
              case rel => exact ⟨m + 1 + 1, by omega, by go_num, okAt_next hok.out HES.out ⟨i1, i2, i3⟩ (fun _ => HLT.out.2 (Or.inr ⟨by first | rfl | trivial, by omega⟩)), below_drewN hbW _, by have := HSZ.out; simp; omega, by go_simp, by go_simp⟩
              case measure => simp [RowKit.intOf]; omega
          · have t2' : (p1 == e1) = false := beq_eq_false_iff_ne.2 t2
            have t1' : p1 ≤ e1 := by omega
            have HOK : Hid (p1 < e1) := by
              show p1 < e1
              omega
            have t1d : decide (e1 < p1) = false := decide_eq_false t1
            clear t2
            go_wp2
            go_quiet (fail)
            go_wp2
            go_roundw
            case rel => exact ⟨m + 1 + 1, by omega, by go_num, okAt_next hok.out HES.out ⟨i1, i2, i3⟩ (fun _ => HLT.out.2 (Or.inl HOK.out)), below_drewN hbW _, by have := HSZ.out; simp; omega, by go_simp, by go_simp⟩
            case measure => simp [RowKit.intOf]; omega
      · obtain rfl : b = false := b_false HB.out (fun h => by
          have := (h.at k hkr).1
          rw [← HES.out.1, ← HES.out.2] at this
          exact hin this)
        clear HB
        go_wp2
        all_goals go_ret
        all_goals exact ⟨rfl, hbW⟩
    · obtain rfl : k = N := by omega
      obtain rfl : b = true := HB.out.2 (right_of h1' h2' (by rw [← HN.out]; exact h3') (fun i hi => hok.out i (by rw [HN.out]; exact hi)))
      clear HB
      go_wp2
      go_ret
      exact ⟨rfl, hbr⟩
end Go.Proofs.Ytckcbaegehfkoaa
namespace Go.Proofs.Ytckcbaegehfkoaa
open Go.RowKit Go.Lib

/-- A number is put into a rising row: behind those that are not greater. -/
def ins (x : Int) : List Int → List Int
  | [] => [x]
  | y :: ys => if y ≤ x then y :: ins x ys else x :: y :: ys
theorem ins_len (x : Int) (ys : List Int) : (ins x ys).length = ys.length + 1 := by
  induction ys with
  | nil => rfl
  | cons y ys ih => unfold ins; split <;> simp [ih]
theorem ins_mem {x z : Int} {ys : List Int} : z ∈ ins x ys ↔ z = x ∨ z ∈ ys := by
  induction ys with
  | nil => simp [ins]
  | cons y ys ih =>
    unfold ins
    split
    · simp [ih]
      constructor
      · rintro (h | h | h)
        · exact Or.inr (Or.inl h)
        · exact Or.inl h
        · exact Or.inr (Or.inr h)
      · rintro (h | h | h)
        · exact Or.inr (Or.inl h)
        · exact Or.inl h
        · exact Or.inr (Or.inr h)
    · simp
def Up (xs : List Int) : Prop := xs.Pairwise (· ≤ ·)
theorem ins_up {x : Int} {ys : List Int} (h : Up ys) : Up (ins x ys) := by
  induction ys with
  | nil => unfold Up ins; simp
  | cons y ys ih =>
    unfold Up at h
    rw [List.pairwise_cons] at h
    unfold ins
    split
    · unfold Up
      rw [List.pairwise_cons]
      refine ⟨fun z hz => ?_, ih h.2⟩
      rcases ins_mem.1 hz with rfl | hz
      · assumption
      · exact h.1 z hz
    · unfold Up
      rw [List.pairwise_cons, List.pairwise_cons]
      refine ⟨fun z hz => ?_, h⟩
      rcases List.mem_cons.1 hz with rfl | hz
      · omega
      · have := h.1 z hz; omega
def srt : List Int → List Int → List Int
  | acc, [] => acc
  | acc, x :: xs => srt (ins x acc) xs
theorem srt_snoc (acc xs : List Int) (x : Int) : srt acc (xs ++ [x]) = ins x (srt acc xs) := by
  induction xs generalizing acc with
  | nil => rfl
  | cons y xs ih => exact ih (ins y acc)
theorem srt_up {acc xs : List Int} (h : Up acc) : Up (srt acc xs) := by
  induction xs generalizing acc with
  | nil => exact h
  | cons y xs ih => exact ih (ins_up h)
theorem srt_mem {acc xs : List Int} {z : Int} : z ∈ srt acc xs ↔ z ∈ acc ∨ z ∈ xs := by
  induction xs generalizing acc with
  | nil => simp [srt]
  | cons y xs ih =>
    show z ∈ srt (ins y acc) xs ↔ _
    rw [ih, ins_mem, List.mem_cons]
    constructor
    · rintro ((h | h) | h)
      · exact Or.inr (Or.inl h)
      · exact Or.inl h
      · exact Or.inr (Or.inr h)
    · rintro (h | h | h)
      · exact Or.inl (Or.inr h)
      · exact Or.inl (Or.inl h)
      · exact Or.inr h
theorem srt_len (acc xs : List Int) : (srt acc xs).length = acc.length + xs.length := by
  induction xs generalizing acc with
  | nil => simp [srt]
  | cons y xs ih =>
    show (srt (ins y acc) xs).length = _
    rw [ih, ins_len, List.length_cons]; omega
/-- Where the number goes. -/
theorem ins_at {x : Int} {ys : List Int} {k : Nat} (hk : k ≤ ys.length) (h1 : ∀ j (h : j < ys.length), j < k → ys[j] ≤ x) (h2 : ∀ j (h : j < ys.length), k ≤ j → x < ys[j]) : ins x ys = ys.take k ++ x :: ys.drop k := by
  induction ys generalizing k with
  | nil =>
    have : k = 0 := by simpa using hk
    subst this; rfl
  | cons y ys ih =>
    cases k with
    | zero =>
      have := h2 0 (by simp) (Nat.le_refl _)
      unfold ins
      simp only [List.getElem_cons_zero] at this
      rw [if_neg (by omega)]
      simp
    | succ k =>
      have := h1 0 (by simp) (by omega)
      simp only [List.getElem_cons_zero] at this
      unfold ins
      rw [if_pos this, ih (k := k) (by simpa using hk) (fun j h hj => h1 (j + 1) (by simpa using h) (by omega)) (fun j h hj => h2 (j + 1) (by simpa using h) (by omega))]
      simp
end Go.Proofs.Ytckcbaegehfkoaa
