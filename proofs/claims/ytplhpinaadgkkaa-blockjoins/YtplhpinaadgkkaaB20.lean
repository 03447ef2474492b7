/-
  The document's Induced (layer 6).
  What follows of a route: its vertices' ways on are routes, it has no short cuts, turned round it is as long. No program is named here.
  How far off each vertex lies: what a search tells, and the least of the shortest ways by it. No program is named here.
  slices.Repeat of one number, of one truth: a new row with it at each place.
-/
import Derived.Test.YtplhpinaadgkkaaB10
import Derived.Test.YtplhpinaadgkkaaB19
import Derived.Test.YtplhpinaadgkkaaB07
import Derived.Test.YtplhpinaadgkkaaB08
import Derived.Test.YtplhpinaadgkkaaB05
import Derived.BigQuiet
import Derived.Test.YtplhpinaadgkkaaB09
import Derived.Test.YtplhpinaadgkkaaB12
import Derived.Test.YtplhpinaadgkkaaB14
import Derived.Test.YtplhpinaadgkkaaB01
import Derived.Laws.CopyOwn
namespace Go.Proofs.Ytplhpinaadgkkaa
open Go.RowKit Go.Lib

/-- What a call of layer 6 tells. -/
def SubTold (S : Int → Int → List (Int × Int) → Prop) (w w' : World) (v : Value) : Prop := ∃ er N E a' cap', v = .tuple #[.agg #[.int .i64 N, .slice a' E.length cap'], .int .i64 er] ∧ S er N E ∧ Sl a' cap' E.length ∧ EAt w' a' E ∧ Below w.heap.size w w'
/-- A graph's edges are put behind each other in its variable. -/
structure EAcc (w : World) (B : Nat) (m : Int) (sv : Value) (es : List (Int × Int)) : Prop where
  box : w.heap[B]? = some (.cells #[.int .i64 m, sv] 26 (0, 0))
  own : w.ownsRow (B + 1) 42 2 sv es.length (cellsE es)
theorem EAcc.below {w w' : World} {B : Nat} {m : Int} {sv : Value} {es : List (Int × Int)} (h : EAcc w B m sv es) (hb : Below w.heap.size w w') : EAcc w' B m sv es :=
  ⟨(hb.block B (Array.getElem?_eq_some_iff.1 h.box).1).trans h.box, own_below h.own hb⟩
theorem EAcc.put {w w4 : World} {B : Nat} {m p q : Int} {sv sv' : Value} {es : List (Int × Int)} {o : Obj} (h : EAcc w B m sv es) (hg : (w.alloc o).grownBy w4 sv.ownBlock) (hown : w4.ownsRow (B + 1) 42 2 sv' (es.length + 1) (cellsE es ++ [.int .i64 p, .int .i64 q])) : EAcc (w4.setCell ⟨B, 1, none⟩ sv') B m sv' (es ++ [(p, q)]) ∧ w4.cell? ⟨B, 1, none⟩ = some sv ∧ w4.frozen? ⟨B, 1, none⟩ = false := by
  have hB : B < w.heap.size := (Array.getElem?_eq_some_iff.1 h.box).1
  have hb4 : w4.heap[B]? = some (.cells #[.int .i64 m, sv] 26 (0, 0)) := by
    rw [hg.block B (by simp; omega) (fun e => by have := (h.own.lt B e.symm).1; omega), Below.heap_alloc w _ _ hB]
    exact h.box
  refine ⟨⟨box_put hb4, ?_⟩, cell_of_heap hb4 1, frozen_of_heap hb4 1⟩
  refine own_set ?_ (by simp) _
  rw [cellsE_append, List.length_append]
  exact hown

end Go.Proofs.Ytplhpinaadgkkaa
namespace Go.Proofs.Ytplhpinaadgkkaa

theorem Way.in {n : Int} {es : List (Int × Int)} {a b : Int} {away p : List Int} (h : Way n es a b away p) : ∀ z ∈ p, (0 ≤ z ∧ z < n) ∧ z ∉ away := fun z hz => ⟨h.path.inn z hz, h.off z hz⟩
theorem Way.reverse {n : Int} {es : List (Int × Int)} {a b : Int} {away p : List Int} (h : Way n es a b away p) : Way n es b a away p.reverse :=
  ⟨h.path.reverse, by rw [List.head?_reverse]; exact h.last, by rw [List.getLast?_reverse]; exact h.first, fun z hz => h.off z (List.mem_reverse.1 hz)⟩
theorem RouteIs.way {n : Int} {es : List (Int × Int)} {a b : Int} {away L : List Int} (h : RouteIs n es a b away L) (h0 : 0 < L.length) : Way n es a b away L := by
  rcases h with ⟨rfl, _⟩ | ⟨h, _⟩
  · simp at h0
  · exact h
end Go.Proofs.Ytplhpinaadgkkaa
namespace Go.Proofs.Ytplhpinaadgkkaa

/-- D tells how many edges lie between each vertex and b, by open vertices; -1: there is no way. -/
structure Lev (n : Int) (es : List (Int × Int)) (O : Int → Prop) (b : Int) (D : Int → Int) : Prop where
  root : D b = 0
  opn : ∀ x, 0 ≤ x → x < n → 0 ≤ D x → O x
  zero : ∀ x, 0 ≤ x → x < n → D x = 0 → x = b
  down : ∀ x, 0 ≤ x → x < n → 0 < D x → ∃ u, Adj es u x ∧ D u = D x - 1
  near : ∀ u v, Adj es u v → 0 ≤ D u → O v → 0 ≤ D v ∧ D v ≤ D u + 1
/-- A search under way: F is found, the first i of it are looked at. -/
structure Bf (n : Int) (es : List (Int × Int)) (O : Int → Prop) (b : Int) (F : List Int) (D : Int → Int) (i : Nat) : Prop where
  nd : F.Nodup
  mem : ∀ x, 0 ≤ x → x < n → (x ∈ F ∧ 0 ≤ D x) ∨ (x ∉ F ∧ D x = -1)
  inr : ∀ x ∈ F, (0 ≤ x ∧ x < n) ∧ O x
  root : b ∈ F ∧ D b = 0
  mono : ∀ j k (hjk : j ≤ k) (hk : k < F.length), D (F[j]'(by omega)) ≤ D F[k]
  top : ∀ j (hj : j < F.length) (hi : i < F.length), D F[j] ≤ D F[i] + 1
  zero : ∀ x ∈ F, D x = 0 → x = b
  down : ∀ x ∈ F, 0 < D x → ∃ u ∈ F, Adj es u x ∧ D u = D x - 1
  done : ∀ j (hj : j < F.length), j < i → ∀ v, Adj es F[j] v → O v → v ∈ F ∧ D v ≤ D F[j] + 1
  le : ∀ j (hj : j < F.length), D F[j] ≤ j
theorem bf_start {n : Int} {es : List (Int × Int)} {O : Int → Prop} {b : Int} (hb : 0 ≤ b ∧ b < n) (hO : O b) : Bf n es O b [b] (fun x => if x = b then 0 else -1) 0 := by
  refine ⟨by simp, fun x _ _ => ?_, fun x hx => by simp at hx; subst hx; exact ⟨hb, hO⟩, ⟨by simp, by simp⟩, fun j k hjk hk => ?_, fun j hj hi => ?_, fun x hx _ => by simpa using hx, fun x hx h => ?_, fun j _ h => absurd h (by omega), fun j hj => ?_⟩
  · by_cases e : x = b
    · subst e; exact Or.inl ⟨by simp, by simp⟩
    · exact Or.inr ⟨by simpa using e, by simp [e]⟩
  · simp at hk; subst hk; obtain rfl : j = 0 := by omega
    exact Int.le_refl _
  · simp at hj; subst hj; simp
  · simp at hx; subst hx; simp at h
  · simp at hj; subst hj; simp
theorem getElem_snoc_lt {F : List Int} {w : Int} {j : Nat} (h : j < F.length) : (F ++ [w])[j]'(by simp; omega) = F[j] := List.getElem_append_left h
theorem getElem_snoc_last {F : List Int} {w : Int} (h : F.length < (F ++ [w]).length) : (F ++ [w])[F.length] = w := by simp
/-- One more is found. -/
theorem Bf.put {n : Int} {es : List (Int × Int)} {O : Int → Prop} {b : Int} {F : List Int} {D : Int → Int} {i : Nat} (h : Bf n es O b F D i) (hi : i < F.length) {v : Int} (ha : Adj es F[i] v) (hv : 0 ≤ v ∧ v < n) (hO : O v) (hn : v ∉ F) : Bf n es O b (F ++ [v]) (fun x => if x = v then D F[i] + 1 else D x) i := by
  have hne : ∀ x ∈ F, x ≠ v := fun x hx e => hn (e ▸ hx)
  have hD : ∀ j (hj : j < F.length), (if F[j] = v then D F[i] + 1 else D F[j]) = D F[j] := fun j hj => if_neg (hne _ (List.getElem_mem hj))
  have hpos : ∀ j (hj : j < F.length), 0 ≤ D F[j] := fun j hj => by
    have := (h.inr _ (List.getElem_mem hj)).1
    rcases h.mem F[j] this.1 this.2 with e | e
    · exact e.2
    · exact absurd (List.getElem_mem hj) e.1
  refine ⟨List.nodup_append.2 ⟨h.nd, by simp, fun y hy z hz => by simp at hz; subst hz; exact hne y hy⟩, fun x h0 h1 => ?_, fun x hx => ?_, ⟨List.mem_append_left _ h.root.1, ?_⟩, fun j k hjk hk => ?_, fun j hj hi' => ?_, fun x hx h0 => ?_, fun x hx h0 => ?_, fun j hj hji u hu hOu => ?_, fun j hj => ?_⟩
  · by_cases e : x = v
    · subst e
      refine Or.inl ⟨by simp, ?_⟩
      show 0 ≤ (if x = x then D F[i] + 1 else D x)
      rw [if_pos rfl]
      have := hpos i hi
      omega
    · show (x ∈ F ++ [v] ∧ 0 ≤ (if x = v then D F[i] + 1 else D x)) ∨ (x ∉ F ++ [v] ∧ (if x = v then D F[i] + 1 else D x) = -1)
      rw [if_neg e]
      rcases h.mem x h0 h1 with h2 | h2
      · exact Or.inl ⟨List.mem_append_left _ h2.1, h2.2⟩
      · exact Or.inr ⟨fun hm => by rcases List.mem_append.1 hm with hm | hm; exact h2.1 hm; simp at hm; exact e hm, h2.2⟩
  · rcases List.mem_append.1 hx with hx | hx
    · exact h.inr x hx
    · simp at hx; subst hx; exact ⟨hv, hO⟩
  · show (if b = v then D F[i] + 1 else D b) = 0
    rw [if_neg (hne b h.root.1)]; exact h.root.2
  · show (if (F ++ [v])[j]'(by omega) = v then D F[i] + 1 else D ((F ++ [v])[j]'(by omega))) ≤ (if (F ++ [v])[k] = v then D F[i] + 1 else D (F ++ [v])[k])
    by_cases e : k < F.length
    · rw [getElem_snoc_lt e, getElem_snoc_lt (show j < F.length by omega), hD k e, hD j (by omega)]
      exact h.mono j k hjk e
    · obtain rfl : k = F.length := by simp at hk; omega
      rw [getElem_snoc_last hk, if_pos rfl]
      by_cases e2 : j < F.length
      · rw [getElem_snoc_lt e2, hD j e2]; exact h.top j e2 hi
      · obtain rfl : j = F.length := by omega
        rw [getElem_snoc_last hk, if_pos rfl]; exact Int.le_refl _
  · show (if (F ++ [v])[j] = v then D F[i] + 1 else D (F ++ [v])[j]) ≤ (if (F ++ [v])[i] = v then D F[i] + 1 else D (F ++ [v])[i]) + 1
    rw [getElem_snoc_lt hi, hD i hi]
    by_cases e : j < F.length
    · rw [getElem_snoc_lt e, hD j e]; exact h.top j e hi
    · obtain rfl : j = F.length := by simp at hj; omega
      rw [getElem_snoc_last hj, if_pos rfl]; exact Int.le_refl _
  · rcases List.mem_append.1 hx with hx | hx
    · have h0' : (if x = v then D F[i] + 1 else D x) = 0 := h0
      rw [if_neg (hne x hx)] at h0'
      exact h.zero x hx h0'
    · simp at hx; subst hx
      have h0' : (if x = x then D F[i] + 1 else D x) = 0 := h0
      rw [if_pos rfl] at h0'
      have := hpos i hi
      omega
  · rcases List.mem_append.1 hx with hx | hx
    · have h0' : 0 < (if x = v then D F[i] + 1 else D x) := h0
      rw [if_neg (hne x hx)] at h0'
      obtain ⟨u, hu, h1, h2⟩ := h.down x hx h0'
      refine ⟨u, List.mem_append_left _ hu, h1, ?_⟩
      show (if u = v then D F[i] + 1 else D u) = (if x = v then D F[i] + 1 else D x) - 1
      rw [if_neg (hne u hu), if_neg (hne x hx)]; exact h2
    · simp at hx; subst hx
      refine ⟨F[i], List.mem_append_left _ (List.getElem_mem hi), ha, ?_⟩
      show (if F[i] = x then D F[i] + 1 else D F[i]) = (if x = x then D F[i] + 1 else D x) - 1
      rw [hD i hi, if_pos rfl]
      omega
  · have hjF : j < F.length := by omega
    rw [getElem_snoc_lt hjF] at hu
    obtain ⟨h1, h2⟩ := h.done j hjF hji u hu hOu
    refine ⟨List.mem_append_left _ h1, ?_⟩
    show (if u = v then D F[i] + 1 else D u) ≤ (if (F ++ [v])[j] = v then D F[i] + 1 else D (F ++ [v])[j]) + 1
    rw [getElem_snoc_lt hjF, hD j hjF, if_neg (hne u h1)]
    exact h2
  · show (if (F ++ [v])[j] = v then D F[i] + 1 else D (F ++ [v])[j]) ≤ j
    by_cases e : j < F.length
    · rw [getElem_snoc_lt e, hD j e]; exact h.le j e
    · obtain rfl : j = F.length := by simp at hj; omega
      rw [getElem_snoc_last hj, if_pos rfl]
      have := h.le i hi
      omega
theorem Bf.congr {n : Int} {es : List (Int × Int)} {O : Int → Prop} {b : Int} {F : List Int} {D D' : Int → Int} {i : Nat} (h : Bf n es O b F D i) (e : ∀ x, 0 ≤ x → x < n → D x = D' x) : Bf n es O b F D' i := by
  have hF : ∀ x ∈ F, D' x = D x := fun x hx => (e x (h.inr x hx).1.1 (h.inr x hx).1.2).symm
  have hA : ∀ j (hj : j < F.length), D' F[j] = D F[j] := fun j hj => hF _ (List.getElem_mem hj)
  refine ⟨h.nd, fun x h0 h1 => by rw [← e x h0 h1]; exact h.mem x h0 h1, h.inr, ⟨h.root.1, by rw [hF _ h.root.1]; exact h.root.2⟩, fun j k hjk hk => by rw [hA k hk, hA j (by omega)]; exact h.mono j k hjk hk, fun j hj hi => by rw [hA j hj, hA i hi]; exact h.top j hj hi, fun x hx h0 => h.zero x hx (by rw [← hF x hx]; exact h0), fun x hx h0 => ?_, fun j hj hji v ha hO => ?_, fun j hj => by rw [hA j hj]; exact h.le j hj⟩
  · rw [hF x hx] at h0
    obtain ⟨u, hu, h1, h2⟩ := h.down x hx h0
    exact ⟨u, hu, h1, by rw [hF u hu, hF x hx]; exact h2⟩
  · obtain ⟨h1, h2⟩ := h.done j hj hji v ha hO
    exact ⟨h1, by rw [hF v h1, hA j hj]; exact h2⟩
/-- One more is looked at. -/
theorem Bf.next {n : Int} {es : List (Int × Int)} {O : Int → Prop} {b : Int} {F : List Int} {D : Int → Int} {i : Nat} (h : Bf n es O b F D i) (hi : i < F.length) (hd : ∀ v, Adj es F[i] v → O v → v ∈ F) : Bf n es O b F D (i + 1) :=
  { h with
    top := fun j hj hi' => by
      have h1 := h.top j hj hi
      have h2 := h.mono i (i + 1) (by omega) hi'
      omega
    done := fun j hj hji v hv hO => by
      by_cases e : j < i
      · exact h.done j hj e v hv hO
      · obtain rfl : j = i := by omega
        have hm := hd v hv hO
        refine ⟨hm, ?_⟩
        obtain ⟨k, hk, rfl⟩ := List.getElem_of_mem hm
        exact h.top k hk hi }
/-- All is looked at. -/
theorem Bf.lev {n : Int} {es : List (Int × Int)} {O : Int → Prop} {b : Int} {F : List Int} {D : Int → Int} (hR : RightG n es) (h : Bf n es O b F D F.length) : Lev n es O b D := by
  have hm : ∀ x, 0 ≤ x → x < n → 0 ≤ D x → x ∈ F := fun x h0 h1 h2 => by
    rcases h.mem x h0 h1 with e | e
    · exact e.1
    · omega
  refine ⟨h.root.2, fun x h0 h1 h2 => (h.inr x (hm x h0 h1 h2)).2, fun x h0 h1 h2 => h.zero x (hm x h0 h1 (by omega)) h2, fun x h0 h1 h2 => ?_, fun u v ha h0 hO => ?_⟩
  · obtain ⟨u, _, h3, h4⟩ := h.down x (hm x h0 h1 (by omega)) h2
    exact ⟨u, h3, h4⟩
  · obtain ⟨hu, hv, _⟩ := ha.in hR
    obtain ⟨j, hj, rfl⟩ := List.getElem_of_mem (hm u hu.1 hu.2 h0)
    obtain ⟨h1, h2⟩ := h.done j hj hj v ha hO
    refine ⟨?_, h2⟩
    rcases h.mem v hv.1 hv.2 with e | e
    · exact e.2
    · exact absurd h1 e.1
/-- Of a search among the members of l: found is what one comes to. -/
theorem Lev.rch {n : Int} {es : List (Int × Int)} {l : List Int} {b : Int} {D : Int → Int} (hR : RightG n es) (inn : ∀ x ∈ l, 0 ≤ x ∧ x < n) (h : Lev n es (fun x => x ∈ l) b D) {x : Int} (hx : x ∈ l) : 0 ≤ D x ↔ Rch es l b x := by
  constructor
  · intro h0
    obtain ⟨k, hk⟩ : ∃ k : Nat, D x = k := ⟨(D x).toNat, by omega⟩
    clear h0
    induction k generalizing x with
    | zero =>
      have := h.zero x (inn x hx).1 (inn x hx).2 (by omega)
      subst this
      exact Rch.refl _ _ _
    | succ k ih =>
      obtain ⟨u, hu, hd⟩ := h.down x (inn x hx).1 (inn x hx).2 (by omega)
      have hur := (hu.in hR).1
      have hul := h.opn u hur.1 hur.2 (by omega)
      exact (ih hul (by omega)).step hu hx
  · intro hr
    exact hr (fun z => 0 ≤ D z) (by rw [h.root]; exact Int.le_refl _) (fun u v hu ha hv => (h.near u v ha hu hv).1)
theorem Lev.whole {n : Int} {es : List (Int × Int)} {l : List Int} {D : Int → Int} (hR : RightG n es) (nd : l.Nodup) (inn : ∀ x ∈ l, 0 ≤ x ∧ x < n) (h0 : 0 < l.length) (h : Lev n es (fun x => x ∈ l) l[0] D) : (∀ x ∈ l, 0 ≤ D x) ↔ WholeL n es l :=
  ⟨fun ha => WholeL.of_head nd inn h0 (fun y hy => (h.rch hR inn hy).1 (ha y hy)), fun hw x hx => (h.rch hR inn hx).2 (hw.one l[0] (List.getElem_mem h0) x hx)⟩

theorem Lev.congr {n : Int} {es : List (Int × Int)} {O O' : Int → Prop} {b : Int} {D : Int → Int} (hR : RightG n es) (h : Lev n es O b D) (e : ∀ x, 0 ≤ x → x < n → (O x ↔ O' x)) : Lev n es O' b D :=
  ⟨h.root, fun x h0 h1 h2 => (e x h0 h1).1 (h.opn x h0 h1 h2), h.zero, h.down, fun u v ha h0 hO => by
    obtain ⟨_, hv, _⟩ := ha.in hR
    exact h.near u v ha h0 ((e v hv.1 hv.2).2 hO)⟩
/-- Held place by place, no place of p is lower at which they part. -/
theorem lex_least : ∀ {p L : List Int}, p.length = L.length → (∀ i (h1 : i < p.length) (h2 : i < L.length), (∀ j (h3 : j < i), p[j] = L[j]) → L[i] ≤ p[i]) → lexL p L = false
  | [], [], _, _ => rfl
  | [], _ :: _, h, _ => by simp at h
  | _ :: _, [], h, _ => by simp at h
  | x :: p, y :: L, hl, h => by
    have h0 : y ≤ x := h 0 (by simp) (by simp) (fun j hj => absurd hj (by omega))
    simp only [lexL, Bool.or_eq_false_iff, decide_eq_false_iff_not, Bool.and_eq_false_iff, beq_eq_false_iff_ne]
    refine ⟨by omega, ?_⟩
    by_cases e : x = y
    · refine Or.inr (lex_least (by simpa using hl) (fun i h1 h2 h3 => ?_))
      exact h (i + 1) (by simp; omega) (by simp; omega) (fun j hj => by
        cases j with
        | zero => exact e
        | succ j => exact h3 j (by omega))
    · exact Or.inl e
/-- Each step goes to the least neighbour that is nearer by one. -/
structure Greedy (es : List (Int × Int)) (D : Int → Int) (a : Int) (L : List Int) : Prop where
  pos : 0 < L.length
  first : L[0] = a
  step : ∀ i (h : i + 1 < L.length), Adj es (L[i]'(by omega)) L[i + 1] ∧ D L[i + 1] = D a - i - 1 ∧ ∀ w, Adj es (L[i]'(by omega)) w → D w = D a - i - 1 → L[i + 1] ≤ w
theorem greedy_one (es : List (Int × Int)) (D : Int → Int) (a : Int) : Greedy es D a [a] := ⟨by simp, rfl, fun i h => absurd h (by simp)⟩
theorem Greedy.put {es : List (Int × Int)} {D : Int → Int} {a : Int} {L : List Int} (h : Greedy es D a L) {i : Nat} (hl : L.length = i + 1) {u v : Int} (hu : L[i]? = some u) (ha : Adj es u v) (hD : D v = D a - i - 1) (hmin : ∀ w, Adj es u w → D w = D a - i - 1 → v ≤ w) : Greedy es D a (L ++ [v]) := by
  have hu' : L[i]'(by omega) = u := by rw [List.getElem?_eq_getElem (by omega)] at hu; exact Option.some.inj hu
  refine ⟨by simp, by rw [List.getElem_append_left h.pos]; exact h.first, fun j hj => ?_⟩
  simp at hj
  by_cases e : j + 1 < L.length
  · rw [List.getElem_append_left (by omega), List.getElem_append_left e]; exact h.step j e
  · obtain rfl : j = i := by omega
    rw [List.getElem_append_left (by omega), hu']
    have : (L ++ [v])[j + 1]'(by simp; omega) = v := by rw [List.getElem_append_right (by omega)]; simp [hl]
    rw [this]
    exact ⟨ha, hD, hmin⟩
theorem Greedy.lev {es : List (Int × Int)} {D : Int → Int} {a : Int} {L : List Int} (h : Greedy es D a L) (i : Nat) (hi : i < L.length) : D L[i] = D a - i := by
  cases i with
  | zero => rw [h.first]; simp
  | succ i => have := (h.step i hi).2.1; rw [this]; omega
theorem Greedy.route {n : Int} {es : List (Int × Int)} {D : Int → Int} {a b : Int} {away L : List Int} (hR : RightG n es) (hl : Lev n es (fun x => x ∉ away) b D) (ha : 0 ≤ a ∧ a < n) (h : Greedy es D a L) (hlen : (L.length : Int) = D a + 1) : RouteIs n es a b away L := by
  have hpos := h.pos
  have hin : ∀ x ∈ L, 0 ≤ x ∧ x < n := fun x hx => by
    obtain ⟨i, hi, rfl⟩ := List.getElem_of_mem hx
    cases i with
    | zero => rw [h.first]; exact ha
    | succ i => exact ((h.step i hi).1.in hR).2.1
  have hW : Way n es a b away L := by
    refine ⟨⟨List.length_pos_iff.1 hpos, ?_, hin, fun i hi => (h.step i hi).1⟩, by rw [at_head hpos, h.first], ?_, fun x hx => ?_⟩
    · rw [List.nodup_iff_pairwise_ne, List.pairwise_iff_getElem]
      intro i j hi hj hij e
      have h1 := h.lev i hi
      have h2 := h.lev j hj
      rw [e] at h1
      omega
    · rw [at_last hpos]
      congr 1
      have hx := hin _ (List.getElem_mem (show L.length - 1 < L.length by omega))
      exact hl.zero _ hx.1 hx.2 (by rw [h.lev]; omega)
    · obtain ⟨i, hi, rfl⟩ := List.getElem_of_mem hx
      have hx := hin _ hx
      exact hl.opn _ hx.1 hx.2 (by rw [h.lev i hi]; omega)
  refine Or.inr ⟨hW, fun p hp => ?_⟩
  obtain ⟨hp0, e1⟩ := head_at hp.first
  obtain ⟨_, e2⟩ := last_at hp.last
  -- from the end: no vertex is farther than its place tells
  have hback : ∀ j (hj : j < p.length), 0 ≤ D (p[p.length - 1 - j]'(by omega)) ∧ D (p[p.length - 1 - j]'(by omega)) ≤ j := fun j => by
    induction j with
    | zero => intro hj; simp only [Nat.sub_zero, e2, hl.root]; omega
    | succ j ih =>
      intro hj
      have h1 := ih (by omega)
      have hadj := hp.path.lk (p.length - 1 - (j + 1)) (by omega)
      simp only [show p.length - 1 - (j + 1) + 1 = p.length - 1 - j by omega] at hadj
      have := hl.near _ _ hadj.symm h1.1 (hp.off _ (List.getElem_mem _))
      omega
  have hfar : D a ≤ p.length - 1 := by
    have := (hback (p.length - 1) (by omega)).2
    simp only [show p.length - 1 - (p.length - 1) = 0 by omega, e1] at this
    omega
  by_cases hlt : L.length < p.length
  · exact Or.inl hlt
  · have hle : L.length = p.length := by omega
    refine Or.inr ⟨hle, ?_⟩
    have hlev : ∀ i (hi : i < p.length), D p[i] = D a - i := fun i => by
      induction i with
      | zero => intro hi; rw [e1]; simp
      | succ i ih =>
        intro hi
        have h1 := ih (by omega)
        have h2 := hback (p.length - 1 - (i + 1)) (by omega)
        simp only [show p.length - 1 - (p.length - 1 - (i + 1)) = i + 1 by omega] at h2
        have hadj := hp.path.lk i hi
        have h3 := hl.near _ _ hadj.symm h2.1 (hp.off _ (List.getElem_mem _))
        omega
    refine lex_least hle.symm (fun i h1 h2 h3 => ?_)
    cases i with
    | zero => rw [h.first, e1]; exact Int.le_refl _
    | succ i =>
      refine (h.step i h2).2.2 _ ?_ (by rw [hlev (i + 1) h1]; omega)
      have := hp.path.lk i h1
      rw [h3 i (by omega)] at this
      exact this
/-- None is found. -/
theorem Lev.none {n : Int} {es : List (Int × Int)} {D : Int → Int} {a b : Int} {away : List Int} (hl : Lev n es (fun x => x ∉ away) b D) (h : D a < 0) : RouteIs n es a b away [] := by
  refine Or.inl ⟨rfl, fun p hp => ?_⟩
  obtain ⟨hp0, e1⟩ := head_at hp.first
  obtain ⟨_, e2⟩ := last_at hp.last
  have hback : ∀ j (hj : j < p.length), 0 ≤ D (p[p.length - 1 - j]'(by omega)) := fun j => by
    induction j with
    | zero => intro hj; simp only [Nat.sub_zero, e2, hl.root]; omega
    | succ j ih =>
      intro hj
      have h1 := ih (by omega)
      have hadj := hp.path.lk (p.length - 1 - (j + 1)) (by omega)
      simp only [show p.length - 1 - (j + 1) + 1 = p.length - 1 - j by omega] at hadj
      exact (hl.near _ _ hadj.symm h1 (hp.off _ (List.getElem_mem _))).1
  have := hback (p.length - 1) (by omega)
  simp only [show p.length - 1 - (p.length - 1) = 0 by omega, e1] at this
  omega
/-- No way leads to what is shut, or from it, or to what is no vertex. -/
theorem route_shut {n : Int} {es : List (Int × Int)} {a b : Int} {away : List Int} (h : b ∈ away ∨ a ∈ away ∨ ¬ (0 ≤ a ∧ a < n) ∨ ¬ (0 ≤ b ∧ b < n)) : RouteIs n es a b away [] := by
  refine Or.inl ⟨rfl, fun p hp => ?_⟩
  obtain ⟨hp0, e1⟩ := head_at hp.first
  obtain ⟨_, e2⟩ := last_at hp.last
  have h1 : b ∈ p := by rw [← e2]; exact List.getElem_mem _
  have h2 : a ∈ p := by rw [← e1]; exact List.getElem_mem _
  rcases h with h | h | h | h
  · exact hp.off b h1 h
  · exact hp.off a h2 h
  · exact h (hp.path.inn a h2)
  · exact h (hp.path.inn b h1)
end Go.Proofs.Ytplhpinaadgkkaa
namespace Go.Proofs.Ytplhpinaadgkkaa
open Go.RowKit Go.Lib Go.Shelf

/-- A row that was just made, whole. -/
theorem own_full {w : World} {base g m : Nat} {e : TypeId} {z : Value} (h : w.ownsRow base e 1 (.slice (some ⟨g, 0, none⟩) m m) m (List.replicate m z)) : w.heap[g]? = some (.cells (List.replicate m z).toArray e (0, 0)) := by
  rcases h.2 with ⟨hv, _⟩ | ⟨g', cap, cur, hv, h3, hgb, h5, h6, h7, h8⟩
  · simp at hv
  · simp only [Value.slice.injEq, Option.some.injEq, Addr.mk.injEq, and_true, true_and] at hv
    obtain ⟨rfl, rfl⟩ := hv
    rw [hgb]
    have : cur = (List.replicate m z).toArray := by
      rw [← h8, List.take_of_length_le (by rw [Array.length_toList, h7]; exact Nat.le_refl _)]
    rw [this]
theorem splice_rep {x z : Value} {n c m : Nat} : splice (List.replicate n x ++ List.replicate (m - n) z) n (List.replicate c x) = List.replicate (n + c) x ++ List.replicate (m - (n + c)) z := by
  unfold splice
  rw [List.take_append_of_le_length (by simp), List.drop_append]
  simp
  rw [← List.append_assoc, List.replicate_append_replicate]
  congr 2
  omega
/-- What a copy's cells must be, where there are any. -/
def CpOk (w : World) (cs : List Value) (dp sp : Option Addr) (g off : Nat) : Prop := 0 < cs.length → dp = some ⟨g, off, none⟩ ∧ ∃ ad, sp = some ad ∧ ∀ j v, cs[j]? = some v → w.cell? (ad.add j) = some v
theorem rep_cell {w : World} {g m k : Nat} {x z : Value} {t : TypeId} (h : w.heap[g]? = some (.cells (List.replicate k x ++ List.replicate (m - k) z).toArray t (0, 0))) {j : Nat} (hj : j < k) : w.cell? ⟨g, j, none⟩ = some x := by
  rw [cell_of_heap h]
  simp [List.getElem?_append_left, hj]

set_option maxHeartbeats 1000000 in
set_option maxRecDepth 100000 in
theorem rep_int (s o c : Nat) (x : Int) (m : Nat) (w : World) (hm : m ≤ 1000) (hc : w.cell? ⟨s, o, none⟩ = some (Value.int .i64 x)) :
    Calls Try.prog 76 #[.slice (some ⟨s, o, none⟩) 1 c, .int .i64 m] w fun e w' => ∃ g, e = .returned (.slice (some ⟨g, 0, none⟩) m m) ∧ w.heap.size ≤ g ∧ Row1 w' g m (fun _ => x) ∧ Below w.heap.size w w' := by
  have hs := block_lt_of_cell hc
  have hmul := Any.bits_Mul Try.mul 1 m (by omega) (by omega) w
  change Calls Try.prog 95 _ _ _ at hmul
  rw [show 1 * m / 18446744073709551616 = 0 by omega, show 1 * m % 18446744073709551616 = m by omega] at hmul
  obtain ⟨i0, hi, hz0, hz1, hz2⟩ := info_parts Try.info3
  obtain ⟨w2, hrun, hown, hgrow⟩ := run_make_full (P := Try.prog) w w.heap.size 28 3 i0 (Value.int .i64 0) 1 Try.underlying28 hi hz0 hz1 .i64 .i64 m (by rw [hz2]; omega) (by unfold maxLen; omega) (Nat.le_refl _)
  have hb2 : Below w.heap.size w w2 := Below.grown (Below.refl _ _) hgrow (Nat.le_refl _) (fun k hk => by cases hk)
  rw [made_ints] at hown
  have hlt := (hown.lt _ rfl).2
  have hful := own_full hown
  have HSZ : Hid ((Try.prog.info? 3).map (·.size) = some 1) := by
    show Option.map _ _ = _
    rw [hi]; exact congrArg some hz1
  have c2 := (hb2.cell (p := ⟨s, o, none⟩) hs).trans hc
  have qm : (m : Int) ≤ 9223372036854775807 := by omega
  have qw : IntKind.u64.wrap (m : Int) = (m : Int) := by simp [IntKind.wrap, IntKind.bits, IntKind.signed]; omega
  have qv : IntKind.i64.wrap (m : Int) = (m : Int) := by simp [IntKind.wrap, IntKind.bits, IntKind.signed]; omega
  have HMUL := hid hmul
  obtain ⟨C, hC⟩ := ex_eq (Nat.min 1 m)
  have hC1 : C ≤ 1 := by rw [hC]; exact Nat.min_le_left _ _
  have hC2 : C ≤ m := by rw [hC]; exact Nat.min_le_right _ _
  have HC0 : Hid (C = 0 → m = 0) := fun h => by rw [h] at hC; have : Nat.min 1 m = min 1 m := rfl; omega
  have HNN : Hid ((List.replicate C (Value.int .i64 x)).length = Nat.min 1 m) := by show _ = _; rw [List.length_replicate, hC]
  have HPOS : Hid (CpOk w2 (List.replicate C (Value.int .i64 x)) (some ⟨w.heap.size, 0, none⟩) (some ⟨s, o, none⟩) w.heap.size 0) := fun _ => ⟨rfl, ⟨s, o, none⟩, rfl, fun j v hj => by
    rw [List.getElem?_replicate] at hj
    by_cases e : j < C
    · rw [if_pos e] at hj
      obtain rfl : j = 0 := by omega
      cases hj
      exact c2
    · rw [if_neg e] at hj; cases hj⟩
  have HFIT : Hid (0 + (List.replicate C (Value.int .i64 x)).length ≤ (List.replicate m (Value.int .i64 0)).length) := by show _ ≤ _; simp; exact hC2
  have HON : Hid (∀ v ∈ List.replicate C (Value.int .i64 x), v.oneCell' = true) := fun v hv => by rw [(List.mem_replicate.1 hv).2]; rfl
  obtain ⟨cs, hcs⟩ := ex_eq (List.replicate C (Value.int .i64 x))
  have HCS := hid hcs
  rw [← hcs] at HNN HPOS HFIT HON
  have HFUL := hid hful
  have HB2 := hid hb2
  have hcl : cs.length = C := by rw [hcs]; simp
  clear hown hgrow hz0 hz2 hful hcs hC hc c2
  go_enter Try.func76, Try.ntmps76
  go_wp2_with (first
    | (go_at_call 95; refine HMUL.out.mono ?_; rintro e w' ⟨rfl, hw'⟩; rw [hw']; clear hw')
    | (refine wpList_copy_splice rfl _ _ _ _ rfl 3 Try.underlying28 HSZ.out _ _ _ _ _ _ rfl rfl w.heap.size 0 (List.replicate m (Value.int .i64 0)) 3 HFUL.out cs HNN.out HPOS.out HFIT.out HON.out w.heap.size w HB2.out (Nat.le_refl _) ?_; intro w5 HG5 hB5; rw [hcl]))
  have HG6 : Hid (w5.heap[w.heap.size]? = some (.cells (List.replicate C (Value.int .i64 x) ++ List.replicate (m - C) (Value.int .i64 0)).toArray 3 (0, 0))) := by
    show _ = _
    rw [HG5.out, HCS.out]
    have := splice_rep (x := Value.int .i64 x) (z := Value.int .i64 0) (n := 0) (c := C) (m := m)
    simp only [List.replicate_zero, List.nil_append, Nat.sub_zero, Nat.zero_add] at this
    rw [this]
  clear HG5 HCS HNN HPOS HFIT HON HFUL HB2 HMUL hcl
  go_wp2
  go_loopw [8] (fun i wr => ∃ k : Nat, C ≤ k ∧ k ≤ m ∧ i = .int .i64 k ∧ Hid (wr.heap[w.heap.size]? = some (.cells (List.replicate k (Value.int .i64 x) ++ List.replicate (m - k) (Value.int .i64 0)).toArray 3 (0, 0))) ∧ Below w.heap.size w wr) (fun i _ => m - (RowKit.intOf i).toNat)
  case atStart => exact ⟨C, Nat.le_refl _, hC2, rfl, HG6, hB5⟩
  case round =>
    obtain ⟨k, hk1, hk2, rfl, hG, hbr⟩ := hrel
    by_cases hlt2 : k < m
    · have hkp : 1 ≤ k := by
        by_cases e : C = 0
        · have := HC0.out e; omega
        · omega
      obtain ⟨E, hE⟩ := ex_eq (Nat.min k (m - k))
      have hE1 : E ≤ k := by rw [hE]; exact Nat.min_le_left _ _
      have hE2 : E ≤ m - k := by rw [hE]; exact Nat.min_le_right _ _
      have hE3 : 1 ≤ E := by rw [hE]; exact Nat.le_min.2 ⟨hkp, by omega⟩
      have HNN : Hid ((List.replicate E (Value.int .i64 x)).length = Nat.min k (m - k)) := by show _ = _; rw [List.length_replicate, hE]
      have HPOS : Hid (CpOk wr.drew (List.replicate E (Value.int .i64 x)) (some ⟨w.heap.size, k, none⟩) (some ⟨w.heap.size, 0, none⟩) w.heap.size k) := fun _ => ⟨rfl, ⟨w.heap.size, 0, none⟩, rfl, fun j v hj => by
        rw [List.getElem?_replicate] at hj
        by_cases e : j < E
        · rw [if_pos e] at hj
          cases hj
          rw [add_at, Nat.zero_add]
          exact rep_cell (w := wr) hG.out (by omega)
        · rw [if_neg e] at hj; cases hj⟩
      have HFIT : Hid (k + (List.replicate E (Value.int .i64 x)).length ≤ (List.replicate k (Value.int .i64 x) ++ List.replicate (m - k) (Value.int .i64 0)).length) := by show _ ≤ _; simp; omega
      have HON : Hid (∀ v ∈ List.replicate E (Value.int .i64 x), v.oneCell' = true) := fun v hv => by rw [(List.mem_replicate.1 hv).2]; rfl
      obtain ⟨cs, hcs⟩ := ex_eq (List.replicate E (Value.int .i64 x))
      obtain ⟨cur, hcur⟩ := ex_eq (List.replicate k (Value.int .i64 x) ++ List.replicate (m - k) (Value.int .i64 0))
      have HCS := hid hcs
      have HCUR := hid hcur
      rw [← hcs] at HNN HPOS HFIT HON
      rw [← hcur] at HFIT hG
      have HGD : Hid (wr.drew.heap[w.heap.size]? = some (.cells cur.toArray 3 (0, 0))) := hG
      have HBD : Hid (Below w.heap.size w wr.drew) := hbr.drew
      have hcl : cs.length = E := by rw [hcs]; simp
      have q1 : (k : Int) < (m : Int) := by omega
      have q2 : (k : Int) ≤ (m : Int) := by omega
      have q3 : ¬ m = k := by omega
      clear hcs hcur hE hG
      go_wp2_with fail
      go_region_law (refine step_copy_splice rfl (.tmp 41) (.tmp 44) 28 28 rfl 3 Try.underlying28 HSZ.out (some ⟨w.heap.size, k, none⟩) (some ⟨w.heap.size, 0, none⟩) (m - k) (m - k) k m (by simp [Act.eval, Act.put]) (by simp [Act.eval, Act.put]) w.heap.size k cur 3 HGD.out cs HNN.out HPOS.out HFIT.out HON.out w.heap.size w HBD.out (Nat.le_refl _) ?_; intro w6 HG7 hB6)
      all_goals
        have HG8 : Hid (w6.heap[w.heap.size]? = some (.cells (List.replicate (k + E) (Value.int .i64 x) ++ List.replicate (m - (k + E)) (Value.int .i64 0)).toArray 3 (0, 0))) := by
          show _ = _
          rw [HG7.out, HCS.out, HCUR.out, splice_rep]
        clear HG7 HCS HCUR HNN HPOS HFIT HON HGD HBD
        try simp only [List.getElem_toArray, List.getElem_cons_succ, List.getElem_cons_zero]
        try simp only [Act.put, List.setIfInBounds_toArray, List.set_cons_zero, List.set_cons_succ]
        have hwr : IntKind.i64.wrap ((k : Int) + (E : Int)) = ((k + E : Nat) : Int) := by simp [IntKind.wrap, IntKind.bits, IntKind.signed]; omega
        go_wp2
        go_roundw
        case rel => exact ⟨k + E, by omega, by omega, by go_num, HG8, hB6⟩
        case measure => simp [RowKit.intOf]; omega
    · obtain rfl : k = m := by omega
      have HRow1 : Hid (Row1 wr w.heap.size k (fun _ => x)) := ⟨(Array.getElem?_eq_some_iff.1 hG.out).1, fun j hj => ⟨rep_cell hG.out hj, frozen_of_heap hG.out _⟩⟩
      clear hG
      go_wp2
      go_ret
      exact ⟨w.heap.size, rfl, Nat.le_refl _, HRow1.out, hbr⟩

set_option maxHeartbeats 1000000 in
set_option maxRecDepth 100000 in
theorem rep_bool (s o c : Nat) (x : Bool) (m : Nat) (w : World) (hm : m ≤ 1000) (hc : w.cell? ⟨s, o, none⟩ = some (Value.bool x)) :
    Calls Try.prog 77 #[.slice (some ⟨s, o, none⟩) 1 c, .int .i64 m] w fun e w' => ∃ g, e = .returned (.slice (some ⟨g, 0, none⟩) m m) ∧ w.heap.size ≤ g ∧ RowB w' g m (fun _ => x) ∧ Below w.heap.size w w' := by
  have hs := block_lt_of_cell hc
  have hmul := Any.bits_Mul Try.mul 1 m (by omega) (by omega) w
  change Calls Try.prog 95 _ _ _ at hmul
  rw [show 1 * m / 18446744073709551616 = 0 by omega, show 1 * m % 18446744073709551616 = m by omega] at hmul
  obtain ⟨i0, hi, hz0, hz1, hz2⟩ := info_parts Try.info4
  obtain ⟨w2, hrun, hown, hgrow⟩ := run_make_full (P := Try.prog) w w.heap.size 60 4 i0 (Value.bool false) 1 Try.underlying60 hi hz0 hz1 .i64 .i64 m (by rw [hz2]; omega) (by unfold maxLen; omega) (Nat.le_refl _)
  have hb2 : Below w.heap.size w w2 := Below.grown (Below.refl _ _) hgrow (Nat.le_refl _) (fun k hk => by cases hk)
  rw [made_bools] at hown
  have hlt := (hown.lt _ rfl).2
  have hful := own_full hown
  have HSZ : Hid ((Try.prog.info? 4).map (·.size) = some 1) := by
    show Option.map _ _ = _
    rw [hi]; exact congrArg some hz1
  have c2 := (hb2.cell (p := ⟨s, o, none⟩) hs).trans hc
  have qm : (m : Int) ≤ 9223372036854775807 := by omega
  have qw : IntKind.u64.wrap (m : Int) = (m : Int) := by simp [IntKind.wrap, IntKind.bits, IntKind.signed]; omega
  have qv : IntKind.i64.wrap (m : Int) = (m : Int) := by simp [IntKind.wrap, IntKind.bits, IntKind.signed]; omega
  have HMUL := hid hmul
  obtain ⟨C, hC⟩ := ex_eq (Nat.min 1 m)
  have hC1 : C ≤ 1 := by rw [hC]; exact Nat.min_le_left _ _
  have hC2 : C ≤ m := by rw [hC]; exact Nat.min_le_right _ _
  have HC0 : Hid (C = 0 → m = 0) := fun h => by rw [h] at hC; have : Nat.min 1 m = min 1 m := rfl; omega
  have HNN : Hid ((List.replicate C (Value.bool x)).length = Nat.min 1 m) := by show _ = _; rw [List.length_replicate, hC]
  have HPOS : Hid (CpOk w2 (List.replicate C (Value.bool x)) (some ⟨w.heap.size, 0, none⟩) (some ⟨s, o, none⟩) w.heap.size 0) := fun _ => ⟨rfl, ⟨s, o, none⟩, rfl, fun j v hj => by
    rw [List.getElem?_replicate] at hj
    by_cases e : j < C
    · rw [if_pos e] at hj
      obtain rfl : j = 0 := by omega
      cases hj
      exact c2
    · rw [if_neg e] at hj; cases hj⟩
  have HFIT : Hid (0 + (List.replicate C (Value.bool x)).length ≤ (List.replicate m (Value.bool false)).length) := by show _ ≤ _; simp; exact hC2
  have HON : Hid (∀ v ∈ List.replicate C (Value.bool x), v.oneCell' = true) := fun v hv => by rw [(List.mem_replicate.1 hv).2]; rfl
  obtain ⟨cs, hcs⟩ := ex_eq (List.replicate C (Value.bool x))
  have HCS := hid hcs
  rw [← hcs] at HNN HPOS HFIT HON
  have HFUL := hid hful
  have HB2 := hid hb2
  have hcl : cs.length = C := by rw [hcs]; simp
  clear hown hgrow hz0 hz2 hful hcs hC hc c2
  go_enter Try.func77, Try.ntmps77
  go_wp2_with (first
    | (go_at_call 95; refine HMUL.out.mono ?_; rintro e w' ⟨rfl, hw'⟩; rw [hw']; clear hw')
    | (refine wpList_copy_splice rfl _ _ _ _ rfl 4 Try.underlying60 HSZ.out _ _ _ _ _ _ rfl rfl w.heap.size 0 (List.replicate m (Value.bool false)) 4 HFUL.out cs HNN.out HPOS.out HFIT.out HON.out w.heap.size w HB2.out (Nat.le_refl _) ?_; intro w5 HG5 hB5; rw [hcl]))
  have HG6 : Hid (w5.heap[w.heap.size]? = some (.cells (List.replicate C (Value.bool x) ++ List.replicate (m - C) (Value.bool false)).toArray 4 (0, 0))) := by
    show _ = _
    rw [HG5.out, HCS.out]
    have := splice_rep (x := Value.bool x) (z := Value.bool false) (n := 0) (c := C) (m := m)
    simp only [List.replicate_zero, List.nil_append, Nat.sub_zero, Nat.zero_add] at this
    rw [this]
  clear HG5 HCS HNN HPOS HFIT HON HFUL HB2 HMUL hcl
  go_wp2
  go_loopw [8] (fun i wr => ∃ k : Nat, C ≤ k ∧ k ≤ m ∧ i = .int .i64 k ∧ Hid (wr.heap[w.heap.size]? = some (.cells (List.replicate k (Value.bool x) ++ List.replicate (m - k) (Value.bool false)).toArray 4 (0, 0))) ∧ Below w.heap.size w wr) (fun i _ => m - (RowKit.intOf i).toNat)
  case atStart => exact ⟨C, Nat.le_refl _, hC2, rfl, HG6, hB5⟩
  case round =>
    obtain ⟨k, hk1, hk2, rfl, hG, hbr⟩ := hrel
    by_cases hlt2 : k < m
    · have hkp : 1 ≤ k := by
        by_cases e : C = 0
        · have := HC0.out e; omega
        · omega
      obtain ⟨E, hE⟩ := ex_eq (Nat.min k (m - k))
      have hE1 : E ≤ k := by rw [hE]; exact Nat.min_le_left _ _
      have hE2 : E ≤ m - k := by rw [hE]; exact Nat.min_le_right _ _
      have hE3 : 1 ≤ E := by rw [hE]; exact Nat.le_min.2 ⟨hkp, by omega⟩
      have HNN : Hid ((List.replicate E (Value.bool x)).length = Nat.min k (m - k)) := by show _ = _; rw [List.length_replicate, hE]
      have HPOS : Hid (CpOk wr.drew (List.replicate E (Value.bool x)) (some ⟨w.heap.size, k, none⟩) (some ⟨w.heap.size, 0, none⟩) w.heap.size k) := fun _ => ⟨rfl, ⟨w.heap.size, 0, none⟩, rfl, fun j v hj => by
        rw [List.getElem?_replicate] at hj
        by_cases e : j < E
        · rw [if_pos e] at hj
          cases hj
          rw [add_at, Nat.zero_add]
          exact rep_cell (w := wr) hG.out (by omega)
        · rw [if_neg e] at hj; cases hj⟩
      have HFIT : Hid (k + (List.replicate E (Value.bool x)).length ≤ (List.replicate k (Value.bool x) ++ List.replicate (m - k) (Value.bool false)).length) := by show _ ≤ _; simp; omega
      have HON : Hid (∀ v ∈ List.replicate E (Value.bool x), v.oneCell' = true) := fun v hv => by rw [(List.mem_replicate.1 hv).2]; rfl
      obtain ⟨cs, hcs⟩ := ex_eq (List.replicate E (Value.bool x))
      obtain ⟨cur, hcur⟩ := ex_eq (List.replicate k (Value.bool x) ++ List.replicate (m - k) (Value.bool false))
      have HCS := hid hcs
      have HCUR := hid hcur
      rw [← hcs] at HNN HPOS HFIT HON
      rw [← hcur] at HFIT hG
      have HGD : Hid (wr.drew.heap[w.heap.size]? = some (.cells cur.toArray 4 (0, 0))) := hG
      have HBD : Hid (Below w.heap.size w wr.drew) := hbr.drew
      have hcl : cs.length = E := by rw [hcs]; simp
      have q1 : (k : Int) < (m : Int) := by omega
      have q2 : (k : Int) ≤ (m : Int) := by omega
      have q3 : ¬ m = k := by omega
      clear hcs hcur hE hG
      go_wp2_with fail
      go_region_law (refine step_copy_splice rfl (.tmp 41) (.tmp 44) 60 60 rfl 4 Try.underlying60 HSZ.out (some ⟨w.heap.size, k, none⟩) (some ⟨w.heap.size, 0, none⟩) (m - k) (m - k) k m (by simp [Act.eval, Act.put]) (by simp [Act.eval, Act.put]) w.heap.size k cur 4 HGD.out cs HNN.out HPOS.out HFIT.out HON.out w.heap.size w HBD.out (Nat.le_refl _) ?_; intro w6 HG7 hB6)
      all_goals
        have HG8 : Hid (w6.heap[w.heap.size]? = some (.cells (List.replicate (k + E) (Value.bool x) ++ List.replicate (m - (k + E)) (Value.bool false)).toArray 4 (0, 0))) := by
          show _ = _
          rw [HG7.out, HCS.out, HCUR.out, splice_rep]
        clear HG7 HCS HCUR HNN HPOS HFIT HON HGD HBD
        try simp only [List.getElem_toArray, List.getElem_cons_succ, List.getElem_cons_zero]
        try simp only [Act.put, List.setIfInBounds_toArray, List.set_cons_zero, List.set_cons_succ]
        have hwr : IntKind.i64.wrap ((k : Int) + (E : Int)) = ((k + E : Nat) : Int) := by simp [IntKind.wrap, IntKind.bits, IntKind.signed]; omega
        go_wp2
        go_roundw
        case rel => exact ⟨k + E, by omega, by omega, by go_num, HG8, hB6⟩
        case measure => simp [RowKit.intOf]; omega
    · obtain rfl : k = m := by omega
      have HRowB : Hid (RowB wr w.heap.size k (fun _ => x)) := ⟨(Array.getElem?_eq_some_iff.1 hG.out).1, fun j hj => ⟨rep_cell hG.out hj, frozen_of_heap hG.out _⟩⟩
      clear hG
      go_wp2
      go_ret
      exact ⟨w.heap.size, rfl, Nat.le_refl _, HRowB.out, hbr⟩
end Go.Proofs.Ytplhpinaadgkkaa
