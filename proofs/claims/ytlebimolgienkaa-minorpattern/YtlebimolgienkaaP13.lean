/-
  How far off each vertex lies: what a search tells, and the least of the shortest ways by it. No program is named here.
  The program's distances: a search, one vertex behind the other.
-/
import Derived.Test.YtlebimolgienkaaP07
import Derived.Test.YtlebimolgienkaaP12
import Derived.Test.YtlebimolgienkaaP05
import Derived.Test.YtlebimolgienkaaP11
import Derived.Test.YtlebimolgienkaaP04
namespace Go.Proofs.Ytlebimolgienkaa

/-- D tells how many edges lie between each vertex and b, by open vertices; -1: there is no way. -/
structure Lev (n : Int) (es : List (Int × Int)) (O : Int → Prop) (b : Int) (D : Int → Int) : Prop where
  root : D b = 0
  opn : ∀ x, 0 ≤ x → x < n → 0 ≤ D x → O x
  zero : ∀ x, 0 ≤ x → x < n → D x = 0 → x = b
  down : ∀ x, 0 ≤ x → x < n → 0 < D x → ∃ u, Adj es u x ∧ D u = D x - 1
  near : ∀ u v, Adj es u v → 0 ≤ D u → O v → 0 ≤ D v ∧ D v ≤ D u + 1
/-- A search under way: F is found, the first i of it are looked at. -/
structure Bf (n : Int) (es : List (Int × Int)) (O : Int → Prop) (b : Int) (F : List Int) (D : Int → Int) (i : Nat) : Prop where
  nd : F.Nodup
  mem : ∀ x, 0 ≤ x → x < n → (x ∈ F ∧ 0 ≤ D x) ∨ (x ∉ F ∧ D x = -1)
  inr : ∀ x ∈ F, (0 ≤ x ∧ x < n) ∧ O x
  root : b ∈ F ∧ D b = 0
  mono : ∀ j k (hjk : j ≤ k) (hk : k < F.length), D (F[j]'(by omega)) ≤ D F[k]
  top : ∀ j (hj : j < F.length) (hi : i < F.length), D F[j] ≤ D F[i] + 1
  zero : ∀ x ∈ F, D x = 0 → x = b
  down : ∀ x ∈ F, 0 < D x → ∃ u ∈ F, Adj es u x ∧ D u = D x - 1
  done : ∀ j (hj : j < F.length), j < i → ∀ v, Adj es F[j] v → O v → v ∈ F ∧ D v ≤ D F[j] + 1
  le : ∀ j (hj : j < F.length), D F[j] ≤ j
theorem bf_start {n : Int} {es : List (Int × Int)} {O : Int → Prop} {b : Int} (hb : 0 ≤ b ∧ b < n) (hO : O b) : Bf n es O b [b] (fun x => if x = b then 0 else -1) 0 := by
  refine ⟨by simp, fun x _ _ => ?_, fun x hx => by simp at hx; subst hx; exact ⟨hb, hO⟩, ⟨by simp, by simp⟩, fun j k hjk hk => ?_, fun j hj hi => ?_, fun x hx _ => by simpa using hx, fun x hx h => ?_, fun j _ h => absurd h (by omega), fun j hj => ?_⟩
  · by_cases e : x = b
    · subst e; exact Or.inl ⟨by simp, by simp⟩
    · exact Or.inr ⟨by simpa using e, by simp [e]⟩
  · simp at hk; subst hk; obtain rfl : j = 0 := by omega
    exact Int.le_refl _
  · simp at hj; subst hj; simp
  · simp at hx; subst hx; simp at h
  · simp at hj; subst hj; simp
theorem getElem_snoc_lt {F : List Int} {w : Int} {j : Nat} (h : j < F.length) : (F ++ [w])[j]'(by simp; omega) = F[j] := List.getElem_append_left h
theorem getElem_snoc_last {F : List Int} {w : Int} (h : F.length < (F ++ [w]).length) : (F ++ [w])[F.length] = w := by simp
/-- One more is found. -/
theorem Bf.put {n : Int} {es : List (Int × Int)} {O : Int → Prop} {b : Int} {F : List Int} {D : Int → Int} {i : Nat} (h : Bf n es O b F D i) (hi : i < F.length) {v : Int} (ha : Adj es F[i] v) (hv : 0 ≤ v ∧ v < n) (hO : O v) (hn : v ∉ F) : Bf n es O b (F ++ [v]) (fun x => if x = v then D F[i] + 1 else D x) i := by
  have hne : ∀ x ∈ F, x ≠ v := fun x hx e => hn (e ▸ hx)
  have hD : ∀ j (hj : j < F.length), (if F[j] = v then D F[i] + 1 else D F[j]) = D F[j] := fun j hj => if_neg (hne _ (List.getElem_mem hj))
  have hpos : ∀ j (hj : j < F.length), 0 ≤ D F[j] := fun j hj => by
    have := (h.inr _ (List.getElem_mem hj)).1
    rcases h.mem F[j] this.1 this.2 with e | e
    · exact e.2
    · exact absurd (List.getElem_mem hj) e.1
  refine ⟨List.nodup_append.2 ⟨h.nd, by simp, fun y hy z hz => by simp at hz; subst hz; exact hne y hy⟩, fun x h0 h1 => ?_, fun x hx => ?_, ⟨List.mem_append_left _ h.root.1, ?_⟩, fun j k hjk hk => ?_, fun j hj hi' => ?_, fun x hx h0 => ?_, fun x hx h0 => ?_, fun j hj hji u hu hOu => ?_, fun j hj => ?_⟩
  · by_cases e : x = v
    · subst e
      refine Or.inl ⟨by simp, ?_⟩
      show 0 ≤ (if x = x then D F[i] + 1 else D x)
      rw [if_pos rfl]
      have := hpos i hi
      omega
    · show (x ∈ F ++ [v] ∧ 0 ≤ (if x = v then D F[i] + 1 else D x)) ∨ (x ∉ F ++ [v] ∧ (if x = v then D F[i] + 1 else D x) = -1)
      rw [if_neg e]
      rcases h.mem x h0 h1 with h2 | h2
      · exact Or.inl ⟨List.mem_append_left _ h2.1, h2.2⟩
      · exact Or.inr ⟨fun hm => by rcases List.mem_append.1 hm with hm | hm; exact h2.1 hm; simp at hm; exact e hm, h2.2⟩
  · rcases List.mem_append.1 hx with hx | hx
    · exact h.inr x hx
    · simp at hx; subst hx; exact ⟨hv, hO⟩
  · show (if b = v then D F[i] + 1 else D b) = 0
    rw [if_neg (hne b h.root.1)]; exact h.root.2
  · show (if (F ++ [v])[j]'(by omega) = v then D F[i] + 1 else D ((F ++ [v])[j]'(by omega))) ≤ (if (F ++ [v])[k] = v then D F[i] + 1 else D (F ++ [v])[k])
    by_cases e : k < F.length
    · rw [getElem_snoc_lt e, getElem_snoc_lt (show j < F.length by omega), hD k e, hD j (by omega)]
      exact h.mono j k hjk e
    · obtain rfl : k = F.length := by simp at hk; omega
      rw [getElem_snoc_last hk, if_pos rfl]
      by_cases e2 : j < F.length
      · rw [getElem_snoc_lt e2, hD j e2]; exact h.top j e2 hi
      · obtain rfl : j = F.length := by omega
        rw [getElem_snoc_last hk, if_pos rfl]; exact Int.le_refl _
  · show (if (F ++ [v])[j] = v then D F[i] + 1 else D (F ++ [v])[j]) ≤ (if (F ++ [v])[i] = v then D F[i] + 1 else D (F ++ [v])[i]) + 1
    rw [getElem_snoc_lt hi, hD i hi]
    by_cases e : j < F.length
    · rw [getElem_snoc_lt e, hD j e]; exact h.top j e hi
    · obtain rfl : j = F.length := by simp at hj; omega
      rw [getElem_snoc_last hj, if_pos rfl]; exact Int.le_refl _
  · rcases List.mem_append.1 hx with hx | hx
    · have h0' : (if x = v then D F[i] + 1 else D x) = 0 := h0
      rw [if_neg (hne x hx)] at h0'
      exact h.zero x hx h0'
    · simp at hx; subst hx
      have h0' : (if x = x then D F[i] + 1 else D x) = 0 := h0
      rw [if_pos rfl] at h0'
      have := hpos i hi
      omega
  · rcases List.mem_append.1 hx with hx | hx
    · have h0' : 0 < (if x = v then D F[i] + 1 else D x) := h0
      rw [if_neg (hne x hx)] at h0'
      obtain ⟨u, hu, h1, h2⟩ := h.down x hx h0'
      refine ⟨u, List.mem_append_left _ hu, h1, ?_⟩
      show (if u = v then D F[i] + 1 else D u) = (if x = v then D F[i] + 1 else D x) - 1
      rw [if_neg (hne u hu), if_neg (hne x hx)]; exact h2
    · simp at hx; subst hx
      refine ⟨F[i], List.mem_append_left _ (List.getElem_mem hi), ha, ?_⟩
      show (if F[i] = x then D F[i] + 1 else D F[i]) = (if x = x then D F[i] + 1 else D x) - 1
      rw [hD i hi, if_pos rfl]
      omega
  · have hjF : j < F.length := by omega
    rw [getElem_snoc_lt hjF] at hu
    obtain ⟨h1, h2⟩ := h.done j hjF hji u hu hOu
    refine ⟨List.mem_append_left _ h1, ?_⟩
    show (if u = v then D F[i] + 1 else D u) ≤ (if (F ++ [v])[j] = v then D F[i] + 1 else D (F ++ [v])[j]) + 1
    rw [getElem_snoc_lt hjF, hD j hjF, if_neg (hne u h1)]
    exact h2
  · show (if (F ++ [v])[j] = v then D F[i] + 1 else D (F ++ [v])[j]) ≤ j
    by_cases e : j < F.length
    · rw [getElem_snoc_lt e, hD j e]; exact h.le j e
    · obtain rfl : j = F.length := by simp at hj; omega
      rw [getElem_snoc_last hj, if_pos rfl]
      have := h.le i hi
      omega
theorem Bf.congr {n : Int} {es : List (Int × Int)} {O : Int → Prop} {b : Int} {F : List Int} {D D' : Int → Int} {i : Nat} (h : Bf n es O b F D i) (e : ∀ x, 0 ≤ x → x < n → D x = D' x) : Bf n es O b F D' i := by
  have hF : ∀ x ∈ F, D' x = D x := fun x hx => (e x (h.inr x hx).1.1 (h.inr x hx).1.2).symm
  have hA : ∀ j (hj : j < F.length), D' F[j] = D F[j] := fun j hj => hF _ (List.getElem_mem hj)
  refine ⟨h.nd, fun x h0 h1 => by rw [← e x h0 h1]; exact h.mem x h0 h1, h.inr, ⟨h.root.1, by rw [hF _ h.root.1]; exact h.root.2⟩, fun j k hjk hk => by rw [hA k hk, hA j (by omega)]; exact h.mono j k hjk hk, fun j hj hi => by rw [hA j hj, hA i hi]; exact h.top j hj hi, fun x hx h0 => h.zero x hx (by rw [← hF x hx]; exact h0), fun x hx h0 => ?_, fun j hj hji v ha hO => ?_, fun j hj => by rw [hA j hj]; exact h.le j hj⟩
  · rw [hF x hx] at h0
    obtain ⟨u, hu, h1, h2⟩ := h.down x hx h0
    exact ⟨u, hu, h1, by rw [hF u hu, hF x hx]; exact h2⟩
  · obtain ⟨h1, h2⟩ := h.done j hj hji v ha hO
    exact ⟨h1, by rw [hF v h1, hA j hj]; exact h2⟩
/-- One more is looked at. -/
theorem Bf.next {n : Int} {es : List (Int × Int)} {O : Int → Prop} {b : Int} {F : List Int} {D : Int → Int} {i : Nat} (h : Bf n es O b F D i) (hi : i < F.length) (hd : ∀ v, Adj es F[i] v → O v → v ∈ F) : Bf n es O b F D (i + 1) :=
  { h with
    top := fun j hj hi' => by
      have h1 := h.top j hj hi
      have h2 := h.mono i (i + 1) (by omega) hi'
      omega
    done := fun j hj hji v hv hO => by
      by_cases e : j < i
      · exact h.done j hj e v hv hO
      · obtain rfl : j = i := by omega
        have hm := hd v hv hO
        refine ⟨hm, ?_⟩
        obtain ⟨k, hk, rfl⟩ := List.getElem_of_mem hm
        exact h.top k hk hi }
/-- All is looked at. -/
theorem Bf.lev {n : Int} {es : List (Int × Int)} {O : Int → Prop} {b : Int} {F : List Int} {D : Int → Int} (hR : RightG n es) (h : Bf n es O b F D F.length) : Lev n es O b D := by
  have hm : ∀ x, 0 ≤ x → x < n → 0 ≤ D x → x ∈ F := fun x h0 h1 h2 => by
    rcases h.mem x h0 h1 with e | e
    · exact e.1
    · omega
  refine ⟨h.root.2, fun x h0 h1 h2 => (h.inr x (hm x h0 h1 h2)).2, fun x h0 h1 h2 => h.zero x (hm x h0 h1 (by omega)) h2, fun x h0 h1 h2 => ?_, fun u v ha h0 hO => ?_⟩
  · obtain ⟨u, _, h3, h4⟩ := h.down x (hm x h0 h1 (by omega)) h2
    exact ⟨u, h3, h4⟩
  · obtain ⟨hu, hv, _⟩ := ha.in hR
    obtain ⟨j, hj, rfl⟩ := List.getElem_of_mem (hm u hu.1 hu.2 h0)
    obtain ⟨h1, h2⟩ := h.done j hj hj v ha hO
    refine ⟨?_, h2⟩
    rcases h.mem v hv.1 hv.2 with e | e
    · exact e.2
    · exact absurd h1 e.1
/-- Of a search among the members of l: found is what one comes to. -/
theorem Lev.rch {n : Int} {es : List (Int × Int)} {l : List Int} {b : Int} {D : Int → Int} (hR : RightG n es) (inn : ∀ x ∈ l, 0 ≤ x ∧ x < n) (h : Lev n es (fun x => x ∈ l) b D) {x : Int} (hx : x ∈ l) : 0 ≤ D x ↔ Rch es l b x := by
  constructor
  · intro h0
    obtain ⟨k, hk⟩ : ∃ k : Nat, D x = k := ⟨(D x).toNat, by omega⟩
    clear h0
    induction k generalizing x with
    | zero =>
      have := h.zero x (inn x hx).1 (inn x hx).2 (by omega)
      subst this
      exact Rch.refl _ _ _
    | succ k ih =>
      obtain ⟨u, hu, hd⟩ := h.down x (inn x hx).1 (inn x hx).2 (by omega)
      have hur := (hu.in hR).1
      have hul := h.opn u hur.1 hur.2 (by omega)
      exact (ih hul (by omega)).step hu hx
  · intro hr
    exact hr (fun z => 0 ≤ D z) (by rw [h.root]; exact Int.le_refl _) (fun u v hu ha hv => (h.near u v ha hu hv).1)
theorem Lev.whole {n : Int} {es : List (Int × Int)} {l : List Int} {D : Int → Int} (hR : RightG n es) (nd : l.Nodup) (inn : ∀ x ∈ l, 0 ≤ x ∧ x < n) (h0 : 0 < l.length) (h : Lev n es (fun x => x ∈ l) l[0] D) : (∀ x ∈ l, 0 ≤ D x) ↔ WholeL n es l :=
  ⟨fun ha => WholeL.of_head nd inn h0 (fun y hy => (h.rch hR inn hy).1 (ha y hy)), fun hw x hx => (h.rch hR inn hx).2 (hw.one l[0] (List.getElem_mem h0) x hx)⟩

theorem Lev.congr {n : Int} {es : List (Int × Int)} {O O' : Int → Prop} {b : Int} {D : Int → Int} (hR : RightG n es) (h : Lev n es O b D) (e : ∀ x, 0 ≤ x → x < n → (O x ↔ O' x)) : Lev n es O' b D :=
  ⟨h.root, fun x h0 h1 h2 => (e x h0 h1).1 (h.opn x h0 h1 h2), h.zero, h.down, fun u v ha h0 hO => by
    obtain ⟨_, hv, _⟩ := ha.in hR
    exact h.near u v ha h0 ((e v hv.1 hv.2).2 hO)⟩
/-- Each step goes to the least neighbour that is nearer by one. -/
structure Greedy (es : List (Int × Int)) (D : Int → Int) (a : Int) (L : List Int) : Prop where
  pos : 0 < L.length
  first : L[0] = a
  step : ∀ i (h : i + 1 < L.length), Adj es (L[i]'(by omega)) L[i + 1] ∧ D L[i + 1] = D a - i - 1 ∧ ∀ w, Adj es (L[i]'(by omega)) w → D w = D a - i - 1 → L[i + 1] ≤ w
theorem Greedy.put {es : List (Int × Int)} {D : Int → Int} {a : Int} {L : List Int} (h : Greedy es D a L) {i : Nat} (hl : L.length = i + 1) {u v : Int} (hu : L[i]? = some u) (ha : Adj es u v) (hD : D v = D a - i - 1) (hmin : ∀ w, Adj es u w → D w = D a - i - 1 → v ≤ w) : Greedy es D a (L ++ [v]) := by
  have hu' : L[i]'(by omega) = u := by rw [List.getElem?_eq_getElem (by omega)] at hu; exact Option.some.inj hu
  refine ⟨by simp, by rw [List.getElem_append_left h.pos]; exact h.first, fun j hj => ?_⟩
  simp at hj
  by_cases e : j + 1 < L.length
  · rw [List.getElem_append_left (by omega), List.getElem_append_left e]; exact h.step j e
  · obtain rfl : j = i := by omega
    rw [List.getElem_append_left (by omega), hu']
    have : (L ++ [v])[j + 1]'(by simp; omega) = v := by rw [List.getElem_append_right (by omega)]; simp [hl]
    rw [this]
    exact ⟨ha, hD, hmin⟩
theorem Greedy.lev {es : List (Int × Int)} {D : Int → Int} {a : Int} {L : List Int} (h : Greedy es D a L) (i : Nat) (hi : i < L.length) : D L[i] = D a - i := by
  cases i with
  | zero => rw [h.first]; simp
  | succ i => have := (h.step i hi).2.1; rw [this]; omega
/-- None is found. -/
theorem Lev.none {n : Int} {es : List (Int × Int)} {D : Int → Int} {a b : Int} {away : List Int} (hl : Lev n es (fun x => x ∉ away) b D) (h : D a < 0) : RouteIs n es a b away [] := by
  refine Or.inl ⟨rfl, fun p hp => ?_⟩
  obtain ⟨hp0, e1⟩ := head_at hp.first
  obtain ⟨_, e2⟩ := last_at hp.last
  have hback : ∀ j (hj : j < p.length), 0 ≤ D (p[p.length - 1 - j]'(by omega)) := fun j => by
    induction j with
    | zero => intro hj; simp only [Nat.sub_zero, e2, hl.root]; omega
    | succ j ih =>
      intro hj
      have h1 := ih (by omega)
      have hadj := hp.path.lk (p.length - 1 - (j + 1)) (by omega)
      simp only [show p.length - 1 - (j + 1) + 1 = p.length - 1 - j by omega] at hadj
      exact (hl.near _ _ hadj.symm h1 (hp.off _ (List.getElem_mem _))).1
  have := hback (p.length - 1) (by omega)
  simp only [show p.length - 1 - (p.length - 1) = 0 by omega, e1] at this
  omega
end Go.Proofs.Ytlebimolgienkaa
namespace Go.Proofs.Ytlebimolgienkaa
open Go.RowKit Go.Lib

theorem news_oneI {w : World} {x : Value} {t : TypeId} : ∀ p, some (⟨w.heap.size, 0, none⟩ : Addr) = some p → ∀ j u, [x][j]? = some u → (w.alloc (.cells #[x] t)).cell? (p.add j) = some u := fun p hp j u hj => by
  cases hp
  cases j with
  | zero => simp at hj; subst hj; rw [add_at]; exact cell_of_heap (heap_alloc_new w _) 0
  | succ j => simp at hj
theorem own_one (w : World) (base : Nat) (x : Value) (t : TypeId) (hb : base ≤ w.heap.size) : (w.alloc (.cells #[x] t)).ownsRow base t 1 (.slice (some ⟨w.heap.size, 0, none⟩) 1 1) 1 [x] :=
  ⟨rfl, Or.inr ⟨w.heap.size, 1, #[x], rfl, hb, heap_alloc_new _ _, Nat.le_refl _, by unfold maxLen; omega, rfl, rfl⟩⟩
theorem Row1.belowW {w w' : World} {g n : Nat} {c : Nat → Int} (h : Row1 w g n c) (hb : Below w.heap.size w w') : Row1 w' g n c := h.kept (KeptBut.of_whole (fun _ => False) hb) (fun e => e)
/-- What distances tells. -/
def DistIs (m : Nat) (es : List (Int × Int)) (O : Nat → Bool) (v : Nat) (w w' : World) (u : Value) : Prop :=
  ∃ (F : Nat) (D : Nat → Int), u = .slice (some ⟨F, 0, none⟩) m m ∧ w.heap.size ≤ F ∧ Row1 w' F m D ∧ Below w.heap.size w w' ∧ (∀ j, j < m → D j ≤ 1000) ∧
    ((O v = false ∧ ∀ j, j < m → D j = -1) ∨ (O v = true ∧ Lev m es (fun x => O x.toNat = true) v (fun x => D x.toNat)))
/-- The search in memory: what is found, in a row of its own, and how far off it lies. -/
structure Srch (w : World) (m : Nat) (es : List (Int × Int)) (O : Nat → Bool) (v FB B : Nat) (fv : Value) (F : List Int) (D : Nat → Int) (i : Nat) : Prop where
  own : w.ownsRow B 3 1 fv F.length (F.map (Value.int .i64))
  far : Row1 w FB m D
  bf : Bf m es (fun x => O x.toNat = true) v F (fun x => D x.toNat) i
  lt : FB < B
theorem Srch.len {w : World} {m : Nat} {es : List (Int × Int)} {O : Nat → Bool} {v FB B : Nat} {fv : Value} {F : List Int} {D : Nat → Int} {i : Nat} (h : Srch w m es O v FB B fv F D i) : F.length ≤ m := by
  have := len_le_subI (a := F) (b := (List.range m).map (fun j : Nat => (j : Int))) h.bf.nd (fun x hx => by
    have := (h.bf.inr x hx).1
    exact List.mem_map.2 ⟨x.toNat, by simp; omega, by omega⟩)
  simpa using this
theorem Srch.at {w : World} {m : Nat} {es : List (Int × Int)} {O : Nat → Bool} {v FB B : Nat} {fv : Value} {F : List Int} {D : Nat → Int} {i : Nat} (h : Srch w m es O v FB B fv F D i) {j : Nat} (hj : j < F.length) : ∃ g cap, fv = .slice (some ⟨g, 0, none⟩) F.length cap ∧ B ≤ g ∧ w.cell? ⟨g, j, none⟩ = some (.int .i64 F[j]) := by
  rcases h.own.2 with ⟨_, h0⟩ | ⟨g, cap, cur, hv, hg, hgb, _⟩
  · simp at h0; rw [h0] at hj; simp at hj
  · refine ⟨g, cap, hv, hg, ?_⟩
    have := h.own.cells (g := g) (by rw [hv]; rfl) j (.int .i64 F[j]) (by rw [List.getElem?_map, List.getElem?_eq_getElem hj]; rfl)
    rw [add_at, Nat.zero_add] at this
    exact this
/-- One more is found: its distance is set, then it goes behind the others. -/
theorem Srch.put {w : World} {m : Nat} {es : List (Int × Int)} {O : Nat → Bool} {v FB B : Nat} {fv : Value} {F : List Int} {D : Nat → Int} {i : Nat} (h : Srch w m es O v FB B fv F D i) (hi : i < F.length) {u y : Nat} (hu : F[i] = (u : Int)) (ha : Adj es u y) (hy : y < m) (hO : O y = true) (hn : D y = -1) {w4 : World} {o : Obj} {fv' : Value}
    (hown : w4.ownsRow B 3 1 fv' (F.length + 1) (F.map (Value.int .i64) ++ [.int .i64 (y : Int)])) (hg : ((w.setCell ⟨FB, y, none⟩ (.int .i64 (D u + 1))).alloc o).grownBy w4 fv.ownBlock) : Srch w4 m es O v FB B fv' (F ++ [(y : Int)]) (fun j => if j = y then D u + 1 else D j) i := by
  have hnm : (y : Int) ∉ F := by
    rcases h.bf.mem (y : Int) (by omega) (by omega) with e | e
    · have := e.2; simp at this; omega
    · exact e.1
  refine ⟨by simpa using hown, ?_, ?_, h.lt⟩
  · have h1 := (h.far.put (i := y) hy (D u + 1)).alloc o
    refine h1.kept (KeptBut.of_grown hg) (fun e => ?_)
    have := h.own.lt FB e.symm
    have := h.lt
    omega
  · have := h.bf.put hi (v := (y : Int)) (by rw [hu]; exact ha) (by omega) (by simpa using hO) hnm
    have e : (fun x : Int => if x = (y : Int) then D F[i].toNat + 1 else D x.toNat) = fun x : Int => if x = (y : Int) then D u + 1 else D x.toNat := by rw [hu]; rfl
    rw [e] at this
    exact this.congr (fun x h0 _ => by
      show (if x = (y : Int) then D u + 1 else D x.toNat) = (if x.toNat = y then D u + 1 else D x.toNat)
      by_cases e : x = (y : Int)
      · subst e; simp
      · rw [if_neg e, if_neg (by omega)])
theorem Srch.mono {w w' : World} {m : Nat} {es : List (Int × Int)} {O : Nat → Bool} {v FB B : Nat} {fv : Value} {F : List Int} {D : Nat → Int} {i i' : Nat} (h : Srch w m es O v FB B fv F D i) (hb : Below w.heap.size w w') (hbf : Bf m es (fun x => O x.toNat = true) v F (fun x => D x.toNat) i') : Srch w' m es O v FB B fv F D i' :=
  ⟨own_below h.own hb, h.far.belowW hb, hbf, h.lt⟩

set_option maxHeartbeats 4000000 in
set_option maxRecDepth 100000 in
theorem dist_any (g m : Nat) (es : List (Int × Int)) (v G : Nat) (O : Nat → Bool) (w : World) (hm : m ≤ 1000) (hR : RightG m es) (hv : v < m) (hnear : NearAt w g m es) (hop : RowB w G m O) :
    Calls Try.prog 85 #[.slice (some ⟨g, 0, none⟩) m m, .int .i64 v, .slice (some ⟨G, 0, none⟩) m m] w fun e w' => ∃ u, e = .returned u ∧ DistIs m es O v w w' u := by
  have hbA : Below w.heap.size w (w.alloc (.cells #[.int .i64 (-1)] 3)) := (Below.refl _ _).alloc (Nat.le_refl _) _
  have hsA : (w.alloc (.cells #[.int .i64 (-1)] 3)).heap.size = w.heap.size + 1 := by simp
  have HRP := hid (rep_int w.heap.size 0 1 (-1) m (w.alloc (.cells #[.int .i64 (-1)] 3)) hm (cell_of_heap (heap_alloc_new w _) 0))
  have HNE : Hid (∀ u, u < m → ∃ au cu, ∀ X, Below w.heap.size w X → X.cell? ⟨g, u, none⟩ = some (.slice au (nbL u es).length cu) ∧ IAt X au (nbL u es)) := fun u hu => by
    obtain ⟨au, cu, h1, h2, _⟩ := hnear.2 u hu
    exact ⟨au, cu, fun X hX => ⟨(hX.cell (p := ⟨g, u, none⟩) hnear.1).trans h1, h2.below hX⟩⟩
  have HOP : Hid (∀ X, Below w.heap.size w X → RowB X G m O) := fun X hX => hop.below hX
  have HR := hid hR
  clear hnear hop hR
  go_enter Try.func85, Try.ntmps85
  go_wp2_with fail
  refine HRP.out.mono ?_
  rintro e w1 ⟨FB, rfl, hFB, hrow0, hb1⟩
  rw [hsA] at hFB hb1
  have hbw : Below w.heap.size w w1 := hbA.trans (hb1.mono (by omega))
  have HRW := hid hrow0
  have hFlt : FB < w1.heap.size := hrow0.1
  obtain ⟨o0, _⟩ := (HOP.out w1 hbw).2 v hv
  obtain ⟨f0, f0f⟩ := hrow0.2 v hv
  obtain ⟨ov, hov⟩ := ex_eq (O v)
  rw [← hov] at o0
  have HOV := hid hov
  have q0 : (v : Int) < (m : Int) := by omega
  clear hrow0 HRP hb1 hbA hsA hov
  cases ov with
  | false =>
    go_wp2
    go_ret
    exact ⟨_, rfl, FB, _, rfl, by omega, HRW.out, hbw, (fun _ _ => by omega), Or.inl ⟨HOV.out.symm, fun _ _ => rfl⟩⟩
  | true =>
    obtain ⟨W1, hW1⟩ := ex_eq ((w1.setCell ⟨FB, v, none⟩ (.int .i64 0)).alloc (.cells #[.int .i64 v] 3))
    have hbW1 : Below w.heap.size w W1 := by rw [hW1]; exact (hbw.setCell (p := ⟨FB, v, none⟩) (by simp; omega) _).alloc (by simp; exact hbw.size) _
    have HS0 : Hid (Srch W1 m es O v FB w1.heap.size (.slice (some ⟨w1.heap.size, 0, none⟩) 1 1) [(v : Int)] (fun j => if j = v then 0 else -1) 0) := by
      refine ⟨?_, ?_, ?_, hFlt⟩
      · rw [hW1]
        have := own_one (w1.setCell ⟨FB, v, none⟩ (.int .i64 0)) w1.heap.size (.int .i64 v) 3 (by simp)
        simpa using this
      · rw [hW1]; exact (HRW.out.put hv 0).alloc _
      · refine (bf_start (b := (v : Int)) (by omega) (by simpa using HOV.out.symm)).congr (fun x h0 _ => ?_)
        show (if x = (v : Int) then (0 : Int) else -1) = (if x.toNat = v then 0 else -1)
        by_cases e : x = (v : Int)
        · subst e; simp
        · rw [if_neg e, if_neg (by omega)]
    obtain ⟨BB, hBB⟩ := ex_eq w1.heap.size
    have hsz1 : BB ≤ W1.heap.size := by rw [hBB, hW1]; simp
    rw [← hBB] at HS0
    have HW1 := hid hW1
    have HBB := hid hBB
    have hwB : w.heap.size ≤ BB := by rw [hBB]; exact hbw.size
    obtain ⟨i0, hi, hz0, hz1, hz2⟩ := info_parts Try.info3
    clear hW1 hBB HRW
    go_wp2
    rw [← HW1.out, ← HBB.out]
    clear HW1 HBB f0 f0f o0
    go_loopw [8, 9] (fun fv i wo => ∃ (F : List Int) (D : Nat → Int) (k : Nat), k ≤ F.length ∧ i = .int .i64 k ∧ Hid (Srch wo m es O v FB BB fv F D k) ∧ Below w.heap.size w wo ∧ BB ≤ wo.heap.size) (fun _ i _ => m + 1 - (RowKit.intOf i).toNat)
    case atStart => exact ⟨_, _, 0, by simp, rfl, HS0, hbW1, hsz1⟩
    case round =>
      rename World => wo
      obtain ⟨F, D, k, hk, rfl, hs, hbo, hszo⟩ := hrel
      have hlen := hs.out.len
      by_cases hlt : k < F.length
      · obtain ⟨gf, cf, rfl, hgf, cF⟩ := hs.out.at hlt
        have hin := (hs.out.bf.inr _ (List.getElem_mem hlt)).1
        obtain ⟨u, hu⟩ : ∃ u : Nat, (u : Int) = F[k] := ⟨F[k].toNat, by omega⟩
        rw [← hu] at cF hin
        have hum : u < m := by omega
        obtain ⟨au, cu, aa⟩ := HNE.out u hum
        obtain ⟨a1, _⟩ := aa wo hbo
        obtain ⟨L, hL⟩ := ex_eq (nbL (u : Int) es)
        rw [← hL] at a1 aa
        have hLl : L.length ≤ 1000000 := by rw [hL]; exact Nat.le_trans (nbL_len _ _) (by have := HR.out.2.2.1; omega)
        obtain ⟨J, hJ⟩ := ex_eq L.length
        obtain ⟨K, hK⟩ := ex_eq F.length
        rw [← hJ] at a1 hLl
        have HL := hid hL
        have HJ := hid hJ
        have HK := hid hK
        have HIA : Hid (∀ X, Below w.heap.size w X → IAt X au L) := fun X hX => (aa X hX).2
        have HU : Hid (F[k]? = some (u : Int)) := by show _ = _; rw [List.getElem?_eq_getElem hlt, hu]
        have hlt2 : k < K := by omega
        have hKm : K ≤ m := by omega
        rw [← hK] at hs ⊢
        have q1 : (k : Int) < (K : Int) := by omega
        have q2 : (u : Int) < (m : Int) := by omega
        have HSI : Hid (∃ F' D', Srch wo m es O v FB BB (.slice (some ⟨gf, 0, none⟩) K cf) F' D' k ∧ F'[k]? = some (u : Int) ∧ ∀ y ∈ L.take 0, O y.toNat = true → y ∈ F') := ⟨F, D, hs.out, HU.out, by simp⟩
        have hgfl : gf < wo.heap.size := block_lt_of_cell cF
        clear hL hJ hK hu hin aa hs HU hlen
        go_wp2
        go_loopg [8, 41] J (fun Gh fv i wz => ∃ (c : Nat), c ≤ J ∧ J - c ≤ Gh ∧ i = .int .i64 c ∧ Hid (∃ F' D', Srch wz m es O v FB BB fv F' D' k ∧ F'[k]? = some (u : Int) ∧ ∀ y ∈ L.take c, O y.toNat = true → y ∈ F') ∧ Below w.heap.size w wz ∧ BB ≤ wz.heap.size)
        case atStart => exact ⟨0, Nat.zero_le _, by omega, rfl, HSI, hbo, hszo⟩
        case round =>
          obtain ⟨c, hc, hGh, rfl, hsr, hbr, hszr⟩ := hrel
          by_cases hlc : c < J
          · have hcl : c < L.length := by rw [← HJ.out]; exact hlc
            have hadj : Adj es (u : Int) L[c] := (nbL_right (n := m) HR.out).1 (by rw [← HL.out]; exact List.getElem_mem hcl)
            have hyr := (hadj.in HR.out).2.1
            obtain ⟨y, hy⟩ : ∃ y : Nat, (y : Int) = L[c] := ⟨L[c].toNat, by omega⟩
            rw [← hy] at hadj hyr
            have hym : y < m := by omega
            obtain ⟨ga, oa, rfl, hga, hca⟩ := HIA.out wr hbr (by omega)
            have d0 := hca c hcl
            rw [← hy] at d0
            obtain ⟨F', D', hS, hF', hall⟩ := hsr.out
            have HALL := hid hall
            have HSR := hid hS
            have hkF : k < F'.length := by
              by_cases e : k < F'.length
              · exact e
              · rw [List.getElem?_eq_none (by omega)] at hF'; cases hF'
            have hFk : F'[k] = (u : Int) := by rw [List.getElem?_eq_getElem hkF] at hF'; exact Option.some.inj hF'
            have HFK : Hid (∃ h : k < F'.length, F'[k] = (u : Int)) := ⟨hkF, hFk⟩
            have HF' := hid hF'
            obtain ⟨o1, _⟩ := (HOP.out wr hbr).2 y hym
            obtain ⟨r1, r1f⟩ := hS.far.2 y hym
            obtain ⟨r2, _⟩ := hS.far.2 u hum
            obtain ⟨oy, hoy⟩ := ex_eq (O y)
            obtain ⟨dy, hdy⟩ := ex_eq (D' y)
            obtain ⟨du, hdu⟩ := ex_eq (D' u)
            rw [← hoy] at o1
            rw [← hdy] at r1
            rw [← hdu] at r2
            have HOY := hid hoy
            have HDY := hid hdy
            have HDU := hid hdu
            have HY := hid hy
            have HADJ := hid hadj
            have HTK : Hid (∀ FF : List Int, (∀ z ∈ F', z ∈ FF) → (O y = true → (y : Int) ∈ FF) → ∀ z ∈ L.take (c + 1), O z.toNat = true → z ∈ FF) := fun FF h1 h2 z hz hO => by
              rw [List.take_append_getElem hcl |>.symm] at hz
              rcases List.mem_append.1 hz with hz | hz
              · exact h1 z (HALL.out z hz hO)
              · simp at hz
                rw [← HY.out] at hz
                subst hz
                exact h2 (by simpa using hO)
            have q3 : (c : Int) < (J : Int) := by omega
            have q4 : (y : Int) < (m : Int) := by omega
            have hlen' := hS.len
            have hdur : 0 ≤ du ∧ du ≤ 1000 := by
              have h1 := hS.bf.le k hkF
              simp only [hFk, Int.toNat_natCast] at h1
              have h2 := hS.bf.mem (u : Int) (by omega) (by omega)
              simp only [Int.toNat_natCast] at h2
              rw [hdu]
              rcases h2 with h2 | h2
              · exact ⟨h2.2, by omega⟩
              · exact absurd (by rw [← hFk]; exact List.getElem_mem hkF) h2.1
            obtain ⟨gf', cf', hfv, hgf', cF'⟩ := hS.at hkF
            subst hfv
            rw [hFk] at cF'
            obtain ⟨K', hK'⟩ := ex_eq F'.length
            rw [← hK'] at HSR hlen' hkF ⊢
            have HK' := hid hK'
            clear hy hadj hyr hca hS hF' hall hsr hFk hoy hdy hdu hK'
            cases oy with
            | false =>
              have HNX : Hid (∃ F' D', Srch wr m es O v FB BB (.slice (some ⟨gf', 0, none⟩) K' cf') F' D' k ∧ F'[k]? = some (u : Int) ∧ ∀ z ∈ L.take (c + 1), O z.toNat = true → z ∈ F') := ⟨F', D', HSR.out, HF'.out, HTK.out F' (fun z h => h) (fun h => by rw [← HOY.out] at h; cases h)⟩
              clear HTK HALL HSR HFK HF' HDY HDU HY HADJ HOY
              go_wp2
              go_roundg (J - (c + 1))
              case measure => omega
              case rel => exact ⟨c + 1, by omega, Nat.le_refl _, by go_num, HNX, hbr, hszr⟩
            | true =>
              by_cases hdn : 0 ≤ dy
              · have e1 : ¬ dy < 0 := by omega
                have e2 : decide (dy < 0) = false := decide_eq_false e1
                have HNX : Hid (∃ F' D', Srch wr m es O v FB BB (.slice (some ⟨gf', 0, none⟩) K' cf') F' D' k ∧ F'[k]? = some (u : Int) ∧ ∀ z ∈ L.take (c + 1), O z.toNat = true → z ∈ F') := ⟨F', D', HSR.out, HF'.out, HTK.out F' (fun z h => h) (fun _ => by
                  rcases HSR.out.bf.mem (y : Int) (by omega) q4 with h | h
                  · exact h.1
                  · have := h.2; simp at this; rw [← HDY.out] at this; omega)⟩
                clear HTK HALL HSR HFK HF' HDY HDU HY HADJ HOY
                go_wp2
                go_roundg (J - (c + 1))
                case measure => omega
                case rel => exact ⟨c + 1, by omega, Nat.le_refl _, by go_num, HNX, hbr, hszr⟩
              · have e1 : dy < 0 := by omega
                have e2 : decide (dy < 0) = true := decide_eq_true e1
                have e3 : IntKind.i64.wrap (du + 1) = du + 1 := by simp [IntKind.wrap, IntKind.bits, IntKind.signed]; omega
                have hdy1 : D' y = -1 := by
                  rcases HSR.out.bf.mem (y : Int) (by omega) q4 with h | h
                  · have := h.2; simp at this; rw [← HDY.out] at this; omega
                  · have := h.2; simp at this; exact this
                obtain ⟨W2, hW2⟩ := ex_eq (wr.setCell ⟨FB, y, none⟩ (.int .i64 (du + 1)))
                have hkp2 : KeptBut (fun x => x = FB) wr W2 := by rw [hW2]; exact kept_set wr ⟨FB, y, none⟩ _
                have hsW2 : W2.heap.size = wr.heap.size := by rw [hW2]; simp
                have hFBB := HSR.out.lt
                have HOW : Hid ((W2.alloc (.cells #[.int .i64 y] 3)).ownsRow BB 3 1 (.slice (some ⟨gf', 0, none⟩) K' cf') K' (F'.map (Value.int .i64))) := by
                  show World.ownsRow _ _ _ _ _ _ _
                  have := HSR.out.own
                  rw [← HK'.out] at this
                  refine World.ownsRow.alloc (own_kept this hkp2 (fun g0 h0 e => ?_)) _
                  obtain rfl : gf' = g0 := by simpa [Value.ownBlock] using h0
                  omega
                have HNW : Hid (∀ p, some (⟨W2.heap.size, 0, none⟩ : Addr) = some p → ∀ j u, [Value.int .i64 (y : Int)][j]? = some u → (W2.alloc (.cells #[.int .i64 y] 3)).cell? (p.add j) = some u) := news_oneI
                have HON : Hid (∀ v ∈ [Value.int .i64 (y : Int)], v.oneCell' = true) := fun v hv => by simp at hv; rw [hv]; rfl
                have H63 : Hid (K' + 1 ≤ maxLen) := by show K' + 1 ≤ maxLen; unfold maxLen; omega
                have HBS : Hid (BB ≤ (W2.alloc (.cells #[.int .i64 y] 3)).heap.size) := by show BB ≤ _; simp; omega
                have HKP : Hid (∀ w4, (W2.alloc (.cells #[.int .i64 y] 3)).grownBy w4 (Value.slice (some ⟨gf', 0, none⟩) K' cf').ownBlock → Below w.heap.size w w4 ∧ BB ≤ w4.heap.size) := fun w4 hg => by
                  refine ⟨Below.grown (show Below w.heap.size w (W2.alloc _) from ?_) hg (by simp; omega) (fun j hj => by obtain rfl : gf' = j := by { simpa [Value.ownBlock] using hj }; omega), Nat.le_trans HBS.out hg.size⟩
                  rw [hW2]
                  exact (hbr.setCell (p := ⟨FB, y, none⟩) (by simp; omega) _).alloc (by simp; exact hbr.size) _
                have HSP : Hid (∀ w4 v4, w4.ownsRow BB 3 1 v4 (K' + 1) (F'.map (Value.int .i64) ++ [.int .i64 (y : Int)]) → (W2.alloc (.cells #[.int .i64 y] 3)).grownBy w4 (Value.slice (some ⟨gf', 0, none⟩) K' cf').ownBlock → ∃ F' D', Srch w4 m es O v FB BB v4 F' D' k ∧ F'[k]? = some (u : Int) ∧ ∀ z ∈ L.take (c + 1), O z.toNat = true → z ∈ F') := fun w4 v4 h1 h2 => by
                  obtain ⟨hkF, hFk⟩ := HFK.out
                  rw [hW2, HDU.out] at h2
                  rw [HK'.out] at h1
                  refine ⟨_, _, HSR.out.put hkF hFk HADJ.out hym HOY.out.symm hdy1 h1 h2, ?_, HTK.out _ (fun z h => List.mem_append_left _ h) (fun _ => by simp)⟩
                  rw [List.getElem?_append_left hkF]
                  exact HF'.out
                have HW2 := hid hW2
                clear hW2 HTK HALL HSR HFK HF' HDY HDU HY HADJ HOY hkp2 hsW2 hdy1 HK'
                go_upto_region 14 with fail
                rw [← HW2.out]
                clear HW2
                go_wp2_with (at_builtin; refine wpList_append_any _ rfl _ _ 28 rfl BB 3 i0 _ 1 8 Try.underlying28 hi hz0 hz1 hz2 rfl (by decide) _ _ _ rfl HOW.out (some ⟨W2.heap.size, 0, none⟩) 1 1 [.int .i64 y] rfl (fun h => by cases h) rfl HNW.out HON.out H63.out ?c4 HBS.out ?_)
                case c4 => omega
                intro v4 w4 hown4 hgrow _
                have HNX := hid (HSP.out w4 v4 hown4 hgrow)
                obtain ⟨hb4, hsz4⟩ := HKP.out w4 hgrow
                clear hown4 hgrow HKP HSP HBS H63 HON HNW HOW
                go_wp2
                go_roundg (J - (c + 1))
                case measure => omega
                case rel => exact ⟨c + 1, by omega, Nat.le_refl _, by go_num, HNX, hb4, hsz4⟩
          · obtain rfl : c = J := by omega
            obtain ⟨F', D', hS, hF', hall⟩ := hsr.out
            have hkF : k < F'.length := by
              by_cases e : k < F'.length
              · exact e
              · rw [List.getElem?_eq_none (by omega)] at hF'; cases hF'
            have hFk : F'[k] = (u : Int) := by rw [List.getElem?_eq_getElem hkF] at hF'; exact Option.some.inj hF'
            have hlen' := hS.len
            have HNX : Hid (Srch wr m es O v FB BB u8 F' D' (k + 1)) := hS.mono (Below.refl _ _) (hS.bf.next hkF (fun z ha hO => by
              rw [hFk] at ha
              have : z ∈ L := by rw [HL.out]; exact (nbL_right (n := m) HR.out).2 ha
              exact hall z (by rw [HJ.out, List.take_length]; exact this) hO))
            have hkm : k < m := by omega
            clear hS hF' hall hsr hFk
            go_wp2
            go_roundw
            case rel => exact ⟨F', D', k + 1, by omega, by go_num, HNX, hbr, hszr⟩
            case measure => simp [RowKit.intOf]; omega
      · obtain rfl : k = F.length := by omega
        have hbf := hs.out.bf.lev HR.out
        have HLE : Hid (∀ j, j < m → D j ≤ 1000) := fun j hj => by
          rcases hs.out.bf.mem (j : Int) (by omega) (by omega) with h | h
          · obtain ⟨i, hi', e⟩ := List.getElem_of_mem h.1
            have h1 := hs.out.bf.le i hi'
            rw [e] at h1
            simp only [Int.toNat_natCast] at h1
            omega
          · have := h.2
            simp only [Int.toNat_natCast] at this
            omega
        have HLV := hid hbf
        have HFR := hid hs.out.far
        obtain ⟨af, cf, rfl, hsl⟩ := sl_own hs.out.own
        obtain ⟨K, hK⟩ := ex_eq F.length
        rw [← hK] at hs ⊢
        clear hbf hs hK
        go_wp2
        go_ret
        exact ⟨_, rfl, FB, D, rfl, by omega, HFR.out, hbo, HLE.out, Or.inr ⟨HOV.out.symm, HLV.out⟩⟩
end Go.Proofs.Ytlebimolgienkaa
