/-
  Rows of numbers, lists of rows, and a Net that came in, as the walks of layer 5 take them.
  A model that came in (layer 8).
  Paths, cycles, what is whole, the least of the shortest ways, rings: as the document says them. No program is named here.
  Graphs made of a graph (layer 6): what some vertices induce, what is left when one goes, two neighbours made one. No program is named here.
  Who goes, and what is left (layer 6): renumbered edges. No program is named here.
  What the calls of layer 6 tell, and what follows of it. No program is named here.
  What some vertices induce, pair by pair. No program is named here.
  A graph's vertices get new numbers, or none: what becomes of its edges. No program is named here.
-/
import Derived.Test.YtlebimolgienkaaM05
import Derived.Deep.Slices
import Derived.ChangeSlices
import Derived.Test.YtlebimolgienkaaM01
namespace Go.Proofs.Ytlebimolgienkaa
open Go.ChangeShapes Go.WideShapes Go.ChangeAt Go.RowKit Go.Deep Go.WideMaps

/-- What a walk is told of a row that came in. -/
structure CameI (w : World) (a : Option Addr) (len cap : Nat) (l : List Int) : Prop where
  len_ : len = l.length
  le : len ≤ cap
  max : cap ≤ maxLen
  nil : a = none → cap = 0
  at_ : IAt w a l
  wf : ∀ x ∈ l, (Lit.int .i64 x).wf = true
/-- What a walk is told of a list of rows that came in. -/
structure CameR (w : World) (a : Option Addr) (len cap : Nat) (LL : List (List Int)) : Prop where
  len_ : len = LL.length
  le : len ≤ cap
  max : cap ≤ maxLen
  nil : a = none → cap = 0
  at_ : 0 < LL.length → ∃ g off, a = some ⟨g, off, none⟩ ∧ g < w.heap.size ∧ ∀ k (hk : k < LL.length), ∃ ak ck, w.cell? ⟨g, off + k, none⟩ = some (.slice ak LL[k].length ck) ∧ CameI w ak LL[k].length ck LL[k]

section
variable {H : Type} {enc : TypeId × Value → H}

set_option maxRecDepth 100000 in
theorem open_row {W : World} {base : Nat} {held : Bool} {fuel : Nat} {cs : List Value} {x : DataW H × List MemPlace} (h : DataW.trod enc Try.prog W base (fun _ => true) held fuel 28 cs = some x) :
    ∃ a len cap l, cs = [.slice a len cap] ∧ CameI W a len cap l := by
  rcases open_ints Try.underlying28 Try.underlying3 (by kernel_rfl) h with ⟨hcs, _⟩ | ⟨a, len, cap, zs, hcs, _, hl, hm, hzl, _, hx, hwf⟩
  · exact ⟨none, 0, 0, [], hcs, rfl, Nat.le_refl _, Nat.zero_le _, fun _ => rfl, iat_nil _ _, by simp⟩
  · rw [if_pos rfl] at hzl
    refine ⟨some a, len, cap, zs.take len, hcs, by rw [List.length_take]; omega, hl, hm, (fun h => by cases h), fun h0 => ?_, fun x hx => hwf x (List.mem_of_mem_take hx)⟩
    have h1 : 0 < len := by rw [List.length_take] at h0; omega
    obtain ⟨b, off, spot⟩ := a
    have hs : spot = none := by simpa [Addr.add] using World.cell?_spot (hx 0 (by omega))
    subst hs
    have c0 := hx 0 (by omega)
    refine ⟨b, off, rfl, World.block_lt_of_cell? W _ c0, fun j hj => ?_⟩
    rw [List.length_take] at hj
    have cj := hx j (by omega)
    rw [add_at] at cj
    rw [cj, List.getElem_take]
    simp [List.getD, show j < zs.length by omega]

set_option maxRecDepth 100000 in
theorem net_in {W : World} {base : Nat} {held : Bool} {r : Reach} {b0 : Nat} {v : Value} {d : DataW H} {ps : List MemPlace} (hval : Value.okWide Try.prog W r b0 24 v) (h : DataW.Trod enc Try.prog W base (fun _ => true) held 24 v d ps) :
    ∃ n a len cap l, v = .agg #[.int .i64 n, .slice a len cap] ∧ Came W a len cap l := by
  obtain ⟨cs, rfl, hsz⟩ := okWide_struct Try.underlying24 hval
  rw [show Try.prog.cellsOf 24 = 2 by kernel_rfl] at hsz
  obtain ⟨fuel, hf⟩ := h
  obtain ⟨l0⟩ := cs
  match l0, hsz with
  | [c0, c1], _ =>
    obtain ⟨y0, y1, n, _, _, t0, t1⟩ := trod_struct2 Try.underlying24 hf
    simp only [show Try.prog.cellsOf 3 = 1 by kernel_rfl, show Try.prog.cellsOf 22 = 1 by kernel_rfl, Value.cells, List.drop, List.take] at t0 t1
    obtain ⟨n0, e0, _⟩ := DataW.trod_int Try.underlying3 t0
    obtain ⟨a, len, cap, l, e1, hc⟩ := open_edges t1
    simp only [List.cons.injEq, and_true] at e0 e1
    subst e0
    subst e1
    exact ⟨n0, a, len, cap, l, rfl, hc⟩
end
end Go.Proofs.Ytlebimolgienkaa
namespace Go.Proofs.Ytlebimolgienkaa
open Go.ChangeShapes Go.WideShapes Go.ChangeAt Go.RowKit Go.Deep Go.WideMaps

section
variable {H : Type} {enc : TypeId × Value → H}

set_option maxRecDepth 100000 in
theorem open_rows {W : World} {base : Nat} {held : Bool} {fuel : Nat} {cs : List Value} {x : DataW H × List MemPlace} (hf : DataW.trod enc Try.prog W base (fun _ => true) held fuel 29 cs = some x) :
    ∃ a len cap LL, cs = [.slice a len cap] ∧ CameR W a len cap LL := by
  rcases open_slice1 Try.underlying29 (by kernel_rfl) hf with ⟨hcs, _⟩ | ⟨a, len, cap, m, n, V, D, Pl, hcs, _, hl, hm, hmm, _, hx⟩
  · exact ⟨none, 0, 0, [], hcs, rfl, Nat.le_refl _, Nat.zero_le _, fun _ => rfl, fun h => absurd h (by simp)⟩
  · rw [if_pos rfl] at hmm
    subst hmm
    have hrow : ∀ i, i < m → ∃ L : List Int, ∃ ak ck, V i = .slice ak L.length ck ∧ CameI W ak L.length ck L := fun i hi => by
      obtain ⟨_, t⟩ := hx i hi
      obtain ⟨ak, lk, ck, L, e, hc⟩ := open_row t
      simp only [List.cons.injEq, and_true] at e
      have := hc.len_
      subst this
      exact ⟨L, ak, ck, e, hc⟩
    obtain ⟨F, hF⟩ : ∃ F : Nat → List Int, ∀ i, i < m → ∃ ak ck, V i = .slice ak (F i).length ck ∧ CameI W ak (F i).length ck (F i) :=
      ⟨fun i => if h : i < m then (hrow i h).choose else [], fun i hi => by simp only [dif_pos hi]; exact (hrow i hi).choose_spec⟩
    refine ⟨some a, len, m, (List.range len).map F, hcs, by simp, hl, hm, (fun h => by cases h), fun h0 => ?_⟩
    have h1 : 0 < len := by simpa using h0
    obtain ⟨b, off, spot⟩ := a
    have hs : spot = none := by simpa [Addr.add] using World.cell?_spot (hx 0 (by omega)).1
    subst hs
    refine ⟨b, off, rfl, World.block_lt_of_cell? W _ (hx 0 (by omega)).1, fun k hk => ?_⟩
    have hk' : k < len := by simpa using hk
    obtain ⟨ak, ck, e, hc⟩ := hF k (by omega)
    have cj := (hx k (by omega)).1
    rw [add_at, e] at cj
    simp only [List.getElem_map, List.getElem_range]
    exact ⟨ak, ck, cj, hc⟩

set_option maxRecDepth 100000 in
theorem model_in {W : World} {base : Nat} {held : Bool} {r : Reach} {b0 : Nat} {v : Value} {d : DataW H} {ps : List MemPlace} (hval : Value.okWide Try.prog W r b0 39 v) (h : DataW.Trod enc Try.prog W base (fun _ => true) held 39 v d ps) :
    ∃ n a len cap LL, v = .agg #[.int .i64 n, .slice a len cap] ∧ CameR W a len cap LL := by
  obtain ⟨cs, rfl, hsz⟩ := okWide_struct Try.underlying39 hval
  rw [show Try.prog.cellsOf 39 = 2 by kernel_rfl] at hsz
  obtain ⟨fuel, hf⟩ := h
  obtain ⟨l0⟩ := cs
  match l0, hsz with
  | [c0, c1], _ =>
    obtain ⟨y0, y1, n, _, _, t0, t1⟩ := trod_struct2 Try.underlying39 hf
    simp only [show Try.prog.cellsOf 3 = 1 by kernel_rfl, show Try.prog.cellsOf 29 = 1 by kernel_rfl, Value.cells, List.drop, List.take] at t0 t1
    obtain ⟨n0, e0, _⟩ := DataW.trod_int Try.underlying3 t0
    obtain ⟨a, len, cap, l, e1, hc⟩ := open_rows t1
    simp only [List.cons.injEq, and_true] at e0 e1
    subst e0
    subst e1
    exact ⟨n0, a, len, cap, l, rfl, hc⟩
end
end Go.Proofs.Ytlebimolgienkaa
namespace Go.Proofs.Ytlebimolgienkaa

/-- Two are neighbours. -/
def Adj (es : List (Int × Int)) (x y : Int) : Prop := (x, y) ∈ es ∨ (y, x) ∈ es
theorem Adj.symm {es : List (Int × Int)} {x y : Int} (h : Adj es x y) : Adj es y x := h.elim Or.inr Or.inl
theorem Adj.in {n : Int} {es : List (Int × Int)} (hR : RightG n es) {x y : Int} (h : Adj es x y) : (0 ≤ x ∧ x < n) ∧ (0 ≤ y ∧ y < n) ∧ x ≠ y := by
  rcases h with h | h
  · have := hR.2.2.2.1 _ h; simp only at this; omega
  · have := hR.2.2.2.1 _ h; simp only at this; omega
/-- Each two that follow each other are neighbours. -/
def Links (es : List (Int × Int)) (p : List Int) : Prop := ∀ i (h : i + 1 < p.length), Adj es (p[i]'(by omega)) p[i + 1]
/-- A path (E1). -/
structure PathL (n : Int) (es : List (Int × Int)) (p : List Int) : Prop where
  ne : p ≠ []
  nd : p.Nodup
  inn : ∀ x ∈ p, 0 ≤ x ∧ x < n
  lk : Links es p
theorem PathL.pos {n : Int} {es : List (Int × Int)} {p : List Int} (h : PathL n es p) : 0 < p.length := List.length_pos_iff.2 h.ne
/-- What one comes to from x, going by members of l alone. -/
def Rch (es : List (Int × Int)) (l : List Int) (x y : Int) : Prop := ∀ S : Int → Prop, S x → (∀ u v, S u → Adj es u v → v ∈ l → S v) → S y
theorem Rch.refl (es : List (Int × Int)) (l : List Int) (x : Int) : Rch es l x x := fun _ h _ => h
theorem Rch.step {es : List (Int × Int)} {l : List Int} {x u v : Int} (h : Rch es l x u) (ha : Adj es u v) (hv : v ∈ l) : Rch es l x v := fun S h0 hs => hs u v (h S h0 hs) ha hv
theorem Rch.trans {es : List (Int × Int)} {l : List Int} {x y z : Int} (h : Rch es l x y) (k : Rch es l y z) : Rch es l x z := fun S h0 hs => k S (h S h0 hs) hs
theorem Rch.mono {es : List (Int × Int)} {l l' : List Int} {x y : Int} (h : Rch es l x y) (hs : ∀ z ∈ l, z ∈ l') : Rch es l' x y := fun S h0 hst => h S h0 (fun u v hu ha hv => hst u v hu ha (hs v hv))
theorem Rch.mem {es : List (Int × Int)} {l : List Int} {x y : Int} (h : Rch es l x y) (hx : x ∈ l) : y ∈ l := h (fun z => z ∈ l) hx (fun _ _ _ _ hv => hv)
theorem Rch.symm {es : List (Int × Int)} {l : List Int} {x y : Int} (h : Rch es l x y) (hx : x ∈ l) : Rch es l y x := by
  have := h (fun z => z ∈ l ∧ Rch es l z x) ⟨hx, Rch.refl es l x⟩ (fun u v hu ha hv => ⟨hv, ((Rch.refl es l v).step ha.symm hu.1).trans hu.2⟩)
  exact this.2
/-- Whole (E4). -/
structure WholeL (n : Int) (es : List (Int × Int)) (l : List Int) : Prop where
  ne : l ≠ []
  nd : l.Nodup
  inn : ∀ x ∈ l, 0 ≤ x ∧ x < n
  one : ∀ x ∈ l, ∀ y ∈ l, Rch es l x y
theorem WholeL.of_head {n : Int} {es : List (Int × Int)} {l : List Int} (nd : l.Nodup) (inn : ∀ x ∈ l, 0 ≤ x ∧ x < n) (h0 : 0 < l.length) (h : ∀ y ∈ l, Rch es l l[0] y) : WholeL n es l :=
  ⟨List.length_pos_iff.1 h0, nd, inn, fun x hx y hy => ((h x hx).symm (List.getElem_mem h0)).trans (h y hy)⟩
/-- What is reached, while one looks at one behind the other. -/
structure Got (es : List (Int × Int)) (l : List Int) (x : Int) (got : List Int) : Prop where
  nd : got.Nodup
  at_ : ∀ y ∈ got, y ∈ l ∧ Rch es l x y
  has : x ∈ got
theorem Got.put {es : List (Int × Int)} {l got : List Int} {x u v : Int} (h : Got es l x got) (hu : u ∈ got) (ha : Adj es u v) (hv : v ∈ l) (hn : v ∉ got) : Got es l x (got ++ [v]) := by
  refine ⟨List.nodup_append.2 ⟨h.nd, by simp, fun a ham b hb => by simp at hb; subst hb; exact fun e => hn (e ▸ ham)⟩, fun y hy => ?_, List.mem_append_left _ h.has⟩
  rcases List.mem_append.1 hy with h1 | h1
  · exact h.at_ y h1
  · simp at h1; subst h1; exact ⟨hv, (h.at_ u hu).2.step ha hv⟩
theorem len_le_subI {a b : List Int} (h : a.Nodup) (hs : ∀ e ∈ a, e ∈ b) : a.length ≤ b.length := by
  induction a generalizing b with
  | nil => simp
  | cons x a ih =>
    have hx : x ∈ b := hs x (by simp)
    obtain ⟨h1, h2⟩ := List.nodup_cons.1 h
    have := ih (b := b.erase x) h2 (fun e he => (List.mem_erase_of_ne (fun e' => h1 (by rw [← e']; exact he))).2 (hs e (List.mem_cons_of_mem _ he)))
    rw [List.length_erase_of_mem hx] at this
    have := List.length_pos_of_mem hx
    simp only [List.length_cons]
    omega
theorem Got.len {es : List (Int × Int)} {l got : List Int} {x : Int} (h : Got es l x got) : got.length ≤ l.length := len_le_subI h.nd (fun e he => (h.at_ e he).1)
/-- All is looked at: what is reached is all that can be. -/
theorem Got.done {n : Int} {es : List (Int × Int)} {l got : List Int} (nd : l.Nodup) (inn : ∀ x ∈ l, 0 ≤ x ∧ x < n) (h0 : 0 < l.length) (h : Got es l l[0] got) (hc : ∀ u ∈ got, ∀ v, Adj es u v → v ∈ l → v ∈ got) : got.length = l.length ↔ WholeL n es l := by
  constructor
  · intro hl
    refine WholeL.of_head nd inn h0 (fun y hy => ?_)
    by_cases hg : y ∈ got
    · exact (h.at_ y hg).2
    · exfalso
      have := len_le_subI (a := y :: got) (b := l) (List.nodup_cons.2 ⟨hg, h.nd⟩) (fun e he => by
        rcases List.mem_cons.1 he with rfl | he
        · exact hy
        · exact (h.at_ e he).1)
      simp at this
      omega
  · intro hw
    have : ∀ y ∈ l, y ∈ got := fun y hy => hw.one l[0] (List.getElem_mem h0) y hy (fun z => z ∈ got) h.has (fun u v hu ha hv => hc u hu v ha hv)
    have h1 := len_le_subI nd this
    have h2 := h.len
    omega

/-- A row stands ahead of another one, held against it number by number. -/
def lexL : List Int → List Int → Bool
  | [], [] => false
  | [], _ :: _ => true
  | _ :: _, [] => false
  | x :: a, y :: b => decide (x < y) || (x == y && lexL a b)
theorem lexL_irrefl : ∀ a : List Int, lexL a a = false
  | [] => rfl
  | x :: a => by simp [lexL, lexL_irrefl a]
theorem lexL_tri : ∀ {a b : List Int}, lexL a b = false → lexL b a = false → a = b
  | [], [], _, _ => rfl
  | [], _ :: _, h, _ => by simp [lexL] at h
  | _ :: _, [], _, h => by simp [lexL] at h
  | x :: a, y :: b, h, k => by
    simp only [lexL, Bool.or_eq_false_iff, decide_eq_false_iff_not, Bool.and_eq_false_iff, beq_eq_false_iff_ne] at h k
    have e : x = y := by omega
    subst e
    rw [lexL_tri (h.2.resolve_left (fun h => h rfl)) (k.2.resolve_left (fun h => h rfl))]
theorem lexL_trans : ∀ {a b c : List Int}, lexL a b = true → lexL b c = true → lexL a c = true
  | [], [], _, h, _ => by simp [lexL] at h
  | [], _ :: _, [], _, h => by simp [lexL] at h
  | [], _ :: _, _ :: _, _, _ => rfl
  | _ :: _, [], _, h, _ => by simp [lexL] at h
  | _ :: _, _ :: _, [], _, h => by simp [lexL] at h
  | x :: a, y :: b, z :: c, h, k => by
    simp only [lexL, Bool.or_eq_true, decide_eq_true_eq, Bool.and_eq_true, beq_iff_eq] at h k ⊢
    rcases h with h | ⟨rfl, h⟩
    · rcases k with k | ⟨rfl, k⟩
      · exact Or.inl (by omega)
      · exact Or.inl h
    · rcases k with k | ⟨rfl, k⟩
      · exact Or.inl k
      · exact Or.inr ⟨rfl, lexL_trans h k⟩
theorem lexL_asymm {a b : List Int} (h : lexL a b = true) : lexL b a = false := by
  cases h2 : lexL b a with
  | false => rfl
  | true => have := lexL_trans h h2; rw [lexL_irrefl] at this; cases this

/-- A way from a to b that keeps away (E2). -/
structure Way (n : Int) (es : List (Int × Int)) (a b : Int) (away p : List Int) : Prop where
  path : PathL n es p
  first : p.head? = some a
  last : p.getLast? = some b
  off : ∀ x ∈ p, x ∉ away
/-- The least of the shortest ways, or none (E2). -/
def RouteIs (n : Int) (es : List (Int × Int)) (a b : Int) (away L : List Int) : Prop :=
  (L = [] ∧ ∀ p, ¬ Way n es a b away p) ∨ (Way n es a b away L ∧ ∀ p, Way n es a b away p → L.length < p.length ∨ (L.length = p.length ∧ lexL p L = false))
theorem RouteIs.one {n : Int} {es : List (Int × Int)} {a b : Int} {away L M : List Int} (h : RouteIs n es a b away L) (k : RouteIs n es a b away M) : L = M := by
  rcases h with ⟨rfl, h⟩ | ⟨h, h2⟩
  · rcases k with ⟨rfl, _⟩ | ⟨k, _⟩
    · rfl
    · exact absurd k (h M)
  · rcases k with ⟨rfl, k⟩ | ⟨k, k2⟩
    · exact absurd h (k L)
    · rcases h2 M k with e | ⟨e, e2⟩
      · rcases k2 L h with e' | ⟨e', _⟩ <;> omega
      · rcases k2 L h with e' | ⟨_, e3⟩
        · omega
        · exact lexL_tri e3 e2
/-- What a call of Route tells: of a graph that is not right nothing. -/
def RouteG (n : Int) (es : List (Int × Int)) (a b : Int) (away L : List Int) : Prop := (RightG n es ∧ RouteIs n es a b away L) ∨ (¬ RightG n es ∧ L = [])
theorem RouteG.one {n : Int} {es : List (Int × Int)} {a b : Int} {away L M : List Int} (h : RouteG n es a b away L) (k : RouteG n es a b away M) : L = M := by
  rcases h with ⟨h, h2⟩ | ⟨h, rfl⟩
  · rcases k with ⟨_, k2⟩ | ⟨k, _⟩
    · exact h2.one k2
    · exact absurd h k
  · rcases k with ⟨k, _⟩ | ⟨_, rfl⟩
    · exact absurd k h
    · rfl

end Go.Proofs.Ytlebimolgienkaa
namespace Go.Proofs.Ytlebimolgienkaa

/-- The edges of the graph that the vertices at l's places induce (F1). -/
def IndE (es : List (Int × Int)) (l : List Int) (E : List (Int × Int)) : Prop := Rises E ∧ ∀ a b : Int, (a, b) ∈ E ↔ ∃ i j : Nat, ∃ (hi : i < l.length) (hj : j < l.length), a = i ∧ b = j ∧ i < j ∧ Adj es l[i] l[j]
theorem IndE.one {es : List (Int × Int)} {l : List Int} {E E' : List (Int × Int)} (h : IndE es l E) (k : IndE es l E') : E = E' := rises_one h.1 k.1 (fun e => by
  obtain ⟨a, b⟩ := e
  exact (h.2 a b).trans (k.2 a b).symm)
/-- What one place more adds is told by its pairs alone. -/
theorem IndE.adj {es : List (Int × Int)} {l : List Int} {E : List (Int × Int)} (h : IndE es l E) {i j : Nat} (hi : i < l.length) (hj : j < l.length) (hne : i ≠ j) : Adj E (i : Int) (j : Int) ↔ Adj es l[i] l[j] := by
  unfold Adj
  rw [h.2, h.2]
  constructor
  · rintro (⟨a, b, ha, hb, e1, e2, hlt, hadj⟩ | ⟨a, b, ha, hb, e1, e2, hlt, hadj⟩)
    · obtain rfl : i = a := by omega
      obtain rfl : j = b := by omega
      exact hadj
    · obtain rfl : j = a := by omega
      obtain rfl : i = b := by omega
      exact hadj.symm
  · intro hadj
    by_cases e : i < j
    · exact Or.inl ⟨i, j, hi, hj, rfl, rfl, e, hadj⟩
    · exact Or.inr ⟨j, i, hj, hi, rfl, rfl, by omega, Adj.symm hadj⟩
theorem nodup_inj {l : List Int} (h : l.Nodup) {i j : Nat} (hi : i < l.length) (hj : j < l.length) (e : l[i] = l[j]) : i = j := by
  by_cases h1 : i < j
  · exact absurd e (List.pairwise_iff_getElem.1 h i j hi hj h1)
  · by_cases h2 : j < i
    · exact absurd e.symm (List.pairwise_iff_getElem.1 h j i hj hi h2)
    · omega
/-- There are no more edges than there were. -/
theorem IndE.len {es : List (Int × Int)} {l : List Int} {E : List (Int × Int)} (h : IndE es l E) (hn : l.Nodup) : E.length ≤ es.length := by
  have hnd := rises_nodup h.1
  -- each edge goes to one of es
  let f : Int × Int → Int × Int := fun e => if (l.getD e.1.toNat 0, l.getD e.2.toNat 0) ∈ es then (l.getD e.1.toNat 0, l.getD e.2.toNat 0) else (l.getD e.2.toNat 0, l.getD e.1.toNat 0)
  have hmem : ∀ e ∈ E, f e ∈ es := fun e he => by
    obtain ⟨a, b⟩ := e
    obtain ⟨i, j, hi, hj, rfl, rfl, hlt, hadj⟩ := (h.2 a b).1 he
    show (if _ then _ else _) ∈ es
    simp only [Int.toNat_natCast, List.getD, List.getElem?_eq_getElem hi, List.getElem?_eq_getElem hj, Option.getD_some]
    split
    · assumption
    · rcases hadj with h1 | h1
      · contradiction
      · exact h1
  have hinj : (E.map f).Nodup := by
    rw [List.nodup_iff_pairwise_ne, List.pairwise_map]
    refine hnd.imp_of_mem (fun {x y} hx hy hne e => hne ?_)
    obtain ⟨a, b⟩ := x
    obtain ⟨c, d⟩ := y
    obtain ⟨i, j, hi, hj, rfl, rfl, hlt, _⟩ := (h.2 a b).1 hx
    obtain ⟨p, q, hp, hq, rfl, rfl, hlt2, _⟩ := (h.2 c d).1 hy
    have e' : (if _ then _ else _ : Int × Int) = (if _ then _ else _) := e
    simp only [Int.toNat_natCast, List.getD, List.getElem?_eq_getElem hi, List.getElem?_eq_getElem hj, List.getElem?_eq_getElem hp, List.getElem?_eq_getElem hq, Option.getD_some] at e'
    have key : (l[i] = l[p] ∧ l[j] = l[q]) ∨ (l[i] = l[q] ∧ l[j] = l[p]) := by
      split at e' <;> split at e' <;> simp only [Prod.mk.injEq] at e' <;> first | exact Or.inl e' | exact Or.inr e' | exact Or.inr ⟨e'.2, e'.1⟩ | exact Or.inl ⟨e'.2, e'.1⟩
    rcases key with ⟨h1, h2⟩ | ⟨h1, h2⟩
    · rw [nodup_inj hn hi hp h1, nodup_inj hn hj hq h2]
    · have := nodup_inj hn hi hq h1
      have := nodup_inj hn hj hp h2
      omega
  have := len_le_of_sub hinj (b := es) (fun e he => by
    obtain ⟨x, hx, rfl⟩ := List.mem_map.1 he
    exact hmem x hx)
  simpa using this
/-- What is induced is right. -/
theorem IndE.right {n : Int} {es : List (Int × Int)} {l : List Int} {E : List (Int × Int)} (hR : RightG n es) (h : IndE es l E) (hn : l.Nodup) (hl : l.length ≤ 1000) : RightG l.length E :=
  ⟨by omega, by omega, Nat.le_trans (h.len hn) hR.2.2.1, fun e he => by
    obtain ⟨a, b⟩ := e
    obtain ⟨i, j, hi, hj, rfl, rfl, hlt, _⟩ := (h.2 a b).1 he
    simp only
    omega, h.1⟩
end Go.Proofs.Ytlebimolgienkaa
namespace Go.Proofs.Ytlebimolgienkaa

/-- All numbers below n but v. -/
def othL (n v : Nat) : List Int := ((List.range n).filter (fun i => i ≠ v)).map (fun i : Nat => (i : Int))
theorem mem_othL {n v : Nat} {x : Int} : x ∈ othL n v ↔ (0 ≤ x ∧ x < n) ∧ x ≠ v := by
  unfold othL
  simp only [List.mem_map, List.mem_filter, List.mem_range, decide_eq_true_eq]
  constructor
  · rintro ⟨i, ⟨h1, h2⟩, rfl⟩; exact ⟨by omega, by omega⟩
  · rintro ⟨h1, h2⟩; exact ⟨x.toNat, ⟨by omega, by omega⟩, by omega⟩
theorem othL_nodup (n v : Nat) : (othL n v).Nodup := by
  unfold othL
  rw [List.nodup_iff_pairwise_ne, List.pairwise_map]
  exact (List.nodup_range.filter _).imp (fun h e => h (by omega))
theorem range_split {n v : Nat} (hv : v < n) : (List.range n).filter (fun i => i ≠ v) = List.range v ++ (List.range (n - v - 1)).map (fun i => i + (v + 1)) := by
  have e : List.range n = List.range v ++ (v :: (List.range (n - v - 1)).map (fun i => i + (v + 1))) := by
    refine List.ext_getElem (by simp; omega) (fun i h1 h2 => ?_)
    simp only [List.length_range] at h1
    by_cases h : i < v
    · rw [List.getElem_append_left (by simpa using h)]; simp
    · rw [List.getElem_append_right (by simpa using h)]
      by_cases h3 : i = v
      · subst h3; simp
      · obtain ⟨d, hd⟩ : ∃ d, i - v = d + 1 := ⟨i - v - 1, by omega⟩
        simp only [List.length_range, hd, List.getElem_cons_succ, List.getElem_map, List.getElem_range]
        omega
  rw [e, List.filter_append, List.filter_cons]
  have h1 : (List.range v).filter (fun i => i ≠ v) = List.range v := by
    rw [List.filter_eq_self]
    intro x hx
    simp at hx ⊢
    omega
  have h2 : ((List.range (n - v - 1)).map (fun i => i + (v + 1))).filter (fun i => i ≠ v) = (List.range (n - v - 1)).map (fun i => i + (v + 1)) := by
    rw [List.filter_eq_self]
    intro x hx
    simp at hx ⊢
    omega
  rw [h1, h2]
  simp
theorem othL_len {n v : Nat} (hv : v < n) : (othL n v).length = n - 1 := by
  unfold othL
  rw [List.length_map, range_split hv]
  simp
  omega
/-- Who stands at place i, when v is gone. -/
def upN (v i : Nat) : Nat := if i < v then i else i + 1
theorem othL_at {n v i : Nat} (hv : v < n) (hi : i < (othL n v).length) : (othL n v)[i] = (upN v i : Int) := by
  have e : othL n v = (List.range v ++ (List.range (n - v - 1)).map (fun i => i + (v + 1))).map (fun i : Nat => (i : Int)) := by unfold othL; rw [range_split hv]
  have hl := othL_len hv
  rw [List.getElem_of_eq e, List.getElem_map]
  unfold upN
  by_cases h : i < v
  · rw [List.getElem_append_left (by simpa using h), if_pos h]; simp
  · rw [List.getElem_append_right (by simpa using h), if_neg h]; simp; omega
end Go.Proofs.Ytlebimolgienkaa
namespace Go.Proofs.Ytlebimolgienkaa

/-- All are vertices. -/
def InL (n : Int) (l : List Int) : Prop := ∀ x ∈ l, 0 ≤ x ∧ x < n
/-- Induced (F1): the code, how many vertices, the edges. -/
def IndS (n : Int) (es : List (Int × Int)) (l : List Int) (er N : Int) (E : List (Int × Int)) : Prop :=
  (¬ RightG n es ∧ er = 1 ∧ N = 0 ∧ E = []) ∨ (RightG n es ∧ ¬ InL n l ∧ er = 4 ∧ N = 0 ∧ E = []) ∨ (RightG n es ∧ InL n l ∧ ¬ l.Nodup ∧ er = 1 ∧ N = 0 ∧ E = []) ∨ (RightG n es ∧ InL n l ∧ l.Nodup ∧ er = 0 ∧ N = l.length ∧ IndE es l E)
theorem IndS.one {n : Int} {es : List (Int × Int)} {l : List Int} {er N er' N' : Int} {E E' : List (Int × Int)} (h : IndS n es l er N E) (k : IndS n es l er' N' E') : er = er' ∧ N = N' ∧ E = E' := by
  rcases h with ⟨h1, rfl, rfl, rfl⟩ | ⟨h1, h2, rfl, rfl, rfl⟩ | ⟨h1, h2, h3, rfl, rfl, rfl⟩ | ⟨h1, h2, h3, rfl, rfl, h4⟩
  · rcases k with ⟨_, rfl, rfl, rfl⟩ | ⟨k1, _⟩ | ⟨k1, _⟩ | ⟨k1, _⟩
    · exact ⟨rfl, rfl, rfl⟩
    all_goals exact absurd k1 h1
  · rcases k with ⟨k1, _⟩ | ⟨_, _, rfl, rfl, rfl⟩ | ⟨_, k2, _⟩ | ⟨_, k2, _⟩
    · exact absurd h1 k1
    · exact ⟨rfl, rfl, rfl⟩
    all_goals exact absurd k2 h2
  · rcases k with ⟨k1, _⟩ | ⟨_, k2, _⟩ | ⟨_, _, _, rfl, rfl, rfl⟩ | ⟨_, _, k3, _⟩
    · exact absurd h1 k1
    · exact absurd h2 k2
    · exact ⟨rfl, rfl, rfl⟩
    · exact absurd k3 h3
  · rcases k with ⟨k1, _⟩ | ⟨_, k2, _⟩ | ⟨_, _, k3, _⟩ | ⟨_, _, _, rfl, rfl, k4⟩
    · exact absurd h1 k1
    · exact absurd h2 k2
    · exact absurd h3 k3
    · exact ⟨rfl, rfl, h4.one k4⟩
/-- Delete (F2). -/
def DelS (n : Int) (es : List (Int × Int)) (v er N : Int) (E : List (Int × Int)) : Prop :=
  (¬ RightG n es ∧ er = 1 ∧ N = 0 ∧ E = []) ∨ (RightG n es ∧ ¬ (0 ≤ v ∧ v < n) ∧ er = 4 ∧ N = 0 ∧ E = []) ∨ (RightG n es ∧ (0 ≤ v ∧ v < n) ∧ er = 0 ∧ N = n - 1 ∧ IndE es (othL n.toNat v.toNat) E)
theorem DelS.one {n : Int} {es : List (Int × Int)} {v er N er' N' : Int} {E E' : List (Int × Int)} (h : DelS n es v er N E) (k : DelS n es v er' N' E') : er = er' ∧ N = N' ∧ E = E' := by
  rcases h with ⟨h1, rfl, rfl, rfl⟩ | ⟨h1, h2, rfl, rfl, rfl⟩ | ⟨h1, h2, rfl, rfl, h4⟩
  · rcases k with ⟨_, rfl, rfl, rfl⟩ | ⟨k1, _⟩ | ⟨k1, _⟩
    · exact ⟨rfl, rfl, rfl⟩
    all_goals exact absurd k1 h1
  · rcases k with ⟨k1, _⟩ | ⟨_, _, rfl, rfl, rfl⟩ | ⟨_, k2, _⟩
    · exact absurd h1 k1
    · exact ⟨rfl, rfl, rfl⟩
    · exact absurd k2 h2
  · rcases k with ⟨k1, _⟩ | ⟨_, k2, _⟩ | ⟨_, _, rfl, rfl, k4⟩
    · exact absurd h1 k1
    · exact absurd h2 k2
    · exact ⟨rfl, rfl, h4.one k4⟩
/-- Neighbours, when hi's are lo's, too. -/
def MAdj (es : List (Int × Int)) (lo hi x y : Int) : Prop := Adj es x y ∨ (x = lo ∧ y ≠ lo ∧ Adj es hi y) ∨ (y = lo ∧ x ≠ lo ∧ Adj es hi x)
theorem MAdj.symm {es : List (Int × Int)} {lo hi x y : Int} (h : MAdj es lo hi x y) : MAdj es lo hi y x := by
  rcases h with h | h | h
  · exact Or.inl h.symm
  · exact Or.inr (Or.inr h)
  · exact Or.inr (Or.inl h)
/-- The edges, when two neighbours are one (F3). -/
def ConE (n : Nat) (es : List (Int × Int)) (lo hi : Nat) (E : List (Int × Int)) : Prop := Rises E ∧ ∀ a b : Int, (a, b) ∈ E ↔ ∃ i j : Nat, a = i ∧ b = j ∧ i < j ∧ j + 1 < n ∧ MAdj es lo hi (upN hi i) (upN hi j)
theorem ConE.one {n : Nat} {es : List (Int × Int)} {lo hi : Nat} {E E' : List (Int × Int)} (h : ConE n es lo hi E) (k : ConE n es lo hi E') : E = E' := rises_one h.1 k.1 (fun e => by
  obtain ⟨a, b⟩ := e
  exact (h.2 a b).trans (k.2 a b).symm)
/-- Contract (F3). -/
def ConS (n : Int) (es : List (Int × Int)) (a b er N : Int) (E : List (Int × Int)) : Prop :=
  (¬ RightG n es ∧ er = 1 ∧ N = 0 ∧ E = []) ∨ (RightG n es ∧ ¬ ((0 ≤ a ∧ a < n) ∧ (0 ≤ b ∧ b < n)) ∧ er = 4 ∧ N = 0 ∧ E = []) ∨ (RightG n es ∧ ((0 ≤ a ∧ a < n) ∧ (0 ≤ b ∧ b < n)) ∧ ¬ Adj es a b ∧ er = 6 ∧ N = 0 ∧ E = []) ∨ (RightG n es ∧ ((0 ≤ a ∧ a < n) ∧ (0 ≤ b ∧ b < n)) ∧ Adj es a b ∧ er = 0 ∧ N = n - 1 ∧ ConE n.toNat es (min a b).toNat (max a b).toNat E)
theorem ConS.one {n : Int} {es : List (Int × Int)} {a b er N er' N' : Int} {E E' : List (Int × Int)} (h : ConS n es a b er N E) (k : ConS n es a b er' N' E') : er = er' ∧ N = N' ∧ E = E' := by
  rcases h with ⟨h1, rfl, rfl, rfl⟩ | ⟨h1, h2, rfl, rfl, rfl⟩ | ⟨h1, h2, h3, rfl, rfl, rfl⟩ | ⟨h1, h2, h3, rfl, rfl, h4⟩
  · rcases k with ⟨_, rfl, rfl, rfl⟩ | ⟨k1, _⟩ | ⟨k1, _⟩ | ⟨k1, _⟩
    · exact ⟨rfl, rfl, rfl⟩
    all_goals exact absurd k1 h1
  · rcases k with ⟨k1, _⟩ | ⟨_, _, rfl, rfl, rfl⟩ | ⟨_, k2, _⟩ | ⟨_, k2, _⟩
    · exact absurd h1 k1
    · exact ⟨rfl, rfl, rfl⟩
    all_goals exact absurd k2 h2
  · rcases k with ⟨k1, _⟩ | ⟨_, k2, _⟩ | ⟨_, _, _, rfl, rfl, rfl⟩ | ⟨_, _, k3, _⟩
    · exact absurd h1 k1
    · exact absurd h2 k2
    · exact ⟨rfl, rfl, rfl⟩
    · exact absurd k3 h3
  · rcases k with ⟨k1, _⟩ | ⟨_, k2, _⟩ | ⟨_, _, k3, _⟩ | ⟨_, _, _, rfl, rfl, k4⟩
    · exact absurd h1 k1
    · exact absurd h2 k2
    · exact absurd h3 k3
    · exact ⟨rfl, rfl, h4.one k4⟩
end Go.Proofs.Ytlebimolgienkaa
namespace Go.Proofs.Ytlebimolgienkaa

def adjB (es : List (Int × Int)) (x y : Int) : Bool := decide ((x, y) ∈ es) || decide ((y, x) ∈ es)
theorem adjB_iff {es : List (Int × Int)} {x y : Int} : adjB es x y = true ↔ Adj es x y := by
  unfold adjB Adj
  rw [Bool.or_eq_true, decide_eq_true_eq, decide_eq_true_eq]
end Go.Proofs.Ytlebimolgienkaa
namespace Go.Proofs.Ytlebimolgienkaa

/-- The edges under new numbers; -1: none. -/
def renL (f : Int → Int) (es : List (Int × Int)) : List (Int × Int) := (es.map (fun e => (f e.1, f e.2))).filter (fun e => decide (e.1 ≠ -1) && decide (e.2 ≠ -1))
theorem renL_len (f : Int → Int) (es : List (Int × Int)) : (renL f es).length ≤ es.length := by
  unfold renL
  exact Nat.le_trans (List.length_filter_le _ _) (by rw [List.length_map]; exact Nat.le_refl _)
theorem renL_next {f : Int → Int} {es : List (Int × Int)} {k : Nat} (hk : k < es.length) : renL f (es.take (k + 1)) = renL f (es.take k) ++ (if f es[k].1 ≠ -1 ∧ f es[k].2 ≠ -1 then [(f es[k].1, f es[k].2)] else []) := by
  unfold renL
  rw [← List.take_append_getElem hk, List.map_append, List.filter_append]
  congr 1
  by_cases h : f es[k].1 ≠ -1 ∧ f es[k].2 ≠ -1
  · rw [if_pos h]; simp [h.1, h.2]
  · rw [if_neg h]
    simp only [List.map_cons, List.map_nil]
    rw [List.filter_cons_of_neg]
    · simp
    · simpa using h
theorem mem_renL {f : Int → Int} {es : List (Int × Int)} {a b : Int} : (a, b) ∈ renL f es ↔ ∃ e ∈ es, f e.1 = a ∧ f e.2 = b ∧ a ≠ -1 ∧ b ≠ -1 := by
  unfold renL
  simp only [List.mem_filter, List.mem_map, Bool.and_eq_true, decide_eq_true_eq]
  constructor
  · rintro ⟨⟨e, he, h⟩, h1, h2⟩
    have e1 : f e.1 = a := congrArg Prod.fst h
    have e2 : f e.2 = b := congrArg Prod.snd h
    exact ⟨e, he, e1, e2, h1, h2⟩
  · rintro ⟨e, he, rfl, rfl, h1, h2⟩
    exact ⟨⟨e, he, rfl⟩, h1, h2⟩
theorem renL_all {n N : Int} {f : Int → Int} {es : List (Int × Int)} (hR : RightG n es) (h : ∀ v, 0 ≤ v → v < n → f v = -1 ∨ (0 ≤ f v ∧ f v < N)) : AllIn N (renL f es) := by
  rintro ⟨a, b⟩ hab
  obtain ⟨e, he, rfl, rfl, h1, h2⟩ := mem_renL.1 hab
  have ha : Adj es e.1 e.2 := Or.inl he
  obtain ⟨p, q, _⟩ := ha.in hR
  have h3 := h e.1 p.1 p.2
  have h4 := h e.2 q.1 q.2
  constructor
  · show 0 ≤ f e.1 ∧ f e.1 < N
    rcases h3 with h3 | h3
    · exact absurd h3 h1
    · exact h3
  · show 0 ≤ f e.2 ∧ f e.2 < N
    rcases h4 with h4 | h4
    · exact absurd h4 h2
    · exact h4
theorem ren_norm {f : Int → Int} {es E : List (Int × Int)} (h : IsNorm (renL f es) E) (a b : Int) : (a, b) ∈ E ↔ a < b ∧ a ≠ -1 ∧ b ≠ -1 ∧ ∃ x y, Adj es x y ∧ f x = a ∧ f y = b := by
  rw [h.2, mem_prs]
  constructor
  · rintro ⟨⟨p, q⟩, he, hne, e⟩
    obtain ⟨z, hz, rfl, rfl, h1, h2⟩ := mem_renL.1 he
    have e1 : a = min (f z.1) (f z.2) := congrArg Prod.fst e
    have e2 : b = max (f z.1) (f z.2) := congrArg Prod.snd e
    have hne' : f z.1 ≠ f z.2 := hne
    by_cases hlt : f z.1 < f z.2
    · have : a = f z.1 := by omega
      have : b = f z.2 := by omega
      exact ⟨by omega, by omega, by omega, z.1, z.2, Or.inl hz, by omega, by omega⟩
    · have : a = f z.2 := by omega
      have : b = f z.1 := by omega
      exact ⟨by omega, by omega, by omega, z.2, z.1, Or.inr hz, by omega, by omega⟩
  · rintro ⟨hlt, h1, h2, x, y, hadj, rfl, rfl⟩
    rcases hadj with hz | hz
    · refine ⟨(f x, f y), mem_renL.2 ⟨_, hz, rfl, rfl, h1, h2⟩, ?_, ?_⟩
      · show f x ≠ f y; omega
      · show (f x, f y) = (min (f x) (f y), max (f x) (f y))
        rw [Int.min_eq_left (by omega), Int.max_eq_right (by omega)]
    · refine ⟨(f y, f x), mem_renL.2 ⟨_, hz, rfl, rfl, h2, h1⟩, ?_, ?_⟩
      · show f y ≠ f x; omega
      · show (f x, f y) = (min (f y) (f x), max (f y) (f x))
        rw [Int.min_eq_right (by omega), Int.max_eq_left (by omega)]
/-- Each vertex's place in a row. -/
def PlaceIs (n : Int) (l : List Int) (f : Int → Int) : Prop := ∀ v, 0 ≤ v → v < n → (f v = -1 ∧ v ∉ l) ∨ ∃ (i : Nat) (hi : i < l.length), l[i] = v ∧ f v = i
theorem ren_ind {n : Int} {l : List Int} {f : Int → Int} {es E : List (Int × Int)} (hR : RightG n es) (hn : l.Nodup) (hf : PlaceIs n l f) (h : IsNorm (renL f es) E) : IndE es l E := by
  refine ⟨h.1, fun a b => ?_⟩
  rw [ren_norm h]
  constructor
  · rintro ⟨hlt, h1, h2, x, y, hadj, rfl, rfl⟩
    obtain ⟨p, q, _⟩ := hadj.in hR
    rcases hf x p.1 p.2 with ⟨h3, _⟩ | ⟨i, hi, e1, e2⟩
    · exact absurd h3 h1
    · rcases hf y q.1 q.2 with ⟨h3, _⟩ | ⟨j, hj, e3, e4⟩
      · exact absurd h3 h2
      · exact ⟨i, j, hi, hj, e2, e4, by omega, by rw [e1, e3]; exact hadj⟩
  · rintro ⟨i, j, hi, hj, rfl, rfl, hlt, hadj⟩
    obtain ⟨p, q, _⟩ := hadj.in hR
    have key : ∀ (i : Nat) (hi : i < l.length), 0 ≤ l[i] → l[i] < n → f l[i] = i := fun i hi h1 h2 => by
      rcases hf _ h1 h2 with ⟨_, h3⟩ | ⟨k, hk, e1, e2⟩
      · exact absurd (List.getElem_mem hi) h3
      · rw [e2, nodup_inj hn hk hi e1]
    exact ⟨by omega, by omega, by omega, l[i], l[j], hadj, key i hi p.1 p.2, key j hj q.1 q.2⟩
/-- One goes, to its heir or to none; those above close up. -/
def fC (out : Nat) (heir x : Int) : Int := if x < out then x else if x = out then heir else x - 1
theorem fC_place {n v : Nat} (hv : v < n) : PlaceIs n (othL n v) (fC v (-1)) := fun x h0 h1 => by
  unfold fC
  by_cases h2 : x < v
  · refine Or.inr ⟨x.toNat, by rw [othL_len hv]; omega, ?_, ?_⟩
    · rw [othL_at hv]; unfold upN; rw [if_pos (by omega)]; omega
    · rw [if_pos h2]; omega
  · by_cases h3 : x = v
    · refine Or.inl ⟨by rw [if_neg h2, if_pos h3], fun h => ?_⟩
      exact (mem_othL.1 h).2 h3
    · refine Or.inr ⟨(x - 1).toNat, by rw [othL_len hv]; omega, ?_, ?_⟩
      · rw [othL_at hv]; unfold upN; rw [if_neg (by omega)]; omega
      · rw [if_neg h2, if_neg h3]; omega
theorem fC_in {n v : Nat} {heir : Int} (hh : heir = -1 ∨ (0 ≤ heir ∧ heir < (n : Int) - 1)) (hv : v < n) : ∀ x : Int, 0 ≤ x → x < n → fC v heir x = -1 ∨ (0 ≤ fC v heir x ∧ fC v heir x < (n : Int) - 1) := fun x h0 h1 => by
  unfold fC
  by_cases h2 : x < v
  · rw [if_pos h2]; omega
  · rw [if_neg h2]
    by_cases h3 : x = v
    · rw [if_pos h3]; exact hh
    · rw [if_neg h3]; omega
theorem fC_up {hi i : Nat} {lo : Int} : fC hi lo (upN hi i : Nat) = i := by
  unfold fC upN
  by_cases h : i < hi
  · rw [if_pos h, if_pos (by omega)]
  · rw [if_neg h, if_neg (by omega), if_neg (by omega)]; omega
theorem up_fC {hi : Nat} {lo : Int} {x : Int} {i : Nat} (hne : x ≠ hi) (e : fC hi lo x = i) : (upN hi i : Int) = x := by
  unfold fC at e
  unfold upN
  by_cases h : x < hi
  · rw [if_pos h] at e; rw [if_pos (by omega)]; omega
  · rw [if_neg h, if_neg hne] at e; rw [if_neg (by omega)]; omega
theorem fC_out {hi : Nat} {lo : Int} : fC hi lo hi = lo := by
  unfold fC
  rw [if_neg (by omega), if_pos rfl]
theorem fC_lo {hi lo : Nat} (hlt : lo < hi) (h : Int) : fC hi h lo = lo := by
  unfold fC
  rw [if_pos (by omega)]
theorem ren_con {n lo hi : Nat} {es E : List (Int × Int)} (hR : RightG n es) (hlt : lo < hi) (hh : hi < n) (h : IsNorm (renL (fC hi lo) es) E) : ConE n es lo hi E := by
  have hIn := fC_in (n := n) (v := hi) (heir := (lo : Int)) (Or.inr ⟨by omega, by omega⟩) hh
  refine ⟨h.1, fun a b => ?_⟩
  rw [ren_norm h]
  constructor
  · rintro ⟨hab, h1, h2, x, y, hadj, hx, hy⟩
    obtain ⟨p, q, hne⟩ := hadj.in hR
    have hi1 := hIn x p.1 p.2
    have hi2 := hIn y q.1 q.2
    rw [hx] at hi1
    rw [hy] at hi2
    refine ⟨a.toNat, b.toNat, by omega, by omega, by omega, by omega, ?_⟩
    by_cases ex : x = hi
    · have e2 := up_fC (lo := (lo : Int)) (i := b.toNat) (by omega) (by omega : fC hi lo y = (b.toNat : Int))
      rw [ex, fC_out] at hx
      have e1 : (upN hi a.toNat : Int) = lo := by unfold upN; rw [if_pos (by omega)]; omega
      rw [e1, e2]
      refine Or.inr (Or.inl ⟨rfl, fun e => ?_, by rw [← ex]; exact hadj⟩)
      rw [e, fC_lo hlt] at hy
      omega
    · have e1 := up_fC (lo := (lo : Int)) (i := a.toNat) ex (by omega : fC hi lo x = (a.toNat : Int))
      by_cases ey : y = hi
      · rw [ey, fC_out] at hy
        have e2 : (upN hi b.toNat : Int) = lo := by unfold upN; rw [if_pos (by omega)]; omega
        rw [e1, e2]
        refine Or.inr (Or.inr ⟨rfl, fun e => ?_, by rw [← ey]; exact hadj.symm⟩)
        rw [e, fC_lo hlt] at hx
        omega
      · have e2 := up_fC (lo := (lo : Int)) (i := b.toNat) ey (by omega : fC hi lo y = (b.toNat : Int))
        rw [e1, e2]
        exact Or.inl hadj
  · rintro ⟨i, j, rfl, rfl, hij, hj, hm⟩
    refine ⟨by omega, by omega, by omega, ?_⟩
    rcases hm with hm | ⟨e, _, hm⟩ | ⟨e, _, hm⟩
    · exact ⟨_, _, hm, fC_up, fC_up⟩
    · refine ⟨hi, _, hm, ?_, fC_up⟩
      rw [fC_out, ← e]
      have := fC_up (hi := hi) (i := i) (lo := (lo : Int))
      rw [e, fC_lo hlt] at this
      rw [e]; exact this
    · refine ⟨_, hi, hm.symm, fC_up, ?_⟩
      rw [fC_out]
      have := fC_up (hi := hi) (i := j) (lo := (lo : Int))
      rw [e, fC_lo hlt] at this
      exact this
end Go.Proofs.Ytlebimolgienkaa
