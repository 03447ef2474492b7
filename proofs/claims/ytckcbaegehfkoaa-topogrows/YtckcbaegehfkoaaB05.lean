/-
  A model that came in (layer 8).
  A subdivision that came in (layer 9).
  Paths, cycles, what is whole, the least of the shortest ways, rings: as the document says them. No program is named here.
  Graphs made of a graph (layer 6): what some vertices induce, what is left when one goes, two neighbours made one. No program is named here.
  Who goes, and what is left (layer 6): renumbered edges. No program is named here.
  What the calls of layer 6 tell, and what follows of it. No program is named here.
  How many edges a deletion and a contraction leave. No program is named here.
  Contractions as images; three that are neighbours, made one. No program is named here.
  Models of patterns, as the document says them (layer 8); what stays one.
  Subdivisions of patterns, as the document says them (layer 9); what stays one.
-/
import Derived.Test.YtckcbaegehfkoaaB04
import Derived.Test.YtckcbaegehfkoaaB01
namespace Go.Proofs.Ytckcbaegehfkoaa
open Go.ChangeShapes Go.WideShapes Go.ChangeAt Go.RowKit Go.Deep Go.WideMaps

section
variable {H : Type} {enc : TypeId × Value → H}

set_option maxRecDepth 100000 in
theorem open_rows {W : World} {base : Nat} {held : Bool} {fuel : Nat} {cs : List Value} {x : DataW H × List MemPlace} (hf : DataW.trod enc Try.prog W base (fun _ => true) held fuel 26 cs = some x) :
    ∃ a len cap LL, cs = [.slice a len cap] ∧ CameR W a len cap LL := by
  rcases open_slice1 Try.underlying26 (by kernel_rfl) hf with ⟨hcs, _⟩ | ⟨a, len, cap, m, n, V, D, Pl, hcs, _, hl, hm, hmm, _, hx⟩
  · exact ⟨none, 0, 0, [], hcs, rfl, Nat.le_refl _, Nat.zero_le _, fun _ => rfl, fun h => absurd h (by simp)⟩
  · rw [if_pos rfl] at hmm
    subst hmm
    have hrow : ∀ i, i < m → ∃ L : List Int, ∃ ak ck, V i = .slice ak L.length ck ∧ CameI W ak L.length ck L := fun i hi => by
      obtain ⟨_, t⟩ := hx i hi
      obtain ⟨ak, lk, ck, L, e, hc⟩ := open_row t
      simp only [List.cons.injEq, and_true] at e
      have := hc.len_
      subst this
      exact ⟨L, ak, ck, e, hc⟩
    obtain ⟨F, hF⟩ : ∃ F : Nat → List Int, ∀ i, i < m → ∃ ak ck, V i = .slice ak (F i).length ck ∧ CameI W ak (F i).length ck (F i) :=
      ⟨fun i => if h : i < m then (hrow i h).choose else [], fun i hi => by simp only [dif_pos hi]; exact (hrow i hi).choose_spec⟩
    refine ⟨some a, len, m, (List.range len).map F, hcs, by simp, hl, hm, (fun h => by cases h), fun h0 => ?_⟩
    have h1 : 0 < len := by simpa using h0
    obtain ⟨b, off, spot⟩ := a
    have hs : spot = none := by simpa [Addr.add] using World.cell?_spot (hx 0 (by omega)).1
    subst hs
    refine ⟨b, off, rfl, World.block_lt_of_cell? W _ (hx 0 (by omega)).1, fun k hk => ?_⟩
    have hk' : k < len := by simpa using hk
    obtain ⟨ak, ck, e, hc⟩ := hF k (by omega)
    have cj := (hx k (by omega)).1
    rw [add_at, e] at cj
    simp only [List.getElem_map, List.getElem_range]
    exact ⟨ak, ck, cj, hc⟩

end
end Go.Proofs.Ytckcbaegehfkoaa
namespace Go.Proofs.Ytckcbaegehfkoaa
open Go.ChangeShapes Go.WideShapes Go.ChangeAt Go.RowKit Go.Deep Go.WideMaps

section
variable {H : Type} {enc : TypeId × Value → H}

theorem trodY3 {P : Program} {w : World} {base : Nat} {spare : Nat → Bool} {held : Bool} {t : TypeId} {f0 f1 f2 : Field} {fuel : Nat} {cs : List Value} {x : DataW H × List MemPlace} (ht : P.underlying t = some (.struct #[f0, f1, f2])) (h : DataW.trod enc P w base spare held fuel t cs = some x) :
    ∃ y0 y1 y2 n, x = (.agg [y0.1, y1.1, y2.1], y0.2 ++ y1.2 ++ y2.2) ∧ cs.length = P.cellsOf t ∧ DataW.trod enc P w base spare held n f0.type ((cs.drop f0.offset).take (P.cellsOf f0.type)) = some y0 ∧
      DataW.trod enc P w base spare held n f1.type ((cs.drop f1.offset).take (P.cellsOf f1.type)) = some y1 ∧ DataW.trod enc P w base spare held n f2.type ((cs.drop f2.offset).take (P.cellsOf f2.type)) = some y2 := by
  obtain ⟨xs, n, _, rfl, hl, hlen, hf⟩ := DataW.trod_struct ht h
  match xs, hlen with
  | [y0, y1, y2], _ => exact ⟨y0, y1, y2, n, by simp, hl, by simpa using hf 0 f0 rfl, by simpa using hf 1 f1 rfl, by simpa using hf 2 f2 rfl⟩

set_option maxRecDepth 100000 in
theorem sub_in {W : World} {base : Nat} {held : Bool} {r : Reach} {b0 : Nat} {v : Value} {d : DataW H} {ps : List MemPlace} (hval : Value.okWide Try.prog W r b0 28 v) (h : DataW.Trod enc Try.prog W base (fun _ => true) held 28 v d ps) :
    ∃ n ta tl tc tt a len cap LL, v = .agg #[.int .i64 n, .slice ta tl tc, .slice a len cap] ∧ CameI W ta tl tc tt ∧ CameR W a len cap LL := by
  obtain ⟨cs, rfl, hsz⟩ := okWide_struct Try.underlying28 hval
  rw [show Try.prog.cellsOf 28 = 3 by kernel_rfl] at hsz
  obtain ⟨fuel, hf⟩ := h
  obtain ⟨l0⟩ := cs
  match l0, hsz with
  | [c0, c1, c2], _ =>
    obtain ⟨y0, y1, y2, n, _, _, t0, t1, t2⟩ := trodY3 Try.underlying28 hf
    simp only [show Try.prog.cellsOf 3 = 1 by kernel_rfl, show Try.prog.cellsOf 25 = 1 by kernel_rfl, show Try.prog.cellsOf 26 = 1 by kernel_rfl, Value.cells, List.drop, List.take] at t0 t1 t2
    obtain ⟨n0, e0, _⟩ := DataW.trod_int Try.underlying3 t0
    obtain ⟨ta, tl, tc, tt, e1, hi⟩ := open_row t1
    obtain ⟨a, len, cap, l, e2, hc⟩ := open_rows t2
    simp only [List.cons.injEq, and_true] at e0 e1 e2
    subst e0
    subst e1
    subst e2
    exact ⟨n0, ta, tl, tc, tt, a, len, cap, l, rfl, hi, hc⟩
end
end Go.Proofs.Ytckcbaegehfkoaa
namespace Go.Proofs.Ytckcbaegehfkoaa

/-- Two are neighbours. -/
def Adj (es : List (Int × Int)) (x y : Int) : Prop := (x, y) ∈ es ∨ (y, x) ∈ es
theorem Adj.symm {es : List (Int × Int)} {x y : Int} (h : Adj es x y) : Adj es y x := h.elim Or.inr Or.inl
theorem Adj.in {n : Int} {es : List (Int × Int)} (hR : RightG n es) {x y : Int} (h : Adj es x y) : (0 ≤ x ∧ x < n) ∧ (0 ≤ y ∧ y < n) ∧ x ≠ y := by
  rcases h with h | h
  · have := hR.2.2.2.1 _ h; simp only at this; omega
  · have := hR.2.2.2.1 _ h; simp only at this; omega
/-- Each two that follow each other are neighbours. -/
def Links (es : List (Int × Int)) (p : List Int) : Prop := ∀ i (h : i + 1 < p.length), Adj es (p[i]'(by omega)) p[i + 1]
/-- A path (E1). -/
structure PathL (n : Int) (es : List (Int × Int)) (p : List Int) : Prop where
  ne : p ≠ []
  nd : p.Nodup
  inn : ∀ x ∈ p, 0 ≤ x ∧ x < n
  lk : Links es p
theorem PathL.pos {n : Int} {es : List (Int × Int)} {p : List Int} (h : PathL n es p) : 0 < p.length := List.length_pos_iff.2 h.ne
/-- What one comes to from x, going by members of l alone. -/
def Rch (es : List (Int × Int)) (l : List Int) (x y : Int) : Prop := ∀ S : Int → Prop, S x → (∀ u v, S u → Adj es u v → v ∈ l → S v) → S y
theorem Rch.refl (es : List (Int × Int)) (l : List Int) (x : Int) : Rch es l x x := fun _ h _ => h
theorem Rch.step {es : List (Int × Int)} {l : List Int} {x u v : Int} (h : Rch es l x u) (ha : Adj es u v) (hv : v ∈ l) : Rch es l x v := fun S h0 hs => hs u v (h S h0 hs) ha hv
theorem Rch.trans {es : List (Int × Int)} {l : List Int} {x y z : Int} (h : Rch es l x y) (k : Rch es l y z) : Rch es l x z := fun S h0 hs => k S (h S h0 hs) hs
theorem Rch.mono {es : List (Int × Int)} {l l' : List Int} {x y : Int} (h : Rch es l x y) (hs : ∀ z ∈ l, z ∈ l') : Rch es l' x y := fun S h0 hst => h S h0 (fun u v hu ha hv => hst u v hu ha (hs v hv))
theorem Rch.mem {es : List (Int × Int)} {l : List Int} {x y : Int} (h : Rch es l x y) (hx : x ∈ l) : y ∈ l := h (fun z => z ∈ l) hx (fun _ _ _ _ hv => hv)
theorem Rch.symm {es : List (Int × Int)} {l : List Int} {x y : Int} (h : Rch es l x y) (hx : x ∈ l) : Rch es l y x := by
  have := h (fun z => z ∈ l ∧ Rch es l z x) ⟨hx, Rch.refl es l x⟩ (fun u v hu ha hv => ⟨hv, ((Rch.refl es l v).step ha.symm hu.1).trans hu.2⟩)
  exact this.2
/-- Whole (E4). -/
structure WholeL (n : Int) (es : List (Int × Int)) (l : List Int) : Prop where
  ne : l ≠ []
  nd : l.Nodup
  inn : ∀ x ∈ l, 0 ≤ x ∧ x < n
  one : ∀ x ∈ l, ∀ y ∈ l, Rch es l x y
theorem WholeL.of_head {n : Int} {es : List (Int × Int)} {l : List Int} (nd : l.Nodup) (inn : ∀ x ∈ l, 0 ≤ x ∧ x < n) (h0 : 0 < l.length) (h : ∀ y ∈ l, Rch es l l[0] y) : WholeL n es l :=
  ⟨List.length_pos_iff.1 h0, nd, inn, fun x hx y hy => ((h x hx).symm (List.getElem_mem h0)).trans (h y hy)⟩
/-- What is reached, while one looks at one behind the other. -/
structure Got (es : List (Int × Int)) (l : List Int) (x : Int) (got : List Int) : Prop where
  nd : got.Nodup
  at_ : ∀ y ∈ got, y ∈ l ∧ Rch es l x y
  has : x ∈ got
theorem Got.put {es : List (Int × Int)} {l got : List Int} {x u v : Int} (h : Got es l x got) (hu : u ∈ got) (ha : Adj es u v) (hv : v ∈ l) (hn : v ∉ got) : Got es l x (got ++ [v]) := by
  refine ⟨List.nodup_append.2 ⟨h.nd, by simp, fun a ham b hb => by simp at hb; subst hb; exact fun e => hn (e ▸ ham)⟩, fun y hy => ?_, List.mem_append_left _ h.has⟩
  rcases List.mem_append.1 hy with h1 | h1
  · exact h.at_ y h1
  · simp at h1; subst h1; exact ⟨hv, (h.at_ u hu).2.step ha hv⟩
theorem len_le_subI {a b : List Int} (h : a.Nodup) (hs : ∀ e ∈ a, e ∈ b) : a.length ≤ b.length := by
  induction a generalizing b with
  | nil => simp
  | cons x a ih =>
    have hx : x ∈ b := hs x (by simp)
    obtain ⟨h1, h2⟩ := List.nodup_cons.1 h
    have := ih (b := b.erase x) h2 (fun e he => (List.mem_erase_of_ne (fun e' => h1 (by rw [← e']; exact he))).2 (hs e (List.mem_cons_of_mem _ he)))
    rw [List.length_erase_of_mem hx] at this
    have := List.length_pos_of_mem hx
    simp only [List.length_cons]
    omega
theorem Got.len {es : List (Int × Int)} {l got : List Int} {x : Int} (h : Got es l x got) : got.length ≤ l.length := len_le_subI h.nd (fun e he => (h.at_ e he).1)
/-- All is looked at: what is reached is all that can be. -/
theorem Got.done {n : Int} {es : List (Int × Int)} {l got : List Int} (nd : l.Nodup) (inn : ∀ x ∈ l, 0 ≤ x ∧ x < n) (h0 : 0 < l.length) (h : Got es l l[0] got) (hc : ∀ u ∈ got, ∀ v, Adj es u v → v ∈ l → v ∈ got) : got.length = l.length ↔ WholeL n es l := by
  constructor
  · intro hl
    refine WholeL.of_head nd inn h0 (fun y hy => ?_)
    by_cases hg : y ∈ got
    · exact (h.at_ y hg).2
    · exfalso
      have := len_le_subI (a := y :: got) (b := l) (List.nodup_cons.2 ⟨hg, h.nd⟩) (fun e he => by
        rcases List.mem_cons.1 he with rfl | he
        · exact hy
        · exact (h.at_ e he).1)
      simp at this
      omega
  · intro hw
    have : ∀ y ∈ l, y ∈ got := fun y hy => hw.one l[0] (List.getElem_mem h0) y hy (fun z => z ∈ got) h.has (fun u v hu ha hv => hc u hu v ha hv)
    have h1 := len_le_subI nd this
    have h2 := h.len
    omega

/-- A row stands ahead of another one, held against it number by number. -/
def lexL : List Int → List Int → Bool
  | [], [] => false
  | [], _ :: _ => true
  | _ :: _, [] => false
  | x :: a, y :: b => decide (x < y) || (x == y && lexL a b)
theorem lexL_irrefl : ∀ a : List Int, lexL a a = false
  | [] => rfl
  | x :: a => by simp [lexL, lexL_irrefl a]
theorem lexL_tri : ∀ {a b : List Int}, lexL a b = false → lexL b a = false → a = b
  | [], [], _, _ => rfl
  | [], _ :: _, h, _ => by simp [lexL] at h
  | _ :: _, [], _, h => by simp [lexL] at h
  | x :: a, y :: b, h, k => by
    simp only [lexL, Bool.or_eq_false_iff, decide_eq_false_iff_not, Bool.and_eq_false_iff, beq_eq_false_iff_ne] at h k
    have e : x = y := by omega
    subst e
    rw [lexL_tri (h.2.resolve_left (fun h => h rfl)) (k.2.resolve_left (fun h => h rfl))]
theorem lexL_trans : ∀ {a b c : List Int}, lexL a b = true → lexL b c = true → lexL a c = true
  | [], [], _, h, _ => by simp [lexL] at h
  | [], _ :: _, [], _, h => by simp [lexL] at h
  | [], _ :: _, _ :: _, _, _ => rfl
  | _ :: _, [], _, h, _ => by simp [lexL] at h
  | _ :: _, _ :: _, [], _, h => by simp [lexL] at h
  | x :: a, y :: b, z :: c, h, k => by
    simp only [lexL, Bool.or_eq_true, decide_eq_true_eq, Bool.and_eq_true, beq_iff_eq] at h k ⊢
    rcases h with h | ⟨rfl, h⟩
    · rcases k with k | ⟨rfl, k⟩
      · exact Or.inl (by omega)
      · exact Or.inl h
    · rcases k with k | ⟨rfl, k⟩
      · exact Or.inl k
      · exact Or.inr ⟨rfl, lexL_trans h k⟩
theorem lexL_asymm {a b : List Int} (h : lexL a b = true) : lexL b a = false := by
  cases h2 : lexL b a with
  | false => rfl
  | true => have := lexL_trans h h2; rw [lexL_irrefl] at this; cases this

/-- A way from a to b that keeps away (E2). -/
structure Way (n : Int) (es : List (Int × Int)) (a b : Int) (away p : List Int) : Prop where
  path : PathL n es p
  first : p.head? = some a
  last : p.getLast? = some b
  off : ∀ x ∈ p, x ∉ away
/-- The least of the shortest ways, or none (E2). -/
def RouteIs (n : Int) (es : List (Int × Int)) (a b : Int) (away L : List Int) : Prop :=
  (L = [] ∧ ∀ p, ¬ Way n es a b away p) ∨ (Way n es a b away L ∧ ∀ p, Way n es a b away p → L.length < p.length ∨ (L.length = p.length ∧ lexL p L = false))
theorem RouteIs.one {n : Int} {es : List (Int × Int)} {a b : Int} {away L M : List Int} (h : RouteIs n es a b away L) (k : RouteIs n es a b away M) : L = M := by
  rcases h with ⟨rfl, h⟩ | ⟨h, h2⟩
  · rcases k with ⟨rfl, _⟩ | ⟨k, _⟩
    · rfl
    · exact absurd k (h M)
  · rcases k with ⟨rfl, k⟩ | ⟨k, k2⟩
    · exact absurd h (k L)
    · rcases h2 M k with e | ⟨e, e2⟩
      · rcases k2 L h with e' | ⟨e', _⟩ <;> omega
      · rcases k2 L h with e' | ⟨_, e3⟩
        · omega
        · exact lexL_tri e3 e2
/-- What a call of Route tells: of a graph that is not right nothing. -/
def RouteG (n : Int) (es : List (Int × Int)) (a b : Int) (away L : List Int) : Prop := (RightG n es ∧ RouteIs n es a b away L) ∨ (¬ RightG n es ∧ L = [])
theorem RouteG.one {n : Int} {es : List (Int × Int)} {a b : Int} {away L M : List Int} (h : RouteG n es a b away L) (k : RouteG n es a b away M) : L = M := by
  rcases h with ⟨h, h2⟩ | ⟨h, rfl⟩
  · rcases k with ⟨_, k2⟩ | ⟨k, _⟩
    · exact h2.one k2
    · exact absurd h k
  · rcases k with ⟨k, _⟩ | ⟨_, rfl⟩
    · exact absurd k h
    · rfl

/-- An inner number stands at no other place of any row (E5). -/
def ApartL (LL : List (List Int)) : Prop := ∀ L ∈ LL, ∀ k (h : k + 1 < L.length), 1 ≤ k → LL.flatten.count (L[k]'(by omega)) = 1
end Go.Proofs.Ytckcbaegehfkoaa
namespace Go.Proofs.Ytckcbaegehfkoaa

/-- The edges of the graph that the vertices at l's places induce (F1). -/
def IndE (es : List (Int × Int)) (l : List Int) (E : List (Int × Int)) : Prop := Rises E ∧ ∀ a b : Int, (a, b) ∈ E ↔ ∃ i j : Nat, ∃ (hi : i < l.length) (hj : j < l.length), a = i ∧ b = j ∧ i < j ∧ Adj es l[i] l[j]
theorem IndE.one {es : List (Int × Int)} {l : List Int} {E E' : List (Int × Int)} (h : IndE es l E) (k : IndE es l E') : E = E' := rises_one h.1 k.1 (fun e => by
  obtain ⟨a, b⟩ := e
  exact (h.2 a b).trans (k.2 a b).symm)
theorem nodup_inj {l : List Int} (h : l.Nodup) {i j : Nat} (hi : i < l.length) (hj : j < l.length) (e : l[i] = l[j]) : i = j := by
  by_cases h1 : i < j
  · exact absurd e (List.pairwise_iff_getElem.1 h i j hi hj h1)
  · by_cases h2 : j < i
    · exact absurd e.symm (List.pairwise_iff_getElem.1 h j i hj hi h2)
    · omega
/-- There are no more edges than there were. -/
theorem IndE.len {es : List (Int × Int)} {l : List Int} {E : List (Int × Int)} (h : IndE es l E) (hn : l.Nodup) : E.length ≤ es.length := by
  have hnd := rises_nodup h.1
  -- each edge goes to one of es
  let f : Int × Int → Int × Int := fun e => if (l.getD e.1.toNat 0, l.getD e.2.toNat 0) ∈ es then (l.getD e.1.toNat 0, l.getD e.2.toNat 0) else (l.getD e.2.toNat 0, l.getD e.1.toNat 0)
  have hmem : ∀ e ∈ E, f e ∈ es := fun e he => by
    obtain ⟨a, b⟩ := e
    obtain ⟨i, j, hi, hj, rfl, rfl, hlt, hadj⟩ := (h.2 a b).1 he
    show (if _ then _ else _) ∈ es
    simp only [Int.toNat_natCast, List.getD, List.getElem?_eq_getElem hi, List.getElem?_eq_getElem hj, Option.getD_some]
    split
    · assumption
    · rcases hadj with h1 | h1
      · contradiction
      · exact h1
  have hinj : (E.map f).Nodup := by
    rw [List.nodup_iff_pairwise_ne, List.pairwise_map]
    refine hnd.imp_of_mem (fun {x y} hx hy hne e => hne ?_)
    obtain ⟨a, b⟩ := x
    obtain ⟨c, d⟩ := y
    obtain ⟨i, j, hi, hj, rfl, rfl, hlt, _⟩ := (h.2 a b).1 hx
    obtain ⟨p, q, hp, hq, rfl, rfl, hlt2, _⟩ := (h.2 c d).1 hy
    have e' : (if _ then _ else _ : Int × Int) = (if _ then _ else _) := e
    simp only [Int.toNat_natCast, List.getD, List.getElem?_eq_getElem hi, List.getElem?_eq_getElem hj, List.getElem?_eq_getElem hp, List.getElem?_eq_getElem hq, Option.getD_some] at e'
    have key : (l[i] = l[p] ∧ l[j] = l[q]) ∨ (l[i] = l[q] ∧ l[j] = l[p]) := by
      split at e' <;> split at e' <;> simp only [Prod.mk.injEq] at e' <;> first | exact Or.inl e' | exact Or.inr e' | exact Or.inr ⟨e'.2, e'.1⟩ | exact Or.inl ⟨e'.2, e'.1⟩
    rcases key with ⟨h1, h2⟩ | ⟨h1, h2⟩
    · rw [nodup_inj hn hi hp h1, nodup_inj hn hj hq h2]
    · have := nodup_inj hn hi hq h1
      have := nodup_inj hn hj hp h2
      omega
  have := len_le_of_sub hinj (b := es) (fun e he => by
    obtain ⟨x, hx, rfl⟩ := List.mem_map.1 he
    exact hmem x hx)
  simpa using this
/-- What is induced is right. -/
theorem IndE.right {n : Int} {es : List (Int × Int)} {l : List Int} {E : List (Int × Int)} (hR : RightG n es) (h : IndE es l E) (hn : l.Nodup) (hl : l.length ≤ 1000) : RightG l.length E :=
  ⟨by omega, by omega, Nat.le_trans (h.len hn) hR.2.2.1, fun e he => by
    obtain ⟨a, b⟩ := e
    obtain ⟨i, j, hi, hj, rfl, rfl, hlt, _⟩ := (h.2 a b).1 he
    simp only
    omega, h.1⟩
end Go.Proofs.Ytckcbaegehfkoaa
namespace Go.Proofs.Ytckcbaegehfkoaa

/-- All numbers below n but v. -/
def othL (n v : Nat) : List Int := ((List.range n).filter (fun i => i ≠ v)).map (fun i : Nat => (i : Int))
/-- Who stands at place i, when v is gone. -/
def upN (v i : Nat) : Nat := if i < v then i else i + 1
end Go.Proofs.Ytckcbaegehfkoaa
namespace Go.Proofs.Ytckcbaegehfkoaa

/-- All are vertices. -/
def InL (n : Int) (l : List Int) : Prop := ∀ x ∈ l, 0 ≤ x ∧ x < n
/-- Induced (F1): the code, how many vertices, the edges. -/
def IndS (n : Int) (es : List (Int × Int)) (l : List Int) (er N : Int) (E : List (Int × Int)) : Prop :=
  (¬ RightG n es ∧ er = 1 ∧ N = 0 ∧ E = []) ∨ (RightG n es ∧ ¬ InL n l ∧ er = 4 ∧ N = 0 ∧ E = []) ∨ (RightG n es ∧ InL n l ∧ ¬ l.Nodup ∧ er = 1 ∧ N = 0 ∧ E = []) ∨ (RightG n es ∧ InL n l ∧ l.Nodup ∧ er = 0 ∧ N = l.length ∧ IndE es l E)
theorem IndS.one {n : Int} {es : List (Int × Int)} {l : List Int} {er N er' N' : Int} {E E' : List (Int × Int)} (h : IndS n es l er N E) (k : IndS n es l er' N' E') : er = er' ∧ N = N' ∧ E = E' := by
  rcases h with ⟨h1, rfl, rfl, rfl⟩ | ⟨h1, h2, rfl, rfl, rfl⟩ | ⟨h1, h2, h3, rfl, rfl, rfl⟩ | ⟨h1, h2, h3, rfl, rfl, h4⟩
  · rcases k with ⟨_, rfl, rfl, rfl⟩ | ⟨k1, _⟩ | ⟨k1, _⟩ | ⟨k1, _⟩
    · exact ⟨rfl, rfl, rfl⟩
    all_goals exact absurd k1 h1
  · rcases k with ⟨k1, _⟩ | ⟨_, _, rfl, rfl, rfl⟩ | ⟨_, k2, _⟩ | ⟨_, k2, _⟩
    · exact absurd h1 k1
    · exact ⟨rfl, rfl, rfl⟩
    all_goals exact absurd k2 h2
  · rcases k with ⟨k1, _⟩ | ⟨_, k2, _⟩ | ⟨_, _, _, rfl, rfl, rfl⟩ | ⟨_, _, k3, _⟩
    · exact absurd h1 k1
    · exact absurd h2 k2
    · exact ⟨rfl, rfl, rfl⟩
    · exact absurd k3 h3
  · rcases k with ⟨k1, _⟩ | ⟨_, k2, _⟩ | ⟨_, _, k3, _⟩ | ⟨_, _, _, rfl, rfl, k4⟩
    · exact absurd h1 k1
    · exact absurd h2 k2
    · exact absurd h3 k3
    · exact ⟨rfl, rfl, h4.one k4⟩
/-- Delete (F2). -/
def DelS (n : Int) (es : List (Int × Int)) (v er N : Int) (E : List (Int × Int)) : Prop :=
  (¬ RightG n es ∧ er = 1 ∧ N = 0 ∧ E = []) ∨ (RightG n es ∧ ¬ (0 ≤ v ∧ v < n) ∧ er = 4 ∧ N = 0 ∧ E = []) ∨ (RightG n es ∧ (0 ≤ v ∧ v < n) ∧ er = 0 ∧ N = n - 1 ∧ IndE es (othL n.toNat v.toNat) E)
theorem DelS.one {n : Int} {es : List (Int × Int)} {v er N er' N' : Int} {E E' : List (Int × Int)} (h : DelS n es v er N E) (k : DelS n es v er' N' E') : er = er' ∧ N = N' ∧ E = E' := by
  rcases h with ⟨h1, rfl, rfl, rfl⟩ | ⟨h1, h2, rfl, rfl, rfl⟩ | ⟨h1, h2, rfl, rfl, h4⟩
  · rcases k with ⟨_, rfl, rfl, rfl⟩ | ⟨k1, _⟩ | ⟨k1, _⟩
    · exact ⟨rfl, rfl, rfl⟩
    all_goals exact absurd k1 h1
  · rcases k with ⟨k1, _⟩ | ⟨_, _, rfl, rfl, rfl⟩ | ⟨_, k2, _⟩
    · exact absurd h1 k1
    · exact ⟨rfl, rfl, rfl⟩
    · exact absurd k2 h2
  · rcases k with ⟨k1, _⟩ | ⟨_, k2, _⟩ | ⟨_, _, rfl, rfl, k4⟩
    · exact absurd h1 k1
    · exact absurd h2 k2
    · exact ⟨rfl, rfl, h4.one k4⟩
/-- Neighbours, when hi's are lo's, too. -/
def MAdj (es : List (Int × Int)) (lo hi x y : Int) : Prop := Adj es x y ∨ (x = lo ∧ y ≠ lo ∧ Adj es hi y) ∨ (y = lo ∧ x ≠ lo ∧ Adj es hi x)
theorem MAdj.symm {es : List (Int × Int)} {lo hi x y : Int} (h : MAdj es lo hi x y) : MAdj es lo hi y x := by
  rcases h with h | h | h
  · exact Or.inl h.symm
  · exact Or.inr (Or.inr h)
  · exact Or.inr (Or.inl h)
/-- The edges, when two neighbours are one (F3). -/
def ConE (n : Nat) (es : List (Int × Int)) (lo hi : Nat) (E : List (Int × Int)) : Prop := Rises E ∧ ∀ a b : Int, (a, b) ∈ E ↔ ∃ i j : Nat, a = i ∧ b = j ∧ i < j ∧ j + 1 < n ∧ MAdj es lo hi (upN hi i) (upN hi j)
theorem ConE.one {n : Nat} {es : List (Int × Int)} {lo hi : Nat} {E E' : List (Int × Int)} (h : ConE n es lo hi E) (k : ConE n es lo hi E') : E = E' := rises_one h.1 k.1 (fun e => by
  obtain ⟨a, b⟩ := e
  exact (h.2 a b).trans (k.2 a b).symm)
/-- Contract (F3). -/
def ConS (n : Int) (es : List (Int × Int)) (a b er N : Int) (E : List (Int × Int)) : Prop :=
  (¬ RightG n es ∧ er = 1 ∧ N = 0 ∧ E = []) ∨ (RightG n es ∧ ¬ ((0 ≤ a ∧ a < n) ∧ (0 ≤ b ∧ b < n)) ∧ er = 4 ∧ N = 0 ∧ E = []) ∨ (RightG n es ∧ ((0 ≤ a ∧ a < n) ∧ (0 ≤ b ∧ b < n)) ∧ ¬ Adj es a b ∧ er = 6 ∧ N = 0 ∧ E = []) ∨ (RightG n es ∧ ((0 ≤ a ∧ a < n) ∧ (0 ≤ b ∧ b < n)) ∧ Adj es a b ∧ er = 0 ∧ N = n - 1 ∧ ConE n.toNat es (min a b).toNat (max a b).toNat E)
theorem ConS.one {n : Int} {es : List (Int × Int)} {a b er N er' N' : Int} {E E' : List (Int × Int)} (h : ConS n es a b er N E) (k : ConS n es a b er' N' E') : er = er' ∧ N = N' ∧ E = E' := by
  rcases h with ⟨h1, rfl, rfl, rfl⟩ | ⟨h1, h2, rfl, rfl, rfl⟩ | ⟨h1, h2, h3, rfl, rfl, rfl⟩ | ⟨h1, h2, h3, rfl, rfl, h4⟩
  · rcases k with ⟨_, rfl, rfl, rfl⟩ | ⟨k1, _⟩ | ⟨k1, _⟩ | ⟨k1, _⟩
    · exact ⟨rfl, rfl, rfl⟩
    all_goals exact absurd k1 h1
  · rcases k with ⟨k1, _⟩ | ⟨_, _, rfl, rfl, rfl⟩ | ⟨_, k2, _⟩ | ⟨_, k2, _⟩
    · exact absurd h1 k1
    · exact ⟨rfl, rfl, rfl⟩
    all_goals exact absurd k2 h2
  · rcases k with ⟨k1, _⟩ | ⟨_, k2, _⟩ | ⟨_, _, _, rfl, rfl, rfl⟩ | ⟨_, _, k3, _⟩
    · exact absurd h1 k1
    · exact absurd h2 k2
    · exact ⟨rfl, rfl, rfl⟩
    · exact absurd k3 h3
  · rcases k with ⟨k1, _⟩ | ⟨_, k2, _⟩ | ⟨_, _, k3, _⟩ | ⟨_, _, _, rfl, rfl, k4⟩
    · exact absurd h1 k1
    · exact absurd h2 k2
    · exact absurd h3 k3
    · exact ⟨rfl, rfl, h4.one k4⟩
end Go.Proofs.Ytckcbaegehfkoaa
namespace Go.Proofs.Ytckcbaegehfkoaa

theorem nbL_nodup {n v : Int} {es : List (Int × Int)} (h : RightG n es) : (nbL v es).Nodup := by
  rw [List.nodup_iff_pairwise_ne]
  exact (nbL_rises h).imp (fun h => by omega)
theorem nb_adj {n v y : Int} {es : List (Int × Int)} (h : RightG n es) : y ∈ nbL v es ↔ Adj es v y := nbL_right h
/-- Edges that do not meet v. -/
def offL (v : Int) (es : List (Int × Int)) : List (Int × Int) := es.filter (fun e => !(e.1 == v) && !(e.2 == v))
end Go.Proofs.Ytckcbaegehfkoaa
namespace Go.Proofs.Ytckcbaegehfkoaa

/-- The edges under new numbers, in order. -/
def Img (es : List (Int × Int)) (f : Int → Int) (E : List (Int × Int)) : Prop := Rises E ∧ ∀ a b : Int, (a, b) ∈ E ↔ a < b ∧ ∃ x y, Adj es x y ∧ f x = a ∧ f y = b
theorem Img.one {es E E' : List (Int × Int)} {f g : Int → Int} (h : Img es f E) (k : Img es g E') (e : ∀ x y, Adj es x y → f x = g x) : E = E' := rises_one h.1 k.1 (fun z => by
  obtain ⟨a, b⟩ := z
  rw [h.2, k.2]
  constructor
  · rintro ⟨h0, x, y, h1, h2, h3⟩; exact ⟨h0, x, y, h1, by rw [← e x y h1]; exact h2, by rw [← e y x h1.symm]; exact h3⟩
  · rintro ⟨h0, x, y, h1, h2, h3⟩; exact ⟨h0, x, y, h1, by rw [e x y h1]; exact h2, by rw [e y x h1.symm]; exact h3⟩)
end Go.Proofs.Ytckcbaegehfkoaa
namespace Go.Proofs.Ytckcbaegehfkoaa

/-- How many vertices a pattern has. -/
def patN (k : Int) : Nat := if k = 1 then 4 else if k = 2 then 5 else 0
/-- Its edges (H1). -/
def patE (k : Int) : List (Int × Int) := if k = 1 then [(0, 1), (0, 2), (0, 3), (1, 2), (1, 3), (2, 3)] else if k = 2 then [(0, 2), (0, 3), (0, 4), (1, 2), (1, 3), (1, 4)] else []
theorem patN_none {k : Int} (h : ¬ (k = 1 ∨ k = 2)) : patN k = 0 := by
  unfold patN; rw [if_neg (fun e => h (Or.inl e)), if_neg (fun e => h (Or.inr e))]
theorem patE_in {k : Int} {e : Int × Int} (h : e ∈ patE k) : 0 ≤ e.1 ∧ e.1 < e.2 ∧ e.2 < patN k := by
  unfold patE at h
  unfold patN
  split at h
  · rename_i e1; rw [if_pos e1]; revert h; revert e; decide
  · rename_i e1
    split at h
    · rename_i e2; rw [if_neg e1, if_pos e2]; revert h; revert e; decide
    · cases h
/-- Some vertex of the one is a neighbour of some of the other. -/
def Touch (es : List (Int × Int)) (A B : List Int) : Prop := ∃ x y, x ∈ A ∧ y ∈ B ∧ Adj es x y
theorem Touch.symm {es : List (Int × Int)} {A B : List Int} (h : Touch es A B) : Touch es B A := by
  obtain ⟨x, y, h1, h2, h3⟩ := h; exact ⟨y, x, h2, h1, h3.symm⟩
/-- The set of a pattern's vertex. -/
def setAt (Ss : List (List Int)) (i : Int) : List Int := Ss.getD i.toNat []
/-- A model (H2). -/
structure ModelL (n : Int) (es : List (Int × Int)) (k : Int) (Ss : List (List Int)) : Prop where
  kind : k = 1 ∨ k = 2
  right : RightG n es
  len : Ss.length = patN k
  whole : ∀ S ∈ Ss, WholeL n es S
  apart : ∀ i j, i < j → ∀ x, x ∈ Ss.getD i [] → x ∉ Ss.getD j []
  meet : ∀ e ∈ patE k, Touch es (setAt Ss e.1) (setAt Ss e.2)
theorem getD_mem {Ss : List (List Int)} {i : Nat} (h : i < Ss.length) : Ss.getD i [] ∈ Ss := by
  rw [List.getD_eq_getElem?_getD, List.getElem?_eq_getElem h]; exact List.getElem_mem h
theorem mem_getD {Ss : List (List Int)} {i : Nat} {x : Int} (h : x ∈ Ss.getD i []) : i < Ss.length := by
  rw [List.getD_eq_getElem?_getD] at h
  rcases Nat.lt_or_ge i Ss.length with h1 | h1
  · exact h1
  · rw [List.getElem?_eq_none h1] at h; cases h
theorem getD_map' {Ss : List (List Int)} {g : List Int → List Int} (h0 : g [] = []) (i : Nat) : (Ss.map g).getD i [] = g (Ss.getD i []) := by
  rw [List.getD_eq_getElem?_getD, List.getD_eq_getElem?_getD, List.getElem?_map]
  cases Ss[i]? with
  | none => simp [h0]
  | some x => rfl
theorem ModelL.ne {n : Int} {es : List (Int × Int)} {k : Int} {Ss : List (List Int)} (h : ModelL n es k Ss) : ∀ i j, i ≠ j → ∀ x, x ∈ Ss.getD i [] → x ∉ Ss.getD j [] := fun i j hij x hx hy => by
  rcases Nat.lt_or_gt_of_ne hij with h1 | h1
  · exact h.apart i j h1 x hx hy
  · exact h.apart j i h1 x hy hx
/-- An edge more (what follows). -/
theorem adj_more {es es' : List (Int × Int)} (hs : ∀ e ∈ es, e ∈ es') {x y : Int} (h : Adj es x y) : Adj es' x y := h.elim (fun h => Or.inl (hs _ h)) (fun h => Or.inr (hs _ h))
theorem ModelL.more {n : Int} {es es' : List (Int × Int)} {k : Int} {Ss : List (List Int)} (h : ModelL n es k Ss) (hR : RightG n es') (hs : ∀ e ∈ es, e ∈ es') : ModelL n es' k Ss :=
  ⟨h.kind, hR, h.len, fun S hS => ⟨(h.whole S hS).ne, (h.whole S hS).nd, (h.whole S hS).inn, fun x hx y hy => fun P h0 hst => (h.whole S hS).one x hx y hy P h0 (fun u v hu ha hv => hst u v hu (adj_more hs ha) hv)⟩, h.apart, fun e he => by
    obtain ⟨x, y, h1, h2, h3⟩ := h.meet e he
    exact ⟨x, y, h1, h2, adj_more hs h3⟩⟩
/-- Sets changed one by one. -/
theorem ModelL.turn {n n' : Int} {es E : List (Int × Int)} {k : Int} {Ss : List (List Int)} (h : ModelL n' E k Ss) (hR : RightG n es) {g : List Int → List Int} (h0 : g [] = [])
    (hw : ∀ S, WholeL n' E S → WholeL n es (g S)) (hd : ∀ A B, (∀ x ∈ A, 0 ≤ x ∧ x < n') → (∀ x ∈ B, 0 ≤ x ∧ x < n') → (∀ x ∈ A, x ∉ B) → ∀ x ∈ g A, x ∉ g B)
    (ht : ∀ A B, Touch E A B → Touch es (g A) (g B)) : ModelL n es k (Ss.map g) := by
  have hin : ∀ i, ∀ x ∈ Ss.getD i [], 0 ≤ x ∧ x < n' := fun _ x hx => (h.whole _ (getD_mem (mem_getD hx))).inn x hx
  refine ⟨h.kind, hR, by rw [List.length_map]; exact h.len, fun S hS => ?_, fun i j hij x hx => ?_, fun e he => ?_⟩
  · obtain ⟨T, hT, rfl⟩ := List.mem_map.1 hS
    exact hw T (h.whole T hT)
  · rw [getD_map' h0] at hx ⊢
    exact hd _ _ (hin i) (hin j) (h.apart i j hij) x hx
  · unfold setAt
    rw [getD_map' h0, getD_map' h0]
    exact ht _ _ (h.meet e he)
/-- In which set each vertex is. -/
def HomeIs (n : Int) (Ss : List (List Int)) (D : Int → Int) : Prop := ∀ x, 0 ≤ x → x < n → ∀ i : Nat, i < Ss.length → (D x = i ↔ x ∈ Ss.getD i [])
/-- Which sets an edge leads between. -/
def metE (D : Int → Int) (e : Int × Int) : Int × Int := (min (D e.1) (D e.2), max (D e.1) (D e.2))
theorem meet_iff {n : Int} {es : List (Int × Int)} {k : Int} {Ss : List (List Int)} {D : Int → Int} (hR : RightG n es) (hl : Ss.length = patN k) (hin : ∀ i, ∀ x ∈ Ss.getD i [], 0 ≤ x ∧ x < n) (hD : HomeIs n Ss D) (p : Int × Int) (hp : p ∈ patE k) : p ∈ es.map (metE D) ↔ Touch es (setAt Ss p.1) (setAt Ss p.2) := by
  obtain ⟨p1, p2, p3⟩ := patE_in hp
  have l1 : p.1.toNat < Ss.length := by omega
  have l2 : p.2.toNat < Ss.length := by omega
  unfold setAt
  constructor
  · intro h
    obtain ⟨e, he, hm⟩ := List.mem_map.1 h
    obtain ⟨q1, q2, q3⟩ := hR.2.2.2.1 e he
    have hm1 : min (D e.1) (D e.2) = p.1 := congrArg Prod.fst hm
    have hm2 : max (D e.1) (D e.2) = p.2 := congrArg Prod.snd hm
    by_cases hle : D e.1 ≤ D e.2
    · exact ⟨e.1, e.2, (hD e.1 q1 (by omega) _ l1).1 (by omega), (hD e.2 (by omega) q3 _ l2).1 (by omega), Or.inl he⟩
    · exact ⟨e.2, e.1, (hD e.2 (by omega) q3 _ l1).1 (by omega), (hD e.1 q1 (by omega) _ l2).1 (by omega), Or.inr he⟩
  · rintro ⟨x, y, hx, hy, ha⟩
    have ix := hin _ x hx
    have iy := hin _ y hy
    have dx := (hD x ix.1 ix.2 _ l1).2 hx
    have dy := (hD y iy.1 iy.2 _ l2).2 hy
    rcases ha with h | h
    · refine List.mem_map.2 ⟨_, h, Prod.ext ?_ ?_⟩
      · show min (D x) (D y) = _; omega
      · show max (D x) (D y) = _; omega
    · refine List.mem_map.2 ⟨_, h, Prod.ext ?_ ?_⟩
      · show min (D y) (D x) = _; omega
      · show max (D y) (D x) = _; omega
theorem home_ex {n : Int} {es : List (Int × Int)} {k : Int} {Ss : List (List Int)} (h : ModelL n es k Ss) : ∃ D, HomeIs n Ss D := by
  classical
  refine ⟨fun x => if hx : ∃ i : Nat, x ∈ Ss.getD i [] then ((Classical.choose hx : Nat) : Int) else -1, fun x _ _ i _ => ?_⟩
  constructor
  · intro e
    by_cases hx : ∃ i : Nat, x ∈ Ss.getD i []
    · simp only [dif_pos hx] at e
      have := Classical.choose_spec hx
      rw [show Classical.choose hx = i by omega] at this
      exact this
    · simp only [dif_neg hx] at e; omega
  · intro hi
    have hx : ∃ i : Nat, x ∈ Ss.getD i [] := ⟨i, hi⟩
    simp only [dif_pos hx]
    have := Classical.choose_spec hx
    by_cases e : Classical.choose hx = i
    · rw [e]
    · exact absurd hi (h.ne _ _ e x this)
theorem ModelL.inn {n : Int} {es : List (Int × Int)} {k : Int} {Ss : List (List Int)} (h : ModelL n es k Ss) : ∀ i, ∀ x ∈ Ss.getD i [], 0 ≤ x ∧ x < n := fun _ x hx => (h.whole _ (getD_mem (mem_getD hx))).inn x hx
end Go.Proofs.Ytckcbaegehfkoaa
namespace Go.Proofs.Ytckcbaegehfkoaa

/-- The tops between which the k-th path leads. -/
def fromL (kind : Int) (k : Nat) : Nat × Nat := if kind = 2 then (0, 1) else if k < 3 then (0, k + 1) else if k < 5 then (1, k - 1) else (2, 3)
/-- A subdivision (I1). -/
structure SubL (n : Int) (es : List (Int × Int)) (kd : Int) (tops : List Int) (paths : List (List Int)) : Prop where
  kind : kd = 1 ∨ kd = 2
  right : RightG n es
  tl : tops.length = if kd = 1 then 4 else 2
  pl : paths.length = if kd = 1 then 6 else 3
  nd : tops.Nodup
  path : ∀ k (h : k < paths.length), PathL n es paths[k] ∧ kd + 1 ≤ paths[k].length ∧ paths[k].head? = tops[(fromL kd k).1]? ∧ paths[k].getLast? = tops[(fromL kd k).2]?
  apart : ApartL paths
theorem PathL.more {n : Int} {es es' : List (Int × Int)} {p : List Int} (h : PathL n es p) (hs : ∀ e ∈ es, e ∈ es') : PathL n es' p := ⟨h.ne, h.nd, h.inn, fun i hi => adj_more hs (h.lk i hi)⟩
/-- An edge more (what follows). -/
theorem SubL.more {n : Int} {es es' : List (Int × Int)} {kd : Int} {tops : List Int} {paths : List (List Int)} (h : SubL n es kd tops paths) (hR : RightG n es') (hs : ∀ e ∈ es, e ∈ es') : SubL n es' kd tops paths :=
  ⟨h.kind, hR, h.tl, h.pl, h.nd, fun k hk => ⟨(h.path k hk).1.more hs, (h.path k hk).2⟩, h.apart⟩
/-- What lies inside a path. -/
def innL (p : List Int) : List Int := (p.drop 1).dropLast
/-- The model's sets, as the document makes them (I3). -/
def subSets (kd : Int) (tops : List Int) (paths : List (List Int)) : List (List Int) :=
  if kd = 1 then (List.range tops.length).map (fun i => tops.getD i 0 :: ((List.range paths.length).filter (fun k => (fromL 1 k).1 == i)).flatMap (fun k => innL (paths.getD k [])))
  else tops.map (fun t => [t]) ++ paths.map innL
theorem innL_mem {p : List Int} {x : Int} : x ∈ innL p ↔ ∃ j, ∃ h : j + 1 < p.length, 1 ≤ j ∧ p[j] = x := by
  unfold innL
  rw [List.mem_iff_getElem]
  constructor
  · rintro ⟨i, hi, rfl⟩
    rw [List.length_dropLast, List.length_drop] at hi
    refine ⟨i + 1, by omega, by omega, ?_⟩
    rw [List.getElem_dropLast, List.getElem_drop]
    congr 1; omega
  · rintro ⟨j, h, h1, rfl⟩
    refine ⟨j - 1, by rw [List.length_dropLast, List.length_drop]; omega, ?_⟩
    rw [List.getElem_dropLast, List.getElem_drop]
    congr 1; omega
/-- As many tops and paths as there should be, none too short to lead from one top to another. -/
def Formed (kd : Int) (nt : Nat) (paths : List (List Int)) : Prop := (kd = 1 ∨ kd = 2) ∧ nt = (if kd = 1 then 4 else 2) ∧ paths.length = (if kd = 1 then 6 else 3) ∧ ∀ L ∈ paths, 2 ≤ L.length
theorem SubL.formed {n : Int} {es : List (Int × Int)} {kd : Int} {tops : List Int} {paths : List (List Int)} (h : SubL n es kd tops paths) : Formed kd tops.length paths :=
  ⟨h.kind, h.tl, h.pl, fun L hL => by
    obtain ⟨k, hk, rfl⟩ := List.getElem_of_mem hL
    have := (h.path k hk).2.1
    have := h.kind
    omega⟩
theorem path_ends {n : Int} {es : List (Int × Int)} {p : List Int} {x y : Int} (h : PathL n es p) (h2 : 2 ≤ p.length) (hx : p.head? = some x) (hy : p.getLast? = some y) : x ≠ y := fun e => by
  rw [List.head?_eq_getElem?, List.getElem?_eq_some_iff] at hx
  rw [List.getLast?_eq_getElem?, List.getElem?_eq_some_iff] at hy
  obtain ⟨_, hx⟩ := hx
  obtain ⟨h3, hy⟩ := hy
  have := h.nd
  rw [List.nodup_iff_pairwise_ne, List.pairwise_iff_getElem] at this
  exact this 0 (p.length - 1) (by omega) h3 (by omega) (by rw [hx, hy, e])
theorem sub_of {n : Int} {es : List (Int × Int)} {kd : Int} {tops : List Int} {paths : List (List Int)} (hF : Formed kd tops.length paths) (hA : ApartL paths) (hR : RightG n es)
    (hp : ∀ k (h : k < paths.length), PathL n es paths[k] ∧ paths[k].head? = tops[(fromL kd k).1]? ∧ paths[k].getLast? = tops[(fromL kd k).2]?) (h3 : kd = 2 → ∀ L ∈ paths, 3 ≤ L.length) : SubL n es kd tops paths := by
  obtain ⟨hk, ht, hl, h2⟩ := hF
  have hne : ∀ k (h : k < paths.length) x y, tops[(fromL kd k).1]? = some x → tops[(fromL kd k).2]? = some y → x ≠ y := fun k h x y hx hy => by
    obtain ⟨h4, h5, h6⟩ := hp k h
    exact path_ends h4 (h2 _ (List.getElem_mem h)) (h5.trans hx) (h6.trans hy)
  refine ⟨hk, hR, ht, hl, ?_, fun k h => ⟨(hp k h).1, ?_, (hp k h).2⟩, hA⟩
  · rcases hk with rfl | rfl
    · rw [if_pos rfl] at ht hl
      match tops, ht with
      | [a, b, c, d], _ =>
        have n0 := hne 0 (by omega) a b rfl rfl
        have n1 := hne 1 (by omega) a c rfl rfl
        have n2 := hne 2 (by omega) a d rfl rfl
        have n3 := hne 3 (by omega) b c rfl rfl
        have n4 := hne 4 (by omega) b d rfl rfl
        have n5 := hne 5 (by omega) c d rfl rfl
        simp [n0, n1, n2, n3, n4, n5]
    · rw [if_neg (by decide)] at ht hl
      match tops, ht with
      | [a, b], _ =>
        have n0 := hne 0 (by omega) a b rfl rfl
        simp [n0]
  · have := h2 _ (List.getElem_mem h)
    rcases hk with rfl | rfl
    · omega
    · have := h3 rfl _ (List.getElem_mem h); omega
theorem fromL_lt {kd : Int} (hk : kd = 1 ∨ kd = 2) {k : Nat} (h : k < (if kd = 1 then 6 else 3)) : (fromL kd k).1 < (if kd = 1 then 4 else 2) ∧ (fromL kd k).2 < (if kd = 1 then 4 else 2) ∧ (fromL kd k).1 < (fromL kd k).2 := by
  rcases hk with rfl | rfl
  · rw [if_pos rfl] at h
    rcases (by omega : k = 0 ∨ k = 1 ∨ k = 2 ∨ k = 3 ∨ k = 4 ∨ k = 5) with rfl | rfl | rfl | rfl | rfl | rfl <;> decide
  · rw [if_neg (by decide)] at h
    rcases (by omega : k = 0 ∨ k = 1 ∨ k = 2) with rfl | rfl | rfl <;> decide
end Go.Proofs.Ytckcbaegehfkoaa
