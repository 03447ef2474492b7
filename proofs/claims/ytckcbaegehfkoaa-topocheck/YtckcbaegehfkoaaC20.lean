/-
  Ways through vertices with two neighbours (layer 9). No program is named here.
  The program's neighbours of a graph that falls apart (layer 7): each row in a block of its own.
  The program's neighbours of a graph (layer 9): each row in a block of its own.
-/
import Derived.Test.YtckcbaegehfkoaaC04
import Derived.Test.YtckcbaegehfkoaaC09
import Derived.Test.YtckcbaegehfkoaaC06
import Derived.Deep.DeepCutAuto
import Derived.Test.YtckcbaegehfkoaaC13
namespace Go.Proofs.Ytckcbaegehfkoaa

/-- How many neighbours a vertex has. -/
def dg (es : List (Int × Int)) (v : Int) : Nat := (nbL v es).length
theorem two_nb {n : Int} {es : List (Int × Int)} (hR : RightG n es) {v x y z : Int} (h2 : dg es v = 2) (hx : Adj es v x) (hy : Adj es v y) (hxy : x ≠ y) (hz : Adj es v z) : z = x ∨ z = y := by
  rw [← nb_adj hR] at hx hy hz
  unfold dg at h2
  match hL : nbL v es, h2 with
  | [a, b], _ =>
    rw [hL] at hx hy hz
    simp at hx hy hz
    omega
/-- A way: each two that follow each other are neighbours, inside it stand vertices with two neighbours, it does not turn back, and does not begin with one of them. -/
structure Tr (es : List (Int × Int)) (p : List Int) : Prop where
  two : 2 ≤ p.length
  lk : Links es p
  inn : ∀ i (h : i + 1 < p.length), 1 ≤ i → dg es (p[i]'(by omega)) = 2
  turn : ∀ i (h : i + 2 < p.length), p[i + 2] ≠ p[i]'(by omega)
  hd : dg es (p[0]'(by omega)) ≠ 2
theorem Tr.ne {n : Int} {es : List (Int × Int)} {p : List Int} (hR : RightG n es) (h : Tr es p) : ∀ j (hj : j < p.length) i (_ : 1 ≤ i) (hij : i < j), p[i]'(by omega) ≠ p[j] := by
  intro j
  induction j using Nat.strongRecOn with
  | ind j ih =>
    intro hj i hi hij e
    obtain ⟨j', rfl⟩ : ∃ j', j = j' + 1 := ⟨j - 1, by omega⟩
    obtain ⟨i', rfl⟩ : ∃ i', i = i' + 1 := ⟨i - 1, by omega⟩
    have a1 := h.lk j' hj
    have a2 : Adj es (p[i' + 1]'(by omega)) (p[j']'(by omega)) := by rw [e]; exact a1.symm
    have b1 := h.lk (i' + 1) (by omega)
    have b2 := (h.lk i' (by omega)).symm
    rcases two_nb hR (h.inn (i' + 1) (by omega) hi) b1 b2 (h.turn i' (by omega)) a2 with h1 | h1
    · by_cases c : i' + 2 = j'
      · subst c
        exact h.turn (i' + 1) (by omega) e.symm
      · by_cases c2 : i' + 1 = j'
        · subst c2
          exact (Adj.in hR a1).2.2 e
        · exact ih j' (by omega) (by omega) (i' + 2) (by omega) (by omega) h1.symm
    · by_cases c : i' = 0
      · subst c
        have := h.inn j' hj (by omega)
        rw [h1] at this
        exact h.hd this
      · exact ih j' (by omega) (by omega) i' (by omega) (by omega) h1.symm
theorem Tr.in {n : Int} {es : List (Int × Int)} {p : List Int} (hR : RightG n es) (h : Tr es p) : ∀ x ∈ p, 0 ≤ x ∧ x < n := fun x hx => by
  obtain ⟨i, hi, rfl⟩ := List.getElem_of_mem hx
  have h2 := h.two
  by_cases c : i + 1 < p.length
  · exact (Adj.in hR (h.lk i c)).1
  · obtain ⟨i', rfl⟩ : ∃ i', i = i' + 1 := ⟨i - 1, by omega⟩
    exact (Adj.in hR (h.lk i' hi)).2.1
theorem Tr.len {m : Nat} {es : List (Int × Int)} {p : List Int} (hR : RightG m es) (h : Tr es p) : p.length ≤ m + 1 := by
  have hnd : p.tail.Nodup := by
    rw [List.nodup_iff_pairwise_ne, List.pairwise_iff_getElem]
    intro i j hi hj hij
    rw [List.getElem_tail, List.getElem_tail]
    rw [List.length_tail] at hj
    exact h.ne hR (j + 1) (by omega) (i + 1) (by omega) (by omega)
  have := len_le_subI hnd (b := (List.range m).map (fun v : Nat => (v : Int))) (fun x hx => by
    have := h.in hR x (List.mem_of_mem_tail hx)
    rw [List.mem_map]
    exact ⟨x.toNat, by rw [List.mem_range]; omega, by omega⟩)
  rw [List.length_tail, List.length_map, List.length_range] at this
  omega
theorem Tr.snoc {es : List (Int × Int)} {p : List Int} (h : Tr es p) {w : Int} (h2 : dg es (p[p.length - 1]'(by have := h.two; omega)) = 2) (ha : Adj es (p[p.length - 1]'(by have := h.two; omega)) w) (hw : w ≠ p[p.length - 2]'(by have := h.two; omega)) : Tr es (p ++ [w]) := by
  have htwo := h.two
  refine ⟨by simp; omega, fun i hi => ?_, fun i hi h1 => ?_, fun i hi => ?_, ?_⟩
  · simp at hi
    rw [List.getElem_append_left (by omega)]
    by_cases c : i + 1 < p.length
    · rw [List.getElem_append_left c]; exact h.lk i c
    · rw [List.getElem_append_right (by omega)]
      simp only [List.getElem_singleton]
      have e : i = p.length - 1 := by omega
      subst e
      exact ha
  · simp at hi
    rw [List.getElem_append_left (by omega)]
    by_cases c : i + 1 < p.length
    · exact h.inn i c h1
    · have e : i = p.length - 1 := by omega
      subst e
      exact h2
  · simp at hi
    rw [List.getElem_append_left (show i < p.length by omega)]
    by_cases c : i + 2 < p.length
    · rw [List.getElem_append_left c]; exact h.turn i c
    · rw [List.getElem_append_right (by omega)]
      simp only [List.getElem_singleton]
      have e : i = p.length - 2 := by omega
      subst e
      exact hw
  · rw [List.getElem_append_left (by omega)]; exact h.hd
/-- Two ways that begin alike are one, as far as both go on. -/
theorem Tr.one {n : Int} {es : List (Int × Int)} {p q : List Int} (hR : RightG n es) (h : Tr es p) (k : Tr es q) (h0 : p[0]? = q[0]?) (h1 : p[1]? = q[1]?) (hp : ∀ x, p.getLast? = some x → dg es x ≠ 2) (hq : ∀ x, q.getLast? = some x → dg es x ≠ 2) : p = q := by
  have t1 := h.two
  have t2 := k.two
  have main : ∀ i, (i + 1 < p.length ↔ i + 1 < q.length) ∧ p[i]? = q[i]? ∧ p[i + 1]? = q[i + 1]? := by
    intro i
    induction i with
    | zero => exact ⟨by omega, h0, h1⟩
    | succ i ih =>
      obtain ⟨ih1, ih2, ih3⟩ := ih
      by_cases c : i + 1 < p.length
      · have c' := ih1.1 c
        have e1 : p[i]'(by omega) = q[i]'(by omega) := by rw [List.getElem?_eq_getElem (by omega), List.getElem?_eq_getElem (by omega)] at ih2; exact Option.some.inj ih2
        have e2 : p[i + 1] = q[i + 1] := by rw [List.getElem?_eq_getElem c, List.getElem?_eq_getElem c'] at ih3; exact Option.some.inj ih3
        have key : ∀ {p q : List Int} (h : Tr es p) (k : Tr es q) (hq : ∀ x, q.getLast? = some x → dg es x ≠ 2) (c : i + 1 < p.length) (c' : i + 1 < q.length) (e2 : p[i + 1] = q[i + 1]), i + 2 < p.length → i + 2 < q.length := fun {p q} h k hq c c' e2 hh => by
          have d := h.inn (i + 1) hh (by omega)
          rw [e2] at d
          refine Classical.byContradiction fun hn => ?_
          refine hq q[i + 1] ?_ d
          rw [List.getLast?_eq_getElem?, show q.length - 1 = i + 1 by omega]
          exact List.getElem?_eq_getElem c'
        have hiff : i + 2 < p.length ↔ i + 2 < q.length := ⟨key h k hq c c' e2, key k h hp c' c e2.symm⟩
        refine ⟨hiff, ih3, ?_⟩
        by_cases d : i + 2 < p.length
        · have d' := hiff.1 d
          rw [List.getElem?_eq_getElem d, List.getElem?_eq_getElem d']
          congr 1
          have a1 := h.lk (i + 1) d
          have a2 := k.lk (i + 1) d'
          have a3 := (h.lk i c).symm
          rw [← e2] at a2
          rcases two_nb hR (h.inn (i + 1) d (by omega)) a1 a3 (h.turn i d) a2 with h5 | h5
          · exact h5.symm
          · rw [e1] at h5
            exact absurd h5 (k.turn i d')
        · rw [List.getElem?_eq_none (by omega), List.getElem?_eq_none (by omega)]
      · refine ⟨by omega, ih3, ?_⟩
        rw [List.getElem?_eq_none (by omega), List.getElem?_eq_none (by omega)]
  refine List.ext_getElem? (fun i => ?_)
  exact (main i).2.1
/-- What goes on behind two vertices, as far as there are just two neighbours. -/
def goOn (es : List (Int × Int)) : Nat → Int → Int → List Int
  | 0, _, _ => []
  | f + 1, prev, last => if dg es last = 2 then (match (nbL last es).find? (fun w => decide (w ≠ prev)) with | some w => w :: goOn es f last w | none => []) else []
def folL (es : List (Int × Int)) (f : Nat) (t x : Int) : List Int := t :: x :: goOn es f t x
/-- The way from t by x. -/
structure Fol (es : List (Int × Int)) (t x : Int) (p : List Int) : Prop where
  tr : Tr es p
  h0 : p[0]? = some t
  h1 : p[1]? = some x
  last : ∀ y, p.getLast? = some y → dg es y ≠ 2
theorem Fol.one {n : Int} {es : List (Int × Int)} {t x : Int} {p q : List Int} (hR : RightG n es) (h : Fol es t x p) (k : Fol es t x q) : p = q := h.tr.one hR k.tr (h.h0.trans k.h0.symm) (h.h1.trans k.h1.symm) h.last k.last
theorem tr_two {n : Int} {es : List (Int × Int)} (_hR : RightG n es) {t x : Int} (ht : dg es t ≠ 2) (hx : Adj es t x) : Tr es [t, x] := by
  refine ⟨by simp, fun i hi => ?_, fun i hi h1 => ?_, fun i hi => ?_, ht⟩
  · have : i = 0 := by simp at hi; omega
    subst this; exact hx
  · simp at hi; omega
  · simp at hi; omega
/-- Where a vertex has two neighbours, there is one to go on to. -/
theorem on_ex {n : Int} {es : List (Int × Int)} (hR : RightG n es) {prev last : Int} (h2 : dg es last = 2) : ∃ w, (nbL last es).find? (fun w => decide (w ≠ prev)) = some w ∧ Adj es last w ∧ w ≠ prev := by
  have hnd := nbL_nodup (v := last) hR
  cases hf : (nbL last es).find? (fun w => decide (w ≠ prev)) with
  | none =>
    rw [List.find?_eq_none] at hf
    unfold dg at h2
    match hL : nbL last es, h2 with
    | [a, b], _ =>
      rw [hL] at hf hnd
      simp at hf hnd
      omega
  | some w =>
    have h1 := List.mem_of_find?_eq_some hf
    have h3 := List.find?_some hf
    exact ⟨w, rfl, (nb_adj hR).1 h1, by simpa using h3⟩
theorem goOn_ok {m : Nat} {es : List (Int × Int)} (hR : RightG m es) : ∀ (f : Nat) (p : List Int) (h : Tr es p), m + 2 ≤ p.length + f →
    Tr es (p ++ goOn es f (p[p.length - 2]'(by have := h.two; omega)) (p[p.length - 1]'(by have := h.two; omega))) ∧ (∀ y, (p ++ goOn es f (p[p.length - 2]'(by have := h.two; omega)) (p[p.length - 1]'(by have := h.two; omega))).getLast? = some y → dg es y ≠ 2) := by
  intro f
  induction f with
  | zero => intro p h hl; have := h.len hR; omega
  | succ f ih =>
    intro p h hl
    have htwo := h.two
    unfold goOn
    by_cases h2 : dg es (p[p.length - 1]'(by omega)) = 2
    · obtain ⟨w, hf, ha, hw⟩ := on_ex hR (prev := p[p.length - 2]'(by omega)) h2
      rw [if_pos h2, hf]
      have hs := h.snoc h2 ha hw
      have := ih (p ++ [w]) hs (by simp; omega)
      have e1 : (p ++ [w])[(p ++ [w]).length - 2]'(by simp; omega) = p[p.length - 1]'(by omega) := by
        simp only [List.length_append, List.length_singleton]
        rw [List.getElem_append_left (by omega)]
        congr 1
      have e2 : (p ++ [w])[(p ++ [w]).length - 1]'(by simp) = w := by simp
      rw [e1, e2, List.append_assoc] at this
      exact this
    · rw [if_neg h2, List.append_nil]
      refine ⟨h, fun y hy => ?_⟩
      rw [List.getLast?_eq_getElem?, List.getElem?_eq_getElem (by omega)] at hy
      cases hy
      exact h2
theorem fol_ok {m : Nat} {es : List (Int × Int)} (hR : RightG m es) {t x : Int} (ht : dg es t ≠ 2) (hx : Adj es t x) : Fol es t x (folL es m t x) := by
  have h := goOn_ok hR m [t, x] (tr_two hR ht hx) (by simp; omega)
  exact ⟨h.1, rfl, rfl, h.2⟩
end Go.Proofs.Ytckcbaegehfkoaa
namespace Go.Proofs.Ytckcbaegehfkoaa
open Go.RowKit Go.Lib

/-- Headers in block N; each row is of the call's own, in a block of its own. -/
structure NO (w : World) (base N m : Nat) (V : Nat → Value) (B : Nat → List Int) : Prop where
  lt : N < w.heap.size
  hd : ∀ j, j < m → w.cell? ⟨N, j, none⟩ = some (V j) ∧ w.frozen? ⟨N, j, none⟩ = false
  own : ∀ j, j < m → w.ownsRow base 3 1 (V j) (B j).length ((B j).map (Value.int .i64)) ∧ (V j).ownBlock ≠ some N
  apart : ∀ i j, i < m → j < m → i ≠ j → ∀ g, (V i).ownBlock = some g → (V j).ownBlock ≠ some g
theorem NO.below {w w' : World} {base N m : Nat} {V : Nat → Value} {B : Nat → List Int} (h : NO w base N m V B) (hb : Below w.heap.size w w') : NO w' base N m V B := by
  have hk := KeptBut.of_whole (fun _ => False) hb
  refine ⟨Nat.lt_of_lt_of_le h.lt hb.size, fun j hj => ?_, fun j hj => ⟨own_below (h.own j hj).1 hb, (h.own j hj).2⟩, h.apart⟩
  rw [hk.cell (p := ⟨N, j, none⟩) h.lt (fun e => e), hk.frozen (p := ⟨N, j, none⟩) h.lt (fun e => e)]
  exact h.hd j hj
/-- One number more in row j. -/
theorem NO.push {w wa w4 : World} {base N m : Nat} {V : Nat → Value} {B : Nat → List Int} (h : NO w base N m V B) {j : Nat} (hj : j < m) (hb : Below w.heap.size w wa) {x : Int} {v' : Value}
    (hown : w4.ownsRow base 3 1 v' ((B j).length + 1) ((B j).map (Value.int .i64) ++ [.int .i64 x])) (hg : wa.grownBy w4 (V j).ownBlock) (hat : v'.ownBlock = (V j).ownBlock ∨ v'.ownBlock = some wa.heap.size) :
    NO (w4.setCell ⟨N, j, none⟩ v') base N m (fun u => if u = j then v' else V u) (fun u => if u = j then B j ++ [x] else B u) := by
  have hk : KeptBut (fun k => some k = (V j).ownBlock) w w4 := (KeptBut.of_whole _ hb).trans (KeptBut.of_grown hg)
  have hN := hb.size
  have hks := kept_set w4 ⟨N, j, none⟩ v'
  have hvN : v'.ownBlock ≠ some N := fun e => by
    rcases hat with h1 | h1
    · exact (h.own j hj).2 (h1.symm.trans e)
    · rw [h1] at e; have := h.lt; simp at e; omega
  have hNj : ¬ some N = (V j).ownBlock := fun e => (h.own j hj).2 e.symm
  have hc : ∀ u, u < m → w4.cell? ⟨N, u, none⟩ = some (V u) ∧ w4.frozen? ⟨N, u, none⟩ = false := fun u hu => by
    rw [hk.cell (p := ⟨N, u, none⟩) h.lt hNj, hk.frozen (p := ⟨N, u, none⟩) h.lt hNj]
    exact h.hd u hu
  refine ⟨by simpa using Nat.lt_of_lt_of_le h.lt hk.size, fun u hu => ?_, fun u hu => ?_, fun i u hi hu hne g => ?_⟩
  · obtain ⟨h1, h2⟩ := hc u hu
    by_cases e : u = j
    · subst e
      simp only [if_pos]
      exact ⟨World.cell?_setCell_same' _ _ _ (by rw [h1]; rfl), by rw [World.frozen?_setCell]; exact h2⟩
    · simp only [if_neg e]
      exact ⟨by rw [World.cell?_setCell_other _ _ _ _ (by simp <;> omega)]; exact h1, by rw [World.frozen?_setCell]; exact h2⟩
  · by_cases e : u = j
    · subst e
      simp only [if_pos]
      refine ⟨own_kept (S := fun k => k = N) ?_ hks (fun g hg e => hvN (by rw [hg, e])), hvN⟩
      rw [List.length_append, List.map_append]
      exact hown
    · simp only [if_neg e]
      refine ⟨own_kept (S := fun k => k = N) (own_kept (h.own u hu).1 hk (fun g hg e2 => h.apart u j hu hj e g hg e2.symm)) hks (fun g hg e2 => (h.own u hu).2 (by rw [hg, e2])), (h.own u hu).2⟩
  · have key : ∀ u, u < m → u ≠ j → ∀ g, (V u).ownBlock = some g → v'.ownBlock ≠ some g := fun u hu hne g hgu e => by
      rcases hat with h1 | h1
      · exact h.apart u j hu hj hne g hgu (h1.symm.trans e)
      · have := ((h.own u hu).1.lt g hgu).2
        rw [h1] at e
        simp at e
        omega
    by_cases e1 : i = j
    · subst e1
      simp only [if_pos, if_neg (show ¬ u = i from fun e => hne e.symm)]
      intro hg1 hg2
      exact key u hu (fun e => hne e.symm) g hg2 hg1
    · simp only [if_neg e1]
      by_cases e2 : u = j
      · subst e2
        simp only [if_pos]
        exact fun hg1 => key i hi e1 g hg1
      · simp only [if_neg e2]
        exact h.apart i u hi hu hne g
theorem NO.congr {w : World} {base N m : Nat} {V : Nat → Value} {B B' : Nat → List Int} (h : NO w base N m V B) (e : ∀ j, j < m → B j = B' j) : NO w base N m V B' := ⟨h.lt, h.hd, fun j hj => by rw [← e j hj]; exact h.own j hj, h.apart⟩
theorem NO.near {w : World} {base N m : Nat} {V : Nat → Value} {es : List (Int × Int)} (h : NO w base N m V (fun j => nbL j es)) : NearAt w N m es := by
  refine ⟨h.lt, fun j hj => ?_⟩
  obtain ⟨a, cap, hv, hI⟩ := own_form (h.own j hj).1
  obtain ⟨a', cap', hv', hsl⟩ := sl_own (h.own j hj).1
  rw [hv] at hv'
  simp only [Value.slice.injEq, true_and] at hv'
  obtain ⟨rfl, rfl⟩ := hv'
  exact ⟨a, cap, by rw [← hv]; exact (h.hd j hj).1, hI, hsl.w⟩
theorem made_nil0 (n : Nat) : (madeCells (Value.slice none 0 0).cells (n * 1)).toList = List.replicate n (.slice none 0 0) := by
  apply List.ext_getElem
  · simp [madeCells]
  · intro i h1 h2
    simp [madeCells, Value.cells, Nat.mod_one]
theorem no_made {w : World} {base g m : Nat} {e : TypeId} (h : w.ownsRow base e 1 (.slice (some ⟨g, 0, none⟩) m m) m (madeCells (Value.slice none 0 0).cells (m * 1)).toList) : NO w base g m (fun _ => .slice none 0 0) (fun _ => []) := by
  rw [made_nil0] at h
  refine ⟨(h.lt g rfl).2, fun j hj => ?_, fun j _ => ⟨World.ownsRow_nil _ _ _ _, by simp [Value.ownBlock]⟩, fun _ _ _ _ _ g hg => by simp [Value.ownBlock] at hg⟩
  rcases h.2 with ⟨hv', _⟩ | ⟨g', cap, cur, hv', _, hgb, _⟩
  · simp at hv'
  · simp only [Value.slice.injEq, Option.some.injEq, Addr.mk.injEq, and_true, true_and] at hv'
    obtain ⟨rfl, _⟩ := hv'
    have := h.cells (g := g) rfl j (.slice none 0 0) (by rw [List.getElem?_replicate, if_pos hj])
    rw [add_at, Nat.zero_add] at this
    exact ⟨this, frozen_of_heap hgb _⟩
/-- What holds on the way, while one number more goes to row j: ahead of the store, and behind it. -/
theorem NO.half {w : World} {base N m b0 : Nat} {w0 : World} {V : Nat → Value} {B : Nat → List Int} (h : NO w base N m V B) {j : Nat} (hj : j < m) (hb0 : Below b0 w0 w) (hbase : b0 ≤ base) (hN : b0 ≤ N) (h0 : b0 ≤ w.heap.size) {E : Nat} (hE : E < w.heap.size) (hEN : E ≠ N) (hEV : ∀ j, j < m → (V j).ownBlock ≠ some E) (x : Int) :
    ∀ wa w4 v', Below w.heap.size w wa → w4.ownsRow base 3 1 v' ((B j).length + 1) ((B j).map (Value.int .i64) ++ [.int .i64 x]) → wa.grownBy w4 (V j).ownBlock → (v'.ownBlock = (V j).ownBlock ∨ v'.ownBlock = some wa.heap.size) →
      (w4.cell? ⟨N, j, none⟩ = some (V j) ∧ w4.frozen? ⟨N, j, none⟩ = false) ∧ (∀ i, w4.cell? ⟨E, i, none⟩ = w.cell? ⟨E, i, none⟩) ∧
      (∀ i, (w4.setCell ⟨N, j, none⟩ v').cell? ⟨E, i, none⟩ = w.cell? ⟨E, i, none⟩) ∧ Below b0 w0 (w4.setCell ⟨N, j, none⟩ v') ∧ w.heap.size ≤ (w4.setCell ⟨N, j, none⟩ v').heap.size ∧
      NO (w4.setCell ⟨N, j, none⟩ v') base N m (fun u => if u = j then v' else V u) (fun u => if u = j then B j ++ [x] else B u) ∧ (∀ u, u < m → (if u = j then v' else V u).ownBlock ≠ some E) := fun wa w4 v' hb hown hg hat => by
  have hk : KeptBut (fun k => some k = (V j).ownBlock) w w4 := (KeptBut.of_whole _ hb).trans (KeptBut.of_grown hg)
  have hNj : ¬ some N = (V j).ownBlock := fun e => (h.own j hj).2 e.symm
  have hEj : ¬ some E = (V j).ownBlock := fun e => hEV j hj e.symm
  have hv : ∀ i, w4.cell? ⟨E, i, none⟩ = w.cell? ⟨E, i, none⟩ := fun i => hk.cell (p := ⟨E, i, none⟩) hE hEj
  refine ⟨?_, hv, fun i => ?_, ?_, ?_, h.push hj hb hown hg hat, fun u hu => ?_⟩
  · rw [hk.cell (p := ⟨N, j, none⟩) h.lt hNj, hk.frozen (p := ⟨N, j, none⟩) h.lt hNj]
    exact h.hd j hj
  · rw [World.cell?_setCell_other _ _ _ _ (fun e => hEN (congrArg Addr.block e).symm)]; exact hv i
  · refine (hb0.trans (hk.below h0 (fun k _ e => ?_))).setCell (p := ⟨N, j, none⟩) hN _
    have := ((h.own j hj).1.lt k e.symm).1
    omega
  · simpa using hk.size
  · by_cases e : u = j
    · rw [if_pos e]
      intro k
      rcases hat with h1 | h1
      · exact hEV j hj (h1.symm.trans k)
      · rw [h1] at k
        have := hb.size
        simp at k
        omega
    · rw [if_neg e]; exact hEV u hu

theorem nb_len (v : Int) : ∀ (es : List (Int × Int)), (nbL v es).length ≤ 2 * es.length
  | [] => by simp [nbL]
  | e :: es => by
    have := nb_len v es
    have h : (other v e).length ≤ 2 := by
      unfold other
      split <;> (try split) <;> simp
    simp only [nbL, List.length_append, List.length_cons]
    omega
end Go.Proofs.Ytckcbaegehfkoaa
namespace Go.Proofs.Ytckcbaegehfkoaa
open Go.RowKit Go.Lib

set_option maxHeartbeats 4000000 in
set_option maxRecDepth 100000 in
theorem tnear_any (m : Nat) (a : Option Addr) (cap : Nat) (es : List (Int × Int)) (wO : World) (hEO : EAt wO a es) (hR : RightG m es) :
    Calls Try.prog 77 #[.agg #[.int .i64 m, .slice a es.length cap]] wO fun e w' => ∃ g, e = .returned (.slice (some ⟨g, 0, none⟩) m m) ∧ wO.heap.size ≤ g ∧ NearAt w' g m es ∧ Below wO.heap.size wO w' := by
  have hm : m ≤ 1000 := by have := hR.2.1; omega
  have hN4 : es.length ≤ 4000 := hR.2.2.1
  obtain ⟨N, hNe⟩ := ex_eq es.length
  rw [← hNe] at hN4 ⊢
  have HN := hid hNe
  obtain ⟨bO, hbO⟩ := ex_eq wO.heap.size
  obtain ⟨w, hw⟩ := ex_eq (wO.alloc (.cells #[.int .i64 m, .slice a N cap] 30))
  have oO := heap_alloc_new wO (.cells #[.int .i64 m, .slice a N cap] 30)
  have hwO : Below wO.heap.size wO w := by rw [hw]; exact below_one _ _
  rw [← hw] at oO
  have hE : EAt w a es := hEO.below hwO
  have HBO : Hid (∀ X, Below w.heap.size w X → Below wO.heap.size wO X ∧ wO.heap.size ≤ w.heap.size) := fun X hX => ⟨hwO.trans (hX.mono hwO.size), hwO.size⟩
  rw [← hbO] at oO HBO
  have y0 := cell_of_heap oO 0
  have HBOO := hid hbO
  have HWO := hid hw
  have hltO : bO < w.heap.size := (Array.getElem?_eq_some_iff.1 oO).1
  have HE := hid hE
  have HRG := hid hR
  obtain ⟨i1, hj, hy0, hy1, hy2⟩ := info_parts Try.info25
  obtain ⟨w1, hrun1, hown1, hgrow1⟩ := run_make_full (P := Try.prog) w w.heap.size 26 25 i1 (.slice none 0 0) 1 Try.underlying26 hj hy0 hy1 .i64 .i64 m (by rw [hy2]; omega) (by unfold maxLen; omega) (Nat.le_refl _)
  have hb1 : Below w.heap.size w w1 := Below.grown (Below.refl _ _) hgrow1 (Nat.le_refl _) (fun k hk => by cases hk)
  have hlt1 : w.heap.size < w1.heap.size := (hown1.lt _ rfl).2
  have HNO : Hid (NO w1 (w.heap.size + 1) w.heap.size m (fun _ => .slice none 0 0) (fun j => nbL j (es.take 0))) := by
    have h := no_made hown1
    exact ⟨h.lt, h.hd, fun j hj => ⟨World.ownsRow_nil _ _ _ _, (h.own j hj).2⟩, h.apart⟩
  have HBW := hid hb1
  have y1 := (hb1.cell (p := ⟨bO, 1, none⟩) hltO).trans (cell_of_heap oO 1)
  clear hNe hE hR hown1 hgrow1 hj hy0 hy1 hy2 hwO hEO hw oO hbO
  go_enter Try.func77, Try.ntmps77
  go_upto_region 1 with fail
  rw [← HBOO.out, ← HWO.out]
  go_wp2
  clear hrun1 hb1 y0 y1 hltO
  obtain ⟨Nb, hNb⟩ := ex_eq w.heap.size
  rw [← hNb] at HNO hlt1 HBW ⊢
  have HNb := hid hNb
  clear hNb
  go_loopw [12] (fun i wz => ∃ t : Nat, t ≤ N ∧ i = .int .i64 t ∧ Hid (∃ V, NO wz (Nb + 1) Nb m V (fun j => nbL j (es.take t))) ∧ Hid (Below Nb w wz) ∧ w1.heap.size ≤ wz.heap.size) (fun i _ => N - (RowKit.intOf i).toNat)
  case atStart => exact ⟨0, Nat.zero_le _, rfl, ⟨_, HNO.out⟩, HBW.out, Nat.le_refl _⟩
  case round =>
    obtain ⟨t, ht, rfl, hno, hbz, hsz⟩ := hrel
    by_cases hlt : t < N
    · have hkr : t < es.length := by rw [← HN.out]; exact hlt
      obtain ⟨g, o, rfl, hg, hcs⟩ := HE.out.at hkr
      have hin := (HRG.out.at t hkr).1
      obtain ⟨p, hp⟩ : ∃ p : Nat, (p : Int) = es[t].1 := ⟨es[t].1.toNat, by omega⟩
      obtain ⟨q, hq⟩ : ∃ q : Nat, (q : Int) = es[t].2 := ⟨es[t].2.toNat, by omega⟩
      have d := hcs wr (by rw [← HNb.out]; exact hbz.out) t hkr
      rw [← hp, ← hq] at d hin
      obtain ⟨d0, d1⟩ := d
      have i1 : p < q := by omega
      have i2 : q < m := by omega
      obtain ⟨V, hno⟩ := hno.out
      obtain ⟨B, hB⟩ := ex_eq (fun j : Nat => nbL (j : Int) (es.take t))
      rw [← hB] at hno
      have HNXT : Hid (∀ j, (if j = q then (if q = p then B p ++ [(q : Int)] else B q) ++ [(p : Int)] else if j = p then B p ++ [(q : Int)] else B j) = nbL (j : Int) (es.take (t + 1))) := fun j => by
        rw [if_neg (show ¬ q = p by omega), hB]
        exact nb_next hkr hp hq i1 j
      have HBL : Hid (∀ j, (B j).length ≤ 2 * t) := fun j => by
        rw [hB]
        have := nb_len (j : Int) (es.take t)
        rw [List.length_take] at this
        show (nbL (j : Int) (es.take t)).length ≤ 2 * t
        omega
      obtain ⟨i0, hi0, hz0, hz1, hz2⟩ := info_parts Try.info3
      obtain ⟨W1, hW1⟩ := ex_eq (wr.alloc (.cells #[.int .i64 p, .int .i64 q] 59))
      have hbW0 : Below wr.heap.size wr W1 := by rw [hW1]; exact (Below.refl _ _).alloc (Nat.le_refl _) _
      have hNO1 : NO W1 (Nb + 1) Nb m V B := hno.below hbW0
      have hbW : Below Nb w W1 := by rw [hW1]; exact hbz.out.alloc (by omega) _
      have e0 : W1.cell? ⟨wr.heap.size, 0, none⟩ = some (.int .i64 p) := by rw [hW1]; exact cell_of_heap (heap_alloc_new _ _) 0
      have e1 : W1.cell? ⟨wr.heap.size, 1, none⟩ = some (.int .i64 q) := by rw [hW1]; exact cell_of_heap (heap_alloc_new _ _) 1
      have hsW : wr.heap.size < W1.heap.size := by rw [hW1]; simp
      have hEV : ∀ j, j < m → (V j).ownBlock ≠ some wr.heap.size := fun j hj e => by
        have := ((hno.own j hj).1.lt _ e).2
        omega
      obtain ⟨a1, f1⟩ := hNO1.hd p (by omega)
      have HH := hid (hNO1.half (j := p) (b0 := Nb) (w0 := w) (by omega) hbW (by omega) (Nat.le_refl _) (by omega) (E := wr.heap.size) hsW (by omega) hEV (q : Int))
      obtain ⟨v1, hv1⟩ := ex_eq (V p)
      obtain ⟨n1, hn1⟩ := ex_eq (B p).length
      obtain ⟨xs1, hxs1⟩ := ex_eq ((B p).map (Value.int .i64))
      rw [← hv1] at a1
      have HO1 : Hid (W1.ownsRow (Nb + 1) 3 1 v1 n1 xs1) := by
        show World.ownsRow _ _ _ _ _ _ _
        rw [hv1, hn1, hxs1]; exact (hNO1.own p (by omega)).1
      have hn1l : n1 ≤ 2 * t := by rw [hn1]; exact HBL.out p
      rw [← hv1, ← hn1, ← hxs1] at HH
      have HV1 := hid hv1
      have HN1 := hid hn1
      have HXS1 := hid hxs1
      have HW1 := hid hW1
      have hltN : Nb < W1.heap.size := by omega
      have q1 : (p : Int) < (m : Int) := by omega
      have q2 : (q : Int) < (m : Int) := by omega
      have q3 : (t : Int) < (N : Int) := by omega
      have HSB : Hid (∀ X : World, W1.heap.size ≤ X.heap.size → Nb + 1 ≤ X.heap.size) := fun X h => by omega
      have HI0 := hid hi0
      have HY0 := hid hz0
      have HY1 := hid hz1
      have HY2 := hid hz2
      clear hp hq hno hin hcs hkr hW1 hi0 hz0 hz1 hz2 hNO1 hbW hbW0 hEV hv1 hn1 hxs1 hbz HE
      go_upto_region 5 with fail
      rw [← HW1.out]
      go_cut [12] from 12 to 42 (fun v wx => v = .int .i64 t ∧ Hid (∃ V2, NO wx (Nb + 1) Nb m V2 (fun u => if u = p then B p ++ [(q : Int)] else B u) ∧ (∀ i, wx.cell? ⟨wr.heap.size, i, none⟩ = W1.cell? ⟨wr.heap.size, i, none⟩) ∧ Below Nb w wx ∧ W1.heap.size ≤ wx.heap.size ∧ ∀ u, u < m → (V2 u).ownBlock ≠ some wr.heap.size))
      case first =>
        go_wp2_with fail
        go_region_law (refine step_append_any _ rfl (.tmp 23) (.tmp 26) 25 rfl (Nb + 1) 3 i0 _ 1 8 Try.underlying25 HI0.out HY0.out HY1.out HY2.out rfl (by decide) v1 n1 xs1 (by simp [Act.eval]) (own_below HO1.out ((Below.refl _ _).drew.alloc (Nat.le_refl _) _)) (some ⟨W1.heap.size, 0, none⟩) 1 1 [.int .i64 q] (by simp [Act.eval]) (fun h => by cases h) rfl (fun pp hpp => by cases hpp; exact cells_one (heap_alloc_new _ _)) (fun u hu => by simp at hu; rw [hu]; rfl) (by unfold maxLen; omega) (by omega) (HSB.out _ (by simp)) ?_; intro v' w4 hown4 hgrow4 hat4; obtain ⟨va, vc, rfl, _⟩ := sl_own hown4; obtain ⟨⟨b4, f4⟩, g4, r5⟩ := HH.out _ w4 _ ((Below.refl _ _).drew.alloc (Nat.le_refl _) _) hown4 hgrow4 hat4; have g40 := (g4 0).trans e0; have R5 := hid r5; clear r5 g4 hown4 hgrow4 hat4)
        all_goals
          go_wp2_with fail
          go_meet
          case rel => exact ⟨rfl, _, R5.out.2.2.2.1, R5.out.1, R5.out.2.1, R5.out.2.2.1, R5.out.2.2.2.2⟩
      case rest =>
        obtain ⟨rfl, hcut⟩ := hcut
        obtain ⟨V2, hNO2, hE2, hbW2, hs2, hEV2⟩ := hcut.out
        obtain ⟨W3, hW3⟩ : ∃ x, x = wc := ⟨_, rfl⟩
        subst hW3
        have e30 := (hE2 0).trans e0
        have e31 := (hE2 1).trans e1
        clear HH HO1 HV1 HN1 HXS1 a1 f1 e0 e1 d0 d1 hE2 hcut
        have hsW3 : wr.heap.size < W3.heap.size := by omega
        have hltN3 : Nb < W3.heap.size := hNO2.lt
        obtain ⟨a2, f2⟩ := hNO2.hd q i2
        have HH := hid (hNO2.half (j := q) (b0 := Nb) (w0 := w) i2 hbW2 (by omega) (Nat.le_refl _) (by omega) (E := wr.heap.size) hsW3 (by omega) hEV2 (p : Int))
        obtain ⟨v2, hv2⟩ := ex_eq (V2 q)
        obtain ⟨n2, hn2⟩ := ex_eq ((fun u => if u = p then B p ++ [(q : Int)] else B u) q).length
        obtain ⟨xs2, hxs2⟩ := ex_eq (((fun u => if u = p then B p ++ [(q : Int)] else B u) q).map (Value.int .i64))
        rw [← hv2] at a2
        have HO2 : Hid (W3.ownsRow (Nb + 1) 3 1 v2 n2 xs2) := by
          show World.ownsRow _ _ _ _ _ _ _
          rw [hv2, hn2, hxs2]; exact (hNO2.own q i2).1
        have hn2l : n2 ≤ 2 * t := by
          rw [hn2]
          simp only [if_neg (show ¬ q = p by omega)]
          exact HBL.out q
        rw [← hv2, ← hn2, ← hxs2] at HH
        have HSB2 : Hid (∀ X : World, W3.heap.size ≤ X.heap.size → Nb + 1 ≤ X.heap.size) := fun X h => by omega
        clear hv2 hn2 hxs2 hNO2 hbW2 hEV2 hs2 HSB
        go_wp2_with fail
        go_region_law (refine step_append_any _ rfl (.tmp 36) (.tmp 39) 25 rfl (Nb + 1) 3 i0 _ 1 8 Try.underlying25 HI0.out HY0.out HY1.out HY2.out rfl (by decide) v2 n2 xs2 (by simp [Act.eval]) (own_below HO2.out ((Below.refl _ _).drew.alloc (Nat.le_refl _) _)) (some ⟨W3.heap.size, 0, none⟩) 1 1 [.int .i64 p] (by simp [Act.eval]) (fun h => by cases h) rfl (fun pp hpp => by cases hpp; exact cells_one (heap_alloc_new _ _)) (fun u hu => by simp at hu; rw [hu]; rfl) (by unfold maxLen; omega) (by omega) (HSB2.out _ (by simp)) ?_; intro v' w4 hown4 hgrow4 hat4; obtain ⟨va, vc, rfl, _⟩ := sl_own hown4; obtain ⟨⟨b4, f4⟩, g4, r5⟩ := HH.out _ w4 _ ((Below.refl _ _).drew.alloc (Nat.le_refl _) _) hown4 hgrow4 hat4; have g41 := (g4 1).trans e31; have R5 := hid r5; clear r5 g4 hown4 hgrow4 hat4)
        all_goals
          have HNOZ : Hid (∃ V, NO (w4.setCell ⟨Nb, q, none⟩ (.slice va (n2 + 1) vc)) (Nb + 1) Nb m V (fun j => nbL j (es.take (t + 1)))) := ⟨_, R5.out.2.2.2.1.congr (fun j _ => HNXT.out j)⟩
          have HBZ : Hid (Below Nb w (w4.setCell ⟨Nb, q, none⟩ (.slice va (n2 + 1) vc))) := R5.out.2.1
          have hsZ : w1.heap.size ≤ (w4.setCell ⟨Nb, q, none⟩ (.slice va (n2 + 1) vc)).heap.size := by have := R5.out.2.2.1; omega
          obtain ⟨W5, hW5⟩ := ex_eq (w4.setCell ⟨Nb, q, none⟩ (.slice va (n2 + 1) vc))
          rw [← hW5] at HNOZ HBZ hsZ
          have HW5 := hid hW5
          clear R5 b4 f4 g41 a2 f2 e30 e31 HH HO2 HI0 HY0 HY1 HY2 hW5
          rw [← HW5.out]
          go_wp2
          go_roundw
          case rel => exact ⟨t + 1, by omega, by go_num, HNOZ, HBZ, hsZ⟩
          case measure => simp [RowKit.intOf]; omega
    · obtain rfl : t = N := by omega
      have htk : es.take t = es := by rw [HN.out, List.take_length]
      rw [htk] at hno
      have HNR : Hid (NearAt wr Nb m es) := by
        obtain ⟨V, h⟩ := hno.out
        exact h.near
      clear hno
      have HFN : Hid (bO ≤ Nb ∧ Below bO wO wr) := by
        have h := HBO.out wr (by rw [← HNb.out]; exact hbz.out)
        exact ⟨by rw [HNb.out]; exact h.2, h.1⟩
      go_wp2
      go_ret
      exact ⟨Nb, rfl, by rw [← HBOO.out]; exact HFN.out.1, HNR.out, by rw [← HBOO.out]; exact HFN.out.2⟩
end Go.Proofs.Ytckcbaegehfkoaa
