/-
  A model cut small, as the laws of layer 8 begin: six sets of twenty numbers, in rows of their own.
  The program's homes: of each vertex the set that it is in.
  Rows that may be written: the headers in one block, each row in a block of its own (layer 8).
  The program's Model keeps its contract (I3).
-/
import Derived.Test.YtckcbaegehfkoaaA20
import Derived.Test.YtckcbaegehfkoaaA04
import Derived.Test.YtckcbaegehfkoaaA06
import Derived.Test.YtckcbaegehfkoaaA08
import Derived.Test.YtckcbaegehfkoaaA01
import Derived.Laws.CopyOwn
import Derived.Test.YtckcbaegehfkoaaA11
import Derived.Test.YtckcbaegehfkoaaA03
namespace Go.Proofs.Ytckcbaegehfkoaa
open Go.RowKit Go.Lib Go.Shelf

/-- Rows that may be written, each in a block of its own. -/
def RowsW (w : World) (base : Nat) (v : Value) (us : List Value) (LL : List (List Int)) : Prop := ∀ k (hk : k < LL.length), ∃ ak ck, us[k]? = some (.slice ak LL[k].length ck) ∧ w.ownsRow base 3 1 (.slice ak LL[k].length ck) LL[k].length (LL[k].map (Value.int .i64)) ∧ (∀ q, Value.ownBlock (.slice ak LL[k].length ck) = some q → v.ownBlock ≠ some q ∧ ∀ j, j < k → ∀ u, us[j]? = some u → u.ownBlock ≠ some q)
theorem RowsW.kept {S : Nat → Prop} {w w' : World} {base : Nat} {v : Value} {us : List Value} {LL : List (List Int)} (h : RowsW w base v us LL) (hk : KeptBut S w w') (hs : ∀ q, base ≤ q → q < w.heap.size → ¬ S q) : RowsW w' base v us LL := fun k hk' => by
  obtain ⟨ak, ck, h1, h2, h3⟩ := h k hk'
  exact ⟨ak, ck, h1, own_kept h2 hk (fun q hq => hs q (h2.lt q hq).1 (h2.lt q hq).2), h3⟩
theorem own_lowerS {w : World} {B B' : Nat} {e : TypeId} {size n : Nat} {v : Value} {xs : List Value} (h : w.ownsRow B e size v n xs) (hB : B' ≤ B) : w.ownsRow B' e size v n xs := by
  refine ⟨h.1, ?_⟩
  rcases h.2 with h1 | ⟨g, cap, cur, h1, h2, h3⟩
  · exact Or.inl h1
  · exact Or.inr ⟨g, cap, cur, h1, Nat.le_trans hB h2, h3⟩
theorem RowsW.lower {w : World} {B B' : Nat} {v : Value} {us : List Value} {LL : List (List Int)} (h : RowsW w B v us LL) (hB : B' ≤ B) : RowsW w B' v us LL := fun k hk => by
  obtain ⟨ak, ck, h1, h2, h3⟩ := h k hk
  exact ⟨ak, ck, h1, own_lowerS h2 hB, h3⟩
/-- While the sets are cut. -/
structure SmSt (W X : World) (b0 : Nat) (kk : Int) (v : Value) (us : List Value) (LL : List (List Int)) : Prop where
  c0 : X.cell? ⟨b0 + 2, 0, none⟩ = some (.int .i64 kk)
  c1 : X.cell? ⟨b0 + 2, 1, none⟩ = some v
  f1 : X.frozen? ⟨b0 + 2, 1, none⟩ = false
  ll : LLOwn X (b0 + 3) (fun q => b0 + 3 ≤ q) v us LL
  rw : RowsW X (b0 + 3) v us LL
  kp : Below (b0 + 2) W X
  sz : b0 + 3 ≤ X.heap.size
theorem SmSt.drew {W X : World} {b0 : Nat} {kk : Int} {v : Value} {us : List Value} {LL : List (List Int)} (h : SmSt W X b0 kk v us LL) : SmSt W X.drew b0 kk v us LL :=
  ⟨h.c0, h.c1, h.f1, h.ll.below (Below.refl _ _).drew, h.rw.kept (KeptBut.of_whole (fun _ => False) ((Below.refl _ _).drew)) (fun _ _ _ e => e), h.kp.drew, h.sz⟩
theorem SmSt.put {W X w4 w6 : World} {b0 : Nat} {kk : Int} {v v6 : Value} {us : List Value} {LL : List (List Int)} (h : SmSt W X b0 kk v us LL) {L : List Int} {ar : Option Addr} {cr : Nat} {o : Obj} (h4 : Below X.heap.size X w4)
    (ho : w4.ownsRow X.heap.size 3 1 (.slice ar L.length cr) L.length (L.map (Value.int .i64))) (ho6 : w6.ownsRow (b0 + 3) 25 1 v6 (LL.length + 1) (us ++ [.slice ar L.length cr])) (hg : (w4.alloc o).grownBy w6 v.ownBlock) (hat : v6.ownBlock = v.ownBlock ∨ v6.ownBlock = some (w4.alloc o).heap.size) :
    (w6.cell? ⟨b0 + 2, 1, none⟩ = some v ∧ w6.frozen? ⟨b0 + 2, 1, none⟩ = false) ∧ Below (b0 + 2) W w6 ∧ SmSt W (w6.setCell ⟨b0 + 2, 1, none⟩ v6) b0 kk v6 (us ++ [.slice ar L.length cr]) (LL ++ [L]) := by
  have hsz := h.sz
  have hsz4 := h4.size
  have hl4 := h.ll.below h4
  obtain ⟨ar', cr', hv, hI⟩ := own_form ho
  simp only [Value.slice.injEq, true_and] at hv
  obtain ⟨rfl, rfl⟩ := hv
  have hrb : ∀ q, Value.ownBlock (.slice ar L.length cr) = some q → X.heap.size ≤ q ∧ q < w4.heap.size := fun q hq => ho.lt q hq
  have hvb : ∀ q, v.ownBlock = some q → b0 + 3 ≤ q ∧ q < X.heap.size := fun q hq => h.ll.1.lt q hq
  have hne6 : ∀ q, q < w4.heap.size → v.ownBlock ≠ some q → v6.ownBlock ≠ some q := fun q h1 h2 e => by
    rcases hat with h3 | h3
    · exact h2 (h3.symm.trans e)
    · rw [h3, World.size_alloc] at e; simp only [Option.some.injEq] at e; omega
  have hput := hl4.put (L := L) (ar := ar) (cr := cr) (X := o) hI (fun g off e _ => by
    have := hrb g (by rw [e]; rfl)
    exact ⟨by omega, fun e2 => by have := hvb g e2; omega⟩) (by rw [World.size_alloc]; omega) ho6 hg hat
  have hk46 : KeptBut (fun k => some k = v.ownBlock) w4 w6 := (kept_alloc w4 o _).trans (KeptBut.of_grown hg)
  have hO4 : b0 + 2 < w4.heap.size := by omega
  have hOv : ¬ some (b0 + 2) = v.ownBlock := fun e => by have := hvb _ e.symm; omega
  have e0 := ((hk46.cell (p := ⟨b0 + 2, 0, none⟩) hO4 hOv).trans (h4.cell (p := ⟨b0 + 2, 0, none⟩) (by simp only; omega))).trans h.c0
  have e1 := ((hk46.cell (p := ⟨b0 + 2, 1, none⟩) hO4 hOv).trans (h4.cell (p := ⟨b0 + 2, 1, none⟩) (by simp only; omega))).trans h.c1
  have ef := ((hk46.frozen (p := ⟨b0 + 2, 1, none⟩) hO4 hOv).trans (h4.frozen (p := ⟨b0 + 2, 1, none⟩) (by simp only; omega))).trans h.f1
  have hb6 : Below (b0 + 2) W w6 := ((h.kp.trans (h4.mono (by omega))).alloc (by omega) o).grown hg (by rw [World.size_alloc]; omega) (fun q hq => by have := hvb q hq; omega)
  have hs6 : b0 + 3 ≤ w6.heap.size := by have := hk46.size; omega
  have hkset := kept_set w6 ⟨b0 + 2, 1, none⟩ v6
  refine ⟨⟨e1, ef⟩, hb6, ⟨?_, World.cell?_setCell_same' _ _ _ (by rw [e1]; rfl), by rw [World.frozen?_setCell]; exact ef, hput.kept hkset (fun k hk' _ e => by simp only at e; omega), ?_, hb6.setCell (p := ⟨b0 + 2, 1, none⟩) (Nat.le_refl _) _, by simpa using hs6⟩⟩
  · rw [World.cell?_setCell_other _ _ _ _ (fun e => by have := congrArg Addr.off e; simp at this)]; exact e0
  · refine RowsW.kept (S := fun q => q = b0 + 2) ?_ hkset (fun q hq _ e => by omega)
    intro k hk
    by_cases hlt : k < LL.length
    · obtain ⟨ak, ck, g1, g2, g3⟩ := h.rw k hlt
      have e2 : (LL ++ [L])[k] = LL[k] := List.getElem_append_left hlt
      rw [e2]
      have hul : k < us.length := by rw [h.ll.2.1]; exact hlt
      refine ⟨ak, ck, by rw [List.getElem?_append_left hul]; exact g1, ?_, fun q hq => ⟨?_, fun j hj u hu => ?_⟩⟩
      · refine own_kept (own_below g2 h4) hk46 (fun q hq e => (g3 q hq).1 e.symm)
      · have := (g2.lt q hq).2
        exact hne6 q (by omega) (g3 q hq).1
      · rw [List.getElem?_append_left (by omega)] at hu
        exact (g3 q hq).2 j hj u hu
    · have hkl : k = LL.length := by simp at hk; omega
      subst hkl
      have e2 : (LL ++ [L])[LL.length] = L := by simp
      rw [e2]
      refine ⟨ar, cr, by rw [List.getElem?_append_right (by rw [h.ll.2.1]; exact Nat.le_refl _), h.ll.2.1]; simp, ?_, fun q hq => ⟨?_, fun j hj u hu e => ?_⟩⟩
      · refine own_kept (own_lowerS ho (by omega)) hk46 (fun q hq e => ?_)
        have h1 := hrb q hq
        have h2 := hvb q e.symm
        omega
      · have h1 := hrb q hq
        exact hne6 q h1.2 (fun e => by have := hvb q e; omega)
      · have h1 := hrb q hq
        have hul : j < us.length := by rw [h.ll.2.1]; exact hj
        rw [List.getElem?_append_left hul] at hu
        obtain ⟨aj, cj, g1, g2, _⟩ := h.rw j hj
        rw [g1] at hu
        simp only [Option.some.injEq] at hu
        rw [← hu] at e
        have := (g2.lt q e).2
        omega
/-- What small tells. -/
def SmallTold (k : Int) (Ts : List (List Int)) (w w' : World) (v : Value) : Prop := ∃ a' c' us, v = .agg #[.int .i64 k, .slice a' Ts.length c'] ∧ LLOwn w' w.heap.size (fun q => w.heap.size ≤ q) (.slice a' Ts.length c') us Ts ∧ RowsW w' w.heap.size (.slice a' Ts.length c') us Ts ∧ Below w.heap.size w w'
theorem SmallTold.at {k : Int} {Ts : List (List Int)} {w w' : World} {v : Value} (h : SmallTold k Ts w w' v) : ∃ a' c', v = .agg #[.int .i64 k, .slice a' Ts.length c'] ∧ LLAt w' a' Ts ∧ Below w.heap.size w w' := by
  obtain ⟨a', c', us, hv, hl, _, hb⟩ := h
  obtain ⟨a2, c2, e, _, hat⟩ := hl.at
  simp only [Value.slice.injEq] at e
  rw [← e.1] at hat
  exact ⟨a', c', hv, hat, hb⟩
end Go.Proofs.Ytckcbaegehfkoaa
namespace Go.Proofs.Ytckcbaegehfkoaa
open Go.RowKit Go.Lib

/-- x was seen in set i: the sets ahead of k are done, and of set k the first j. -/
def SeenAt (Ss : List (List Int)) (k j : Nat) (x : Int) (i : Nat) : Prop := (i < k ∧ x ∈ Ss.getD i []) ∨ (i = k ∧ x ∈ (Ss.getD k []).take j)
/-- What is laid so far. -/
structure HomeTo (n : Nat) (Ss : List (List Int)) (k j : Nat) (D : Nat → Int) : Prop where
  is : ∀ x : Nat, x < n → ∀ i : Nat, D x = (i : Int) ↔ SeenAt Ss k j x i
  low : ∀ x : Nat, x < n → D x = -1 ∨ ∃ i : Nat, D x = (i : Int)
theorem HomeTo.row {n k j : Nat} {Ss : List (List Int)} {D : Nat → Int} (h : HomeTo n Ss k j D) (hj : (Ss.getD k []).length ≤ j) : HomeTo n Ss (k + 1) 0 D := by
  refine ⟨fun x hx i => ?_, h.low⟩
  rw [h.is x hx i]
  unfold SeenAt
  rw [List.take_of_length_le hj, List.take_zero]
  constructor
  · rintro (⟨h1, h2⟩ | ⟨rfl, h2⟩)
    · exact Or.inl ⟨by omega, h2⟩
    · exact Or.inl ⟨by omega, h2⟩
  · rintro (⟨h1, h2⟩ | ⟨_, h2⟩)
    · by_cases e : i = k
      · subst e; exact Or.inr ⟨rfl, h2⟩
      · exact Or.inl ⟨by omega, h2⟩
    · cases h2
theorem getD_at {Ss : List (List Int)} {k : Nat} (hk : k < Ss.length) : Ss.getD k [] = Ss[k] := by rw [List.getD_eq_getElem?_getD, List.getElem?_eq_getElem hk]; rfl
theorem HomeTo.put {n k j v : Nat} {Ss : List (List Int)} {D : Nat → Int} (h : HomeTo n Ss k j D) (hk : k < Ss.length) (hj : j < Ss[k].length) (hv : Ss[k][j] = (v : Int)) (hn : D v = -1) : HomeTo n Ss k (j + 1) (fun x => if x = v then (k : Int) else D x) := by
  have hm : ∀ x : Int, x ∈ (Ss.getD k []).take (j + 1) ↔ x ∈ (Ss.getD k []).take j ∨ x = (v : Int) := fun x => by
    rw [getD_at hk, ← List.take_append_getElem hj, List.mem_append, hv]; simp
  refine ⟨fun x hx i => ?_, fun x hx => ?_⟩
  · have hs : SeenAt Ss k (j + 1) x i ↔ SeenAt Ss k j x i ∨ (i = k ∧ x = v) := by
      unfold SeenAt
      rw [hm]
      constructor
      · rintro (h1 | ⟨h1, h2 | h2⟩)
        · exact Or.inl (Or.inl h1)
        · exact Or.inl (Or.inr ⟨h1, h2⟩)
        · exact Or.inr ⟨h1, by omega⟩
      · rintro ((h1 | ⟨h1, h2⟩) | ⟨h1, h2⟩)
        · exact Or.inl h1
        · exact Or.inr ⟨h1, Or.inl h2⟩
        · exact Or.inr ⟨h1, Or.inr (by omega)⟩
    rw [hs, ← h.is x hx i]
    by_cases e : x = v
    · subst e
      simp only [if_true, hn]
      constructor
      · intro h1; exact Or.inr ⟨by omega, trivial⟩
      · rintro (h1 | ⟨h1, _⟩)
        · omega
        · rw [h1]
    · simp only [if_neg e]
      constructor
      · exact Or.inl
      · rintro (h1 | ⟨_, h1⟩)
        · exact h1
        · exact absurd h1 e
  · by_cases e : x = v
    · exact Or.inr ⟨k, by simp only [if_pos e]⟩
    · simp only [if_neg e]; exact h.low x hx
/-- No vertex is in two sets. -/
def ApartS (Ss : List (List Int)) : Prop := ∀ i j, i < j → ∀ x, x ∈ Ss.getD i [] → x ∉ Ss.getD j []
theorem HomeTo.two {n k j v : Nat} {Ss : List (List Int)} {D : Nat → Int} (h : HomeTo n Ss k j D) (hk : k < Ss.length) (hj : j < Ss[k].length) (hv : Ss[k][j] = (v : Int)) (hvn : v < n) (hnd : Ss[k].Nodup) (hn : D v ≠ -1) : ¬ ApartS Ss := fun ha => by
  rcases h.low v hvn with h1 | ⟨i, h1⟩
  · exact hn h1
  · rcases (h.is v hvn i).1 h1 with ⟨h2, h3⟩ | ⟨h2, h3⟩
    · refine ha i k h2 v h3 ?_
      rw [getD_at hk, ← hv]; exact List.getElem_mem hj
    · rw [getD_at hk] at h3
      obtain ⟨q, hq, e⟩ := List.mem_iff_getElem.1 h3
      rw [List.length_take] at hq
      rw [List.getElem_take] at e
      exact List.pairwise_iff_getElem.1 hnd q j (by omega) hj (by omega) (e.trans hv.symm)
theorem HomeTo.wf {n : Nat} {Ss : List (List Int)} {D : Nat → Int} (h : HomeTo n Ss Ss.length 0 D) (hS : Ss.length ≤ 1000) : ∀ x, x < n → (Lit.int .i64 (D x)).wf = true := fun x hx => by
  have hb : -1 ≤ D x ∧ D x < 1000 := by
    rcases h.low x hx with h1 | ⟨i, h1⟩
    · omega
    · rcases (h.is x hx i).1 h1 with ⟨h2, _⟩ | ⟨_, h2⟩
      · omega
      · simp at h2
  exact WalkArith.wf_i64 (by omega)
theorem HomeTo.all {n : Nat} {Ss : List (List Int)} {D : Nat → Int} (h : HomeTo n Ss Ss.length 0 D) (hin : ∀ i, ∀ x ∈ Ss.getD i [], 0 ≤ x ∧ x < (n : Int)) : HomeIs n Ss (fun x => D x.toNat) ∧ ApartS Ss := by
  have key : ∀ x : Nat, x < n → ∀ i : Nat, D x = (i : Int) ↔ i < Ss.length ∧ (x : Int) ∈ Ss.getD i [] := fun x hx i => by
    rw [h.is x hx i]
    unfold SeenAt
    constructor
    · rintro (h1 | ⟨_, h2⟩)
      · exact h1
      · simp at h2
    · exact Or.inl
  refine ⟨fun x h0 h1 i hi => ?_, fun i j hij x hx hy => ?_⟩
  · have := key x.toNat (by omega) i
    rw [Int.toNat_of_nonneg h0] at this
    rw [this]
    exact ⟨fun h => h.2, fun h => ⟨hi, h⟩⟩
  · have ix := hin i x hx
    have e1 := (key x.toNat (by omega) i).2 ⟨mem_getD hx, by rw [Int.toNat_of_nonneg ix.1]; exact hx⟩
    have e2 := (key x.toNat (by omega) j).2 ⟨mem_getD hy, by rw [Int.toNat_of_nonneg ix.1]; exact hy⟩
    omega

end Go.Proofs.Ytckcbaegehfkoaa
namespace Go.Proofs.Ytckcbaegehfkoaa
open Go.RowKit Go.Lib Go.Shelf

/-- A list of rows that may be written. -/
structure RW (w : World) (base : Nat) (v : Value) (us : List Value) (LL : List (List Int)) : Prop where
  own : w.ownsRow base 25 1 v LL.length us
  len : us.length = LL.length
  rows : RowsW w base v us LL
theorem RW.kept {S : Nat → Prop} {w w' : World} {base : Nat} {v : Value} {us : List Value} {LL : List (List Int)} (h : RW w base v us LL) (hk : KeptBut S w w') (hs : ∀ q, base ≤ q → q < w.heap.size → ¬ S q) : RW w' base v us LL :=
  ⟨own_kept h.own hk (fun q hq => hs q (h.own.lt q hq).1 (h.own.lt q hq).2), h.len, h.rows.kept hk hs⟩
theorem RW.below {w w' : World} {base : Nat} {v : Value} {us : List Value} {LL : List (List Int)} (h : RW w base v us LL) (hb : Below w.heap.size w w') : RW w' base v us LL := h.kept (KeptBut.of_whole (fun _ => False) hb) (fun _ _ _ e => e)
/-- Two rows do not lie in one block. -/
theorem RW.ne {w : World} {base : Nat} {v : Value} {us : List Value} {LL : List (List Int)} (h : RW w base v us LL) {i k : Nat} (hi : i < LL.length) (hk : k < LL.length) (hne : i ≠ k) {ui uk : Value} (h1 : us[i]? = some ui) (h2 : us[k]? = some uk) {q : Nat} (hq : ui.ownBlock = some q) : uk.ownBlock ≠ some q := by
  rcases Nat.lt_or_gt_of_ne hne with hlt | hlt
  · intro e
    obtain ⟨ak, ck, g1, _, g3⟩ := h.rows k hk
    rw [h2] at g1
    cases g1
    exact (g3 q e).2 i hlt ui h1 hq
  · obtain ⟨ai, ci, g1, _, g3⟩ := h.rows i hi
    rw [h1] at g1
    cases g1
    exact (g3 q hq).2 k hlt uk h2
theorem RW.lls {w : World} {base : Nat} {a : Option Addr} {c : Nat} {us : List Value} {LL : List (List Int)} (h : RW w base (.slice a LL.length c) us LL) : LLS w a LL := fun h0 => by
  obtain ⟨g, cap', hv', _, hg, _, hcs⟩ := own_row h.own h0
  simp only [Value.slice.injEq, true_and] at hv'
  refine ⟨g, 0, hv'.1, hg, fun j hj => ?_⟩
  obtain ⟨ak, ck, h1, h2, _⟩ := h.rows j hj
  obtain ⟨a3, c3, e3, hs3⟩ := sl_own h2
  simp only [Value.slice.injEq, true_and] at e3
  obtain ⟨rfl, rfl⟩ := e3
  obtain ⟨a4, c4, e4, hI⟩ := iat_own h2
  simp only [Value.slice.injEq, true_and] at e4
  obtain ⟨rfl, rfl⟩ := e4
  exact ⟨ak, ck, by rw [Nat.zero_add]; exact hcs j _ h1, hI, hs3.1, hs3.2.1⟩
theorem lls_llat {w : World} {a : Option Addr} {LL : List (List Int)} (h : LLS w a LL) : LLAt w a LL := fun h0 => by
  obtain ⟨g, off, ha, hg, hc⟩ := h h0
  refine ⟨g, off, ha, hg, fun k hk => ?_⟩
  obtain ⟨ak, ck, h1, h2, _⟩ := hc k hk
  exact ⟨ak, ck, h1, h2⟩
/-- A number of a row is written. -/
theorem RW.cell {w : World} {base : Nat} {v : Value} {us : List Value} {LL : List (List Int)} (h : RW w base v us LL) {i : Nat} (hi : i < LL.length) {q ck : Nat} (hu : us[i]? = some (.slice (some ⟨q, 0, none⟩) LL[i].length ck)) (j : Nat) (y : Int) :
    RW (w.setCell ⟨q, j, none⟩ (.int .i64 y)) base v us (LL.set i (LL[i].set j y)) := by
  have hks := kept_set w ⟨q, j, none⟩ (.int .i64 y)
  obtain ⟨ai, ci, g1, g2, g3⟩ := h.rows i hi
  rw [hu] at g1
  simp only [Option.some.injEq, Value.slice.injEq, true_and] at g1
  obtain ⟨rfl, rfl⟩ := g1
  have hq : Value.ownBlock (.slice (some ⟨q, 0, none⟩) LL[i].length ck) = some q := rfl
  refine ⟨?_, by rw [List.length_set]; exact h.len, fun k hk => ?_⟩
  · rw [List.length_set]
    exact own_kept h.own hks (fun g hg e => (g3 q hq).1 (by rw [hg]; exact congrArg some e))
  · rw [List.length_set] at hk
    by_cases e : i = k
    · subst e
      refine ⟨some ⟨q, 0, none⟩, ck, ?_, ?_, ?_⟩
      · rw [List.getElem_set_self, List.length_set]; exact hu
      · rw [List.getElem_set_self, List.length_set, List.map_set]
        exact (g2.stored j _).1
      · rw [List.getElem_set_self, List.length_set]
        exact g3
    · obtain ⟨ak, ck2, k1, k2, k3⟩ := h.rows k hk
      refine ⟨ak, ck2, ?_, ?_, ?_⟩
      · rw [List.getElem_set_ne e]; exact k1
      · rw [List.getElem_set_ne e]
        exact own_kept k2 hks (fun g hg e2 => h.ne hi hk e hu k1 hq (by rw [hg]; exact congrArg some e2))
      · rw [List.getElem_set_ne e]; exact k3
/-- A row has been made longer: its header is written. -/
theorem RW.turn {X w4 : World} {base gh cap : Nat} {us : List Value} {LL : List (List Int)} (h : RW X base (.slice (some ⟨gh, 0, none⟩) LL.length cap) us LL) {i : Nat} (hi : i < LL.length) {ui : Value} (hu : us[i]? = some ui) {o : Obj} {ar : Option Addr} {cr : Nat} {L : List Int}
    (ho : w4.ownsRow base 3 1 (.slice ar L.length cr) L.length (L.map (Value.int .i64))) (hg : (X.alloc o).grownBy w4 ui.ownBlock) (hat : Value.ownBlock (.slice ar L.length cr) = ui.ownBlock ∨ Value.ownBlock (.slice ar L.length cr) = some (X.alloc o).heap.size) :
    w4.ownsRow base 25 1 (.slice (some ⟨gh, 0, none⟩) LL.length cap) LL.length us ∧ RW (w4.setCell ⟨gh, i, none⟩ (.slice ar L.length cr)) base (.slice (some ⟨gh, 0, none⟩) LL.length cap) (us.set i (.slice ar L.length cr)) (LL.set i L) := by
  have hk4 : KeptBut (fun k => some k = ui.ownBlock) X w4 := (kept_alloc X o _).trans (KeptBut.of_grown hg)
  obtain ⟨ai, ci, g1, g2, g3⟩ := h.rows i hi
  rw [hu] at g1
  simp only [Option.some.injEq] at g1
  subst g1
  have hv : Value.ownBlock (.slice (some ⟨gh, 0, none⟩) LL.length cap) = some gh := rfl
  have hgh := h.own.lt gh hv
  have hown4 : w4.ownsRow base 25 1 (.slice (some ⟨gh, 0, none⟩) LL.length cap) LL.length us := own_kept h.own hk4 (fun g hg e => (g3 g e.symm).1 hg)
  have hks := kept_set w4 ⟨gh, i, none⟩ (.slice ar L.length cr)
  have hnew : ∀ q, Value.ownBlock (.slice ar L.length cr) = some q → q ≠ gh ∧ ∀ k u, k < LL.length → k ≠ i → us[k]? = some u → u.ownBlock ≠ some q := fun q hq => by
    rcases hat with e | e
    · rw [e] at hq
      refine ⟨fun e2 => (g3 q hq).1 (by rw [e2]; rfl), fun k u hk hne hku => h.ne hi hk (fun e3 => hne e3.symm) hu hku hq⟩
    · rw [e, World.size_alloc] at hq
      simp only [Option.some.injEq] at hq
      refine ⟨by omega, fun k u hk _ hku e3 => ?_⟩
      obtain ⟨ak, ck2, k1, k2, _⟩ := h.rows k hk
      rw [hku] at k1
      cases k1
      have := (k2.lt q e3).2
      omega
  refine ⟨hown4, ?_, by rw [List.length_set, List.length_set]; exact h.len, fun k hk => ?_⟩
  · rw [List.length_set]; exact (hown4.stored i _).1
  · rw [List.length_set] at hk
    by_cases e : i = k
    · subst e
      refine ⟨ar, cr, ?_, ?_, ?_⟩
      · rw [List.getElem_set_self, List.getElem?_set_self (by rw [h.len]; exact hk)]
      · rw [List.getElem_set_self]
        exact own_kept ho hks (fun q hq e2 => (hnew q hq).1 e2)
      · rw [List.getElem_set_self]
        intro q hq
        refine ⟨fun e2 => (hnew q hq).1 (by cases e2; rfl), fun j hj u hju => ?_⟩
        rw [List.getElem?_set_ne (by omega)] at hju
        exact (hnew q hq).2 j u (by omega) (by omega) hju
    · obtain ⟨ak, ck2, k1, k2, k3⟩ := h.rows k hk
      refine ⟨ak, ck2, ?_, ?_, ?_⟩
      · rw [List.getElem_set_ne e, List.getElem?_set_ne e]; exact k1
      · rw [List.getElem_set_ne e]
        refine own_kept (own_kept k2 hk4 (fun q hq e2 => h.ne hi hk e hu k1 e2.symm hq)) hks (fun q hq e2 => (k3 q hq).1 ?_)
        rw [show q = gh from e2]; rfl
      · rw [List.getElem_set_ne e]
        intro q hq
        refine ⟨(k3 q hq).1, fun j hj u hju => ?_⟩
        by_cases e2 : i = j
        · subst e2
          rw [List.getElem?_set_self (by rw [h.len]; exact hi)] at hju
          simp only [Option.some.injEq] at hju
          subst hju
          intro e3
          exact (hnew q e3).2 k _ hk (fun e4 => e e4.symm) k1 hq
        · rw [List.getElem?_set_ne e2] at hju
          exact (k3 q hq).2 j hj u hju
end Go.Proofs.Ytckcbaegehfkoaa
namespace Go.Proofs.Ytckcbaegehfkoaa
open Go.RowKit Go.Lib

/-- A row has been made longer: its header is written. -/
theorem RW.turnK {X w4 : World} {base gh cap : Nat} {us : List Value} {LL : List (List Int)} (h : RW X base (.slice (some ⟨gh, 0, none⟩) LL.length cap) us LL) {i : Nat} (hi : i < LL.length) {ui : Value} (hu : us[i]? = some ui) {ar : Option Addr} {cr : Nat} {L : List Int}
    (ho : w4.ownsRow base 3 1 (.slice ar L.length cr) L.length (L.map (Value.int .i64))) (hk4 : KeptBut (fun k => some k = ui.ownBlock) X w4) (hat : Value.ownBlock (.slice ar L.length cr) = ui.ownBlock ∨ ∃ q, Value.ownBlock (.slice ar L.length cr) = some q ∧ X.heap.size ≤ q) :
    w4.ownsRow base 25 1 (.slice (some ⟨gh, 0, none⟩) LL.length cap) LL.length us ∧ RW (w4.setCell ⟨gh, i, none⟩ (.slice ar L.length cr)) base (.slice (some ⟨gh, 0, none⟩) LL.length cap) (us.set i (.slice ar L.length cr)) (LL.set i L) := by
  obtain ⟨ai, ci, g1, g2, g3⟩ := h.rows i hi
  rw [hu] at g1
  simp only [Option.some.injEq] at g1
  subst g1
  have hv : Value.ownBlock (.slice (some ⟨gh, 0, none⟩) LL.length cap) = some gh := rfl
  have hgh := h.own.lt gh hv
  have hown4 : w4.ownsRow base 25 1 (.slice (some ⟨gh, 0, none⟩) LL.length cap) LL.length us := own_kept h.own hk4 (fun g hg e => (g3 g e.symm).1 hg)
  have hks := kept_set w4 ⟨gh, i, none⟩ (.slice ar L.length cr)
  have hnew : ∀ q, Value.ownBlock (.slice ar L.length cr) = some q → q ≠ gh ∧ ∀ k u, k < LL.length → k ≠ i → us[k]? = some u → u.ownBlock ≠ some q := fun q hq => by
    rcases hat with e | ⟨q', e, hq'⟩
    · rw [e] at hq
      refine ⟨fun e2 => (g3 q hq).1 (by rw [e2]; rfl), fun k u hk hne hku => h.ne hi hk (fun e3 => hne e3.symm) hu hku hq⟩
    · rw [e] at hq
      simp only [Option.some.injEq] at hq
      refine ⟨by omega, fun k u hk _ hku e3 => ?_⟩
      obtain ⟨ak, ck2, k1, k2, _⟩ := h.rows k hk
      rw [hku] at k1
      cases k1
      have := (k2.lt q e3).2
      omega
  refine ⟨hown4, ?_, by rw [List.length_set, List.length_set]; exact h.len, fun k hk => ?_⟩
  · rw [List.length_set]; exact (hown4.stored i _).1
  · rw [List.length_set] at hk
    by_cases e : i = k
    · subst e
      refine ⟨ar, cr, ?_, ?_, ?_⟩
      · rw [List.getElem_set_self, List.getElem?_set_self (by rw [h.len]; exact hk)]
      · rw [List.getElem_set_self]
        exact own_kept ho hks (fun q hq e2 => (hnew q hq).1 e2)
      · rw [List.getElem_set_self]
        intro q hq
        refine ⟨fun e2 => (hnew q hq).1 (by cases e2; rfl), fun j hj u hju => ?_⟩
        rw [List.getElem?_set_ne (by omega)] at hju
        exact (hnew q hq).2 j u (by omega) (by omega) hju
    · obtain ⟨ak, ck2, k1, k2, k3⟩ := h.rows k hk
      refine ⟨ak, ck2, ?_, ?_, ?_⟩
      · rw [List.getElem_set_ne e, List.getElem?_set_ne e]; exact k1
      · rw [List.getElem_set_ne e]
        refine own_kept (own_kept k2 hk4 (fun q hq e2 => h.ne hi hk e hu k1 e2.symm hq)) hks (fun q hq e2 => (k3 q hq).1 ?_)
        rw [show q = gh from e2]; rfl
      · rw [List.getElem_set_ne e]
        intro q hq
        refine ⟨(k3 q hq).1, fun j hj u hju => ?_⟩
        by_cases e2 : i = j
        · subst e2
          rw [List.getElem?_set_self (by rw [h.len]; exact hi)] at hju
          simp only [Option.some.injEq] at hju
          subst hju
          intro e3
          exact (hnew q e3).2 k _ hk (fun e4 => e e4.symm) k1 hq
        · rw [List.getElem?_set_ne e2] at hju
          exact (k3 q hq).2 j hj u hju

/-- The sets while they are filled. -/
def modT (kd : Int) (tops : List Int) (paths : List (List Int)) (k : Nat) : List (List Int) :=
  if kd = 1 then (List.range tops.length).map (fun i => tops.getD i 0 :: ((List.range k).filter (fun j => (fromL 1 j).1 == i)).flatMap (fun j => innL (paths.getD j [])))
  else tops.map (fun t => [t]) ++ (paths.take k).map innL
theorem modT_zero (kd : Int) (tops : List Int) (paths : List (List Int)) : modT kd tops paths 0 = tops.map (fun t => [t]) := by
  unfold modT
  split
  · apply List.ext_getElem
    · simp
    · intro i h1 h2
      simp at h1 h2 ⊢
      simp [h1]
  · simp
theorem modT_all (kd : Int) (tops : List Int) (paths : List (List Int)) : modT kd tops paths paths.length = subSets kd tops paths := by
  unfold modT subSets
  split
  · rfl
  · rw [List.take_length]
theorem modT_len (kd : Int) (tops : List Int) (paths : List (List Int)) (k : Nat) (hk : k ≤ paths.length) : (modT kd tops paths k).length = if kd = 1 then tops.length else tops.length + k := by
  unfold modT
  split
  · simp
  · simp; omega
theorem modT_one {tops : List Int} {paths : List (List Int)} {k : Nat} (hk : k < paths.length) (h : (fromL 1 k).1 < (modT 1 tops paths k).length) : modT 1 tops paths (k + 1) = (modT 1 tops paths k).set (fromL 1 k).1 ((modT 1 tops paths k)[(fromL 1 k).1] ++ innL paths[k]) := by
  apply List.ext_getElem
  · rw [List.length_set]
    unfold modT
    simp
  · intro i h1 h2
    rw [List.getElem_set]
    by_cases e : (fromL 1 k).1 = i
    · subst e
      rw [if_pos rfl]
      unfold modT
      simp only [if_true, List.getElem_map, List.getElem_range, List.range_succ, List.filter_append, List.flatMap_append]
      simp [hk]
    · rw [if_neg e]
      unfold modT
      simp only [if_true, List.getElem_map, List.getElem_range, List.range_succ, List.filter_append, List.flatMap_append]
      simp [e]
theorem modT_two {tops : List Int} {paths : List (List Int)} {k : Nat} (hk : k < paths.length) : modT 2 tops paths (k + 1) = modT 2 tops paths k ++ [innL paths[k]] := by
  unfold modT
  rw [if_neg (by decide), if_neg (by decide), ← List.take_append_getElem hk, List.map_append, List.append_assoc]
  rfl
/-- A model that is filled: its variable, its rows to be written. -/
structure MoSt (W2 X : World) (O : Nat) (kd : Int) (v : Value) (us : List Value) (LL : List (List Int)) : Prop where
  c0 : X.cell? ⟨O, 0, none⟩ = some (.int .i64 kd)
  c1 : X.cell? ⟨O, 1, none⟩ = some v
  f1 : X.frozen? ⟨O, 1, none⟩ = false
  rw : RW X (O + 1) v us LL
  bel : Below O W2 X
  sz : O + 1 ≤ X.heap.size
theorem MoSt.below {W2 X X' : World} {O : Nat} {kd : Int} {v : Value} {us : List Value} {LL : List (List Int)} (h : MoSt W2 X O kd v us LL) (hb : Below X.heap.size X X') : MoSt W2 X' O kd v us LL :=
  ⟨(hb.cell (p := ⟨O, 0, none⟩) h.sz).trans h.c0, (hb.cell (p := ⟨O, 1, none⟩) h.sz).trans h.c1, (hb.frozen (p := ⟨O, 1, none⟩) h.sz).trans h.f1, h.rw.below hb, h.bel.trans (hb.mono (by have := h.sz; omega)), Nat.le_trans h.sz hb.size⟩
theorem MoSt.push {W2 X X2 w6 : World} {O : Nat} {kd : Int} {v v6 : Value} {us : List Value} {LL : List (List Int)} (h : MoSt W2 X O kd v us LL) (hb2 : Below X.heap.size X X2) {L : List Int} {ar : Option Addr} {cr : Nat}
    (ho : X2.ownsRow X.heap.size 3 1 (.slice ar L.length cr) L.length (L.map (Value.int .i64))) (ho6 : w6.ownsRow (O + 1) 25 1 v6 (LL.length + 1) (us ++ [.slice ar L.length cr])) (hg : X2.grownBy w6 v.ownBlock) (hat : v6.ownBlock = v.ownBlock ∨ v6.ownBlock = some X2.heap.size) :
    (w6.cell? ⟨O, 1, none⟩ = some v ∧ w6.frozen? ⟨O, 1, none⟩ = false) ∧ MoSt W2 (w6.setCell ⟨O, 1, none⟩ v6) O kd v6 (us ++ [.slice ar L.length cr]) (LL ++ [L]) := by
  have hsz := h.sz
  have hsz2 := hb2.size
  have hk26 : KeptBut (fun k => some k = v.ownBlock) X2 w6 := KeptBut.of_grown hg
  have hkX : KeptBut (fun k => some k = v.ownBlock) X w6 := (KeptBut.of_whole _ hb2).trans hk26
  have hvb : ∀ q, v.ownBlock = some q → O + 1 ≤ q ∧ q < X.heap.size := fun q hq => h.rw.own.lt q hq
  have hrb : ∀ q, Value.ownBlock (.slice ar L.length cr) = some q → X.heap.size ≤ q ∧ q < X2.heap.size := fun q hq => ho.lt q hq
  have hOv : ¬ some O = v.ownBlock := fun e => by have := hvb _ e.symm; omega
  have e0 := (hkX.cell (p := ⟨O, 0, none⟩) hsz hOv).trans h.c0
  have e1 := (hkX.cell (p := ⟨O, 1, none⟩) hsz hOv).trans h.c1
  have ef := (hkX.frozen (p := ⟨O, 1, none⟩) hsz hOv).trans h.f1
  have hne6 : ∀ q, q < X2.heap.size → v.ownBlock ≠ some q → v6.ownBlock ≠ some q := fun q h1 h2 e => by
    rcases hat with h3 | h3
    · exact h2 (h3.symm.trans e)
    · rw [h3] at e; simp only [Option.some.injEq] at e; omega
  have hs6 := hkX.size
  have hks := kept_set w6 ⟨O, 1, none⟩ v6
  have hrw6 : RW w6 (O + 1) v6 (us ++ [.slice ar L.length cr]) (LL ++ [L]) := by
    refine ⟨by rw [List.length_append]; exact ho6, by simp [h.rw.len], fun k hk => ?_⟩
    by_cases hlt : k < LL.length
    · obtain ⟨ak, ck, g1, g2, g3⟩ := h.rw.rows k hlt
      have e2 : (LL ++ [L])[k] = LL[k] := List.getElem_append_left hlt
      rw [e2]
      have hul : k < us.length := by rw [h.rw.len]; exact hlt
      refine ⟨ak, ck, by rw [List.getElem?_append_left hul]; exact g1, own_kept (own_below g2 hb2) hk26 (fun q hq e => (g3 q hq).1 e.symm), fun q hq => ⟨?_, fun j hj u hu => ?_⟩⟩
      · have := (g2.lt q hq).2
        exact hne6 q (by omega) (g3 q hq).1
      · rw [List.getElem?_append_left (by omega)] at hu
        exact (g3 q hq).2 j hj u hu
    · have hkl : k = LL.length := by simp at hk; omega
      subst hkl
      have e2 : (LL ++ [L])[LL.length] = L := by simp
      rw [e2]
      refine ⟨ar, cr, by rw [List.getElem?_append_right (by rw [h.rw.len]; exact Nat.le_refl _), h.rw.len]; simp, ?_, fun q hq => ⟨?_, fun j hj u hu e => ?_⟩⟩
      · refine own_kept (own_lowerS ho (by omega)) hk26 (fun q hq e => ?_)
        have h1 := hrb q hq
        have h2 := hvb q e.symm
        omega
      · have h1 := hrb q hq
        exact hne6 q h1.2 (fun e => by have := hvb q e; omega)
      · have h1 := hrb q hq
        rw [List.getElem?_append_left (by rw [h.rw.len]; exact hj)] at hu
        obtain ⟨aj, cj, g1, g2, _⟩ := h.rw.rows j hj
        rw [g1] at hu
        simp only [Option.some.injEq] at hu
        rw [← hu] at e
        have := (g2.lt q e).2
        omega
  refine ⟨⟨e1, ef⟩, ⟨?_, World.cell?_setCell_same' _ _ _ (by rw [e1]; rfl), by rw [World.frozen?_setCell]; exact ef, hrw6.kept hks (fun q hq _ e => by simp only at e; omega), ?_, by simp; omega⟩⟩
  · rw [World.cell?_setCell_other _ _ _ _ (fun e => by have := congrArg Addr.off e; simp at this)]; exact e0
  · refine ((h.bel.trans (hb2.mono (by omega))).trans (hk26.below (B := O) (by omega) (fun k _ e => by have := hvb k e.symm; omega))).setCell (p := ⟨O, 1, none⟩) (Nat.le_refl _) _
theorem MoSt.turn {W2 X w4 : World} {O gh cap : Nat} {kd : Int} {us : List Value} {LL : List (List Int)} (h : MoSt W2 X O kd (.slice (some ⟨gh, 0, none⟩) LL.length cap) us LL) {i : Nat} (hi : i < LL.length) {ui : Value} (hu : us[i]? = some ui) {ar : Option Addr} {cr : Nat} {L : List Int}
    (ho : w4.ownsRow (O + 1) 3 1 (.slice ar L.length cr) L.length (L.map (Value.int .i64))) (hg : X.grownBy w4 ui.ownBlock) (hat : Value.ownBlock (.slice ar L.length cr) = ui.ownBlock ∨ Value.ownBlock (.slice ar L.length cr) = some X.heap.size) :
    ((w4.cell? ⟨O, 1, none⟩ = some (.slice (some ⟨gh, 0, none⟩) LL.length cap)) ∧ w4.cell? ⟨gh, i, none⟩ = some ui ∧ w4.frozen? ⟨gh, i, none⟩ = false) ∧ MoSt W2 (w4.setCell ⟨gh, i, none⟩ (.slice ar L.length cr)) O kd (.slice (some ⟨gh, 0, none⟩) LL.length cap) (us.set i (.slice ar L.length cr)) (LL.set i L) := by
  have hk4 : KeptBut (fun k => some k = ui.ownBlock) X w4 := KeptBut.of_grown hg
  obtain ⟨h1, h2⟩ := h.rw.turnK hi hu ho hk4 (hat.imp id (fun e => ⟨_, e, Nat.le_refl _⟩))
  obtain ⟨ai, ci, g1, g2, g3⟩ := h.rw.rows i hi
  rw [hu] at g1
  simp only [Option.some.injEq] at g1
  have hgh := h.rw.own.lt gh rfl
  have hO : ¬ some O = ui.ownBlock := fun e => by
    rw [g1] at e
    have := (g2.lt O e.symm).1
    omega
  have e0 := (hk4.cell (p := ⟨O, 0, none⟩) h.sz hO).trans h.c0
  have e1 := (hk4.cell (p := ⟨O, 1, none⟩) h.sz hO).trans h.c1
  have ef := (hk4.frozen (p := ⟨O, 1, none⟩) h.sz hO).trans h.f1
  have hs := hk4.size
  have hsz := h.sz
  refine ⟨⟨e1, (h1.cellAt i (by omega)).trans hu, h1.frozenAt i⟩, ?_, ?_, by rw [World.frozen?_setCell]; exact ef, h2, ?_, by simp; omega⟩
  · rw [World.cell?_setCell_other _ _ _ _ (fun e => by have := congrArg Addr.block e; simp at this; omega)]; exact e0
  · rw [World.cell?_setCell_other _ _ _ _ (fun e => by have := congrArg Addr.block e; simp at this; omega)]; exact e1
  · refine (h.bel.trans (hk4.below (B := O) (by omega) (fun k _ e => ?_))).setCell (p := ⟨gh, i, none⟩) (by show O ≤ gh; omega) _
    rw [g1] at e
    have := (g2.lt k e.symm).1
    omega
set_option maxHeartbeats 2000000 in
set_option maxRecDepth 100000 in
theorem tpat_new (k : Int) (w : World) :
    Calls Try.prog 35 #[.int .i64 k] w fun e w' => ∃ a c, e = .returned (.tuple #[.int .i64 (topN k : Nat), .slice a (prL k).length c]) ∧ EAt w' a (prL k) ∧ (∀ g off, a = some ⟨g, off, none⟩ → w.heap.size ≤ g) ∧ Below w.heap.size w w' := by
  by_cases h1 : k = 1
  · subst h1
    have HE := hid (eat_newT w (prL 1) #[.int .i64 0, .int .i64 1, .int .i64 0, .int .i64 2, .int .i64 0, .int .i64 3, .int .i64 1, .int .i64 2, .int .i64 1, .int .i64 3, .int .i64 2, .int .i64 3] 66 rfl)
    have HB := hid (below_one w (.cells #[.int .i64 0, .int .i64 1, .int .i64 0, .int .i64 2, .int .i64 0, .int .i64 3, .int .i64 1, .int .i64 2, .int .i64 1, .int .i64 3, .int .i64 2, .int .i64 3] 66))
    go_enter Try.func35, Try.ntmps35
    go_wp2
    go_ret2
    exact ⟨some ⟨w.heap.size, 0, none⟩, 6, rfl, HE.out, (fun g off e => by cases e; exact Nat.le_refl _), HB.out⟩
  · have b1 : (k == 1) = false := by simp [h1]
    by_cases h2 : k = 2
    · subst h2
      have HE := hid (eat_newT w (prL 2) #[.int .i64 0, .int .i64 1, .int .i64 0, .int .i64 1, .int .i64 0, .int .i64 1] 66 rfl)
      have HB := hid (below_one w (.cells #[.int .i64 0, .int .i64 1, .int .i64 0, .int .i64 1, .int .i64 0, .int .i64 1] 66))
      go_enter Try.func35, Try.ntmps35
      go_wp2
      go_ret2
      exact ⟨some ⟨w.heap.size, 0, none⟩, 3, rfl, HE.out, (fun g off e => by cases e; exact Nat.le_refl _), HB.out⟩
    · have b2 : (k == 2) = false := by simp [h2]
      have e1 : topN k = 0 := by unfold topN; rw [if_neg h1, if_neg h2]
      have e2 : prL k = [] := by unfold prL; rw [if_neg h1, if_neg h2]
      rw [e1, e2]
      go_enter Try.func35, Try.ntmps35
      go_wp2
      go_ret2
      exact ⟨none, 0, rfl, eat_nil _ _, (fun g off e => by cases e), Below.refl _ _⟩

/-- A block that is none of the rows'. -/
def NoBl (g : Nat) (v : Value) (us : List Value) : Prop := v.ownBlock ≠ some g ∧ ∀ u ∈ us, u.ownBlock ≠ some g
theorem EAt.keptY {S : Nat → Prop} {w w' : World} {g o : Nat} {es : List (Int × Int)} (h : EAt w (some ⟨g, o, none⟩) es) (hk : KeptBut S w w') (hs : ¬ S g) : EAt w' (some ⟨g, o, none⟩) es := fun h0 => by
  obtain ⟨g', o', e, hg, hc⟩ := h h0
  cases e
  exact ⟨g, o, rfl, Nat.lt_of_lt_of_le hg hk.size, fun k hk' => ⟨(hk.cell (p := ⟨g, o + k * 2, none⟩) hg hs).trans (hc k hk').1, (hk.cell (p := ⟨g, o + k * 2 + 1, none⟩) hg hs).trans (hc k hk').2⟩⟩
theorem NoBl.start {X : World} {base g : Nat} {v : Value} {us : List Value} {LL : List (List Int)} (h : RW X base v us LL) (hg : X.heap.size ≤ g) : NoBl g v us := by
  refine ⟨fun e => ?_, fun u hu e => ?_⟩
  · have := (h.own.lt g e).2; omega
  · obtain ⟨k, hk, rfl⟩ := List.getElem_of_mem hu
    obtain ⟨ak, ck, h1, h2, _⟩ := h.rows k (by rw [← h.len]; exact hk)
    rw [List.getElem?_eq_getElem hk] at h1
    rw [Option.some.inj h1] at e
    have := (h2.lt g e).2
    omega
theorem flatMap_len {l : List Nat} {f : Nat → List Int} {B : Nat} (h : ∀ x ∈ l, (f x).length ≤ B) : (l.flatMap f).length ≤ l.length * B := by
  induction l with
  | nil => simp
  | cons x l ih =>
    have h1 := h x (by simp)
    have h2 := ih (fun y hy => h y (List.mem_cons_of_mem _ hy))
    rw [List.flatMap_cons, List.length_append, List.length_cons, Nat.succ_mul]
    omega
theorem innL_len (p : List Int) : (innL p).length ≤ p.length := by unfold innL; rw [List.length_dropLast, List.length_drop]; omega
theorem modT_row {tops : List Int} {paths : List (List Int)} {k i : Nat} (hk : k ≤ 6) (hPl : ∀ L ∈ paths, L.length ≤ 1000000) (h : i < (modT 1 tops paths k).length) : (modT 1 tops paths k)[i].length ≤ 6000001 := by
  have h1 : ((modT 1 tops paths k)[i]'h) = tops.getD i 0 :: ((List.range k).filter (fun j => (fromL 1 j).1 == i)).flatMap (fun j => innL (paths.getD j [])) := by
    unfold modT
    simp
  rw [h1, List.length_cons]
  have h2 := flatMap_len (l := (List.range k).filter (fun j => (fromL 1 j).1 == i)) (f := fun j => innL (paths.getD j [])) (B := 1000000) (fun x _ => by
    refine Nat.le_trans (innL_len _) ?_
    by_cases hx : x < paths.length
    · simp [hx]; exact hPl _ (List.getElem_mem hx)
    · simp [hx])
  have h3 : ((List.range k).filter (fun j => (fromL 1 j).1 == i)).length ≤ 6 := by
    refine Nat.le_trans (List.length_filter_le _ _) ?_
    rw [List.length_range]; exact hk
  have h4 : ((List.range k).filter (fun j => (fromL 1 j).1 == i)).length * 1000000 ≤ 6 * 1000000 := Nat.mul_le_mul_right _ h3
  omega
theorem NoBl.set {g i : Nat} {v x : Value} {us : List Value} (h : NoBl g v us) (hx : x.ownBlock ≠ some g) : NoBl g v (us.set i x) := ⟨h.1, fun u hu => by
  rcases List.mem_or_eq_of_mem_set hu with h1 | h1
  · exact h.2 u h1
  · rw [h1]; exact hx⟩
end Go.Proofs.Ytckcbaegehfkoaa
