/-
  A model cut small, as the laws of layer 8 begin: six sets of twenty numbers, in rows of their own.
  The program's homes: of each vertex the set that it is in.
  Rows that may be written: the headers in one block, each row in a block of its own (layer 8).
-/
import Derived.Test.YtckcbaegehfkoaaB24
import Derived.Test.YtckcbaegehfkoaaB05
import Derived.Test.YtckcbaegehfkoaaB12
import Derived.Test.YtckcbaegehfkoaaB08
namespace Go.Proofs.Ytckcbaegehfkoaa
open Go.RowKit Go.Lib Go.Shelf

/-- Rows that may be written, each in a block of its own. -/
def RowsW (w : World) (base : Nat) (v : Value) (us : List Value) (LL : List (List Int)) : Prop := ∀ k (hk : k < LL.length), ∃ ak ck, us[k]? = some (.slice ak LL[k].length ck) ∧ w.ownsRow base 3 1 (.slice ak LL[k].length ck) LL[k].length (LL[k].map (Value.int .i64)) ∧ (∀ q, Value.ownBlock (.slice ak LL[k].length ck) = some q → v.ownBlock ≠ some q ∧ ∀ j, j < k → ∀ u, us[j]? = some u → u.ownBlock ≠ some q)
theorem RowsW.kept {S : Nat → Prop} {w w' : World} {base : Nat} {v : Value} {us : List Value} {LL : List (List Int)} (h : RowsW w base v us LL) (hk : KeptBut S w w') (hs : ∀ q, base ≤ q → q < w.heap.size → ¬ S q) : RowsW w' base v us LL := fun k hk' => by
  obtain ⟨ak, ck, h1, h2, h3⟩ := h k hk'
  exact ⟨ak, ck, h1, own_kept h2 hk (fun q hq => hs q (h2.lt q hq).1 (h2.lt q hq).2), h3⟩
theorem own_lowerS {w : World} {B B' : Nat} {e : TypeId} {size n : Nat} {v : Value} {xs : List Value} (h : w.ownsRow B e size v n xs) (hB : B' ≤ B) : w.ownsRow B' e size v n xs := by
  refine ⟨h.1, ?_⟩
  rcases h.2 with h1 | ⟨g, cap, cur, h1, h2, h3⟩
  · exact Or.inl h1
  · exact Or.inr ⟨g, cap, cur, h1, Nat.le_trans hB h2, h3⟩
theorem RowsW.lower {w : World} {B B' : Nat} {v : Value} {us : List Value} {LL : List (List Int)} (h : RowsW w B v us LL) (hB : B' ≤ B) : RowsW w B' v us LL := fun k hk => by
  obtain ⟨ak, ck, h1, h2, h3⟩ := h k hk
  exact ⟨ak, ck, h1, own_lowerS h2 hB, h3⟩
/-- While the sets are cut. -/
structure SmSt (W X : World) (b0 : Nat) (kk : Int) (v : Value) (us : List Value) (LL : List (List Int)) : Prop where
  c0 : X.cell? ⟨b0 + 2, 0, none⟩ = some (.int .i64 kk)
  c1 : X.cell? ⟨b0 + 2, 1, none⟩ = some v
  f1 : X.frozen? ⟨b0 + 2, 1, none⟩ = false
  ll : LLOwn X (b0 + 3) (fun q => b0 + 3 ≤ q) v us LL
  rw : RowsW X (b0 + 3) v us LL
  kp : Below (b0 + 2) W X
  sz : b0 + 3 ≤ X.heap.size
theorem SmSt.drew {W X : World} {b0 : Nat} {kk : Int} {v : Value} {us : List Value} {LL : List (List Int)} (h : SmSt W X b0 kk v us LL) : SmSt W X.drew b0 kk v us LL :=
  ⟨h.c0, h.c1, h.f1, h.ll.below (Below.refl _ _).drew, h.rw.kept (KeptBut.of_whole (fun _ => False) ((Below.refl _ _).drew)) (fun _ _ _ e => e), h.kp.drew, h.sz⟩
theorem SmSt.put {W X w4 w6 : World} {b0 : Nat} {kk : Int} {v v6 : Value} {us : List Value} {LL : List (List Int)} (h : SmSt W X b0 kk v us LL) {L : List Int} {ar : Option Addr} {cr : Nat} {o : Obj} (h4 : Below X.heap.size X w4)
    (ho : w4.ownsRow X.heap.size 3 1 (.slice ar L.length cr) L.length (L.map (Value.int .i64))) (ho6 : w6.ownsRow (b0 + 3) 25 1 v6 (LL.length + 1) (us ++ [.slice ar L.length cr])) (hg : (w4.alloc o).grownBy w6 v.ownBlock) (hat : v6.ownBlock = v.ownBlock ∨ v6.ownBlock = some (w4.alloc o).heap.size) :
    (w6.cell? ⟨b0 + 2, 1, none⟩ = some v ∧ w6.frozen? ⟨b0 + 2, 1, none⟩ = false) ∧ Below (b0 + 2) W w6 ∧ SmSt W (w6.setCell ⟨b0 + 2, 1, none⟩ v6) b0 kk v6 (us ++ [.slice ar L.length cr]) (LL ++ [L]) := by
  have hsz := h.sz
  have hsz4 := h4.size
  have hl4 := h.ll.below h4
  obtain ⟨ar', cr', hv, hI⟩ := own_form ho
  simp only [Value.slice.injEq, true_and] at hv
  obtain ⟨rfl, rfl⟩ := hv
  have hrb : ∀ q, Value.ownBlock (.slice ar L.length cr) = some q → X.heap.size ≤ q ∧ q < w4.heap.size := fun q hq => ho.lt q hq
  have hvb : ∀ q, v.ownBlock = some q → b0 + 3 ≤ q ∧ q < X.heap.size := fun q hq => h.ll.1.lt q hq
  have hne6 : ∀ q, q < w4.heap.size → v.ownBlock ≠ some q → v6.ownBlock ≠ some q := fun q h1 h2 e => by
    rcases hat with h3 | h3
    · exact h2 (h3.symm.trans e)
    · rw [h3, World.size_alloc] at e; simp only [Option.some.injEq] at e; omega
  have hput := hl4.put (L := L) (ar := ar) (cr := cr) (X := o) hI (fun g off e _ => by
    have := hrb g (by rw [e]; rfl)
    exact ⟨by omega, fun e2 => by have := hvb g e2; omega⟩) (by rw [World.size_alloc]; omega) ho6 hg hat
  have hk46 : KeptBut (fun k => some k = v.ownBlock) w4 w6 := (kept_alloc w4 o _).trans (KeptBut.of_grown hg)
  have hO4 : b0 + 2 < w4.heap.size := by omega
  have hOv : ¬ some (b0 + 2) = v.ownBlock := fun e => by have := hvb _ e.symm; omega
  have e0 := ((hk46.cell (p := ⟨b0 + 2, 0, none⟩) hO4 hOv).trans (h4.cell (p := ⟨b0 + 2, 0, none⟩) (by simp only; omega))).trans h.c0
  have e1 := ((hk46.cell (p := ⟨b0 + 2, 1, none⟩) hO4 hOv).trans (h4.cell (p := ⟨b0 + 2, 1, none⟩) (by simp only; omega))).trans h.c1
  have ef := ((hk46.frozen (p := ⟨b0 + 2, 1, none⟩) hO4 hOv).trans (h4.frozen (p := ⟨b0 + 2, 1, none⟩) (by simp only; omega))).trans h.f1
  have hb6 : Below (b0 + 2) W w6 := ((h.kp.trans (h4.mono (by omega))).alloc (by omega) o).grown hg (by rw [World.size_alloc]; omega) (fun q hq => by have := hvb q hq; omega)
  have hs6 : b0 + 3 ≤ w6.heap.size := by have := hk46.size; omega
  have hkset := kept_set w6 ⟨b0 + 2, 1, none⟩ v6
  refine ⟨⟨e1, ef⟩, hb6, ⟨?_, World.cell?_setCell_same' _ _ _ (by rw [e1]; rfl), by rw [World.frozen?_setCell]; exact ef, hput.kept hkset (fun k hk' _ e => by simp only at e; omega), ?_, hb6.setCell (p := ⟨b0 + 2, 1, none⟩) (Nat.le_refl _) _, by simpa using hs6⟩⟩
  · rw [World.cell?_setCell_other _ _ _ _ (fun e => by have := congrArg Addr.off e; simp at this)]; exact e0
  · refine RowsW.kept (S := fun q => q = b0 + 2) ?_ hkset (fun q hq _ e => by omega)
    intro k hk
    by_cases hlt : k < LL.length
    · obtain ⟨ak, ck, g1, g2, g3⟩ := h.rw k hlt
      have e2 : (LL ++ [L])[k] = LL[k] := List.getElem_append_left hlt
      rw [e2]
      have hul : k < us.length := by rw [h.ll.2.1]; exact hlt
      refine ⟨ak, ck, by rw [List.getElem?_append_left hul]; exact g1, ?_, fun q hq => ⟨?_, fun j hj u hu => ?_⟩⟩
      · refine own_kept (own_below g2 h4) hk46 (fun q hq e => (g3 q hq).1 e.symm)
      · have := (g2.lt q hq).2
        exact hne6 q (by omega) (g3 q hq).1
      · rw [List.getElem?_append_left (by omega)] at hu
        exact (g3 q hq).2 j hj u hu
    · have hkl : k = LL.length := by simp at hk; omega
      subst hkl
      have e2 : (LL ++ [L])[LL.length] = L := by simp
      rw [e2]
      refine ⟨ar, cr, by rw [List.getElem?_append_right (by rw [h.ll.2.1]; exact Nat.le_refl _), h.ll.2.1]; simp, ?_, fun q hq => ⟨?_, fun j hj u hu e => ?_⟩⟩
      · refine own_kept (own_lowerS ho (by omega)) hk46 (fun q hq e => ?_)
        have h1 := hrb q hq
        have h2 := hvb q e.symm
        omega
      · have h1 := hrb q hq
        exact hne6 q h1.2 (fun e => by have := hvb q e; omega)
      · have h1 := hrb q hq
        have hul : j < us.length := by rw [h.ll.2.1]; exact hj
        rw [List.getElem?_append_left hul] at hu
        obtain ⟨aj, cj, g1, g2, _⟩ := h.rw j hj
        rw [g1] at hu
        simp only [Option.some.injEq] at hu
        rw [← hu] at e
        have := (g2.lt q e).2
        omega
/-- What small tells. -/
def SmallTold (k : Int) (Ts : List (List Int)) (w w' : World) (v : Value) : Prop := ∃ a' c' us, v = .agg #[.int .i64 k, .slice a' Ts.length c'] ∧ LLOwn w' w.heap.size (fun q => w.heap.size ≤ q) (.slice a' Ts.length c') us Ts ∧ RowsW w' w.heap.size (.slice a' Ts.length c') us Ts ∧ Below w.heap.size w w'
theorem SmallTold.at {k : Int} {Ts : List (List Int)} {w w' : World} {v : Value} (h : SmallTold k Ts w w' v) : ∃ a' c', v = .agg #[.int .i64 k, .slice a' Ts.length c'] ∧ LLAt w' a' Ts ∧ Below w.heap.size w w' := by
  obtain ⟨a', c', us, hv, hl, _, hb⟩ := h
  obtain ⟨a2, c2, e, _, hat⟩ := hl.at
  simp only [Value.slice.injEq] at e
  rw [← e.1] at hat
  exact ⟨a', c', hv, hat, hb⟩
theorem iat_take6 {w : World} {a : Option Addr} {xs : List Int} (h : IAt w a xs) (k : Nat) : IAt w a (xs.take k) := fun h0 => by
  rw [List.length_take] at h0
  obtain ⟨g, off, ha, hg, hc⟩ := h (by omega)
  refine ⟨g, off, ha, hg, fun j hj => ?_⟩
  rw [List.length_take] at hj
  rw [List.getElem_take]
  exact hc j (by omega)

end Go.Proofs.Ytckcbaegehfkoaa
namespace Go.Proofs.Ytckcbaegehfkoaa
open Go.RowKit Go.Lib

/-- x was seen in set i: the sets ahead of k are done, and of set k the first j. -/
def SeenAt (Ss : List (List Int)) (k j : Nat) (x : Int) (i : Nat) : Prop := (i < k ∧ x ∈ Ss.getD i []) ∨ (i = k ∧ x ∈ (Ss.getD k []).take j)
/-- What is laid so far. -/
structure HomeTo (n : Nat) (Ss : List (List Int)) (k j : Nat) (D : Nat → Int) : Prop where
  is : ∀ x : Nat, x < n → ∀ i : Nat, D x = (i : Int) ↔ SeenAt Ss k j x i
  low : ∀ x : Nat, x < n → D x = -1 ∨ ∃ i : Nat, D x = (i : Int)
theorem home_zero (n : Nat) (Ss : List (List Int)) : HomeTo n Ss 0 0 (fun _ => -1) :=
  ⟨fun x _ i => ⟨fun h => by omega, fun h => by rcases h with ⟨h, _⟩ | ⟨_, h⟩; (· omega); (· simp at h)⟩, fun _ _ => Or.inl rfl⟩
theorem HomeTo.row {n k j : Nat} {Ss : List (List Int)} {D : Nat → Int} (h : HomeTo n Ss k j D) (hj : (Ss.getD k []).length ≤ j) : HomeTo n Ss (k + 1) 0 D := by
  refine ⟨fun x hx i => ?_, h.low⟩
  rw [h.is x hx i]
  unfold SeenAt
  rw [List.take_of_length_le hj, List.take_zero]
  constructor
  · rintro (⟨h1, h2⟩ | ⟨rfl, h2⟩)
    · exact Or.inl ⟨by omega, h2⟩
    · exact Or.inl ⟨by omega, h2⟩
  · rintro (⟨h1, h2⟩ | ⟨_, h2⟩)
    · by_cases e : i = k
      · subst e; exact Or.inr ⟨rfl, h2⟩
      · exact Or.inl ⟨by omega, h2⟩
    · cases h2
theorem getD_at {Ss : List (List Int)} {k : Nat} (hk : k < Ss.length) : Ss.getD k [] = Ss[k] := by rw [List.getD_eq_getElem?_getD, List.getElem?_eq_getElem hk]; rfl
theorem HomeTo.put {n k j v : Nat} {Ss : List (List Int)} {D : Nat → Int} (h : HomeTo n Ss k j D) (hk : k < Ss.length) (hj : j < Ss[k].length) (hv : Ss[k][j] = (v : Int)) (hn : D v = -1) : HomeTo n Ss k (j + 1) (fun x => if x = v then (k : Int) else D x) := by
  have hm : ∀ x : Int, x ∈ (Ss.getD k []).take (j + 1) ↔ x ∈ (Ss.getD k []).take j ∨ x = (v : Int) := fun x => by
    rw [getD_at hk, ← List.take_append_getElem hj, List.mem_append, hv]; simp
  refine ⟨fun x hx i => ?_, fun x hx => ?_⟩
  · have hs : SeenAt Ss k (j + 1) x i ↔ SeenAt Ss k j x i ∨ (i = k ∧ x = v) := by
      unfold SeenAt
      rw [hm]
      constructor
      · rintro (h1 | ⟨h1, h2 | h2⟩)
        · exact Or.inl (Or.inl h1)
        · exact Or.inl (Or.inr ⟨h1, h2⟩)
        · exact Or.inr ⟨h1, by omega⟩
      · rintro ((h1 | ⟨h1, h2⟩) | ⟨h1, h2⟩)
        · exact Or.inl h1
        · exact Or.inr ⟨h1, Or.inl h2⟩
        · exact Or.inr ⟨h1, Or.inr (by omega)⟩
    rw [hs, ← h.is x hx i]
    by_cases e : x = v
    · subst e
      simp only [if_true, hn]
      constructor
      · intro h1; exact Or.inr ⟨by omega, trivial⟩
      · rintro (h1 | ⟨h1, _⟩)
        · omega
        · rw [h1]
    · simp only [if_neg e]
      constructor
      · exact Or.inl
      · rintro (h1 | ⟨_, h1⟩)
        · exact h1
        · exact absurd h1 e
  · by_cases e : x = v
    · exact Or.inr ⟨k, by simp only [if_pos e]⟩
    · simp only [if_neg e]; exact h.low x hx
/-- No vertex is in two sets. -/
def ApartS (Ss : List (List Int)) : Prop := ∀ i j, i < j → ∀ x, x ∈ Ss.getD i [] → x ∉ Ss.getD j []
theorem HomeTo.two {n k j v : Nat} {Ss : List (List Int)} {D : Nat → Int} (h : HomeTo n Ss k j D) (hk : k < Ss.length) (hj : j < Ss[k].length) (hv : Ss[k][j] = (v : Int)) (hvn : v < n) (hnd : Ss[k].Nodup) (hn : D v ≠ -1) : ¬ ApartS Ss := fun ha => by
  rcases h.low v hvn with h1 | ⟨i, h1⟩
  · exact hn h1
  · rcases (h.is v hvn i).1 h1 with ⟨h2, h3⟩ | ⟨h2, h3⟩
    · refine ha i k h2 v h3 ?_
      rw [getD_at hk, ← hv]; exact List.getElem_mem hj
    · rw [getD_at hk] at h3
      obtain ⟨q, hq, e⟩ := List.mem_iff_getElem.1 h3
      rw [List.length_take] at hq
      rw [List.getElem_take] at e
      exact List.pairwise_iff_getElem.1 hnd q j (by omega) hj (by omega) (e.trans hv.symm)
theorem HomeTo.wf {n : Nat} {Ss : List (List Int)} {D : Nat → Int} (h : HomeTo n Ss Ss.length 0 D) (hS : Ss.length ≤ 1000) : ∀ x, x < n → (Lit.int .i64 (D x)).wf = true := fun x hx => by
  have hb : -1 ≤ D x ∧ D x < 1000 := by
    rcases h.low x hx with h1 | ⟨i, h1⟩
    · omega
    · rcases (h.is x hx i).1 h1 with ⟨h2, _⟩ | ⟨_, h2⟩
      · omega
      · simp at h2
  exact WalkArith.wf_i64 (by omega)
theorem HomeTo.all {n : Nat} {Ss : List (List Int)} {D : Nat → Int} (h : HomeTo n Ss Ss.length 0 D) (hin : ∀ i, ∀ x ∈ Ss.getD i [], 0 ≤ x ∧ x < (n : Int)) : HomeIs n Ss (fun x => D x.toNat) ∧ ApartS Ss := by
  have key : ∀ x : Nat, x < n → ∀ i : Nat, D x = (i : Int) ↔ i < Ss.length ∧ (x : Int) ∈ Ss.getD i [] := fun x hx i => by
    rw [h.is x hx i]
    unfold SeenAt
    constructor
    · rintro (h1 | ⟨_, h2⟩)
      · exact h1
      · simp at h2
    · exact Or.inl
  refine ⟨fun x h0 h1 i hi => ?_, fun i j hij x hx hy => ?_⟩
  · have := key x.toNat (by omega) i
    rw [Int.toNat_of_nonneg h0] at this
    rw [this]
    exact ⟨fun h => h.2, fun h => ⟨hi, h⟩⟩
  · have ix := hin i x hx
    have e1 := (key x.toNat (by omega) i).2 ⟨mem_getD hx, by rw [Int.toNat_of_nonneg ix.1]; exact hx⟩
    have e2 := (key x.toNat (by omega) j).2 ⟨mem_getD hy, by rw [Int.toNat_of_nonneg ix.1]; exact hy⟩
    omega

set_option maxHeartbeats 4000000 in
set_option maxRecDepth 100000 in
theorem homes_any (n : Nat) (a : Option Addr) (cap : Nat) (Ss : List (List Int)) (w : World) (hn : n ≤ 1000) (hS : Ss.length ≤ 1000) (hL : LLAt w a Ss) (hin : ∀ i, ∀ x ∈ Ss.getD i [], 0 ≤ x ∧ x < (n : Int)) (hnd : ∀ S ∈ Ss, S.Nodup) :
    Calls Try.prog 57 #[.int .i64 n, .slice a Ss.length cap] w fun e w' => ((∃ g D, e = .returned (.tuple #[.slice (some ⟨g, 0, none⟩) n n, .bool true]) ∧ Row1 w' g n D ∧ w.heap.size ≤ g ∧ HomeIs n Ss (fun x => D x.toNat) ∧ ApartS Ss ∧ ∀ x, x < n → (Lit.int .i64 (D x)).wf = true) ∨ (e = .returned (.tuple #[.slice none 0 0, .bool false]) ∧ ¬ ApartS Ss)) ∧ Below w.heap.size w w' := by
  have HL0 := hid hL
  have HIN := hid hin
  have HND := hid hnd
  obtain ⟨M, hM⟩ := ex_eq Ss.length
  have HM := hid hM
  obtain ⟨W1, hW1⟩ := ex_eq (w.alloc (.cells #[.int .i64 (-1)] 3))
  have hb1 : Below w.heap.size w W1 := by rw [hW1]; exact (Below.refl _ _).alloc (Nat.le_refl _) _
  have hs1 : W1.heap.size = w.heap.size + 1 := by rw [hW1]; simp
  have CR := hid (rep_int w.heap.size 0 1 (-1) n W1 hn (by rw [hW1, cell_of_heap (heap_alloc_new w _)]; rfl))
  have HW1 := hid hW1
  have HB1 := hid hb1
  have hlen : ∀ k, k < Ss.length → (Ss.getD k []).length ≤ 1000 := fun k hk => by
    have h1 := hnd _ (getD_mem hk)
    have := len_le_subI h1 (b := (List.range n).map (fun i : Nat => (i : Int))) (fun x hx => by
      have := hin k x hx
      exact List.mem_map.2 ⟨x.toNat, by rw [List.mem_range]; omega, by omega⟩)
    rw [List.length_map, List.length_range] at this
    omega
  have HLEN := hid hlen
  rw [← hM] at hS ⊢
  clear hL hin hnd hM hW1 hb1 hlen
  go_enter Try.func57, Try.ntmps57
  go_wp2_with fail
  rw [← HW1.out]
  refine CR.out.mono ?_
  rintro e w2 ⟨g, rfl, hg, hrow, hb2⟩
  have hgw : w.heap.size ≤ g := by omega
  have hbw2 : Below w.heap.size w w2 := HB1.out.trans (hb2.mono HB1.out.size)
  have HRW := hid hrow
  have HB2 := hid hbw2
  clear CR hrow hb2 hbw2 hs1
  go_wp2
  go_loopw [16] (fun i wz => ∃ k : Nat, k ≤ M ∧ i = .int .i64 k ∧ Hid (∃ D, Row1 wz g n D ∧ HomeTo n Ss k 0 D) ∧ Hid (Below w.heap.size w wz)) (fun i _ => M - (RowKit.intOf i).toNat)
  case atStart => exact ⟨0, Nat.zero_le _, rfl, ⟨_, HRW.out, home_zero n Ss⟩, HB2.out⟩
  case round =>
    clear HRW HB2
    obtain ⟨k, hk, rfl, hD, hb⟩ := hrel
    by_cases hlt : k < M
    · have hkr : k < Ss.length := by rw [← HM.out]; exact hlt
      obtain ⟨ga, off, ak, ck, rfl, c00, hI0⟩ := HL0.out.at hkr
      have c0 := (hb.out.cell (p := ⟨ga, off + k, none⟩) (block_lt_of_cell c00)).trans c00
      have hgk : Ss.getD k [] = Ss[k] := getD_at hkr
      obtain ⟨J, hJ⟩ := ex_eq Ss[k].length
      have hJl : J ≤ 1000 := by rw [hJ, ← hgk]; exact HLEN.out k hkr
      rw [← hJ] at c0
      have HIX : Hid (∀ X, Below w.heap.size w X → IAt X ak Ss[k]) := fun X hX => hI0.below hX
      have HJ : Hid (J = Ss[k].length) := hJ
      have q1 : (k : Int) < (M : Int) := by omega
      have HGK := hid hgk
      clear hJ hI0 c00 hgk
      go_wp2
      clear c0
      go_loopw [23] (fun i wz => ∃ j : Nat, j ≤ J ∧ i = .int .i64 j ∧ Hid (∃ D, Row1 wz g n D ∧ HomeTo n Ss k j D) ∧ Hid (Below w.heap.size w wz)) (fun i _ => J - (RowKit.intOf i).toNat)
      case atStart => exact ⟨0, Nat.zero_le _, rfl, hD, hb⟩
      case round =>
        clear hD hb
        obtain ⟨j, hj, rfl, hD, hb⟩ := hrel
        by_cases hlj : j < J
        · have hjr : j < Ss[k].length := by rw [← HJ.out]; exact hlj
          obtain ⟨gs, os, rfl, hgs, hcs⟩ := HIX.out wr hb.out (by omega)
          have d0 := hcs j hjr
          have hvi := HIN.out k (Ss[k][j]) (by rw [HGK.out]; exact List.getElem_mem hjr)
          obtain ⟨v, hv⟩ : ∃ v : Nat, Ss[k][j] = (v : Int) := ⟨(Ss[k][j]).toNat, by omega⟩
          have hvn : v < n := by omega
          rw [hv] at d0
          obtain ⟨D, hrow, hto⟩ := hD.out
          obtain ⟨y0, yf⟩ := hrow.2 v hvn
          have q2 : (j : Int) < (J : Int) := by omega
          have q3 : (v : Int) < (n : Int) := by omega
          by_cases hneg : D v = -1
          · rw [hneg] at y0
            have HNX : Hid (∃ D, Row1 (wr.setCell ⟨g, v, none⟩ (.int .i64 k)) g n D ∧ HomeTo n Ss k (j + 1) D) := ⟨_, hrow.put hvn (k : Int), hto.put hkr hjr hv hneg⟩
            have HBX : Hid (Below w.heap.size w (wr.setCell ⟨g, v, none⟩ (.int .i64 k))) := hb.out.setCell (p := ⟨g, v, none⟩) hgw _
            clear hcs hvi hv hrow hto hneg hD hb
            go_wp2
            go_roundw
            case rel => exact ⟨j + 1, by omega, by go_num, HNX, HBX⟩
            case measure => simp [RowKit.intOf]; omega
          · obtain ⟨c, hc⟩ := ex_eq (D v)
            rw [← hc] at y0 hneg
            have q4 : (c != -1) = true := by simp [bne, hneg]
            have HNO : Hid (¬ ApartS Ss) := hto.two hkr hjr hv hvn (HND.out _ (List.getElem_mem hkr)) (by rw [← hc]; exact hneg)
            clear hcs hvi hv hrow hto hD hc
            go_wp2
            go_ret2
            exact ⟨Or.inr ⟨rfl, HNO.out⟩, hb.out⟩
        · obtain rfl : j = J := by omega
          have HNX : Hid (∃ D, Row1 wr g n D ∧ HomeTo n Ss (k + 1) 0 D) := by
            obtain ⟨D, h1, h2⟩ := hD.out
            exact ⟨D, h1, h2.row (by rw [HGK.out, ← HJ.out]; exact Nat.le_refl _)⟩
          clear hD
          go_wp2
          go_roundw
          case rel => exact ⟨k + 1, by omega, by go_num, HNX, hb⟩
          case measure => simp [RowKit.intOf]; omega
    · obtain rfl : k = M := by omega
      have HFI : Hid (∃ D, Row1 wr g n D ∧ HomeIs n Ss (fun x => D x.toNat) ∧ ApartS Ss ∧ ∀ x, x < n → (Lit.int .i64 (D x)).wf = true) := by
        obtain ⟨D, h1, h2⟩ := hD.out
        rw [HM.out] at h2
        exact ⟨D, h1, (h2.all HIN.out).1, (h2.all HIN.out).2, h2.wf (by rw [← HM.out]; exact hS)⟩
      clear hD
      go_wp2
      go_ret2
      obtain ⟨D, h1, h2, h3⟩ := HFI.out
      exact ⟨Or.inl ⟨g, D, rfl, h1, hgw, h2, h3⟩, hb.out⟩
end Go.Proofs.Ytckcbaegehfkoaa
namespace Go.Proofs.Ytckcbaegehfkoaa
open Go.RowKit Go.Lib Go.Shelf

/-- A list of rows that may be written. -/
structure RW (w : World) (base : Nat) (v : Value) (us : List Value) (LL : List (List Int)) : Prop where
  own : w.ownsRow base 25 1 v LL.length us
  len : us.length = LL.length
  rows : RowsW w base v us LL
theorem RW.kept {S : Nat → Prop} {w w' : World} {base : Nat} {v : Value} {us : List Value} {LL : List (List Int)} (h : RW w base v us LL) (hk : KeptBut S w w') (hs : ∀ q, base ≤ q → q < w.heap.size → ¬ S q) : RW w' base v us LL :=
  ⟨own_kept h.own hk (fun q hq => hs q (h.own.lt q hq).1 (h.own.lt q hq).2), h.len, h.rows.kept hk hs⟩
theorem RW.below {w w' : World} {base : Nat} {v : Value} {us : List Value} {LL : List (List Int)} (h : RW w base v us LL) (hb : Below w.heap.size w w') : RW w' base v us LL := h.kept (KeptBut.of_whole (fun _ => False) hb) (fun _ _ _ e => e)
/-- Two rows do not lie in one block. -/
theorem RW.ne {w : World} {base : Nat} {v : Value} {us : List Value} {LL : List (List Int)} (h : RW w base v us LL) {i k : Nat} (hi : i < LL.length) (hk : k < LL.length) (hne : i ≠ k) {ui uk : Value} (h1 : us[i]? = some ui) (h2 : us[k]? = some uk) {q : Nat} (hq : ui.ownBlock = some q) : uk.ownBlock ≠ some q := by
  rcases Nat.lt_or_gt_of_ne hne with hlt | hlt
  · intro e
    obtain ⟨ak, ck, g1, _, g3⟩ := h.rows k hk
    rw [h2] at g1
    cases g1
    exact (g3 q e).2 i hlt ui h1 hq
  · obtain ⟨ai, ci, g1, _, g3⟩ := h.rows i hi
    rw [h1] at g1
    cases g1
    exact (g3 q hq).2 k hlt uk h2
theorem RW.lls {w : World} {base : Nat} {a : Option Addr} {c : Nat} {us : List Value} {LL : List (List Int)} (h : RW w base (.slice a LL.length c) us LL) : LLS w a LL := fun h0 => by
  obtain ⟨g, cap', hv', _, hg, _, hcs⟩ := own_row h.own h0
  simp only [Value.slice.injEq, true_and] at hv'
  refine ⟨g, 0, hv'.1, hg, fun j hj => ?_⟩
  obtain ⟨ak, ck, h1, h2, _⟩ := h.rows j hj
  obtain ⟨a3, c3, e3, hs3⟩ := sl_own h2
  simp only [Value.slice.injEq, true_and] at e3
  obtain ⟨rfl, rfl⟩ := e3
  obtain ⟨a4, c4, e4, hI⟩ := iat_own h2
  simp only [Value.slice.injEq, true_and] at e4
  obtain ⟨rfl, rfl⟩ := e4
  exact ⟨ak, ck, by rw [Nat.zero_add]; exact hcs j _ h1, hI, hs3.1, hs3.2.1⟩
theorem lls_llat {w : World} {a : Option Addr} {LL : List (List Int)} (h : LLS w a LL) : LLAt w a LL := fun h0 => by
  obtain ⟨g, off, ha, hg, hc⟩ := h h0
  refine ⟨g, off, ha, hg, fun k hk => ?_⟩
  obtain ⟨ak, ck, h1, h2, _⟩ := hc k hk
  exact ⟨ak, ck, h1, h2⟩
/-- A number of a row is written. -/
theorem RW.cell {w : World} {base : Nat} {v : Value} {us : List Value} {LL : List (List Int)} (h : RW w base v us LL) {i : Nat} (hi : i < LL.length) {q ck : Nat} (hu : us[i]? = some (.slice (some ⟨q, 0, none⟩) LL[i].length ck)) (j : Nat) (y : Int) :
    RW (w.setCell ⟨q, j, none⟩ (.int .i64 y)) base v us (LL.set i (LL[i].set j y)) := by
  have hks := kept_set w ⟨q, j, none⟩ (.int .i64 y)
  obtain ⟨ai, ci, g1, g2, g3⟩ := h.rows i hi
  rw [hu] at g1
  simp only [Option.some.injEq, Value.slice.injEq, true_and] at g1
  obtain ⟨rfl, rfl⟩ := g1
  have hq : Value.ownBlock (.slice (some ⟨q, 0, none⟩) LL[i].length ck) = some q := rfl
  refine ⟨?_, by rw [List.length_set]; exact h.len, fun k hk => ?_⟩
  · rw [List.length_set]
    exact own_kept h.own hks (fun g hg e => (g3 q hq).1 (by rw [hg]; exact congrArg some e))
  · rw [List.length_set] at hk
    by_cases e : i = k
    · subst e
      refine ⟨some ⟨q, 0, none⟩, ck, ?_, ?_, ?_⟩
      · rw [List.getElem_set_self, List.length_set]; exact hu
      · rw [List.getElem_set_self, List.length_set, List.map_set]
        exact (g2.stored j _).1
      · rw [List.getElem_set_self, List.length_set]
        exact g3
    · obtain ⟨ak, ck2, k1, k2, k3⟩ := h.rows k hk
      refine ⟨ak, ck2, ?_, ?_, ?_⟩
      · rw [List.getElem_set_ne e]; exact k1
      · rw [List.getElem_set_ne e]
        exact own_kept k2 hks (fun g hg e2 => h.ne hi hk e hu k1 hq (by rw [hg]; exact congrArg some e2))
      · rw [List.getElem_set_ne e]; exact k3
/-- A row has been made longer: its header is written. -/
theorem RW.turn {X w4 : World} {base gh cap : Nat} {us : List Value} {LL : List (List Int)} (h : RW X base (.slice (some ⟨gh, 0, none⟩) LL.length cap) us LL) {i : Nat} (hi : i < LL.length) {ui : Value} (hu : us[i]? = some ui) {o : Obj} {ar : Option Addr} {cr : Nat} {L : List Int}
    (ho : w4.ownsRow base 3 1 (.slice ar L.length cr) L.length (L.map (Value.int .i64))) (hg : (X.alloc o).grownBy w4 ui.ownBlock) (hat : Value.ownBlock (.slice ar L.length cr) = ui.ownBlock ∨ Value.ownBlock (.slice ar L.length cr) = some (X.alloc o).heap.size) :
    w4.ownsRow base 25 1 (.slice (some ⟨gh, 0, none⟩) LL.length cap) LL.length us ∧ RW (w4.setCell ⟨gh, i, none⟩ (.slice ar L.length cr)) base (.slice (some ⟨gh, 0, none⟩) LL.length cap) (us.set i (.slice ar L.length cr)) (LL.set i L) := by
  have hk4 : KeptBut (fun k => some k = ui.ownBlock) X w4 := (kept_alloc X o _).trans (KeptBut.of_grown hg)
  obtain ⟨ai, ci, g1, g2, g3⟩ := h.rows i hi
  rw [hu] at g1
  simp only [Option.some.injEq] at g1
  subst g1
  have hv : Value.ownBlock (.slice (some ⟨gh, 0, none⟩) LL.length cap) = some gh := rfl
  have hgh := h.own.lt gh hv
  have hown4 : w4.ownsRow base 25 1 (.slice (some ⟨gh, 0, none⟩) LL.length cap) LL.length us := own_kept h.own hk4 (fun g hg e => (g3 g e.symm).1 hg)
  have hks := kept_set w4 ⟨gh, i, none⟩ (.slice ar L.length cr)
  have hnew : ∀ q, Value.ownBlock (.slice ar L.length cr) = some q → q ≠ gh ∧ ∀ k u, k < LL.length → k ≠ i → us[k]? = some u → u.ownBlock ≠ some q := fun q hq => by
    rcases hat with e | e
    · rw [e] at hq
      refine ⟨fun e2 => (g3 q hq).1 (by rw [e2]; rfl), fun k u hk hne hku => h.ne hi hk (fun e3 => hne e3.symm) hu hku hq⟩
    · rw [e, World.size_alloc] at hq
      simp only [Option.some.injEq] at hq
      refine ⟨by omega, fun k u hk _ hku e3 => ?_⟩
      obtain ⟨ak, ck2, k1, k2, _⟩ := h.rows k hk
      rw [hku] at k1
      cases k1
      have := (k2.lt q e3).2
      omega
  refine ⟨hown4, ?_, by rw [List.length_set, List.length_set]; exact h.len, fun k hk => ?_⟩
  · rw [List.length_set]; exact (hown4.stored i _).1
  · rw [List.length_set] at hk
    by_cases e : i = k
    · subst e
      refine ⟨ar, cr, ?_, ?_, ?_⟩
      · rw [List.getElem_set_self, List.getElem?_set_self (by rw [h.len]; exact hk)]
      · rw [List.getElem_set_self]
        exact own_kept ho hks (fun q hq e2 => (hnew q hq).1 e2)
      · rw [List.getElem_set_self]
        intro q hq
        refine ⟨fun e2 => (hnew q hq).1 (by cases e2; rfl), fun j hj u hju => ?_⟩
        rw [List.getElem?_set_ne (by omega)] at hju
        exact (hnew q hq).2 j u (by omega) (by omega) hju
    · obtain ⟨ak, ck2, k1, k2, k3⟩ := h.rows k hk
      refine ⟨ak, ck2, ?_, ?_, ?_⟩
      · rw [List.getElem_set_ne e, List.getElem?_set_ne e]; exact k1
      · rw [List.getElem_set_ne e]
        refine own_kept (own_kept k2 hk4 (fun q hq e2 => h.ne hi hk e hu k1 e2.symm hq)) hks (fun q hq e2 => (k3 q hq).1 ?_)
        rw [show q = gh from e2]; rfl
      · rw [List.getElem_set_ne e]
        intro q hq
        refine ⟨(k3 q hq).1, fun j hj u hju => ?_⟩
        by_cases e2 : i = j
        · subst e2
          rw [List.getElem?_set_self (by rw [h.len]; exact hi)] at hju
          simp only [Option.some.injEq] at hju
          subst hju
          intro e3
          exact (hnew q e3).2 k _ hk (fun e4 => e e4.symm) k1 hq
        · rw [List.getElem?_set_ne e2] at hju
          exact (k3 q hq).2 j hj u hju
end Go.Proofs.Ytckcbaegehfkoaa
