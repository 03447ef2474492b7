/-
  What stands there while the document's Of goes through the edges (layer 7).
  While one edge's ends are laid in, while its block's vertices are counted, while the block is brought to its place (layer 7).
-/
import Derived.Test.YtlebimolgienkaaT20
import Derived.Test.YtlebimolgienkaaT11
import Derived.Test.YtlebimolgienkaaT19
import Derived.Test.YtlebimolgienkaaT10
import Derived.Test.YtlebimolgienkaaT04
namespace Go.Proofs.Ytlebimolgienkaa
open Go.RowKit Go.Lib

/-- Behind the first i edges: which are done, how many blocks each vertex has, the blocks. -/
structure St4 (wq X : World) (b0 D1 D2 N m : Nat) (es : List (Int × Int)) (i : Nat) (dn : Nat → Bool) (Bs : List (List Int)) (v : Value) (us : List Value) : Prop where
  dr : RowB X D1 N dn
  dt : DoneTo es i dn
  cr : Row1 X D2 m (fun u => ((atL Bs (u : Int)).length : Int))
  out : OutAt X (b0 + 2) (D2 + 1) (fun k => D2 < k) v us Bs
  up : BlkUpto es i Bs
  kp : KeptBut (fun k => k = b0 + 2 ∨ D1 ≤ k) wq X
  bl : Bs.length ≤ i
theorem St4.pass {wq X : World} {b0 D1 D2 N m i : Nat} {es : List (Int × Int)} {dn : Nat → Bool} {Bs : List (List Int)} {v : Value} {us : List Value} (h : St4 wq X b0 D1 D2 N m es i dn Bs v us) (hR : RightG m es) (hi : i < es.length) (hd : dn i = true) : St4 wq X b0 D1 D2 N m es (i + 1) dn Bs v us :=
  ⟨h.dr, done_pass hR h.dt hi hd, h.cr, h.out, h.up.pass hR hi ((h.dt i hi).1 hd), h.kp, Nat.le_succ_of_le h.bl⟩
/-- The rows of the edges, wherever they are read. -/
theorem NO.rows {w X : World} {Nb N m O D1 : Nat} {V : Nat → Value} {F : Nat → Nat → Nat} {es : List (Int × Int)} (h : NO w (Nb + 1) Nb N V (clsK F es m 0)) (hN : N = es.length) (hO : O < Nb) (hD : w.heap.size = D1) (hk : KeptBut (fun k => k = O ∨ D1 ≤ k) w X) {j : Nat} (hj : j < es.length) : ∃ aj cj, X.cell? ⟨Nb, j, none⟩ = some (.slice aj m cj) ∧ IAt X aj (clsI F m es[j]) := by
  have hjN : j < N := by omega
  have hlt := h.lt
  have hgd : es.getD j (0, 0) = es[j] := by rw [List.getD_eq_getElem?_getD, List.getElem?_eq_getElem hj]; rfl
  have hown := (h.own j hjN).1
  have e1 : clsK F es m 0 j = clsI F m es[j] := by unfold clsK; rw [if_neg (by omega), hgd]
  rw [e1, clsI_len] at hown
  have hown' : w.ownsRow (Nb + 1) 3 1 (V j) (clsI F m es[j]).length ((clsI F m es[j]).map (Value.int .i64)) := by rw [clsI_len]; exact hown
  obtain ⟨aj, cj, hv, hI⟩ := own_form hown'
  rw [clsI_len] at hv
  refine ⟨aj, cj, ?_, hI.kept hk (fun g off ha h0 e => ?_)⟩
  · rw [hk.cell (p := ⟨Nb, j, none⟩) hlt (by simp only; omega), ← hv]
    exact (h.hd j hjN).1
  · have h1 := hown.lt g (by rw [hv, ha]; rfl)
    omega
/-- The vertices below u that stand in more than one block. -/
def cutsTo (Bs : List (List Int)) (u : Nat) : List Int := ((List.range u).filter (fun i : Nat => decide (2 ≤ (atL Bs (i : Int)).length))).map (fun i : Nat => (i : Int))
theorem cutsTo_yes {Bs : List (List Int)} {u : Nat} (h : 2 ≤ (atL Bs (u : Int)).length) : cutsTo Bs (u + 1) = cutsTo Bs u ++ [(u : Int)] := by
  unfold cutsTo
  rw [List.range_succ, List.filter_append, List.map_append]
  simp [h]
theorem cutsTo_no {Bs : List (List Int)} {u : Nat} (h : ¬ 2 ≤ (atL Bs (u : Int)).length) : cutsTo Bs (u + 1) = cutsTo Bs u := by
  unfold cutsTo
  rw [List.range_succ, List.filter_append, List.map_append]
  simp [h]
theorem cutsTo_len (Bs : List (List Int)) (u : Nat) : (cutsTo Bs u).length ≤ u := by
  unfold cutsTo
  rw [List.length_map]
  exact Nat.le_trans (List.length_filter_le _ _) (by simp)
theorem cutsTo_ok {m : Nat} {es : List (Int × Int)} {Bs : List (List Int)} (hR : RightG m es) (hB : BlocksL es Bs) : CutsL es (cutsTo Bs m) := by
  refine cuts_of hR hB ?_ (fun v => ?_)
  · unfold cutsTo
    rw [List.pairwise_map]
    exact (List.pairwise_lt_range.filter _).imp (fun h => by omega)
  · unfold cutsTo
    rw [List.mem_map]
    constructor
    · rintro ⟨i, hi, rfl⟩
      rw [List.mem_filter, List.mem_range] at hi
      exact ⟨⟨by omega, by omega⟩, by simpa using of_decide_eq_true hi.2⟩
    · rintro ⟨⟨h1, h2⟩, h3⟩
      refine ⟨v.toNat, ?_, by omega⟩
      rw [List.mem_filter, List.mem_range]
      exact ⟨by omega, decide_eq_true h3⟩
/-- While the cuts are told. -/
structure St8 (wx X : World) (O L8 u : Nat) (Bs : List (List Int)) (v vc : Value) : Prop where
  c0 : X.cell? ⟨O, 0, none⟩ = some vc
  c1 : X.cell? ⟨O, 1, none⟩ = some v
  f0 : X.frozen? ⟨O, 0, none⟩ = false
  own : X.ownsRow L8 3 1 vc (cutsTo Bs u).length ((cutsTo Bs u).map (Value.int .i64))
  kp : KeptBut (fun k => k = O ∨ L8 ≤ k) wx X
theorem St8.put {wx X w4 : World} {O L8 u : Nat} {Bs : List (List Int)} {v vc v4 : Value} {o : Obj} (h : St8 wx X O L8 u Bs v vc) (h2 : 2 ≤ (atL Bs (u : Int)).length) (hO : O < L8) (hL : wx.heap.size = L8) (hown : w4.ownsRow L8 3 1 v4 ((cutsTo Bs u).length + 1) ((cutsTo Bs u).map (Value.int .i64) ++ [.int .i64 u])) (hg : (X.alloc o).grownBy w4 vc.ownBlock) :
    (w4.cell? ⟨O, 0, none⟩ = some vc ∧ w4.frozen? ⟨O, 0, none⟩ = false) ∧ St8 wx (w4.setCell ⟨O, 0, none⟩ v4) O L8 (u + 1) Bs v v4 := by
  have hk : KeptBut (fun k => some k = vc.ownBlock) X w4 := (kept_alloc X o _).trans (KeptBut.of_grown hg)
  have hOv : ¬ some O = vc.ownBlock := fun e => by have := (h.own.lt O e.symm).1; omega
  have hOX : O < X.heap.size := block_lt_of_cell h.c0
  have e0 := (hk.cell (p := ⟨O, 0, none⟩) hOX hOv).trans h.c0
  have e1 := (hk.cell (p := ⟨O, 1, none⟩) hOX hOv).trans h.c1
  have ef := (hk.frozen (p := ⟨O, 0, none⟩) hOX hOv).trans h.f0
  refine ⟨⟨e0, ef⟩, ⟨World.cell?_setCell_same' _ _ _ (by rw [e0]; rfl), ?_, by rw [World.frozen?_setCell]; exact ef, ?_, ?_⟩⟩
  · rw [World.cell?_setCell_other _ _ _ _ (fun e => by have := congrArg Addr.off e; simp at this)]; exact e1
  · rw [cutsTo_yes h2, List.length_append, List.map_append]
    refine own_kept hown (kept_set _ _ _) (fun g hgv e => ?_)
    have := (hown.lt g hgv).1
    simp only at e
    omega
  · refine h.kp.trans ((hk.mono (fun k _ e => Or.inr ?_)).trans ((kept_set w4 ⟨O, 0, none⟩ v4).mono (fun k _ e => Or.inl e)))
    exact (h.own.lt k e.symm).1
/-- While the ends of the k-th edge's block are told. -/
structure St5 (wi X : World) (D1 L0 N : Nat) (es : List (Int × Int)) (k j : Nat) (dn : Nat → Bool) (l : List Int) (v : Value) (dn' : Nat → Bool) : Prop where
  own : X.ownsRow L0 3 1 v l.length (l.map (Value.int .i64))
  ends : EndsTo es k j l
  dr : RowB X D1 N dn'
  dt : ∀ q (h : q < es.length) (hk : k < es.length), dn' q = true ↔ dn q = true ∨ (k ≤ q ∧ q < j ∧ Tog es es[k] es[q])
  kp : KeptBut (fun q => q = D1 ∨ L0 ≤ q) wi X
theorem St5.pass {wi X : World} {D1 L0 N : Nat} {es : List (Int × Int)} {k j : Nat} {dn dn' : Nat → Bool} {l : List Int} {v : Value} (h : St5 wi X D1 L0 N es k j dn l v dn') (hk : k < es.length) (hj : j < es.length) (hn : ¬ Tog es es[k] es[j]) : St5 wi X D1 L0 N es k (j + 1) dn l v dn' :=
  ⟨h.own, ends_pass h.ends hk hj hn, h.dr, fun q hq hk' => by
    rw [h.dt q hq hk']
    constructor
    · rintro (h1 | ⟨h1, h2, h3⟩)
      · exact Or.inl h1
      · exact Or.inr ⟨h1, by omega, h3⟩
    · rintro (h1 | ⟨h1, h2, h3⟩)
      · exact Or.inl h1
      · by_cases e : q = j
        · subst e; exact absurd h3 hn
        · exact Or.inr ⟨h1, by omega, h3⟩, h.kp⟩
theorem St5.below {wi X Y : World} {D1 L0 N : Nat} {es : List (Int × Int)} {k j : Nat} {dn dn' : Nat → Bool} {l : List Int} {v : Value} (h : St5 wi X D1 L0 N es k j dn l v dn') (hb : Below X.heap.size X Y) : St5 wi Y D1 L0 N es k j dn l v dn' :=
  ⟨own_below h.own hb, h.ends, h.dr.below hb, h.dt, h.kp.trans (KeptBut.of_whole _ hb)⟩
/-- The edge itself is done. -/
theorem St5.mark {wi X : World} {D1 L0 N : Nat} {es : List (Int × Int)} {k j : Nat} {dn dn' : Nat → Bool} {l : List Int} {v : Value} (h : St5 wi X D1 L0 N es k j dn l v dn') (hjN : j < N) (hD : D1 < L0) : RowB (X.setCell ⟨D1, j, none⟩ (.bool true)) D1 N (fun q => if q = j then true else dn' q) ∧ (X.setCell ⟨D1, j, none⟩ (.bool true)).ownsRow L0 3 1 v l.length (l.map (Value.int .i64)) ∧ KeptBut (fun q => q = D1 ∨ L0 ≤ q) wi (X.setCell ⟨D1, j, none⟩ (.bool true)) :=
  ⟨h.dr.put hjN true, own_kept h.own (kept_set _ _ _) (fun g hg e => by have := (h.own.lt g hg).1; simp only at e; omega), h.kp.trans ((kept_set _ _ _).mono (fun q _ e => Or.inl e))⟩
end Go.Proofs.Ytlebimolgienkaa
namespace Go.Proofs.Ytlebimolgienkaa
open Go.RowKit Go.Lib

/-- Between the marks and the ends. -/
structure Mid (wi X : World) (D1 L0 N t : Nat) (l : List Int) (v : Value) (dn : Nat → Bool) : Prop where
  own : X.ownsRow L0 3 1 v l.length (l.map (Value.int .i64))
  dr : RowB X D1 N dn
  nd : l.Nodup
  inn : ∀ x ∈ l, 0 ≤ x ∧ x < (t : Int)
  kp : KeptBut (fun q => q = D1 ∨ L0 ≤ q) wi X
theorem nodup_le {t : Nat} {l : List Int} (h : l.Nodup) (hin : ∀ x ∈ l, 0 ≤ x ∧ x < (t : Int)) : l.length ≤ t := by
  have := len_le_subI h (b := (List.range t).map (fun i : Nat => (i : Int))) (fun x hx => List.mem_map.2 ⟨x.toNat, by rw [List.mem_range]; have := hin x hx; omega, by have := hin x hx; omega⟩)
  simpa using this
theorem Mid.len {wi X : World} {D1 L0 N t : Nat} {l : List Int} {v : Value} {dn : Nat → Bool} (h : Mid wi X D1 L0 N t l v dn) : l.length ≤ t := nodup_le h.nd h.inn
theorem Mid.put {wi X w4 : World} {D1 L0 N t : Nat} {l : List Int} {v v4 : Value} {dn : Nat → Bool} {o : Obj} (h : Mid wi X D1 L0 N t l v dn) (hD : D1 < L0) {x : Int} (hx : x ∉ l) (hr : 0 ≤ x ∧ x < (t : Int)) (hown : w4.ownsRow L0 3 1 v4 (l.length + 1) (l.map (Value.int .i64) ++ [.int .i64 x])) (hg : (X.alloc o).grownBy w4 v.ownBlock) : Mid wi w4 D1 L0 N t (putN l x) v4 dn := by
  have hk : KeptBut (fun k => some k = v.ownBlock) X w4 := (kept_alloc X o _).trans (KeptBut.of_grown hg)
  have hp : putN l x = l ++ [x] := by unfold putN; rw [if_neg hx]
  rw [hp]
  refine ⟨by rw [List.length_append, List.map_append]; exact hown, h.dr.kept hk (fun e => by have := (h.own.lt D1 e.symm).1; omega), ?_, fun y hy => ?_, h.kp.trans (hk.mono (fun q _ e => Or.inr (h.own.lt q e.symm).1))⟩
  · rw [← hp]; exact putN_nd h.nd
  · rw [List.mem_append] at hy
    rcases hy with hy | hy
    · exact h.inn y hy
    · simp at hy; subst hy; exact hr
theorem Mid.stay {wi X : World} {D1 L0 N t : Nat} {l : List Int} {v : Value} {dn : Nat → Bool} (h : Mid wi X D1 L0 N t l v dn) {x : Int} (hx : x ∈ l) : Mid wi X D1 L0 N t (putN l x) v dn := by
  unfold putN; rw [if_pos hx]; exact h
theorem ends_in {m : Nat} {es : List (Int × Int)} {i k : Nat} {l : List Int} (hR : RightG m es) (h : EndsTo es i k l) : ∀ x ∈ l, 0 ≤ x ∧ x < (m : Int) := fun x hx => by
  obtain ⟨j, hj, _, _, _, he⟩ := (h.is x).1 hx
  have := hR.2.2.2.1 _ (List.getElem_mem hj)
  rcases he with rfl | rfl <;> omega
theorem St5.mid {wi X : World} {D1 L0 N m : Nat} {es : List (Int × Int)} {k j : Nat} {dn dn' : Nat → Bool} {l : List Int} {v : Value} (h : St5 wi X D1 L0 N es k j dn l v dn') (hR : RightG m es) (hjN : j < N) (hD : D1 < L0) : Mid wi (X.setCell ⟨D1, j, none⟩ (.bool true)) D1 L0 N m l v (fun q => if q = j then true else dn' q) :=
  ⟨(h.mark hjN hD).2.1, (h.mark hjN hD).1, h.ends.nd, ends_in hR h.ends, (h.mark hjN hD).2.2⟩
theorem St5.next {wi X Y : World} {D1 L0 N m : Nat} {es : List (Int × Int)} {k j : Nat} {dn dn' : Nat → Bool} {l : List Int} {v v4 : Value} (h : St5 wi X D1 L0 N es k j dn l v dn') (hk : k < es.length) (hkj : k ≤ j) (hj : j < es.length) (ht : Tog es es[k] es[j]) (hM : Mid wi Y D1 L0 N m (putN (putN l es[j].1) es[j].2) v4 (fun q => if q = j then true else dn' q)) : ∃ l' dn'', St5 wi Y D1 L0 N es k (j + 1) dn l' v4 dn'' :=
  ⟨_, _, hM.own, ends_put h.ends hk hkj hj ht, hM.dr, fun q hq hk' => by
    by_cases e : q = j
    · subst e
      simp only [if_true, true_iff]
      exact Or.inr ⟨hkj, by omega, ht⟩
    · simp only [if_neg e]
      rw [h.dt q hq hk']
      constructor
      · rintro (h1 | ⟨h1, h2, h3⟩)
        · exact Or.inl h1
        · exact Or.inr ⟨h1, by omega, h3⟩
      · rintro (h1 | ⟨h1, h2, h3⟩)
        · exact Or.inl h1
        · exact Or.inr ⟨h1, by omega, h3⟩, hM.kp⟩
/-- How many blocks a vertex is in, while the newest one's vertices are counted. -/
def cntQ (Bs : List (List Int)) (L : List Int) (q u : Nat) : Int := ((atL Bs (u : Int)).length : Int) + (if (u : Int) ∈ L.take q then 1 else 0)
theorem cntQ_le (Bs : List (List Int)) (L : List Int) (q u : Nat) : 0 ≤ cntQ Bs L q u ∧ cntQ Bs L q u ≤ (Bs.length : Int) + 1 := by
  have h : (atL Bs (u : Int)).length ≤ Bs.length := by unfold atL; exact List.length_filter_le _ _
  unfold cntQ
  split <;> omega
theorem cntQ_zero (Bs : List (List Int)) (L : List Int) (u : Nat) : cntQ Bs L 0 u = ((atL Bs (u : Int)).length : Int) := by unfold cntQ; simp
theorem cntQ_step {Bs : List (List Int)} {L : List Int} {q x : Nat} (hn : L.Nodup) (hq : q < L.length) (hx : L[q] = (x : Int)) (u : Nat) : cntQ Bs L (q + 1) u = if u = x then cntQ Bs L q x + 1 else cntQ Bs L q u := by
  have hm : ∀ y : Int, y ∈ L.take (q + 1) ↔ y ∈ L.take q ∨ y = (x : Int) := fun y => by
    rw [← List.take_append_getElem hq, List.mem_append, hx]; simp
  have hno : (x : Int) ∉ L.take q := fun h => by
    obtain ⟨i, hi, e⟩ := List.mem_iff_getElem.1 h
    rw [List.length_take] at hi
    rw [List.getElem_take] at e
    have := List.pairwise_iff_getElem.1 hn i q (by omega) hq (by omega)
    exact this (e.trans hx.symm)
  unfold cntQ
  by_cases e : u = x
  · subst e
    rw [if_pos ((hm _).2 (Or.inr rfl)), if_pos rfl, if_neg hno]; omega
  · rw [if_neg e]
    by_cases h : (u : Int) ∈ L.take q
    · rw [if_pos h, if_pos ((hm _).2 (Or.inl h))]
    · rw [if_neg h, if_neg (fun k => by rcases (hm _).1 k with k | k; (· exact h k); (· omega))]
theorem cntQ_all (Bs : List (List Int)) (L : List Int) (u : Nat) : cntQ Bs L L.length u = ((atL (insR L Bs) (u : Int)).length : Int) := by
  unfold cntQ
  rw [atL_ins, List.take_length]
  split <;> simp
theorem insR_len (l : List Int) : ∀ Bs : List (List Int), (insR l Bs).length = Bs.length + 1
  | [] => by simp [insR]
  | x :: xs => by
    unfold insR
    split
    · simp
    · simp [insR_len l xs]
theorem srt_rises {l : List Int} (h : l.Nodup) : (srt [] l).Pairwise (· < ·) := by
  have h1 : Up (srt [] l) := srt_up List.Pairwise.nil
  have h2 : (srt [] l).Nodup := srt_nodup (by simpa using h)
  exact (List.Pairwise.and h1 h2).imp (fun ⟨a, b⟩ => by omega)
/-- While the newest block is brought down to its place. -/
structure St7 (w7 X : World) (O D2 gB : Nat) (L : List Int) (Bs : List (List Int)) (v : Value) (q : Nat) : Prop where
  out : ∃ us, OutAt X O (D2 + 1) (fun k => D2 < k) v us (midR L Bs q)
  hi : ∀ j (h : j < Bs.length), q ≤ j → lexL L Bs[j] = true
  kp : KeptBut (fun k => k = gB) w7 X
/-- The newest block is laid behind the others. -/
theorem OutAt.push {w w4 : World} {O D2 : Nat} {v v4 : Value} {us : List Value} {Bs : List (List Int)} {L : List Int} {ar : Option Addr} {cr : Nat} {X : Obj} (h : OutAt w O (D2 + 1) (fun k => D2 < k) v us Bs) (hO : O < D2) (hD : D2 < w.heap.size) (hI : IAt w ar L) (hA : ∀ g off, ar = some ⟨g, off, none⟩ → 0 < L.length → D2 < g ∧ v.ownBlock ≠ some g)
    (ho : w4.ownsRow (D2 + 1) 28 1 v4 (Bs.length + 1) (us ++ [.slice ar L.length cr])) (hg : (w.alloc X).grownBy w4 v.ownBlock) (hat : v4.ownBlock = v.ownBlock ∨ v4.ownBlock = some (w.alloc X).heap.size) :
    (w4.cell? ⟨O, 1, none⟩ = some v ∧ w4.frozen? ⟨O, 1, none⟩ = false) ∧ OutAt (w4.setCell ⟨O, 1, none⟩ v4) O (D2 + 1) (fun k => D2 < k) v4 (us ++ [.slice ar L.length cr]) (midR L Bs Bs.length) ∧ KeptBut (fun k => k = O ∨ D2 < k) w (w4.setCell ⟨O, 1, none⟩ v4) := by
  have hk : KeptBut (fun k => some k = v.ownBlock) w w4 := (kept_alloc w X _).trans (KeptBut.of_grown hg)
  have hOw : O < w.heap.size := by omega
  have hOv : ¬ some O = v.ownBlock := fun e => by have := (h.ll.1.lt O e.symm).1; omega
  have e0 := (hk.cell (p := ⟨O, 0, none⟩) hOw hOv).trans h.c0
  have e1 := (hk.cell (p := ⟨O, 1, none⟩) hOw hOv).trans h.c1
  have f0 := (hk.frozen (p := ⟨O, 0, none⟩) hOw hOv).trans h.f0
  have f1 := (hk.frozen (p := ⟨O, 1, none⟩) hOw hOv).trans h.f1
  have hll := h.ll.put hI hA (by show D2 < _; simp; omega) ho hg hat
  refine ⟨⟨e1, f1⟩, ⟨?_, World.cell?_setCell_same' _ _ _ (by rw [e1]; rfl), by rw [World.frozen?_setCell]; exact f0, by rw [World.frozen?_setCell]; exact f1, ?_⟩, ?_⟩
  · rw [World.cell?_setCell_other _ _ _ _ (fun e => by have := congrArg Addr.off e; simp at this)]; exact e0
  · rw [midR_end]
    exact hll.kept (kept_set _ _ _) (fun k hk' _ e => by simp only at e; omega)
  · exact (hk.mono (fun k _ e => Or.inr (by have := (h.ll.1.lt k e.symm).1; omega))).trans ((kept_set w4 ⟨O, 1, none⟩ v4).mono (fun k _ e => Or.inl e))
/-- An edge and its block more. -/
theorem St4.add {wq wi wr X : World} {b0 D1 D2 L0 N m k : Nat} {es : List (Int × Int)} {dn dn' : Nat → Bool} {Bs : List (List Int)} {v v5 v4 : Value} {us us4 : List Value} {l : List Int} (hSt : St4 wq wi b0 D1 D2 N m es k dn Bs v us) (h5 : St5 wi wr D1 L0 N es k N dn l v5 dn') (hN : N = es.length) (hR : RightG m es) (hk : k < es.length) (hdk : dn k = false) (hDL : D2 < L0) (hDD : D1 < D2) (hbD : b0 + 2 < D1)
    (hkX : KeptBut (fun q => q = b0 + 2 ∨ D2 ≤ q) wr X) (hcr : Row1 X D2 m (cntQ Bs (srt [] l) (srt [] l).length)) (hout : OutAt X (b0 + 2) (D2 + 1) (fun k => D2 < k) v4 us4 (insR (srt [] l) Bs)) : ∃ dn Bs v us, St4 wq X b0 D1 D2 N m es (k + 1) dn Bs v us := by
  have hDT : DoneTo es (k + 1) dn' := done_add hSt.dt hk (fun q hq => by
    rw [h5.dt q hq hk]
    constructor
    · rintro (h1 | ⟨h1, _, h3⟩)
      · exact Or.inl h1
      · exact Or.inr ⟨h1, h3⟩
    · rintro (h1 | ⟨h1, h3⟩)
      · exact Or.inl h1
      · exact Or.inr ⟨h1, by omega, h3⟩)
  refine ⟨dn', insR (srt [] l) Bs, v4, us4, h5.dr.kept hkX (by omega), hDT, hcr.congr (fun j _ => cntQ_all Bs _ j), hout, ?_, ?_, by rw [insR_len]; have := hSt.bl; omega⟩
  · refine hSt.up.add hR hk (fun j hj hjk ht => ?_) (srt_rises h5.ends.nd) (fun x => ?_)
    · have := (hSt.dt k hk).2 ⟨j, hj, hjk, ht⟩
      rw [hdk] at this; cases this
    · rw [srt_perm_mem]
      exact ends_all h5.ends (by omega) hk hSt.dt hdk x
  · exact (hSt.kp.trans (h5.kp.mono (fun q _ e => by omega))).trans (hkX.mono (fun q _ e => by omega))
end Go.Proofs.Ytlebimolgienkaa
