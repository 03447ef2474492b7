/-
  The whole search (layer 7): how much memory it wants, and that the blocks of a graph are what it cuts off. No program is named here.
  What holds twice: the edges within it are one block (layer 7). No program is named here.
  Rings: the ways round, and the least of them. No program is named here.
  What the laws of layer 5 ask of the program's walks: a row of contracts.
-/
import Derived.Test.YtlebimolgienkaaT08
import Derived.Test.YtlebimolgienkaaT02
import Derived.Test.YtlebimolgienkaaT06
namespace Go.Proofs.Ytlebimolgienkaa

/-- How many were not come to. -/
def unv (m : Nat) (num : Nat → Int) : Nat := ((List.range m).filter (fun x => decide (num x = 0))).length
theorem filter_one {p q : Nat → Bool} {v : Nat} (hq : q v = true) (hp : p v = false) (hne : ∀ x, x ≠ v → p x = q x) : ∀ {l : List Nat}, l.Nodup → v ∈ l → (l.filter p).length + 1 = (l.filter q).length
  | [], _, h => by cases h
  | x :: l, hn, hm => by
    rw [List.nodup_cons] at hn
    rw [List.filter_cons, List.filter_cons]
    by_cases e : x = v
    · subst e
      rw [hp, hq]
      have : l.filter p = l.filter q := List.filter_congr (fun y hy => hne y (fun e => hn.1 (e ▸ hy)))
      simp [this]
    · rw [hne x e]
      have ih := filter_one hq hp hne hn.2 ((List.mem_cons.1 hm).resolve_left (fun k => e k.symm))
      cases q x <;> simp <;> omega
theorem unv_enter {m : Nat} {s : Dst} {v : Nat} (hv : v < m) (h0 : s.num v = 0) : unv m (s.enter v).num + 1 = unv m s.num := by
  refine filter_one (v := v) (by simp [h0]) ?_ (fun x hx => ?_) List.nodup_range (List.mem_range.2 hv)
  · unfold Dst.enter
    simp
    omega
  · unfold Dst.enter
    simp [hx]
theorem unv_pos {m : Nat} {num : Nat → Int} {v : Nat} (hv : v < m) (h0 : num v = 0) : 0 < unv m num :=
  List.length_pos_of_mem (List.mem_filter.2 ⟨List.mem_range.2 hv, by simp [h0]⟩)
/-- What a search holds: no more than vertices. -/
structure DSz (m : Nat) (s : Dst) : Prop where
  sum : s.cnt + unv m s.num ≤ m
  gone : s.gone.length ≤ s.cnt
  blk : s.blk.length ≤ s.cnt
  pos : ∀ x, 0 ≤ s.num x
/-- What a call leaves, as far as its sizes go; d: the call's own vertex, if a block was not cut off behind it. -/
structure DGr (m : Nat) (s t : Dst) (d : Nat) : Prop where
  sz : DSz m t
  cnt : s.cnt + d ≤ t.cnt
  gone : ∃ T, t.gone = s.gone ++ T ∧ T.length + s.cnt ≤ t.cnt ∧ d ≤ T.length
  blk : t.blk.length + s.cnt + d ≤ s.blk.length + t.cnt
  unv : unv m t.num + d ≤ unv m s.num
theorem DGr.refl {m : Nat} {s : Dst} (h : DSz m s) : DGr m s s 0 := ⟨h, by omega, ⟨[], by simp, by simp, by simp⟩, by omega, by omega⟩
theorem start_gr {m : Nat} {s : Dst} {v : Nat} (hs : DSz m s) (hv : v < m) (h0 : s.num v = 0) : DGr m s (s.enter v) 1 := by
  have hu := unv_enter hv h0
  refine ⟨⟨?_, ?_, ?_, fun x => ?_⟩, Nat.le_refl _, ⟨[(v : Int)], rfl, ?_, Nat.le_refl _⟩, ?_, by omega⟩
  · have := hs.sum; show s.cnt + 1 + _ ≤ m; omega
  · have := hs.gone; show (s.gone ++ [(v : Int)]).length ≤ s.cnt + 1; simp; omega
  · have := hs.blk; show s.blk.length ≤ s.cnt + 1; omega
  · have := hs.pos x
    unfold Dst.enter
    simp only
    split <;> omega
  · show 1 + s.cnt ≤ s.cnt + 1; omega
  · show s.blk.length + s.cnt + 1 ≤ s.blk.length + (s.cnt + 1); omega
/-- One neighbour more. -/
theorem step_gr {m v k : Nat} {rec : Dst → Nat → Dst × Int} {s : Dst} (hs : DSz m s) (hk : unv m s.num ≤ k + 1) (hrec : ∀ (t : Dst) (w : Nat), DSz m t → w < m → t.num w = 0 → unv m t.num ≤ k → DGr m t (rec t w).1 1) {t : Dst × Int} {w : Int} (hw : 0 ≤ w ∧ w < m) (h : DGr m s t.1 1) : DGr m s (lowStep rec v t w).1 1 := by
  unfold lowStep
  by_cases hv : 0 < t.1.num w.toNat
  · rw [if_pos hv]; exact h
  · rw [if_neg hv]
    have hz : t.1.num w.toNat = 0 := by have := h.sz.pos w.toNat; omega
    have h2 := hrec t.1 w.toNat h.sz (by omega) hz (by have := h.unv; omega)
    obtain ⟨T, e1, e2, e3⟩ := h.gone
    obtain ⟨T2, k1, k2, k3⟩ := h2.gone
    have a1 := h.cnt
    have a2 := h2.cnt
    have a3 := h.blk
    have a4 := h2.blk
    have a5 := h.unv
    have a6 := h2.unv
    have a7 := hs.blk
    by_cases hc : (rec t.1 w.toNat).2 < (rec t.1 w.toNat).1.num v
    · rw [if_pos hc]
      exact ⟨h2.sz, by simp only; omega, ⟨T ++ T2, by simp only; rw [k1, e1, List.append_assoc], by simp only [List.length_append]; omega, by simp only [List.length_append]; omega⟩, by simp only; omega, by simp only; omega⟩
    · rw [if_neg hc]
      have hg : ((rec t.1 w.toNat).1.cut t.1.gone.length v).gone = t.1.gone := by unfold Dst.cut; simp only; rw [k1, List.take_left]
      have hb : ((rec t.1 w.toNat).1.cut t.1.gone.length v).blk.length = (rec t.1 w.toNat).1.blk.length + 1 := by unfold Dst.cut; simp
      have hn : ((rec t.1 w.toNat).1.cut t.1.gone.length v).cnt = (rec t.1 w.toNat).1.cnt := rfl
      have hm : ((rec t.1 w.toNat).1.cut t.1.gone.length v).num = (rec t.1 w.toNat).1.num := rfl
      have b1 := h2.sz.sum
      have b2 := h.sz.gone
      refine ⟨⟨by rw [hn, hm]; exact b1, by rw [hg, hn]; omega, by rw [hb, hn]; omega, by rw [hm]; exact h2.sz.pos⟩, by rw [hn]; omega, ⟨T, by rw [hg]; exact e1, by rw [hn]; omega, e3⟩, by rw [hb, hn]; omega, by rw [hm]; omega⟩
theorem fold_gr {m v k : Nat} {rec : Dst → Nat → Dst × Int} {s : Dst} (hs : DSz m s) (hk : unv m s.num ≤ k + 1) (hrec : ∀ (t : Dst) (w : Nat), DSz m t → w < m → t.num w = 0 → unv m t.num ≤ k → DGr m t (rec t w).1 1) : ∀ (l : List Int) (t : Dst × Int), (∀ x ∈ l, 0 ≤ x ∧ x < m) → DGr m s t.1 1 → DGr m s (l.foldl (lowStep rec v) t).1 1 := fun l => by
  induction l with
  | nil => intro t _ h; exact h
  | cons w l ih =>
    intro t hl h
    rw [List.foldl_cons]
    exact ih _ (fun x hx => hl x (List.mem_cons_of_mem _ hx)) (step_gr hs hk hrec (hl w (by simp)) h)
theorem low_gr {m : Nat} {nb : Nat → List Int} (hnb : ∀ v x, x ∈ nb v → 0 ≤ x ∧ x < m) : ∀ (k : Nat) (s : Dst) (v : Nat), DSz m s → v < m → s.num v = 0 → unv m s.num ≤ k → DGr m s (lowF nb k s v).1 1
  | 0, s, v, _, hv, h0, hk => by have := unv_pos hv h0; omega
  | k + 1, s, v, hs, hv, h0, hk => fold_gr hs hk (low_gr hnb k) (nb v) _ (hnb v) (start_gr hs hv h0)

/-- What a call for v finds. -/
theorem low_mid {es : List (Int × Int)} {m : Nat} {nb : Nat → List Int} (hR : RightG m es) (hnb : ∀ v x, x ∈ nb v ↔ Adj es v x) : ∀ (k : Nat) (A : Int → Prop) (s : Dst) (v : Nat), DPre es m A s v → DSz m s → unv m s.num ≤ k → DMid es m A s v (fun _ => True) (lowF nb k s v).1 (lowF nb k s v).2
  | 0, A, s, v, hp, hs, hk => by
    have h0 : s.num v = 0 := by
      have h1 := hs.pos v
      have h2 : ¬ 0 < s.num v := fun k => hp.new ⟨by have := hp.lt; omega, by simpa using k⟩
      omega
    have := unv_pos hp.lt h0; omega
  | k + 1, A, s, v, hp, hs, hk => by
    have h0 : s.num v = 0 := by
      have h1 := hs.pos v
      have h2 : ¬ 0 < s.num v := fun k => hp.new ⟨by have := hp.lt; omega, by simpa using k⟩
      omega
    have hin : ∀ v x, x ∈ nb v → 0 ≤ x ∧ x < m := fun v x hx => ((((hnb v x).1 hx)).in hR).2.1
    have hu := unv_enter hp.lt h0
    have hsE : DSz m (s.enter v) ∧ unv m (s.enter v).num ≤ k := ⟨(start_gr hs hp.lt h0).sz, by omega⟩
    have step : ∀ (l : List Int) (P : Int → Prop) (t : Dst × Int), (∀ x ∈ l, Adj es v x) → DSz m t.1 → unv m t.1.num ≤ k → DMid es m A s v P t.1 t.2 → DMid es m A s v (fun y => P y ∨ y ∈ l) (l.foldl (lowStep (lowF nb k) v) t).1 (l.foldl (lowStep (lowF nb k) v) t).2 := fun l => by
      induction l with
      | nil =>
        intro P t _ _ _ h
        have : (fun y => P y ∨ y ∈ ([] : List Int)) = P := by funext y; simp
        rw [this]; exact h
      | cons w l ih =>
        intro P t hl ht hk2 h
        rw [List.foldl_cons]
        have hw := hl w (by simp)
        have hwin := (hw.in hR).2.1
        obtain ⟨T, g1, g2, g3, g4, _⟩ := h.gone
        have hSv := g4 v g3
        have hP : (fun y => P y ∨ y ∈ w :: l) = (fun y => (P y ∨ y = w) ∨ y ∈ l) := by funext y; simp [or_assoc]
        rw [hP]
        by_cases hv : 0 < t.1.num w.toNat
        · have e : lowStep (lowF nb k) v t w = (t.1, min t.2 (t.1.num w.toNat)) := by unfold lowStep; rw [if_pos hv]
          rw [e]
          exact ih _ _ (fun x hx => hl x (List.mem_cons_of_mem _ hx)) ht hk2 (mid_old h hSv hw ⟨hwin, hv⟩)
        · have hn : ¬ t.1.Vis m w := fun k => hv k.2
          have hz : t.1.num w.toNat = 0 := by have := ht.pos w.toNat; omega
          have hp2 := pre_next hR hp h hSv hw hn (rfl : w.toNat = w.toNat)
          have h2 := low_mid hR hnb k _ t.1 w.toNat hp2 ht hk2
          have h3 := low_gr hin k t.1 w.toNat ht (by omega) hz hk2
          have hnew := mid_new hR hp h hw hn h2
          have hu3 := h3.unv
          have e : lowStep (lowF nb k) v t w = (if (lowF nb k t.1 w.toNat).2 < (lowF nb k t.1 w.toNat).1.num v then (lowF nb k t.1 w.toNat).1 else (lowF nb k t.1 w.toNat).1.cut t.1.gone.length v, min t.2 (lowF nb k t.1 w.toNat).2) := by
            unfold lowStep
            rw [if_neg hv]
            split <;> rfl
          rw [e]
          refine ih _ _ (fun x hx => hl x (List.mem_cons_of_mem _ hx)) ?_ ?_ hnew
          · simp only
            split
            · exact h3.sz
            · obtain ⟨T2, k1, _⟩ := h3.gone
              have hb := h3.blk
              have := ht.blk
              have := ht.gone
              have := h3.cnt
              refine ⟨h3.sz.sum, ?_, ?_, h3.sz.pos⟩
              · show (List.take t.1.gone.length _).length ≤ (lowF nb k t.1 w.toNat).1.cnt
                rw [k1, List.take_left]; omega
              · show ((lowF nb k t.1 w.toNat).1.blk ++ [_]).length ≤ (lowF nb k t.1 w.toNat).1.cnt
                simp; omega
          · simp only
            split
            · omega
            · show unv m (lowF nb k t.1 w.toNat).1.num ≤ k
              omega
    have h := step (nb v) (fun _ => False) (s.enter v, (s.cnt : Int) + 1) (fun x hx => (hnb v x).1 hx) hsE.1 hsE.2 (mid_start hp)
    exact { h with
      seen := fun y _ ha => h.seen y (Or.inr ((hnb v y).2 ha)) ha
      lowB := fun x a hx ha hadj _ => h.lowB x a hx ha hadj (fun e => Or.inr ((hnb v a).2 (e ▸ hadj))) }

/-- The vertices one behind the other: a call for each that was not come to. -/
def topF (nb : Nat → List Int) (k : Nat) (s : Dst) (l : List Nat) : Dst := l.foldl (fun s v => if s.num v = 0 then (lowF nb k s v).1 else s) s
def Dst.zero : Dst := ⟨fun _ => 0, 0, [], []⟩
/-- Between two calls. -/
structure DTop (es : List (Int × Int)) (m : Nat) (s : Dst) : Prop where
  sz : DSz m s
  inv : BInv es m s
  le : ∀ x, s.Vis m x → s.num x.toNat ≤ s.cnt
  fin : ∀ x, s.Vis m x → ∀ y, Adj es x y → s.Vis m y
  done : ∀ x, s.Vis m x → ∀ y, Adj es x y → ∃ B ∈ s.blk, IsB es x y B
theorem top_zero (es : List (Int × Int)) (m : Nat) : DTop es m Dst.zero := by
  have hv : ∀ x, ¬ Dst.zero.Vis m x := fun x h => by have := h.2; simp [Dst.zero] at this
  refine ⟨⟨?_, by simp [Dst.zero], by simp [Dst.zero], fun x => by simp [Dst.zero]⟩, ⟨by simp [Dst.zero], by simp [Dst.zero], by simp [Dst.zero], by simp [Dst.zero]⟩, fun x h => absurd h (hv x), fun x h => absurd h (hv x), fun x h => absurd h (hv x)⟩
  show 0 + unv m _ ≤ m
  have := List.length_filter_le (fun x => decide (Dst.zero.num x = 0)) (List.range m)
  rw [List.length_range] at this
  unfold unv
  omega
theorem top_sz (m : Nat) (s : Dst) (h : DSz m s) : unv m s.num ≤ m := by have := h.sum; omega
theorem top_step {es : List (Int × Int)} {m : Nat} {nb : Nat → List Int} (hR : RightG m es) (hnb : ∀ v x, x ∈ nb v ↔ Adj es v x) {s : Dst} {v : Nat} (h : DTop es m s) (hv : v < m) (h0 : s.num v = 0) : DTop es m (lowF nb m s v).1 ∧ (lowF nb m s v).1.Vis m v ∧ ∀ x, s.Vis m x → (lowF nb m s v).1.Vis m x := by
  have hnew : ¬ s.Vis m v := fun k => by have := k.2; simp at this; omega
  have hp : DPre es m (fun _ => False) s v := ⟨hv, hnew, fun _ k => k.elim, fun _ _ _ _ k => k.elim, fun x hx _ => h.fin x hx, h.le, fun _ k => k.elim, h.inv⟩
  have hm := low_mid hR hnb m _ s v hp h.sz (top_sz m s h.sz)
  have hin : ∀ v x, x ∈ nb v → 0 ≤ x ∧ x < m := fun v x hx => ((((hnb v x).1 hx)).in hR).2.1
  have hg := low_gr hin m s v h.sz hv h0 (top_sz m s h.sz)
  obtain ⟨T, g1, g2, g3, g4, g5, _, _, g8⟩ := hm.gone
  have hT := g5 (fun _ k => k)
  have hSv := g4 v g3
  have hk : ∀ x, s.Vis m x → (lowF nb m s v).1.Vis m x := fun x hx => vis_keep hm.keep hx
  have hfin : ∀ x, Since m s (lowF nb m s v).1 x → ∀ y, Adj es x y → (lowF nb m s v).1.Vis m y := fun x hx y hy => by
    by_cases e : x = v
    · subst e; exact hm.seen y trivial hy
    · exact hm.fin x hx e y hy
  refine ⟨⟨hg.sz, hm.inv, hm.le, fun x hx y hy => ?_, fun x hx y hy => ?_⟩, hSv.1, hk⟩
  · by_cases hs : s.Vis m x
    · exact hk y (h.fin x hs y hy)
    · exact hfin x ⟨hx, hs⟩ y hy
  · by_cases hs : s.Vis m x
    · obtain ⟨B, hB, hb⟩ := h.done x hs y hy
      exact ⟨B, hm.more B hB, hb⟩
    · by_cases e : x = v
      · subst e
        have hy2 : Since m s (lowF nb m s v).1 y := ⟨hfin v hSv y hy, fun k => hSv.2 (h.fin y k v hy.symm)⟩
        obtain ⟨B, hB, hb⟩ := g8 y hy2 (fun k => by
          rw [hT] at k
          have e2 : y = v := by simpa using k
          exact (hy.in hR).2.2 e2.symm) v hy.symm
        exact ⟨B, hB, hb.turn⟩
      · exact g8 x ⟨hx, hs⟩ (fun k => e (by rw [hT] at k; simpa using k)) y hy
theorem top_all {es : List (Int × Int)} {m : Nat} {nb : Nat → List Int} (hR : RightG m es) (hnb : ∀ v x, x ∈ nb v ↔ Adj es v x) : ∀ (l : List Nat) (s : Dst), (∀ v ∈ l, v < m) → DTop es m s → DTop es m (topF nb m s l) ∧ (∀ x, s.Vis m x → (topF nb m s l).Vis m x) ∧ ∀ v ∈ l, (topF nb m s l).Vis m v := fun l => by
  induction l with
  | nil => intro s _ h; exact ⟨h, fun _ k => k, fun _ k => by cases k⟩
  | cons v l ih =>
    intro s hl h
    have hv := hl v (by simp)
    have e : topF nb m s (v :: l) = topF nb m (if s.num v = 0 then (lowF nb m s v).1 else s) l := rfl
    rw [e]
    by_cases h0 : s.num v = 0
    · rw [if_pos h0]
      obtain ⟨a1, a2, a3⟩ := top_step hR hnb h hv h0
      obtain ⟨b1, b2, b3⟩ := ih _ (fun x hx => hl x (List.mem_cons_of_mem _ hx)) a1
      refine ⟨b1, fun x hx => b2 x (a3 x hx), fun x hx => ?_⟩
      rcases List.mem_cons.1 hx with rfl | hx
      · exact b2 _ a2
      · exact b3 x hx
    · rw [if_neg h0]
      obtain ⟨b1, b2, b3⟩ := ih s (fun x hx => hl x (List.mem_cons_of_mem _ hx)) h
      refine ⟨b1, b2, fun x hx => ?_⟩
      rcases List.mem_cons.1 hx with rfl | hx
      · refine b2 _ ⟨by omega, ?_⟩
        have := h.sz.pos x
        simp only [Int.toNat_natCast]
        omega
      · exact b3 x hx
/-- What the search cuts off is the blocks, each once. -/
theorem top_blocks {es : List (Int × Int)} {m : Nat} {nb : Nat → List Int} (hR : RightG m es) (hnb : ∀ v x, x ∈ nb v ↔ Adj es v x) : (∀ B, B ∈ (topF nb m Dst.zero (List.range m)).blk ↔ IsBlk es B) ∧ (topF nb m Dst.zero (List.range m)).blk.Nodup := by
  obtain ⟨h1, _, h3⟩ := top_all hR hnb (List.range m) Dst.zero (fun v hv => List.mem_range.1 hv) (top_zero es m)
  refine ⟨fun B => ⟨h1.inv.is B, fun hB => ?_⟩, h1.inv.nd⟩
  obtain ⟨hu, a, b, hab, ib⟩ := hB
  have hin := (hab.in hR).1
  have hv := h3 a.toNat (List.mem_range.2 (by omega))
  rw [Int.toNat_of_nonneg hin.1] at hv
  obtain ⟨C, hC, c1, c2⟩ := h1.done a hv b hab
  have : B = C := up_oneB hu c1 (fun x => (ib x).trans (c2 x).symm)
  rw [this]; exact hC
end Go.Proofs.Ytlebimolgienkaa
namespace Go.Proofs.Ytlebimolgienkaa

/-- Holds twice (G1). -/
def TwoL (n : Int) (es : List (Int × Int)) (l : List Int) : Prop := 2 ≤ l.length ∧ WholeL n es l ∧ (2 < l.length → ∀ i, i < l.length → WholeL n es (l.eraseIdx i))
/-- The edges with both ends in l. -/
def withinL (es : List (Int × Int)) (l : List Int) : List (Int × Int) := es.filter (fun e => decide (e.1 ∈ l) && decide (e.2 ∈ l))
theorem within_right {n : Int} {es : List (Int × Int)} (hR : RightG n es) (l : List Int) : RightG n (withinL es l) :=
  ⟨hR.1, hR.2.1, Nat.le_trans (List.length_filter_le _ _) hR.2.2.1, fun f hf => hR.2.2.2.1 f (List.mem_filter.1 hf).1, hR.2.2.2.2.filter _⟩
theorem within_adj {es : List (Int × Int)} {l : List Int} {x y : Int} : Adj (withinL es l) x y ↔ Adj es x y ∧ x ∈ l ∧ y ∈ l := by
  unfold Adj withinL
  rw [List.mem_filter, List.mem_filter, Bool.and_eq_true, Bool.and_eq_true, decide_eq_true_eq, decide_eq_true_eq]
  constructor
  · rintro (⟨h1, h2, h3⟩ | ⟨h1, h2, h3⟩)
    · exact ⟨Or.inl h1, h2, h3⟩
    · exact ⟨Or.inr h1, h3, h2⟩
  · rintro ⟨h1 | h1, h2, h3⟩
    · exact Or.inl ⟨h1, h2, h3⟩
    · exact Or.inr ⟨h1, h3, h2⟩
theorem mem_erase_of {l : List Int} (hn : l.Nodup) {i : Nat} (hi : i < l.length) {x : Int} : x ∈ l.eraseIdx i ↔ x ∈ l ∧ x ≠ l[i] := by
  rw [List.mem_eraseIdx_iff_getElem]
  have hp := List.pairwise_iff_getElem.1 (List.nodup_iff_pairwise_ne.1 hn)
  constructor
  · rintro ⟨j, hj, hji, rfl⟩
    refine ⟨List.getElem_mem _, fun e => ?_⟩
    rcases Nat.lt_or_gt_of_ne hji with h | h
    · exact hp j i hj hi h e
    · exact hp i j hi hj h e.symm
  · rintro ⟨h1, h2⟩
    obtain ⟨j, hj, rfl⟩ := List.getElem_of_mem h1
    exact ⟨j, hj, fun e => h2 (by subst e; rfl), rfl⟩
/-- Of two that are whole together, each has a neighbour there. -/
theorem rch_first {es : List (Int × Int)} {l : List Int} {x y : Int} (h : Rch es l x y) (hne : y ≠ x) : ∃ z, Adj es x z ∧ z ∈ l := by
  rcases h (fun z => z = x ∨ ∃ z, Adj es x z ∧ z ∈ l) (Or.inl rfl) (fun u v hu ha hv => by
    rcases hu with rfl | hu
    · exact Or.inr ⟨v, ha, hv⟩
    · exact Or.inr hu) with h | h
  · exact absurd h hne
  · exact h
theorem rch_av {es : List (Int × Int)} {l : List Int} {v x y : Int} (h : Rch es l x y) (hx : x ∈ l) (hv : v ∉ l) (m : List Int) (hm : ∀ z ∈ l, z ∈ m) : Av (withinL es m) v x y :=
  (h (fun z => z ∈ l ∧ Av (withinL es m) v x z) ⟨hx, Av.refl _ _ _⟩ (fun p q hp ha hq => ⟨hq, hp.2.step (within_adj.2 ⟨ha, hm p hp.1, hm q hq⟩) (fun e => hv (e ▸ hp.1)) (fun e => hv (e ▸ hq))⟩)).2
theorem two_iff {m : Nat} {es : List (Int × Int)} {l : List Int} {Bs : List (List Int)} (hR : RightG m es) (hW : WholeL m es l) (hB : ∀ B, B ∈ Bs ↔ IsBlk (withinL es l) B) (hnd : Bs.Nodup) : Bs.length = 1 ↔ TwoL m es l := by
  have hRw := within_right hR l
  constructor
  · intro h1
    obtain ⟨B, rfl⟩ : ∃ B, Bs = [B] := List.length_eq_one_iff.1 h1
    have hBB := (hB B).1 (by simp)
    obtain ⟨hu, a, b, hab, ib⟩ := hBB
    have hab2 := within_adj.1 hab
    have hne := (hab.in hRw).2.2
    have hmem : ∀ x, x ∈ l ↔ x ∈ B := fun x => by
      constructor
      · intro hx
        obtain ⟨y, hy, hyx⟩ : ∃ y ∈ l, y ≠ x := by
          by_cases e : a = x
          · exact ⟨b, hab2.2.2, fun k => hne (e.trans k.symm)⟩
          · exact ⟨a, hab2.2.1, e⟩
        obtain ⟨z, hz, hzl⟩ := rch_first (hW.one x hx y hy) hyx
        have hxz : Adj (withinL es l) x z := within_adj.2 ⟨hz, hx, hzl⟩
        obtain ⟨C, hC, ic⟩ := blk_ex hRw hxz
        have := (hB C).2 hC
        simp at this
        subst this
        exact (ic x).2 (Bl.own (e := (x, z)) hxz (Or.inl rfl))
      · intro hx
        obtain ⟨f, hf, _, hend⟩ := (ib x).1 hx
        have := within_adj.1 hf
        rcases hend with rfl | rfl
        · exact this.2.1
        · exact this.2.2
    have hlen : 2 ≤ l.length := by
      have := len_le_subI (a := [a, b]) (b := l) (by simp; exact hne) (fun x hx => by
        simp at hx
        rcases hx with rfl | rfl
        · exact hab2.2.1
        · exact hab2.2.2)
      simpa using this
    refine ⟨hlen, hW, fun h2 i hi => ?_⟩
    have hel : (l.eraseIdx i).length = l.length - 1 := List.length_eraseIdx_of_lt hi
    have h := block_whole (v := l[i]) (l := l.eraseIdx i) hRw hne (hW.nd.sublist (List.eraseIdx_sublist _ _)) (by omega) (fun x => by
      rw [mem_erase_of hW.nd hi, hmem, ib])
    exact ⟨h.ne, h.nd, h.inn, fun x hx y hy S h0 hs => h.one x hx y hy S h0 (fun u v hu ha hv => hs u v hu (within_adj.1 ha).1 hv)⟩
  · rintro ⟨h2, _, h3⟩
    -- no vertex parts two edges
    have tog : ∀ e f : Int × Int, Adj (withinL es l) e.1 e.2 → Adj (withinL es l) f.1 f.2 → Tog (withinL es l) e f := fun e f he hf v x y hx hy k1 k2 => by
      have hxl : x ∈ l := by
        have := within_adj.1 he
        rcases hx with rfl | rfl
        · exact this.2.1
        · exact this.2.2
      have hyl : y ∈ l := by
        have := within_adj.1 hf
        rcases hy with rfl | rfl
        · exact this.2.1
        · exact this.2.2
      by_cases hv : v ∈ l
      · obtain ⟨i, hi, e1⟩ := List.getElem_of_mem hv
        by_cases h4 : 2 < l.length
        · have hw := h3 h4 i hi
          have m1 : x ∈ l.eraseIdx i := (mem_erase_of hW.nd hi).2 ⟨hxl, by rw [e1]; exact k1⟩
          have m2 : y ∈ l.eraseIdx i := (mem_erase_of hW.nd hi).2 ⟨hyl, by rw [e1]; exact k2⟩
          exact rch_av (hw.one x m1 y m2) m1 (fun k => ((mem_erase_of hW.nd hi).1 k).2 e1.symm) l (fun z hz => List.mem_of_mem_eraseIdx hz)
        · have hxy : x = y := by
            apply Classical.byContradiction
            intro hne
            have := len_le_subI (a := [x, y, v]) (b := l) (by simp; exact ⟨⟨hne, k1⟩, k2⟩) (fun z hz => by
              simp at hz
              rcases hz with rfl | rfl | rfl
              · exact hxl
              · exact hyl
              · exact hv)
            simp at this
            omega
          rw [hxy]; exact Av.refl _ _ _
      · exact rch_av (hW.one x hxl y hyl) hxl hv l (fun z hz => hz)
    -- there is an edge
    have hx : l[0]'(by omega) ∈ l := List.getElem_mem _
    have hy : l[1]'(by omega) ∈ l := List.getElem_mem _
    have hne : l[1]'(by omega) ≠ l[0]'(by omega) := fun e => by
      have := (List.nodup_iff_pairwise_ne.1 hW.nd)
      exact (List.pairwise_iff_getElem.1 this 0 1 (by omega) (by omega) (by omega)) e.symm
    obtain ⟨z, hz, hzl⟩ := rch_first (hW.one _ hx _ hy) hne
    have hxz : Adj (withinL es l) (l[0]'(by omega)) z := within_adj.2 ⟨hz, hx, hzl⟩
    obtain ⟨C, hC, ic⟩ := blk_ex hRw hxz
    have hall : ∀ B ∈ Bs, B = C := fun B hb => by
      obtain ⟨hu, a, b, hab, ib⟩ := (hB B).1 hb
      have ht := tog (a, b) (l[0]'(by omega), z) hab hxz
      exact up_oneB hu hC.1 (fun x => by
        rw [ib, ic]
        exact ⟨fun h => h.tog (hab.in hRw).2.2 ht, fun h => h.tog (hxz.in hRw).2.2 ht.symm⟩)
    have hCB := (hB C).2 hC
    match Bs, hall, hCB, hnd with
    | [], _, h, _ => cases h
    | [_], _, _, _ => rfl
    | A :: B :: r, ha, _, hn =>
      have e1 := ha A (by simp)
      have e2 := ha B (by simp)
      subst e1
      rw [e2, List.nodup_cons] at hn
      exact absurd (by simp) hn.1
end Go.Proofs.Ytlebimolgienkaa
namespace Go.Proofs.Ytlebimolgienkaa

/-- A ring (E3). -/
def Ring (c : List Int) : Prop := 3 ≤ c.length ∧ c.Nodup
/-- From place s on, the one way round; and the other. -/
def oneL (c : List Int) (s : Nat) : List Int := (List.range c.length).map (fun i => c.getD ((s + i) % c.length) 0)
def twoL (c : List Int) (s : Nat) : List Int := (List.range c.length).map (fun i => c.getD ((s + c.length - i) % c.length) 0)
theorem oneL_len (c : List Int) (s : Nat) : (oneL c s).length = c.length := by simp [oneL]
theorem twoL_len (c : List Int) (s : Nat) : (twoL c s).length = c.length := by simp [twoL]
theorem oneL_at {c : List Int} {s i : Nat} (h : i < (oneL c s).length) : (oneL c s)[i] = c.getD ((s + i) % c.length) 0 := by simp [oneL]
theorem twoL_at {c : List Int} {s i : Nat} (h : i < (twoL c s).length) : (twoL c s)[i] = c.getD ((s + c.length - i) % c.length) 0 := by simp [twoL]
theorem oneL_zero (c : List Int) : oneL c 0 = c := List.ext_getElem (oneL_len c 0) (fun i h1 h2 => by
  rw [oneL_at h1, Nat.zero_add, Nat.mod_eq_of_lt h2]; simp [List.getD, h2])
/-- A way round. -/
def Round (c L : List Int) : Prop := ∃ s, s < c.length ∧ (L = oneL c s ∨ L = twoL c s)
theorem Round.len {c L : List Int} (h : Round c L) : L.length = c.length := by
  obtain ⟨s, _, rfl | rfl⟩ := h
  · exact oneL_len c s
  · exact twoL_len c s
/-- Turn (E3): the least of the ways round. -/
def TurnIs (c L : List Int) : Prop := (¬ Ring c ∧ L = c) ∨ (Ring c ∧ Round c L ∧ ∀ M, Round c M → lexL M L = false)
theorem TurnIs.one {c L M : List Int} (h : TurnIs c L) (k : TurnIs c M) : L = M := by
  rcases h with ⟨h, rfl⟩ | ⟨h, h1, h2⟩
  · rcases k with ⟨_, rfl⟩ | ⟨k, _⟩
    · rfl
    · exact absurd k h
  · rcases k with ⟨k, _⟩ | ⟨_, k1, k2⟩
    · exact absurd h k
    · exact lexL_tri (k2 L h1) (h2 M k1)
theorem TurnIs.len {c L : List Int} (h : TurnIs c L) : L.length = c.length := by
  rcases h with ⟨_, rfl⟩ | ⟨_, h, _⟩
  · rfl
  · exact h.len
/-- The best so far, of the ways from the first k places on. -/
def BestTo (c B : List Int) (k : Nat) : Prop := Round c B ∧ ∀ s, s < k → lexL (oneL c s) B = false ∧ lexL (twoL c s) B = false
theorem lex_low {M A B : List Int} (h : lexL M B = false) (k : A = B ∨ lexL A B = true) : lexL M A = false := by
  rcases k with rfl | k
  · exact h
  · cases h2 : lexL M A with
    | false => rfl
    | true => rw [lexL_trans h2 k] at h; cases h
theorem BestTo.low {c A B : List Int} {k : Nat} (h : BestTo c B k) (hA : Round c A) (hk : lexL A B = true) : BestTo c A k :=
  ⟨hA, fun s hs => ⟨lex_low (h.2 s hs).1 (Or.inr hk), lex_low (h.2 s hs).2 (Or.inr hk)⟩⟩
theorem BestTo.put {c B B1 B2 : List Int} {k : Nat} (h : BestTo c B k) (hk : k < c.length) (h1 : B1 = if lexL (oneL c k) B = true then oneL c k else B) (h2 : B2 = if lexL (twoL c k) B1 = true then twoL c k else B1) : BestTo c B2 (k + 1) := by
  have a1 : BestTo c B1 k ∧ lexL (oneL c k) B1 = false := by
    by_cases e : lexL (oneL c k) B = true
    · rw [if_pos e] at h1; subst h1; exact ⟨h.low ⟨k, hk, Or.inl rfl⟩ e, lexL_irrefl _⟩
    · rw [if_neg e] at h1; subst h1; exact ⟨h, by simpa using e⟩
  have a2 : BestTo c B2 k ∧ lexL (oneL c k) B2 = false ∧ lexL (twoL c k) B2 = false := by
    by_cases e : lexL (twoL c k) B1 = true
    · rw [if_pos e] at h2; subst h2; exact ⟨a1.1.low ⟨k, hk, Or.inr rfl⟩ e, lex_low a1.2 (Or.inr e), lexL_irrefl _⟩
    · rw [if_neg e] at h2; subst h2; exact ⟨a1.1, a1.2, by simpa using e⟩
  refine ⟨a2.1.1, fun s hs => ?_⟩
  by_cases e : s < k
  · exact a2.1.2 s e
  · obtain rfl : s = k := by omega
    exact a2.2
theorem BestTo.turn {c B : List Int} (h : BestTo c B c.length) (hc : Ring c) : TurnIs c B := Or.inr ⟨hc, h.1, fun M hM => by
  obtain ⟨s, hs, rfl | rfl⟩ := hM
  · exact (h.2 s hs).1
  · exact (h.2 s hs).2⟩

theorem mod_sub_self {n p : Nat} : (p + n - p) % n = 0 := by
  rw [Nat.add_sub_cancel_left]; exact Nat.mod_self n
/-- A way round of a way round is a way round. -/
theorem getD_mod {c : List Int} {n : Nat} {f : Nat → Nat} (L : List Int) (hL : L = (List.range c.length).map (fun i => c.getD (f i % c.length) 0)) (hn : n = c.length) (i : Nat) (hi : i < n) : L.getD i 0 = c.getD (f i % c.length) 0 := by
  subst hL
  subst hn
  simp [List.getD, hi]
theorem one_one {c : List Int} (hc : 0 < c.length) (s t : Nat) : oneL (oneL c s) t = oneL c ((s + t) % c.length) := by
  refine List.ext_getElem (by rw [oneL_len, oneL_len, oneL_len]) (fun i h1 h2 => ?_)
  rw [oneL_at h1, oneL_at h2, oneL_len]
  rw [getD_mod (f := fun i => s + i) (oneL c s) rfl rfl _ (Nat.mod_lt _ hc)]
  congr 1
  simp only [Nat.add_mod_mod, Nat.mod_add_mod, Nat.add_assoc]
theorem sub_mod' {n a b : Nat} (hb : b ≤ n) : (a + n - b) % n = (a % n + n - b) % n := by
  have h : a + n - b = a % n + n - b + n * (a / n) := by
    have := Nat.mod_add_div a n
    omega
  rw [h, Nat.add_mul_mod_self_left]
theorem two_one {c : List Int} (hc : 0 < c.length) (s t : Nat) : oneL (twoL c s) t = twoL c ((s + c.length - t % c.length) % c.length) := by
  refine List.ext_getElem (by rw [oneL_len, twoL_len, twoL_len]) (fun i h1 h2 => ?_)
  rw [oneL_at h1, twoL_at h2, twoL_len]
  have hlt := Nat.mod_lt (t + i) hc
  rw [getD_mod (f := fun i => s + c.length - i) (twoL c s) rfl rfl _ hlt]
  have hi : i < c.length := by rw [twoL_len] at h2; exact h2
  congr 1
  have ht := Nat.mod_lt t hc
  show (s + c.length - (t + i) % c.length) % c.length = ((s + c.length - t % c.length) % c.length + c.length - i) % c.length
  rw [← sub_mod' (Nat.le_of_lt hi)]
  have e : (t + i) % c.length = (t % c.length + i) % c.length := by rw [Nat.mod_add_mod]
  rw [e]
  by_cases h : t % c.length + i < c.length
  · rw [Nat.mod_eq_of_lt h]
    have : s + c.length - t % c.length + c.length - i = s + c.length - (t % c.length + i) + c.length := by omega
    rw [this, Nat.add_mod_right]
  · have e2 : (t % c.length + i) % c.length = t % c.length + i - c.length := by
      rw [Nat.mod_eq_sub_mod (by omega), Nat.mod_eq_of_lt (by omega)]
    rw [e2]
    congr 1
    omega
theorem one_two {c : List Int} (hc : 0 < c.length) (s t : Nat) : twoL (oneL c s) t = twoL c ((s + t) % c.length) := by
  refine List.ext_getElem (by rw [twoL_len, oneL_len, twoL_len]) (fun i h1 h2 => ?_)
  rw [twoL_at h1, twoL_at h2, oneL_len]
  have hi : i < c.length := by rw [twoL_len] at h2; exact h2
  rw [getD_mod (f := fun i => s + i) (oneL c s) rfl rfl _ (Nat.mod_lt _ hc)]
  congr 1
  show (s + (t + c.length - i) % c.length) % c.length = ((s + t) % c.length + c.length - i) % c.length
  rw [Nat.add_mod_mod, ← sub_mod' (Nat.le_of_lt hi)]
  congr 1
  omega
theorem two_two {c : List Int} (hc : 0 < c.length) (s t : Nat) : twoL (twoL c s) t = oneL c ((s + c.length - t % c.length) % c.length) := by
  refine List.ext_getElem (by rw [twoL_len, twoL_len, oneL_len]) (fun i h1 h2 => ?_)
  rw [twoL_at h1, oneL_at h2, twoL_len]
  have hi : i < c.length := by rw [oneL_len] at h2; exact h2
  have hlt := Nat.mod_lt (t + c.length - i) hc
  rw [getD_mod (f := fun i => s + c.length - i) (twoL c s) rfl rfl _ hlt]
  congr 1
  show (s + c.length - (t + c.length - i) % c.length) % c.length = ((s + c.length - t % c.length) % c.length + i) % c.length
  have ht := Nat.mod_lt t hc
  rw [Nat.mod_add_mod, sub_mod' (a := t) (Nat.le_of_lt hi)]
  by_cases h : t % c.length < i
  · rw [Nat.mod_eq_of_lt (a := t % c.length + c.length - i) (by omega), show s + c.length - t % c.length + i = s + c.length - (t % c.length + c.length - i) + c.length by omega, Nat.add_mod_right]
  · have e2 : (t % c.length + c.length - i) % c.length = t % c.length - i := by
      rw [show t % c.length + c.length - i = t % c.length - i + c.length by omega, Nat.add_mod_right, Nat.mod_eq_of_lt (by omega)]
    rw [e2]
    congr 1
    omega
/-- The ways round of a way round are those of the ring. -/
theorem Round.trans {c L M : List Int} (h : Round c L) (k : Round L M) : Round c M := by
  have hl := h.len
  obtain ⟨t, ht, hM⟩ := k
  have hc : 0 < c.length := by omega
  obtain ⟨s, hs, rfl | rfl⟩ := h
  · rcases hM with rfl | rfl
    · exact ⟨_, Nat.mod_lt _ hc, Or.inl (one_one hc s t)⟩
    · exact ⟨_, Nat.mod_lt _ hc, Or.inr (one_two hc s t)⟩
  · rcases hM with rfl | rfl
    · exact ⟨_, Nat.mod_lt _ hc, Or.inr (two_one hc s t)⟩
    · exact ⟨_, Nat.mod_lt _ hc, Or.inl (two_two hc s t)⟩
theorem Round.symm {c L : List Int} (h : Round c L) : Round L c := by
  have hl := h.len
  obtain ⟨s, hs, rfl | rfl⟩ := h
  · refine ⟨(c.length - s) % c.length, by rw [hl]; exact Nat.mod_lt _ (by omega), Or.inl ?_⟩
    rw [one_one (by omega), Nat.add_mod_mod, show s + (c.length - s) = c.length by omega, Nat.mod_self, oneL_zero]
  · refine ⟨s, by rw [hl]; exact hs, Or.inr ?_⟩
    rw [two_two (by omega), Nat.mod_eq_of_lt hs, mod_sub_self, oneL_zero]
theorem Round.mem {c L : List Int} (h : Round c L) {x : Int} (hx : x ∈ L) : x ∈ c := by
  have hl := h.len
  have hp := List.length_pos_of_mem hx
  have hc : 0 < c.length := by omega
  obtain ⟨s, hs, rfl | rfl⟩ := h
  · obtain ⟨i, _, rfl⟩ := List.mem_map.1 hx
    have := Nat.mod_lt (s + i) hc
    simp [List.getD, this]
  · obtain ⟨i, _, rfl⟩ := List.mem_map.1 hx
    have := Nat.mod_lt (s + c.length - i) hc
    simp [List.getD, this]
theorem nodup_of_sub {a b : List Int} (h : a.Nodup) (hl : b.length = a.length) (hs : ∀ x ∈ a, x ∈ b) : b.Nodup := by
  induction a generalizing b with
  | nil => simp at hl; subst hl; simp
  | cons x a ih =>
    have hx : x ∈ b := hs x (by simp)
    obtain ⟨h1, h2⟩ := List.nodup_cons.1 h
    have hle : (b.erase x).length = a.length := by rw [List.length_erase_of_mem hx]; simp at hl; omega
    have hsub : ∀ e ∈ a, e ∈ b.erase x := fun e he => (List.mem_erase_of_ne (fun e' => h1 (by rw [← e']; exact he))).2 (hs e (List.mem_cons_of_mem _ he))
    have hn := ih h2 hle hsub
    have hxn : x ∉ b.erase x := fun hm => by
      have := len_le_subI (a := x :: a) (b := b.erase x) h (fun e he => by
        rcases List.mem_cons.1 he with rfl | he
        · exact hm
        · exact hsub e he)
      simp at this
      omega
    exact (List.perm_cons_erase hx).nodup_iff.2 (List.nodup_cons.2 ⟨hxn, hn⟩)
theorem Round.ring {c L : List Int} (h : Round c L) (hc : Ring c) : Ring L := ⟨by rw [h.len]; exact hc.1, nodup_of_sub hc.2 h.len (fun _ hx => h.symm.mem hx)⟩
/-- A ring's Turn is the Turn of each of its ways round. -/
theorem TurnIs.round {c d L : List Int} (h : TurnIs c L) (hd : Round c d) (hc : Ring c) : TurnIs d L := by
  rcases h with ⟨h, _⟩ | ⟨_, h1, h2⟩
  · exact absurd hc h
  · exact Or.inr ⟨hd.ring hc, hd.symm.trans h1, fun M hM => h2 M (hd.trans hM)⟩
theorem TurnIs.again {c L : List Int} (h : TurnIs c L) : TurnIs L L := by
  by_cases hc : Ring c
  · have h' := h
    rcases h with ⟨h, _⟩ | ⟨_, h1, _⟩
    · exact absurd hc h
    · exact h'.round h1 hc
  · rcases h with ⟨_, rfl⟩ | ⟨h, _⟩
    · exact Or.inl ⟨hc, rfl⟩
    · exact absurd h hc
/-- The way back from the same place. -/
theorem two_back {c : List Int} (hc : 0 < c.length) : twoL c 0 = (c.headD 0) :: c.tail.reverse := by
  obtain ⟨x, l, rfl⟩ : ∃ x l, c = x :: l := by
    cases c with
    | nil => simp at hc
    | cons x l => exact ⟨x, l, rfl⟩
  refine List.ext_getElem (by rw [twoL_len]; simp) (fun i h1 h2 => ?_)
  rw [twoL_at h1]
  cases i with
  | zero => simp
  | succ j =>
    have hj : j < l.length := by rw [twoL_len] at h1; simpa using h1
    simp only [List.headD_cons, List.tail_cons, List.getElem_cons_succ, List.getElem_reverse, List.length_cons, Nat.zero_add]
    rw [Nat.mod_eq_of_lt (by omega), show l.length + 1 - (j + 1) = (l.length - 1 - j) + 1 by omega]
    simp [List.getD]
    rw [List.getElem?_eq_getElem (by omega)]
    rfl
/-- The Turn of a ring begins with its least number and goes on to the lesser neighbour. -/
theorem TurnIs.first {c L : List Int} (h : TurnIs c L) (hc : Ring c) : ∀ (h1 : 1 < L.length), L[1] < L[L.length - 1] := by
  intro h1
  have hr : Ring L := by
    rcases h with ⟨h, _⟩ | ⟨_, h2, _⟩
    · exact absurd hc h
    · exact h2.ring hc
  have hself := h.again
  rcases hself with ⟨h2, _⟩ | ⟨_, _, h2⟩
  · exact absurd hr h2
  · have h3 := h2 (twoL L 0) ⟨0, by omega, Or.inr rfl⟩
    rw [two_back (by omega)] at h3
    have hl := hr.1
    match L, h1, hr, h3, hl with
    | x :: z :: w :: l, h1, hr, h3, hl =>
      have hne : (x :: z :: w :: l).tail.reverse ≠ [] := by simp
      obtain ⟨u, t, ht⟩ := List.exists_cons_of_ne_nil hne
      have hu : u = (x :: z :: w :: l)[(x :: z :: w :: l).length - 1]'(by simp) := by
        have : ((x :: z :: w :: l).tail.reverse)[0]'(by rw [ht]; simp) = u := by rw [List.getElem_of_eq ht]; rfl
        rw [← this, List.getElem_reverse, List.getElem_tail]
        congr 1
      rw [ht] at h3
      simp only [List.headD_cons, lexL, Int.lt_irrefl, decide_false, beq_self_eq_true, Bool.true_and, Bool.false_or] at h3
      rw [Bool.or_eq_false_iff, decide_eq_false_iff_not] at h3
      have hz : z ≠ u := by
        intro e
        have := List.pairwise_iff_getElem.1 hr.2 1 ((x :: z :: w :: l).length - 1) (by simp) (by simp) (by simp)
        apply this
        rw [← hu, ← e]
        rfl
      rw [← hu]
      show z < u
      have := h3.1
      omega
end Go.Proofs.Ytlebimolgienkaa
namespace Go.Proofs.Ytlebimolgienkaa
open Go.RowKit Go.Lib

/-- What is known of a slice that came in, beside its cells. -/
def Slw (a : Option Addr) (cap n : Nat) : Prop := n ≤ cap ∧ (a = none → cap = 0)
theorem Sl.w {a : Option Addr} {cap n : Nat} (h : Sl a cap n) : Slw a cap n := ⟨h.1, h.2.1⟩
/-- Rows in memory, with what is known of their slices. -/
def LLS (w : World) (a : Option Addr) (LL : List (List Int)) : Prop :=
  0 < LL.length → ∃ g off, a = some ⟨g, off, none⟩ ∧ g < w.heap.size ∧ ∀ k (hk : k < LL.length), ∃ ak ck, w.cell? ⟨g, off + k, none⟩ = some (.slice ak LL[k].length ck) ∧ IAt w ak LL[k] ∧ Slw ak ck LL[k].length
theorem LLS.below {w w' : World} {a : Option Addr} {LL : List (List Int)} (h : LLS w a LL) (hb : Below w.heap.size w w') : LLS w' a LL := fun h0 => by
  obtain ⟨g, off, ha, hg, hc⟩ := h h0
  refine ⟨g, off, ha, Nat.lt_of_lt_of_le hg hb.size, fun k hk => ?_⟩
  obtain ⟨ak, ck, h1, h2, h3⟩ := hc k hk
  exact ⟨ak, ck, (hb.cell (p := ⟨g, off + k, none⟩) hg).trans h1, h2.below hb, h3⟩
theorem LLS.at {w : World} {a : Option Addr} {LL : List (List Int)} (h : LLS w a LL) {k : Nat} (hk : k < LL.length) : ∃ g off ak ck, a = some ⟨g, off, none⟩ ∧ w.cell? ⟨g, off + k, none⟩ = some (.slice ak LL[k].length ck) ∧ IAt w ak LL[k] ∧ Slw ak ck LL[k].length := by
  obtain ⟨g, off, ha, hg, hc⟩ := h (by omega)
  obtain ⟨ak, ck, h1, h2, h3⟩ := hc k hk
  exact ⟨g, off, ak, ck, ha, h1, h2, h3⟩
/-- A row that was just made. -/
theorem iat_new (w : World) (xs : List Int) (arr : Array Value) (fr : Nat × Nat) (h : arr = (xs.map (Value.int .i64)).toArray) : IAt (w.alloc (.cells arr 3 fr)) (some ⟨w.heap.size, 0, none⟩) xs := fun _ => by
  refine ⟨w.heap.size, 0, rfl, by simp, fun k hk => ?_⟩
  rw [Nat.zero_add, cell_of_heap (heap_alloc_new w _), h]
  simp [hk]
end Go.Proofs.Ytlebimolgienkaa
