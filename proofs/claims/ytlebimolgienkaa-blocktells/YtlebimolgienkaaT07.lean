/-
  The blocks and cuts of a graph as they are told (layer 7). No program is named here.
  The vertices of all blocks, less one each, are as many as there are vertices, less the components (layer 7). No program is named here.
  Graphs made of a graph (layer 6): what some vertices induce, what is left when one goes, two neighbours made one. No program is named here.
  Who goes, and what is left (layer 6): renumbered edges. No program is named here.
  What the calls of layer 6 tell, and what follows of it. No program is named here.
  How many edges a deletion and a contraction leave. No program is named here.
  How many blocks have a vertex, and how many parts there are without it (layer 7). No program is named here.
  One edge more; a way round an edge (layer 7). No program is named here.
  The row of an edge: for each vertex, what an end that is another one belongs to without it (layer 7). No program is named here.
-/
import Derived.Test.YtlebimolgienkaaT06
import Derived.Test.YtlebimolgienkaaT02
namespace Go.Proofs.Ytlebimolgienkaa

/-- A row is a block: its vertices rise. -/
def IsBlk (es : List (Int × Int)) (B : List Int) : Prop := B.Pairwise (· < ·) ∧ ∃ a b, Adj es a b ∧ ∀ x, x ∈ B ↔ Bl es (a, b) x
/-- All blocks, in their order. -/
structure BlocksL (es : List (Int × Int)) (Bs : List (List Int)) : Prop where
  is : ∀ B, B ∈ Bs ↔ IsBlk es B
  ord : Bs.Pairwise (fun A B => lexL A B = true)
/-- All cuts, rising. -/
structure CutsL (es : List (Int × Int)) (Cs : List Int) : Prop where
  is : ∀ v, v ∈ Cs ↔ ∃ x y, Adj es v x ∧ Adj es v y ∧ ¬ Av es v x y
  up : Cs.Pairwise (· < ·)
/-- Rows in an order, with the same members, are one. -/
theorem lex_one : ∀ {a b : List (List Int)}, a.Pairwise (fun A B => lexL A B = true) → b.Pairwise (fun A B => lexL A B = true) → (∀ x, x ∈ a ↔ x ∈ b) → a = b
  | [], [], _, _, _ => rfl
  | [], y :: b, _, _, h => by have := (h y).2 (by simp); simp at this
  | x :: a, [], _, _, h => by have := (h x).1 (by simp); simp at this
  | x :: a, y :: b, ha, hb, h => by
    obtain ⟨h1, h2⟩ := List.pairwise_cons.1 ha
    obtain ⟨k1, k2⟩ := List.pairwise_cons.1 hb
    have e : x = y := by
      rcases List.mem_cons.1 ((h x).1 (by simp)) with e | e
      · exact e
      · rcases List.mem_cons.1 ((h y).2 (by simp)) with e' | e'
        · exact e'.symm
        · have r1 := k1 x e
          have r2 := h1 y e'
          rw [lexL_asymm r1] at r2
          cases r2
    subst e
    congr 1
    refine lex_one h2 k2 (fun z => ⟨fun hz => ?_, fun hz => ?_⟩)
    · rcases List.mem_cons.1 ((h z).1 (List.mem_cons_of_mem _ hz)) with e | e
      · subst e
        have := h1 z hz
        rw [lexL_irrefl] at this
        cases this
      · exact e
    · rcases List.mem_cons.1 ((h z).2 (List.mem_cons_of_mem _ hz)) with e | e
      · subst e
        have := k1 z hz
        rw [lexL_irrefl] at this
        cases this
      · exact e
theorem BlocksL.one {es : List (Int × Int)} {A B : List (List Int)} (h : BlocksL es A) (k : BlocksL es B) : A = B := lex_one h.ord k.ord (fun x => (h.is x).trans (k.is x).symm)
theorem up_oneB : ∀ {a b : List Int}, a.Pairwise (· < ·) → b.Pairwise (· < ·) → (∀ x, x ∈ a ↔ x ∈ b) → a = b
  | [], [], _, _, _ => rfl
  | [], y :: b, _, _, h => by have := (h y).2 (by simp); simp at this
  | x :: a, [], _, _, h => by have := (h x).1 (by simp); simp at this
  | x :: a, y :: b, ha, hb, h => by
    obtain ⟨h1, h2⟩ := List.pairwise_cons.1 ha
    obtain ⟨k1, k2⟩ := List.pairwise_cons.1 hb
    have e : x = y := by
      rcases List.mem_cons.1 ((h x).1 (by simp)) with e | e
      · exact e
      · rcases List.mem_cons.1 ((h y).2 (by simp)) with e' | e'
        · exact e'.symm
        · have := k1 x e
          have := h1 y e'
          omega
    subst e
    congr 1
    refine up_oneB h2 k2 (fun z => ⟨fun hz => ?_, fun hz => ?_⟩)
    · rcases List.mem_cons.1 ((h z).1 (List.mem_cons_of_mem _ hz)) with e | e
      · have := h1 z hz; omega
      · exact e
    · rcases List.mem_cons.1 ((h z).2 (List.mem_cons_of_mem _ hz)) with e | e
      · have := k1 z hz; omega
      · exact e
theorem CutsL.one {es : List (Int × Int)} {A B : List Int} (h : CutsL es A) (k : CutsL es B) : A = B := up_oneB h.up k.up (fun x => (h.is x).trans (k.is x).symm)
/-- The block of an edge, as a row. -/
theorem blk_ex {m : Nat} {es : List (Int × Int)} (hR : RightG m es) {a b : Int} (ha : Adj es a b) : ∃ B, IsBlk es B ∧ ∀ x, x ∈ B ↔ Bl es (a, b) x := by
  have hdec : ∀ x, Decidable (Bl es (a, b) x) := fun x => Classical.propDecidable _
  refine ⟨((List.range m).filter (fun i : Nat => @decide (Bl es (a, b) (i : Int)) (hdec i))).map (fun i : Nat => (i : Int)), ?_, ?_⟩
  · refine ⟨?_, a, b, ha, ?_⟩
    · rw [List.pairwise_map]
      exact (List.pairwise_lt_range.filter _).imp (fun h => by omega)
    · intro x
      simp only [List.mem_map, List.mem_filter, List.mem_range, decide_eq_true_eq]
      constructor
      · rintro ⟨i, ⟨_, h2⟩, rfl⟩; exact h2
      · intro h
        have := h.in hR
        exact ⟨x.toNat, ⟨by omega, by rw [Int.toNat_of_nonneg this.1]; exact h⟩, by omega⟩
  · intro x
    simp only [List.mem_map, List.mem_filter, List.mem_range, decide_eq_true_eq]
    constructor
    · rintro ⟨i, ⟨_, h2⟩, rfl⟩; exact h2
    · intro h
      have := h.in hR
      exact ⟨x.toNat, ⟨by omega, by rw [Int.toNat_of_nonneg this.1]; exact h⟩, by omega⟩
/-- Two blocks with two vertices in common are one row. -/
theorem blk_share {n : Int} {es : List (Int × Int)} {A B : List Int} (hR : RightG n es) (hA : IsBlk es A) (hB : IsBlk es B) {x y : Int} (hxy : x ≠ y) (h1 : x ∈ A) (h2 : y ∈ A) (h3 : x ∈ B) (h4 : y ∈ B) : A = B := by
  obtain ⟨ua, a, b, hab, ia⟩ := hA
  obtain ⟨ub, c, d, hcd, ib⟩ := hB
  have ht := two_share hxy ((ia x).1 h1) ((ia y).1 h2) ((ib x).1 h3) ((ib y).1 h4)
  refine up_oneB ua ub (fun z => ?_)
  rw [ia, ib]
  exact ⟨fun h => h.tog (hab.in hR).2.2 ht, fun h => h.tog (hcd.in hR).2.2 ht.symm⟩
/-- An edge's ends stand in just one block. -/
theorem blk_edge {m : Nat} {es : List (Int × Int)} {Bs : List (List Int)} (hR : RightG m es) (hB : BlocksL es Bs) {a b : Int} (ha : Adj es a b) : ∃ B, B ∈ Bs ∧ a ∈ B ∧ b ∈ B ∧ ∀ C, C ∈ Bs → a ∈ C → b ∈ C → C = B := by
  obtain ⟨B, h1, h2⟩ := blk_ex hR ha
  have ea : a ∈ B := (h2 a).2 (Bl.own (e := (a, b)) ha (Or.inl rfl))
  have eb : b ∈ B := (h2 b).2 (Bl.own (e := (a, b)) ha (Or.inr rfl))
  exact ⟨B, (hB.is B).2 h1, ea, eb, fun C hC k1 k2 => blk_share hR ((hB.is C).1 hC) h1 (ha.in hR).2.2 k1 k2 ea eb⟩
/-- What two blocks have in common is a cut. -/
theorem blk_cut {n : Int} {es : List (Int × Int)} {A B : List Int} (hR : RightG n es) (hA : IsBlk es A) (hB : IsBlk es B) (hne : A ≠ B) {v : Int} (h1 : v ∈ A) (h2 : v ∈ B) : ∃ x y, Adj es v x ∧ Adj es v y ∧ ¬ Av es v x y := by
  have key : ∀ {C : List Int}, IsBlk es C → v ∈ C → ∃ x, Adj es v x ∧ ∀ z, z ∈ C ↔ Bl es (v, x) z := fun {C} hC hv => by
    obtain ⟨_, a, b, hab, ic⟩ := hC
    obtain ⟨f, hf, ht, hend⟩ := (ic v).1 hv
    have hne := (hab.in hR).2.2
    have hnf := (hf.in hR).2.2
    rcases hend with e | e
    · refine ⟨f.2, by rw [e]; exact hf, fun z => ?_⟩
      have e2 : (v, f.2) = f := by rw [e]
      rw [ic, e2]
      exact ⟨fun h => h.tog hne ht, fun h => h.tog hnf ht.symm⟩
    · have ha : Adj es v f.1 := by rw [e]; exact hf.symm
      have ht2 : Tog es (a, b) (v, f.1) := by
        have e2 : (f.1, v) = f := by rw [e]
        rw [← e2] at ht
        exact (Tog.turn ht.symm).symm
      refine ⟨f.1, ha, fun z => ?_⟩
      rw [ic]
      exact ⟨fun h => h.tog hne ht2, fun h => h.tog (ha.in hR).2.2 ht2.symm⟩
  obtain ⟨x, hx, ix⟩ := key hA h1
  obtain ⟨y, hy, iy⟩ := key hB h2
  refine ⟨x, y, hx, hy, fun h => hne ?_⟩
  have hvx := (hx.in hR).2.2
  have hvy := (hy.in hR).2.2
  have ht := (tog_at hx hy (fun e => hvx e.symm) (fun e => hvy e.symm)).2 h
  refine up_oneB hA.1 hB.1 (fun z => ?_)
  rw [ix, iy]
  exact ⟨fun h => h.tog hvx ht, fun h => h.tog hvy ht.symm⟩
end Go.Proofs.Ytlebimolgienkaa
namespace Go.Proofs.Ytlebimolgienkaa

/-- Pairs of which none joins what the others join: each makes one class fewer. -/
theorem forest {m : Nat} : ∀ (Q : List (Nat × Nat)), Q.reverse.Nodup → PairsIn m Q.reverse → (∀ p ∈ Q.reverse, ¬ Cl (Q.reverse.filter (fun q => decide (q ≠ p))) p.1 p.2) → ∃ f, Pt m f ∧ Tells m f Q.reverse ∧ (repsF m f).length + Q.length = m
  | [], _, _, _ => ⟨fun i => i, pt_new m, tells_new m, by
    have : repsF m (fun i => i) = List.range m := by unfold repsF; rw [List.filter_eq_self]; simp
    rw [this]; simp⟩
  | p :: Q, hn, hin, hc => by
    rw [List.reverse_cons] at hn hin hc ⊢
    rw [List.nodup_append] at hn
    obtain ⟨hn1, _, hn2⟩ := hn
    have hne : ∀ q ∈ Q.reverse, q ≠ p := fun q hq => hn2 q hq p (by simp)
    obtain ⟨f, hf, ht, hl⟩ := forest Q hn1 (fun e he => hin e (List.mem_append_left _ he)) (fun q hq h => hc q (List.mem_append_left _ hq) (h.mono (fun e he => by
      refine Cl.of ?_
      rw [List.mem_filter] at he ⊢
      exact ⟨List.mem_append_left _ he.1, he.2⟩)))
    have hp := hin p (by simp)
    have hsep : f p.1 ≠ f p.2 := fun e => hc p (by simp) (((ht p.1 p.2 hp.1 hp.2).1 e).mono (fun e he => Cl.of (by
      rw [List.mem_filter]
      exact ⟨List.mem_append_left _ he, decide_eq_true (hne e he)⟩)))
    have hj := reps_join hf hp.1 hp.2 hsep
    refine ⟨joinF f p.1 p.2, hf.join hp.1 hp.2, tells_join ht (fun e he => hin e (List.mem_append_left _ he)) hp.1 hp.2, ?_⟩
    rw [List.length_cons]
    omega
/-- The edges that do not belong to e's block. -/
def OffB (n : Int) (es : List (Int × Int)) (e : Int × Int) (os : List (Int × Int)) : Prop := RightG n os ∧ ∀ x y, Adj os x y ↔ Adj es x y ∧ ¬ Tog es e (x, y)
theorem offB_ex {n : Int} {es : List (Int × Int)} (hR : RightG n es) (e : Int × Int) : ∃ os, OffB n es e os := by
  classical
  refine ⟨es.filter (fun f => decide (¬ Tog es e f)), ⟨hR.1, hR.2.1, Nat.le_trans (List.length_filter_le _ _) hR.2.2.1, fun f hf => hR.2.2.2.1 f (List.mem_filter.1 hf).1, hR.2.2.2.2.filter _⟩, fun x y => ?_⟩
  unfold Adj
  rw [List.mem_filter, List.mem_filter, decide_eq_true_eq, decide_eq_true_eq]
  constructor
  · rintro (⟨h1, h2⟩ | ⟨h1, h2⟩)
    · exact ⟨Or.inl h1, h2⟩
    · exact ⟨Or.inr h1, fun h => h2 (Tog.turn h.symm).symm⟩
  · rintro ⟨h1 | h1, h2⟩
    · exact Or.inl ⟨h1, h2⟩
    · exact Or.inr ⟨h1, fun h => h2 (Tog.turn h.symm).symm⟩
/-- By other edges one comes from a block's vertex to no other one of it. -/
theorem off_one {n : Int} {es os : List (Int × Int)} {e : Int × Int} {x y : Int} (ho : OffB n es e os) (hx : Bl es e x) (hy : Bl es e y) (h : Pth n os (fun _ => True) x y) : x = y := by
  obtain ⟨p, hp, h1, h2, _⟩ := h
  obtain ⟨h0, e1⟩ := head_at h1
  obtain ⟨_, e2⟩ := last_at h2
  have hp2 : PathL n es p := ⟨hp.ne, hp.nd, hp.inn, fun i hi => ((ho.2 _ _).1 (hp.lk i hi)).1⟩
  obtain ⟨_, r2⟩ := path_in hp2 (fun _ => by rw [e1, e2]; exact ⟨hx, hy⟩)
  by_cases h3 : p.length = 1
  · rw [← e1, ← e2]
    congr 1
    omega
  · exact absurd (r2 0 (by omega)) ((ho.2 _ _).1 (hp.lk 0 (by omega))).2
/-- Another block's vertices are joined by other edges. -/
theorem off_other {n : Int} {es os : List (Int × Int)} {e f : Int × Int} {x y s : Int} (ho : OffB n es e os) (hR : RightG n es) (hf : Adj es f.1 f.2) (hno : ¬ Tog es e f) (hx : Bl es f x) (hy : Bl es f y) (h : Pth n os (fun _ => True) s x) : Pth n os (fun _ => True) s y := by
  have hxi := hx.in hR
  have hyi := hy.in hR
  obtain ⟨p, hp, h1, h2, _, _, h5⟩ := block_path (v := -1) hR (hf.in hR).2.2 hx hy (by omega) (by omega)
  obtain ⟨h0, e1⟩ := head_at h1
  obtain ⟨_, e2⟩ := last_at h2
  have key : ∀ i (hi : i < p.length), Pth n os (fun _ => True) s p[i] := fun i => by
    induction i with
    | zero => intro hi; rw [e1]; exact h
    | succ i ih =>
      intro hi
      have ha := hp.lk i hi
      refine (ih (by omega)).step ho.1 ((ho.2 _ _).2 ⟨ha, fun k => hno (Tog.trans ?_ k (h5 i hi).symm)⟩) trivial
      exact (ha.in hR).2.2
  have := key (p.length - 1) (by omega)
  rw [e2] at this
  exact this
/-- A block's first vertex with each other one. -/
def starN : List Int → List (Nat × Nat)
  | [] => []
  | x :: xs => xs.map (fun y => (x.toNat, y.toNat))
theorem starN_len (B : List Int) : (starN B).length = B.length - 1 := by
  cases B with
  | nil => rfl
  | cons x xs => simp [starN]
theorem mem_starN {B : List Int} (hB : B.Pairwise (· < ·)) (h0 : ∀ x ∈ B, 0 ≤ x) {p : Nat × Nat} (hp : p ∈ starN B) : ((p.1 : Int) ∈ B ∧ (p.2 : Int) ∈ B) ∧ p.1 < p.2 ∧ B.head? = some (p.1 : Int) := by
  cases B with
  | nil => simp [starN] at hp
  | cons x xs =>
    obtain ⟨y, hy, rfl⟩ := List.mem_map.1 hp
    have h1 := h0 x (by simp)
    have h2 := h0 y (List.mem_cons_of_mem _ hy)
    have h3 := (List.pairwise_cons.1 hB).1 y hy
    have e1 : ((x.toNat : Nat) : Int) = x := by omega
    have e2 : ((y.toNat : Nat) : Int) = y := by omega
    refine ⟨⟨by rw [e1]; simp, by rw [e2]; exact List.mem_cons_of_mem _ hy⟩, by simp only; omega, by rw [e1]; rfl⟩
theorem starN_nodup {B : List Int} (hB : B.Pairwise (· < ·)) (h0 : ∀ x ∈ B, 0 ≤ x) : (starN B).Nodup := by
  cases B with
  | nil => simp [starN]
  | cons x xs =>
    unfold starN
    rw [List.nodup_iff_pairwise_ne, List.pairwise_map]
    refine (List.pairwise_cons.1 hB).2.imp_of_mem (fun {a b} ha hb hab e => ?_)
    have h1 := h0 a (List.mem_cons_of_mem _ ha)
    have h2 := h0 b (List.mem_cons_of_mem _ hb)
    have := congrArg Prod.snd e
    simp only at this
    omega
theorem IsBlk.in {n : Int} {es : List (Int × Int)} {B : List Int} (hR : RightG n es) (h : IsBlk es B) : ∀ x ∈ B, 0 ≤ x ∧ x < n := fun x hx => by
  obtain ⟨_, a, b, _, ib⟩ := h
  exact ((ib x).1 hx).in hR
theorem block_count {m : Nat} {es : List (Int × Int)} {Bs : List (List Int)} {g : Nat → Nat} (hR : RightG m es) (hB : BlocksL es Bs) (hg : Pt m g) (hT : Tells m g (prsN es)) : (repsF m g).length + (Bs.map (fun B => B.length - 1)).sum = m := by
  have hin : ∀ B ∈ Bs, ∀ x ∈ B, 0 ≤ x ∧ x < m := fun B hb => ((hB.is B).1 hb).in hR
  have hup : ∀ B ∈ Bs, B.Pairwise (· < ·) := fun B hb => ((hB.is B).1 hb).1
  have hP : ∀ p, p ∈ Bs.flatMap starN → ∃ B ∈ Bs, p ∈ starN B := fun p hp => List.mem_flatMap.1 hp
  have hnd : (Bs.flatMap starN).Nodup := by
    rw [List.nodup_iff_pairwise_ne, List.pairwise_flatMap]
    refine ⟨fun B hb => List.nodup_iff_pairwise_ne.1 (starN_nodup (hup B hb) (fun x hx => (hin B hb x hx).1)), hB.ord.imp_of_mem (fun {A B} hA hb hlt p hp q hq e => ?_)⟩
    subst e
    obtain ⟨⟨a1, a2⟩, a3, _⟩ := mem_starN (hup A hA) (fun x hx => (hin A hA x hx).1) hp
    obtain ⟨⟨b1, b2⟩, _, _⟩ := mem_starN (hup B hb) (fun x hx => (hin B hb x hx).1) hq
    have := blk_share hR ((hB.is A).1 hA) ((hB.is B).1 hb) (x := (p.1 : Int)) (y := (p.2 : Int)) (by omega) a1 a2 b1 b2
    subst this
    rw [lexL_irrefl] at hlt
    cases hlt
  have hpi : PairsIn m (Bs.flatMap starN) := fun p hp => by
    obtain ⟨B, hb, hp⟩ := hP p hp
    obtain ⟨⟨a1, a2⟩, _, _⟩ := mem_starN (hup B hb) (fun x hx => (hin B hb x hx).1) hp
    have := hin B hb _ a1
    have := hin B hb _ a2
    omega
  have hsep : ∀ p ∈ Bs.flatMap starN, ¬ Cl ((Bs.flatMap starN).filter (fun q => decide (q ≠ p))) p.1 p.2 := fun p hp hcl => by
    obtain ⟨B, hb, hpB⟩ := hP p hp
    obtain ⟨⟨a1, a2⟩, a3, a4⟩ := mem_starN (hup B hb) (fun x hx => (hin B hb x hx).1) hpB
    obtain ⟨_, c, d, hcd, ib⟩ := (hB.is B).1 hb
    have hb1 := (ib _).1 a1
    have hb2 := (ib _).1 a2
    have hr2 := hin B hb _ a2
    -- what is come to from p.2 by the other blocks' edges
    obtain ⟨os, ho⟩ := offB_ex hR (c, d)
    have key := hcl (fun x y => Pth m os (fun _ => True) (p.2 : Int) (x : Int) ↔ Pth m os (fun _ => True) (p.2 : Int) (y : Int)) (fun _ => Iff.rfl) (fun _ _ h => h.symm) (fun _ _ _ h k => h.trans k) (fun q hq => by
      rw [List.mem_filter] at hq
      have hqne : q ≠ p := of_decide_eq_true hq.2
      obtain ⟨A, hA, hqA⟩ := hP q hq.1
      obtain ⟨⟨q1, q2⟩, q3, q4⟩ := mem_starN (hup A hA) (fun x hx => (hin A hA x hx).1) hqA
      obtain ⟨_, u, w, huw, ia⟩ := (hB.is A).1 hA
      by_cases hsame : Tog es (c, d) (u, w)
      · -- another one of the same block: neither is come to
        have hAB : A = B := up_oneB (hup A hA) (hup B hb) (fun z => by
          rw [ia, ib]
          exact ⟨fun h => h.tog (huw.in hR).2.2 hsame.symm, fun h => h.tog (hcd.in hR).2.2 hsame⟩)
        subst hAB
        have e1 : q.1 = p.1 := by
          rw [q4] at a4
          have := Option.some.inj a4
          omega
        have e2 : q.2 ≠ p.2 := fun e => hqne (Prod.ext e1 e)
        constructor
        · intro h
          have := off_one ho hb2 ((ib _).1 q1) h
          rw [e1] at this
          omega
        · intro h
          have := off_one ho hb2 ((ib _).1 q2) h
          omega
      · exact ⟨fun h => off_other ho hR huw hsame ((ia _).1 q1) ((ia _).1 q2) h, fun h => off_other ho hR huw hsame ((ia _).1 q2) ((ia _).1 q1) h⟩)
    have h2 := key.2 (pth_self hr2 trivial)
    have := off_one ho hb2 hb1 h2
    omega
  obtain ⟨f, hf, ht, hl⟩ := forest (m := m) (Bs.flatMap starN).reverse (by rw [List.reverse_reverse]; exact hnd) (by rw [List.reverse_reverse]; exact hpi) (by rw [List.reverse_reverse]; exact hsep)
  rw [List.reverse_reverse] at ht
  have hlen : (Bs.flatMap starN).length = (Bs.map (fun B => B.length - 1)).sum := by
    rw [List.length_flatMap]
    congr 1
    exact List.map_congr_left (fun B _ => starN_len B)
  -- the pairs join what the edges do
  have hfg : ∀ i, i < m → f i = g i := tells_one hf hg ht hT (fun p hp => by
    obtain ⟨B, hb, hp⟩ := hP p hp
    obtain ⟨⟨a1, a2⟩, _, _⟩ := mem_starN (hup B hb) (fun x hx => (hin B hb x hx).1) hp
    obtain ⟨_, c, d, hcd, ib⟩ := (hB.is B).1 hb
    have r1 := hin B hb _ a1
    have r2 := hin B hb _ a2
    have hav := Bl.av2 (v := -1) (hcd.in hR).2.2 ((ib _).1 a1) ((ib _).1 a2) (by omega) (by omega)
    obtain ⟨q, k1, k2, k3, _⟩ := av_pth hR r1 (by omega) hav
    have hpt : Pth m es (fun _ => True) (p.1 : Int) (p.2 : Int) := ⟨q, k1, k2, k3, fun _ _ => trivial⟩
    exact (hT p.1 p.2 (by omega) (by omega)).1 ((pth_cl hR hT (by omega) (by omega)).2 hpt)) (fun e he => by
    have hm := (mem_prsN (a := e.1) (b := e.2) hR).1 he
    have ha : Adj es (e.1 : Int) (e.2 : Int) := Or.inl hm
    obtain ⟨B, hb, b1, b2, _⟩ := blk_edge hR hB ha
    have star : ∀ x : Nat, (x : Int) ∈ B → ∀ z, B.head? = some (z : Int) → 0 ≤ z → Cl (Bs.flatMap starN) z.toNat x := fun x hx z hz h0 => by
      cases B with
      | nil => simp at hx
      | cons y ys =>
        have ez : y = z := Option.some.inj hz
        subst ez
        rcases List.mem_cons.1 hx with e | hx
        · rw [← e]; simpa using Cl.refl _ _
        · exact Cl.of (e := (y.toNat, x)) (List.mem_flatMap.2 ⟨_, hb, List.mem_map.2 ⟨(x : Int), hx, by simp⟩⟩)
    cases hB0 : B with
    | nil => rw [hB0] at b1; cases b1
    | cons z zs =>
      have hz := hin B hb z (by rw [hB0]; simp)
      have h1 := star e.1 b1 z (by rw [hB0]; rfl) hz.1
      have h2 := star e.2 b2 z (by rw [hB0]; rfl) hz.1
      exact h1.symm.trans h2)
  have hreps : repsF m f = repsF m g := by
    unfold repsF
    refine List.filter_congr (fun i hi => ?_)
    rw [hfg i (by simpa using hi)]
  rw [← hreps]
  rw [List.length_reverse] at hl
  omega
end Go.Proofs.Ytlebimolgienkaa
namespace Go.Proofs.Ytlebimolgienkaa

/-- The edges of the graph that the vertices at l's places induce (F1). -/
def IndE (es : List (Int × Int)) (l : List Int) (E : List (Int × Int)) : Prop := Rises E ∧ ∀ a b : Int, (a, b) ∈ E ↔ ∃ i j : Nat, ∃ (hi : i < l.length) (hj : j < l.length), a = i ∧ b = j ∧ i < j ∧ Adj es l[i] l[j]
theorem IndE.one {es : List (Int × Int)} {l : List Int} {E E' : List (Int × Int)} (h : IndE es l E) (k : IndE es l E') : E = E' := rises_one h.1 k.1 (fun e => by
  obtain ⟨a, b⟩ := e
  exact (h.2 a b).trans (k.2 a b).symm)
theorem nodup_inj {l : List Int} (h : l.Nodup) {i j : Nat} (hi : i < l.length) (hj : j < l.length) (e : l[i] = l[j]) : i = j := by
  by_cases h1 : i < j
  · exact absurd e (List.pairwise_iff_getElem.1 h i j hi hj h1)
  · by_cases h2 : j < i
    · exact absurd e.symm (List.pairwise_iff_getElem.1 h j i hj hi h2)
    · omega
/-- There are no more edges than there were. -/
theorem IndE.len {es : List (Int × Int)} {l : List Int} {E : List (Int × Int)} (h : IndE es l E) (hn : l.Nodup) : E.length ≤ es.length := by
  have hnd := rises_nodup h.1
  -- each edge goes to one of es
  let f : Int × Int → Int × Int := fun e => if (l.getD e.1.toNat 0, l.getD e.2.toNat 0) ∈ es then (l.getD e.1.toNat 0, l.getD e.2.toNat 0) else (l.getD e.2.toNat 0, l.getD e.1.toNat 0)
  have hmem : ∀ e ∈ E, f e ∈ es := fun e he => by
    obtain ⟨a, b⟩ := e
    obtain ⟨i, j, hi, hj, rfl, rfl, hlt, hadj⟩ := (h.2 a b).1 he
    show (if _ then _ else _) ∈ es
    simp only [Int.toNat_natCast, List.getD, List.getElem?_eq_getElem hi, List.getElem?_eq_getElem hj, Option.getD_some]
    split
    · assumption
    · rcases hadj with h1 | h1
      · contradiction
      · exact h1
  have hinj : (E.map f).Nodup := by
    rw [List.nodup_iff_pairwise_ne, List.pairwise_map]
    refine hnd.imp_of_mem (fun {x y} hx hy hne e => hne ?_)
    obtain ⟨a, b⟩ := x
    obtain ⟨c, d⟩ := y
    obtain ⟨i, j, hi, hj, rfl, rfl, hlt, _⟩ := (h.2 a b).1 hx
    obtain ⟨p, q, hp, hq, rfl, rfl, hlt2, _⟩ := (h.2 c d).1 hy
    have e' : (if _ then _ else _ : Int × Int) = (if _ then _ else _) := e
    simp only [Int.toNat_natCast, List.getD, List.getElem?_eq_getElem hi, List.getElem?_eq_getElem hj, List.getElem?_eq_getElem hp, List.getElem?_eq_getElem hq, Option.getD_some] at e'
    have key : (l[i] = l[p] ∧ l[j] = l[q]) ∨ (l[i] = l[q] ∧ l[j] = l[p]) := by
      split at e' <;> split at e' <;> simp only [Prod.mk.injEq] at e' <;> first | exact Or.inl e' | exact Or.inr e' | exact Or.inr ⟨e'.2, e'.1⟩ | exact Or.inl ⟨e'.2, e'.1⟩
    rcases key with ⟨h1, h2⟩ | ⟨h1, h2⟩
    · rw [nodup_inj hn hi hp h1, nodup_inj hn hj hq h2]
    · have := nodup_inj hn hi hq h1
      have := nodup_inj hn hj hp h2
      omega
  have := len_le_of_sub hinj (b := es) (fun e he => by
    obtain ⟨x, hx, rfl⟩ := List.mem_map.1 he
    exact hmem x hx)
  simpa using this
/-- What is induced is right. -/
theorem IndE.right {n : Int} {es : List (Int × Int)} {l : List Int} {E : List (Int × Int)} (hR : RightG n es) (h : IndE es l E) (hn : l.Nodup) (hl : l.length ≤ 1000) : RightG l.length E :=
  ⟨by omega, by omega, Nat.le_trans (h.len hn) hR.2.2.1, fun e he => by
    obtain ⟨a, b⟩ := e
    obtain ⟨i, j, hi, hj, rfl, rfl, hlt, _⟩ := (h.2 a b).1 he
    simp only
    omega, h.1⟩
end Go.Proofs.Ytlebimolgienkaa
namespace Go.Proofs.Ytlebimolgienkaa

/-- All numbers below n but v. -/
def othL (n v : Nat) : List Int := ((List.range n).filter (fun i => i ≠ v)).map (fun i : Nat => (i : Int))
/-- Who stands at place i, when v is gone. -/
def upN (v i : Nat) : Nat := if i < v then i else i + 1
end Go.Proofs.Ytlebimolgienkaa
namespace Go.Proofs.Ytlebimolgienkaa

/-- All are vertices. -/
def InL (n : Int) (l : List Int) : Prop := ∀ x ∈ l, 0 ≤ x ∧ x < n
/-- Induced (F1): the code, how many vertices, the edges. -/
def IndS (n : Int) (es : List (Int × Int)) (l : List Int) (er N : Int) (E : List (Int × Int)) : Prop :=
  (¬ RightG n es ∧ er = 1 ∧ N = 0 ∧ E = []) ∨ (RightG n es ∧ ¬ InL n l ∧ er = 4 ∧ N = 0 ∧ E = []) ∨ (RightG n es ∧ InL n l ∧ ¬ l.Nodup ∧ er = 1 ∧ N = 0 ∧ E = []) ∨ (RightG n es ∧ InL n l ∧ l.Nodup ∧ er = 0 ∧ N = l.length ∧ IndE es l E)
theorem IndS.one {n : Int} {es : List (Int × Int)} {l : List Int} {er N er' N' : Int} {E E' : List (Int × Int)} (h : IndS n es l er N E) (k : IndS n es l er' N' E') : er = er' ∧ N = N' ∧ E = E' := by
  rcases h with ⟨h1, rfl, rfl, rfl⟩ | ⟨h1, h2, rfl, rfl, rfl⟩ | ⟨h1, h2, h3, rfl, rfl, rfl⟩ | ⟨h1, h2, h3, rfl, rfl, h4⟩
  · rcases k with ⟨_, rfl, rfl, rfl⟩ | ⟨k1, _⟩ | ⟨k1, _⟩ | ⟨k1, _⟩
    · exact ⟨rfl, rfl, rfl⟩
    all_goals exact absurd k1 h1
  · rcases k with ⟨k1, _⟩ | ⟨_, _, rfl, rfl, rfl⟩ | ⟨_, k2, _⟩ | ⟨_, k2, _⟩
    · exact absurd h1 k1
    · exact ⟨rfl, rfl, rfl⟩
    all_goals exact absurd k2 h2
  · rcases k with ⟨k1, _⟩ | ⟨_, k2, _⟩ | ⟨_, _, _, rfl, rfl, rfl⟩ | ⟨_, _, k3, _⟩
    · exact absurd h1 k1
    · exact absurd h2 k2
    · exact ⟨rfl, rfl, rfl⟩
    · exact absurd k3 h3
  · rcases k with ⟨k1, _⟩ | ⟨_, k2, _⟩ | ⟨_, _, k3, _⟩ | ⟨_, _, _, rfl, rfl, k4⟩
    · exact absurd h1 k1
    · exact absurd h2 k2
    · exact absurd h3 k3
    · exact ⟨rfl, rfl, h4.one k4⟩
/-- Delete (F2). -/
def DelS (n : Int) (es : List (Int × Int)) (v er N : Int) (E : List (Int × Int)) : Prop :=
  (¬ RightG n es ∧ er = 1 ∧ N = 0 ∧ E = []) ∨ (RightG n es ∧ ¬ (0 ≤ v ∧ v < n) ∧ er = 4 ∧ N = 0 ∧ E = []) ∨ (RightG n es ∧ (0 ≤ v ∧ v < n) ∧ er = 0 ∧ N = n - 1 ∧ IndE es (othL n.toNat v.toNat) E)
theorem DelS.one {n : Int} {es : List (Int × Int)} {v er N er' N' : Int} {E E' : List (Int × Int)} (h : DelS n es v er N E) (k : DelS n es v er' N' E') : er = er' ∧ N = N' ∧ E = E' := by
  rcases h with ⟨h1, rfl, rfl, rfl⟩ | ⟨h1, h2, rfl, rfl, rfl⟩ | ⟨h1, h2, rfl, rfl, h4⟩
  · rcases k with ⟨_, rfl, rfl, rfl⟩ | ⟨k1, _⟩ | ⟨k1, _⟩
    · exact ⟨rfl, rfl, rfl⟩
    all_goals exact absurd k1 h1
  · rcases k with ⟨k1, _⟩ | ⟨_, _, rfl, rfl, rfl⟩ | ⟨_, k2, _⟩
    · exact absurd h1 k1
    · exact ⟨rfl, rfl, rfl⟩
    · exact absurd k2 h2
  · rcases k with ⟨k1, _⟩ | ⟨_, k2, _⟩ | ⟨_, _, rfl, rfl, k4⟩
    · exact absurd h1 k1
    · exact absurd h2 k2
    · exact ⟨rfl, rfl, h4.one k4⟩
/-- Neighbours, when hi's are lo's, too. -/
def MAdj (es : List (Int × Int)) (lo hi x y : Int) : Prop := Adj es x y ∨ (x = lo ∧ y ≠ lo ∧ Adj es hi y) ∨ (y = lo ∧ x ≠ lo ∧ Adj es hi x)
theorem MAdj.symm {es : List (Int × Int)} {lo hi x y : Int} (h : MAdj es lo hi x y) : MAdj es lo hi y x := by
  rcases h with h | h | h
  · exact Or.inl h.symm
  · exact Or.inr (Or.inr h)
  · exact Or.inr (Or.inl h)
/-- The edges, when two neighbours are one (F3). -/
def ConE (n : Nat) (es : List (Int × Int)) (lo hi : Nat) (E : List (Int × Int)) : Prop := Rises E ∧ ∀ a b : Int, (a, b) ∈ E ↔ ∃ i j : Nat, a = i ∧ b = j ∧ i < j ∧ j + 1 < n ∧ MAdj es lo hi (upN hi i) (upN hi j)
theorem ConE.one {n : Nat} {es : List (Int × Int)} {lo hi : Nat} {E E' : List (Int × Int)} (h : ConE n es lo hi E) (k : ConE n es lo hi E') : E = E' := rises_one h.1 k.1 (fun e => by
  obtain ⟨a, b⟩ := e
  exact (h.2 a b).trans (k.2 a b).symm)
/-- Contract (F3). -/
def ConS (n : Int) (es : List (Int × Int)) (a b er N : Int) (E : List (Int × Int)) : Prop :=
  (¬ RightG n es ∧ er = 1 ∧ N = 0 ∧ E = []) ∨ (RightG n es ∧ ¬ ((0 ≤ a ∧ a < n) ∧ (0 ≤ b ∧ b < n)) ∧ er = 4 ∧ N = 0 ∧ E = []) ∨ (RightG n es ∧ ((0 ≤ a ∧ a < n) ∧ (0 ≤ b ∧ b < n)) ∧ ¬ Adj es a b ∧ er = 6 ∧ N = 0 ∧ E = []) ∨ (RightG n es ∧ ((0 ≤ a ∧ a < n) ∧ (0 ≤ b ∧ b < n)) ∧ Adj es a b ∧ er = 0 ∧ N = n - 1 ∧ ConE n.toNat es (min a b).toNat (max a b).toNat E)
theorem ConS.one {n : Int} {es : List (Int × Int)} {a b er N er' N' : Int} {E E' : List (Int × Int)} (h : ConS n es a b er N E) (k : ConS n es a b er' N' E') : er = er' ∧ N = N' ∧ E = E' := by
  rcases h with ⟨h1, rfl, rfl, rfl⟩ | ⟨h1, h2, rfl, rfl, rfl⟩ | ⟨h1, h2, h3, rfl, rfl, rfl⟩ | ⟨h1, h2, h3, rfl, rfl, h4⟩
  · rcases k with ⟨_, rfl, rfl, rfl⟩ | ⟨k1, _⟩ | ⟨k1, _⟩ | ⟨k1, _⟩
    · exact ⟨rfl, rfl, rfl⟩
    all_goals exact absurd k1 h1
  · rcases k with ⟨k1, _⟩ | ⟨_, _, rfl, rfl, rfl⟩ | ⟨_, k2, _⟩ | ⟨_, k2, _⟩
    · exact absurd h1 k1
    · exact ⟨rfl, rfl, rfl⟩
    all_goals exact absurd k2 h2
  · rcases k with ⟨k1, _⟩ | ⟨_, k2, _⟩ | ⟨_, _, _, rfl, rfl, rfl⟩ | ⟨_, _, k3, _⟩
    · exact absurd h1 k1
    · exact absurd h2 k2
    · exact ⟨rfl, rfl, rfl⟩
    · exact absurd k3 h3
  · rcases k with ⟨k1, _⟩ | ⟨_, k2, _⟩ | ⟨_, _, k3, _⟩ | ⟨_, _, _, rfl, rfl, k4⟩
    · exact absurd h1 k1
    · exact absurd h2 k2
    · exact absurd h3 k3
    · exact ⟨rfl, rfl, h4.one k4⟩
/-- It does not matter which end is named first. -/
theorem ConS.swap {n : Int} {es : List (Int × Int)} {a b er N : Int} {E : List (Int × Int)} (h : ConS n es a b er N E) : ConS n es b a er N E := by
  rcases h with h | ⟨h1, h2, h3⟩ | ⟨h1, h2, h3, h4⟩ | ⟨h1, h2, h3, h4, h5, h6⟩
  · exact Or.inl h
  · exact Or.inr (Or.inl ⟨h1, fun k => h2 ⟨k.2, k.1⟩, h3⟩)
  · exact Or.inr (Or.inr (Or.inl ⟨h1, ⟨h2.2, h2.1⟩, fun k => h3 k.symm, h4⟩))
  · exact Or.inr (Or.inr (Or.inr ⟨h1, ⟨h2.2, h2.1⟩, h3.symm, h4, h5, by rw [Int.min_comm, Int.max_comm]; exact h6⟩))
end Go.Proofs.Ytlebimolgienkaa
namespace Go.Proofs.Ytlebimolgienkaa

theorem nb_adj {n v y : Int} {es : List (Int × Int)} (h : RightG n es) : y ∈ nbL v es ↔ Adj es v y := nbL_right h
/-- Edges that do not meet v. -/
def offL (v : Int) (es : List (Int × Int)) : List (Int × Int) := es.filter (fun e => !(e.1 == v) && !(e.2 == v))
theorem mem_offL {v : Int} {es : List (Int × Int)} {e : Int × Int} : e ∈ offL v es ↔ e ∈ es ∧ e.1 ≠ v ∧ e.2 ≠ v := by
  unfold offL
  simp [List.mem_filter]
end Go.Proofs.Ytlebimolgienkaa
namespace Go.Proofs.Ytlebimolgienkaa

/-- A block with v in it is that of an edge of v. -/
theorem blk_at {n : Int} {es : List (Int × Int)} {B : List Int} {v : Int} (hR : RightG n es) (hB : IsBlk es B) (hv : v ∈ B) : ∃ x, Adj es v x ∧ ∀ z, z ∈ B ↔ Bl es (v, x) z := by
  obtain ⟨_, a, b, hab, ic⟩ := hB
  obtain ⟨f, hf, ht, hend⟩ := (ic v).1 hv
  have hne := (hab.in hR).2.2
  have hnf := (hf.in hR).2.2
  rcases hend with e | e
  · refine ⟨f.2, by rw [e]; exact hf, fun z => ?_⟩
    have e2 : (v, f.2) = f := by rw [e]
    rw [ic, e2]
    exact ⟨fun h => h.tog hne ht, fun h => h.tog hnf ht.symm⟩
  · have ha : Adj es v f.1 := by rw [e]; exact hf.symm
    have ht2 : Tog es (a, b) (v, f.1) := by
      have e2 : (f.1, v) = f := by rw [e]
      rw [← e2] at ht
      exact (Tog.turn ht.symm).symm
    refine ⟨f.1, ha, fun z => ?_⟩
    rw [ic]
    exact ⟨fun h => h.tog hne ht2, fun h => h.tog (ha.in hR).2.2 ht2.symm⟩
/-- The blocks with v in them. -/
def atL (Bs : List (List Int)) (v : Int) : List (List Int) := Bs.filter (fun B => decide (v ∈ B))
/-- A cut is in two blocks and more. -/
theorem at_cut {m v : Nat} {es : List (Int × Int)} {Bs : List (List Int)} {Cs : List Int} (hR : RightG m es) (hB : BlocksL es Bs) (hC : CutsL es Cs) : (v : Int) ∈ Cs ↔ 2 ≤ (atL Bs v).length := by
  have hmem : ∀ B, B ∈ atL Bs v ↔ B ∈ Bs ∧ (v : Int) ∈ B := fun B => by unfold atL; rw [List.mem_filter, decide_eq_true_eq]
  have hnd : (atL Bs v).Pairwise (fun A B => lexL A B = true) := by unfold atL; exact hB.ord.filter _
  rw [hC.is]
  constructor
  · rintro ⟨x, y, hx, hy, hno⟩
    obtain ⟨A, h1, a1, a2, _⟩ := blk_edge hR hB hx
    obtain ⟨B, h2, b1, b2, _⟩ := blk_edge hR hB hy
    have hne : A ≠ B := fun e => by
      subst e
      obtain ⟨z, hz, iz⟩ := blk_at hR ((hB.is A).1 h1) a1
      have ha := (hz.in hR).2.2
      have t1 := edge_in (e := ((v : Int), z)) hx (hx.in hR).2.2 ((iz _).1 a1) ((iz _).1 a2)
      have t2 := edge_in (e := ((v : Int), z)) hy (hy.in hR).2.2 ((iz _).1 b1) ((iz _).1 b2)
      have hvx := (hx.in hR).2.2
      have hvy := (hy.in hR).2.2
      exact hno ((tog_at hx hy (fun e => hvx e.symm) (fun e => hvy e.symm)).1 (Tog.trans ha t1.symm t2))
    match hL : atL Bs v, hmem A, hmem B with
    | [], k1, _ => have := k1.2 ⟨h1, a1⟩; cases this
    | [C], k1, k2 =>
      have e1 := k1.2 ⟨h1, a1⟩
      have e2 := k2.2 ⟨h2, b1⟩
      simp at e1 e2
      exact absurd (e1.trans e2.symm) hne
    | _ :: _ :: _, _, _ => simp
  · intro h
    match hL : atL Bs v, h with
    | A :: B :: r, _ =>
      have hA := (hmem A).1 (by rw [hL]; simp)
      have hb := (hmem B).1 (by rw [hL]; simp)
      rw [hL] at hnd
      have hlt := (List.pairwise_cons.1 hnd).1 B (by simp)
      exact blk_cut hR ((hB.is A).1 hA.1) ((hB.is B).1 hb.1) (fun e => by subst e; rw [lexL_irrefl] at hlt; cases hlt) hA.2 hb.2
end Go.Proofs.Ytlebimolgienkaa
namespace Go.Proofs.Ytlebimolgienkaa

theorem BlocksL.nodup {es : List (Int × Int)} {Bs : List (List Int)} (h : BlocksL es Bs) : Bs.Nodup := by
  rw [List.nodup_iff_pairwise_ne]
  exact h.ord.imp (fun {A B} h e => by subst e; rw [lexL_irrefl] at h; cases h)
/-- A block's vertices are two and more. -/
theorem blk_two {n : Int} {es : List (Int × Int)} {B : List Int} (hR : RightG n es) (hB : IsBlk es B) : 2 ≤ B.length := by
  obtain ⟨hu, a, b, hab, ib⟩ := hB
  have h1 : a ∈ B := (ib a).2 (Bl.own (e := (a, b)) hab (Or.inl rfl))
  have h2 : b ∈ B := (ib b).2 (Bl.own (e := (a, b)) hab (Or.inr rfl))
  have := len_le_subI (a := [a, b]) (b := B) (by simp; exact (hab.in hR).2.2) (fun x hx => by
    simp at hx
    rcases hx with rfl | rfl
    · exact h1
    · exact h2)
  simpa using this
end Go.Proofs.Ytlebimolgienkaa
namespace Go.Proofs.Ytlebimolgienkaa

/-- Without v: what belongs together is what one comes to. -/
theorem cl_av {m v : Nat} {es : List (Int × Int)} (hR : RightG m es) {a b : Nat} : Cl (prsN (offL v es)) a b ↔ Av es v a b := by
  have hRo : RightG m (offL v es) := ⟨hR.1, hR.2.1, Nat.le_trans (List.length_filter_le _ _) hR.2.2.1, fun f hf => hR.2.2.2.1 f (mem_offL.1 hf).1, hR.2.2.2.2.filter _⟩
  constructor
  · intro h
    refine h (fun x y => Av es v x y) (fun _ => Av.refl _ _ _) (fun _ _ k => Av.symm k) (fun _ _ _ k1 k2 => Av.trans k1 k2) (fun e he => ?_)
    have hm := (mem_prsN (a := e.1) (b := e.2) hRo).1 he
    obtain ⟨h1, h2, h3⟩ := mem_offL.1 hm
    exact Av.one (Or.inl h1) h2 h3
  · intro h
    have h2 := h (fun z => 0 ≤ z ∧ Cl (prsN (offL v es)) a z.toNat) ⟨by omega, by simpa using Cl.refl _ a⟩ (fun u w hu hadj k1 k2 => by
      have hin := hadj.in hR
      refine ⟨hin.2.1.1, hu.2.trans ?_⟩
      rcases hadj with hm | hm
      · refine Cl.of (e := (u.toNat, w.toNat)) ((mem_prsN hRo).2 (mem_offL.2 ⟨?_, ?_, ?_⟩))
        · rw [Int.toNat_of_nonneg hin.1.1, Int.toNat_of_nonneg hin.2.1.1]; exact hm
        · simp only; omega
        · simp only; omega
      · refine (Cl.of (e := (w.toNat, u.toNat)) ((mem_prsN hRo).2 (mem_offL.2 ⟨?_, ?_, ?_⟩))).symm
        · rw [Int.toNat_of_nonneg hin.1.1, Int.toNat_of_nonneg hin.2.1.1]; exact hm
        · simp only; omega
        · simp only; omega)
    simpa using h2.2
/-- An end of e that is not v. -/
def offEnd (v : Nat) (e : Int × Int) : Nat := if e.1 = v then e.2.toNat else e.1.toNat
/-- The row of e: the least that its end belongs to, without each vertex in turn. -/
def rowOf (F : Nat → Nat → Nat) (m : Nat) (e : Int × Int) : List Nat := (List.range m).map (fun v => F v (offEnd v e))
theorem offEnd_is {n : Int} {es : List (Int × Int)} (hR : RightG n es) {e : Int × Int} (he : e ∈ es) (v : Nat) : End e (offEnd v e) ∧ (offEnd v e : Int) ≠ v := by
  have h := hR.2.2.2.1 e he
  unfold offEnd End
  split
  · rename_i h1
    rw [Int.toNat_of_nonneg (by omega)]
    exact ⟨Or.inr rfl, by omega⟩
  · rename_i h1
    rw [Int.toNat_of_nonneg (by omega)]
    exact ⟨Or.inl rfl, h1⟩
/-- Two edges have one row just if no vertex parts them. -/
theorem row_tog {m : Nat} {es : List (Int × Int)} {F : Nat → Nat → Nat} (hR : RightG m es) (ht : ∀ v, v < m → Tells m (F v) (prsN (offL v es))) {e f : Int × Int} (he : e ∈ es) (hf : f ∈ es) : rowOf F m e = rowOf F m f ↔ Tog es e f := by
  have hre := hR.2.2.2.1 e he
  have hrf := hR.2.2.2.1 f hf
  have hea : Adj es e.1 e.2 := Or.inl he
  have hfa : Adj es f.1 f.2 := Or.inl hf
  have key : ∀ v, v < m → (F v (offEnd v e) = F v (offEnd v f) ↔ Av es v (offEnd v e) (offEnd v f)) := fun v hv => by
    obtain ⟨h1, h2⟩ := offEnd_is hR he v
    obtain ⟨k1, k2⟩ := offEnd_is hR hf v
    rw [← cl_av hR]
    refine ht v hv _ _ ?_ ?_
    · rcases h1 with h | h <;> omega
    · rcases k1 with h | h <;> omega
  constructor
  · intro hrow v x y hx hy hxv hyv
    by_cases hv : 0 ≤ v ∧ v < m
    · obtain ⟨u, rfl⟩ : ∃ u : Nat, v = u := ⟨v.toNat, by omega⟩
      have hu : u < m := by omega
      have h0 : F u (offEnd u e) = F u (offEnd u f) := by
        have h := congrArg (fun l => l[u]?) hrow
        simp only [rowOf, List.getElem?_map, List.getElem?_range hu, Option.map_some, Option.some.injEq] at h
        exact h
      have h3 := (key u hu).1 h0
      obtain ⟨h1, h2⟩ := offEnd_is hR he u
      obtain ⟨k1, k2⟩ := offEnd_is hR hf u
      exact ((Tog.refl hea u x _ hx h1 hxv h2).trans h3).trans (Tog.refl hfa u _ y k1 hy k2 hyv)
    · have hm : 0 < m := by omega
      have h0 : F 0 (offEnd 0 e) = F 0 (offEnd 0 f) := by
        have h := congrArg (fun l => l[0]?) hrow
        simp only [rowOf, List.getElem?_map, List.getElem?_range hm, Option.map_some, Option.some.injEq] at h
        exact h
      have h3 := (key 0 hm).1 h0
      obtain ⟨h1, h2⟩ := offEnd_is hR he 0
      obtain ⟨k1, k2⟩ := offEnd_is hR hf 0
      have far : ∀ z : Int, 0 ≤ z ∧ z < m → z ≠ v := fun z hz e => hv (e ▸ hz)
      have h4 : Av es v (offEnd 0 e) (offEnd 0 f) := fun S s0 hst => h3 S s0 (fun p q hp ha _ _ => hst p q hp ha (far p (ha.in hR).1) (far q (ha.in hR).2.1))
      have g1 : (offEnd 0 e : Int) ≠ v := far _ (by rcases h1 with h | h <;> omega)
      have g2 : (offEnd 0 f : Int) ≠ v := far _ (by rcases k1 with h | h <;> omega)
      exact ((Tog.refl hea v x _ hx h1 hxv g1).trans h4).trans (Tog.refl hfa v _ y k1 hy g2 hyv)
  · intro h
    unfold rowOf
    refine List.map_congr_left (fun v hv => ?_)
    have hv' := List.mem_range.1 hv
    obtain ⟨h1, h2⟩ := offEnd_is hR he v
    obtain ⟨k1, k2⟩ := offEnd_is hR hf v
    exact (key v hv').2 (h v _ _ h1 k1 h2 k2)
end Go.Proofs.Ytlebimolgienkaa
