/-
  The vertices of all blocks, less one each, are as many as there are vertices, less the components (layer 7). No program is named here.
  One edge more; a way round an edge (layer 7). No program is named here.
  Which vertices are in several blocks: the program's inSeveral (layer 7).
-/
import Derived.Test.YtckcbaegehfkoaaC14
import Derived.Test.YtckcbaegehfkoaaC04
import Derived.Test.YtckcbaegehfkoaaC07
import Derived.Test.YtckcbaegehfkoaaC03
import Derived.Test.YtckcbaegehfkoaaC06
import Derived.Test.YtckcbaegehfkoaaC09
namespace Go.Proofs.Ytckcbaegehfkoaa

/-- Pairs of which none joins what the others join: each makes one class fewer. -/
theorem forest {m : Nat} : ∀ (Q : List (Nat × Nat)), Q.reverse.Nodup → PairsIn m Q.reverse → (∀ p ∈ Q.reverse, ¬ Cl (Q.reverse.filter (fun q => decide (q ≠ p))) p.1 p.2) → ∃ f, Pt m f ∧ Tells m f Q.reverse ∧ (repsF m f).length + Q.length = m
  | [], _, _, _ => ⟨fun i => i, pt_new m, tells_new m, by
    have : repsF m (fun i => i) = List.range m := by unfold repsF; rw [List.filter_eq_self]; simp
    rw [this]; simp⟩
  | p :: Q, hn, hin, hc => by
    rw [List.reverse_cons] at hn hin hc ⊢
    rw [List.nodup_append] at hn
    obtain ⟨hn1, _, hn2⟩ := hn
    have hne : ∀ q ∈ Q.reverse, q ≠ p := fun q hq => hn2 q hq p (by simp)
    obtain ⟨f, hf, ht, hl⟩ := forest Q hn1 (fun e he => hin e (List.mem_append_left _ he)) (fun q hq h => hc q (List.mem_append_left _ hq) (h.mono (fun e he => by
      refine Cl.of ?_
      rw [List.mem_filter] at he ⊢
      exact ⟨List.mem_append_left _ he.1, he.2⟩)))
    have hp := hin p (by simp)
    have hsep : f p.1 ≠ f p.2 := fun e => hc p (by simp) (((ht p.1 p.2 hp.1 hp.2).1 e).mono (fun e he => Cl.of (by
      rw [List.mem_filter]
      exact ⟨List.mem_append_left _ he, decide_eq_true (hne e he)⟩)))
    have hj := reps_join hf hp.1 hp.2 hsep
    refine ⟨joinF f p.1 p.2, hf.join hp.1 hp.2, tells_join ht (fun e he => hin e (List.mem_append_left _ he)) hp.1 hp.2, ?_⟩
    rw [List.length_cons]
    omega
/-- The edges that do not belong to e's block. -/
def OffB (n : Int) (es : List (Int × Int)) (e : Int × Int) (os : List (Int × Int)) : Prop := RightG n os ∧ ∀ x y, Adj os x y ↔ Adj es x y ∧ ¬ Tog es e (x, y)
theorem offB_ex {n : Int} {es : List (Int × Int)} (hR : RightG n es) (e : Int × Int) : ∃ os, OffB n es e os := by
  classical
  refine ⟨es.filter (fun f => decide (¬ Tog es e f)), ⟨hR.1, hR.2.1, Nat.le_trans (List.length_filter_le _ _) hR.2.2.1, fun f hf => hR.2.2.2.1 f (List.mem_filter.1 hf).1, hR.2.2.2.2.filter _⟩, fun x y => ?_⟩
  unfold Adj
  rw [List.mem_filter, List.mem_filter, decide_eq_true_eq, decide_eq_true_eq]
  constructor
  · rintro (⟨h1, h2⟩ | ⟨h1, h2⟩)
    · exact ⟨Or.inl h1, h2⟩
    · exact ⟨Or.inr h1, fun h => h2 (Tog.turn h.symm).symm⟩
  · rintro ⟨h1 | h1, h2⟩
    · exact Or.inl ⟨h1, h2⟩
    · exact Or.inr ⟨h1, fun h => h2 (Tog.turn h.symm).symm⟩
/-- By other edges one comes from a block's vertex to no other one of it. -/
theorem off_one {n : Int} {es os : List (Int × Int)} {e : Int × Int} {x y : Int} (ho : OffB n es e os) (hx : Bl es e x) (hy : Bl es e y) (h : Pth n os (fun _ => True) x y) : x = y := by
  obtain ⟨p, hp, h1, h2, _⟩ := h
  obtain ⟨h0, e1⟩ := head_at h1
  obtain ⟨_, e2⟩ := last_at h2
  have hp2 : PathL n es p := ⟨hp.ne, hp.nd, hp.inn, fun i hi => ((ho.2 _ _).1 (hp.lk i hi)).1⟩
  obtain ⟨_, r2⟩ := path_in hp2 (fun _ => by rw [e1, e2]; exact ⟨hx, hy⟩)
  by_cases h3 : p.length = 1
  · rw [← e1, ← e2]
    congr 1
    omega
  · exact absurd (r2 0 (by omega)) ((ho.2 _ _).1 (hp.lk 0 (by omega))).2
/-- Another block's vertices are joined by other edges. -/
theorem off_other {n : Int} {es os : List (Int × Int)} {e f : Int × Int} {x y s : Int} (ho : OffB n es e os) (hR : RightG n es) (hf : Adj es f.1 f.2) (hno : ¬ Tog es e f) (hx : Bl es f x) (hy : Bl es f y) (h : Pth n os (fun _ => True) s x) : Pth n os (fun _ => True) s y := by
  have hxi := hx.in hR
  have hyi := hy.in hR
  obtain ⟨p, hp, h1, h2, _, _, h5⟩ := block_path (v := -1) hR (hf.in hR).2.2 hx hy (by omega) (by omega)
  obtain ⟨h0, e1⟩ := head_at h1
  obtain ⟨_, e2⟩ := last_at h2
  have key : ∀ i (hi : i < p.length), Pth n os (fun _ => True) s p[i] := fun i => by
    induction i with
    | zero => intro hi; rw [e1]; exact h
    | succ i ih =>
      intro hi
      have ha := hp.lk i hi
      refine (ih (by omega)).step ho.1 ((ho.2 _ _).2 ⟨ha, fun k => hno (Tog.trans ?_ k (h5 i hi).symm)⟩) trivial
      exact (ha.in hR).2.2
  have := key (p.length - 1) (by omega)
  rw [e2] at this
  exact this
/-- A block's first vertex with each other one. -/
def starN : List Int → List (Nat × Nat)
  | [] => []
  | x :: xs => xs.map (fun y => (x.toNat, y.toNat))
theorem starN_len (B : List Int) : (starN B).length = B.length - 1 := by
  cases B with
  | nil => rfl
  | cons x xs => simp [starN]
theorem mem_starN {B : List Int} (hB : B.Pairwise (· < ·)) (h0 : ∀ x ∈ B, 0 ≤ x) {p : Nat × Nat} (hp : p ∈ starN B) : ((p.1 : Int) ∈ B ∧ (p.2 : Int) ∈ B) ∧ p.1 < p.2 ∧ B.head? = some (p.1 : Int) := by
  cases B with
  | nil => simp [starN] at hp
  | cons x xs =>
    obtain ⟨y, hy, rfl⟩ := List.mem_map.1 hp
    have h1 := h0 x (by simp)
    have h2 := h0 y (List.mem_cons_of_mem _ hy)
    have h3 := (List.pairwise_cons.1 hB).1 y hy
    have e1 : ((x.toNat : Nat) : Int) = x := by omega
    have e2 : ((y.toNat : Nat) : Int) = y := by omega
    refine ⟨⟨by rw [e1]; simp, by rw [e2]; exact List.mem_cons_of_mem _ hy⟩, by simp only; omega, by rw [e1]; rfl⟩
theorem starN_nodup {B : List Int} (hB : B.Pairwise (· < ·)) (h0 : ∀ x ∈ B, 0 ≤ x) : (starN B).Nodup := by
  cases B with
  | nil => simp [starN]
  | cons x xs =>
    unfold starN
    rw [List.nodup_iff_pairwise_ne, List.pairwise_map]
    refine (List.pairwise_cons.1 hB).2.imp_of_mem (fun {a b} ha hb hab e => ?_)
    have h1 := h0 a (List.mem_cons_of_mem _ ha)
    have h2 := h0 b (List.mem_cons_of_mem _ hb)
    have := congrArg Prod.snd e
    simp only at this
    omega
theorem IsBlk.in {n : Int} {es : List (Int × Int)} {B : List Int} (hR : RightG n es) (h : IsBlk es B) : ∀ x ∈ B, 0 ≤ x ∧ x < n := fun x hx => by
  obtain ⟨_, a, b, _, ib⟩ := h
  exact ((ib x).1 hx).in hR
theorem block_count {m : Nat} {es : List (Int × Int)} {Bs : List (List Int)} {g : Nat → Nat} (hR : RightG m es) (hB : BlocksL es Bs) (hg : Pt m g) (hT : Tells m g (prsN es)) : (repsF m g).length + (Bs.map (fun B => B.length - 1)).sum = m := by
  have hin : ∀ B ∈ Bs, ∀ x ∈ B, 0 ≤ x ∧ x < m := fun B hb => ((hB.is B).1 hb).in hR
  have hup : ∀ B ∈ Bs, B.Pairwise (· < ·) := fun B hb => ((hB.is B).1 hb).1
  have hP : ∀ p, p ∈ Bs.flatMap starN → ∃ B ∈ Bs, p ∈ starN B := fun p hp => List.mem_flatMap.1 hp
  have hnd : (Bs.flatMap starN).Nodup := by
    rw [List.nodup_iff_pairwise_ne, List.pairwise_flatMap]
    refine ⟨fun B hb => List.nodup_iff_pairwise_ne.1 (starN_nodup (hup B hb) (fun x hx => (hin B hb x hx).1)), hB.ord.imp_of_mem (fun {A B} hA hb hlt p hp q hq e => ?_)⟩
    subst e
    obtain ⟨⟨a1, a2⟩, a3, _⟩ := mem_starN (hup A hA) (fun x hx => (hin A hA x hx).1) hp
    obtain ⟨⟨b1, b2⟩, _, _⟩ := mem_starN (hup B hb) (fun x hx => (hin B hb x hx).1) hq
    have := blk_share hR ((hB.is A).1 hA) ((hB.is B).1 hb) (x := (p.1 : Int)) (y := (p.2 : Int)) (by omega) a1 a2 b1 b2
    subst this
    rw [lexL_irrefl] at hlt
    cases hlt
  have hpi : PairsIn m (Bs.flatMap starN) := fun p hp => by
    obtain ⟨B, hb, hp⟩ := hP p hp
    obtain ⟨⟨a1, a2⟩, _, _⟩ := mem_starN (hup B hb) (fun x hx => (hin B hb x hx).1) hp
    have := hin B hb _ a1
    have := hin B hb _ a2
    omega
  have hsep : ∀ p ∈ Bs.flatMap starN, ¬ Cl ((Bs.flatMap starN).filter (fun q => decide (q ≠ p))) p.1 p.2 := fun p hp hcl => by
    obtain ⟨B, hb, hpB⟩ := hP p hp
    obtain ⟨⟨a1, a2⟩, a3, a4⟩ := mem_starN (hup B hb) (fun x hx => (hin B hb x hx).1) hpB
    obtain ⟨_, c, d, hcd, ib⟩ := (hB.is B).1 hb
    have hb1 := (ib _).1 a1
    have hb2 := (ib _).1 a2
    have hr2 := hin B hb _ a2
    -- what is come to from p.2 by the other blocks' edges
    obtain ⟨os, ho⟩ := offB_ex hR (c, d)
    have key := hcl (fun x y => Pth m os (fun _ => True) (p.2 : Int) (x : Int) ↔ Pth m os (fun _ => True) (p.2 : Int) (y : Int)) (fun _ => Iff.rfl) (fun _ _ h => h.symm) (fun _ _ _ h k => h.trans k) (fun q hq => by
      rw [List.mem_filter] at hq
      have hqne : q ≠ p := of_decide_eq_true hq.2
      obtain ⟨A, hA, hqA⟩ := hP q hq.1
      obtain ⟨⟨q1, q2⟩, q3, q4⟩ := mem_starN (hup A hA) (fun x hx => (hin A hA x hx).1) hqA
      obtain ⟨_, u, w, huw, ia⟩ := (hB.is A).1 hA
      by_cases hsame : Tog es (c, d) (u, w)
      · -- another one of the same block: neither is come to
        have hAB : A = B := up_oneB (hup A hA) (hup B hb) (fun z => by
          rw [ia, ib]
          exact ⟨fun h => h.tog (huw.in hR).2.2 hsame.symm, fun h => h.tog (hcd.in hR).2.2 hsame⟩)
        subst hAB
        have e1 : q.1 = p.1 := by
          rw [q4] at a4
          have := Option.some.inj a4
          omega
        have e2 : q.2 ≠ p.2 := fun e => hqne (Prod.ext e1 e)
        constructor
        · intro h
          have := off_one ho hb2 ((ib _).1 q1) h
          rw [e1] at this
          omega
        · intro h
          have := off_one ho hb2 ((ib _).1 q2) h
          omega
      · exact ⟨fun h => off_other ho hR huw hsame ((ia _).1 q1) ((ia _).1 q2) h, fun h => off_other ho hR huw hsame ((ia _).1 q2) ((ia _).1 q1) h⟩)
    have h2 := key.2 (pth_self hr2 trivial)
    have := off_one ho hb2 hb1 h2
    omega
  obtain ⟨f, hf, ht, hl⟩ := forest (m := m) (Bs.flatMap starN).reverse (by rw [List.reverse_reverse]; exact hnd) (by rw [List.reverse_reverse]; exact hpi) (by rw [List.reverse_reverse]; exact hsep)
  rw [List.reverse_reverse] at ht
  have hlen : (Bs.flatMap starN).length = (Bs.map (fun B => B.length - 1)).sum := by
    rw [List.length_flatMap]
    congr 1
    exact List.map_congr_left (fun B _ => starN_len B)
  -- the pairs join what the edges do
  have hfg : ∀ i, i < m → f i = g i := tells_one hf hg ht hT (fun p hp => by
    obtain ⟨B, hb, hp⟩ := hP p hp
    obtain ⟨⟨a1, a2⟩, _, _⟩ := mem_starN (hup B hb) (fun x hx => (hin B hb x hx).1) hp
    obtain ⟨_, c, d, hcd, ib⟩ := (hB.is B).1 hb
    have r1 := hin B hb _ a1
    have r2 := hin B hb _ a2
    have hav := Bl.av2 (v := -1) (hcd.in hR).2.2 ((ib _).1 a1) ((ib _).1 a2) (by omega) (by omega)
    obtain ⟨q, k1, k2, k3, _⟩ := av_pth hR r1 (by omega) hav
    have hpt : Pth m es (fun _ => True) (p.1 : Int) (p.2 : Int) := ⟨q, k1, k2, k3, fun _ _ => trivial⟩
    exact (hT p.1 p.2 (by omega) (by omega)).1 ((pth_cl hR hT (by omega) (by omega)).2 hpt)) (fun e he => by
    have hm := (mem_prsN (a := e.1) (b := e.2) hR).1 he
    have ha : Adj es (e.1 : Int) (e.2 : Int) := Or.inl hm
    obtain ⟨B, hb, b1, b2, _⟩ := blk_edge hR hB ha
    have star : ∀ x : Nat, (x : Int) ∈ B → ∀ z, B.head? = some (z : Int) → 0 ≤ z → Cl (Bs.flatMap starN) z.toNat x := fun x hx z hz h0 => by
      cases B with
      | nil => simp at hx
      | cons y ys =>
        have ez : y = z := Option.some.inj hz
        subst ez
        rcases List.mem_cons.1 hx with e | hx
        · rw [← e]; simpa using Cl.refl _ _
        · exact Cl.of (e := (y.toNat, x)) (List.mem_flatMap.2 ⟨_, hb, List.mem_map.2 ⟨(x : Int), hx, by simp⟩⟩)
    cases hB0 : B with
    | nil => rw [hB0] at b1; cases b1
    | cons z zs =>
      have hz := hin B hb z (by rw [hB0]; simp)
      have h1 := star e.1 b1 z (by rw [hB0]; rfl) hz.1
      have h2 := star e.2 b2 z (by rw [hB0]; rfl) hz.1
      exact h1.symm.trans h2)
  have hreps : repsF m f = repsF m g := by
    unfold repsF
    refine List.filter_congr (fun i hi => ?_)
    rw [hfg i (by simpa using hi)]
  rw [← hreps]
  rw [List.length_reverse] at hl
  omega
end Go.Proofs.Ytckcbaegehfkoaa
namespace Go.Proofs.Ytckcbaegehfkoaa

theorem BlocksL.nodup {es : List (Int × Int)} {Bs : List (List Int)} (h : BlocksL es Bs) : Bs.Nodup := by
  rw [List.nodup_iff_pairwise_ne]
  exact h.ord.imp (fun {A B} h e => by subst e; rw [lexL_irrefl] at h; cases h)
/-- A block's vertices are two and more. -/
theorem blk_two {n : Int} {es : List (Int × Int)} {B : List Int} (hR : RightG n es) (hB : IsBlk es B) : 2 ≤ B.length := by
  obtain ⟨hu, a, b, hab, ib⟩ := hB
  have h1 : a ∈ B := (ib a).2 (Bl.own (e := (a, b)) hab (Or.inl rfl))
  have h2 : b ∈ B := (ib b).2 (Bl.own (e := (a, b)) hab (Or.inr rfl))
  have := len_le_subI (a := [a, b]) (b := B) (by simp; exact (hab.in hR).2.2) (fun x hx => by
    simp at hx
    rcases hx with rfl | rfl
    · exact h1
    · exact h2)
  simpa using this
end Go.Proofs.Ytckcbaegehfkoaa
namespace Go.Proofs.Ytckcbaegehfkoaa
open Go.RowKit Go.Lib

theorem flat_len {LL : List (List Int)} {K : Nat} (h : ∀ L ∈ LL, L.length ≤ K) : LL.flatten.length ≤ LL.length * K := by
  induction LL with
  | nil => simp
  | cons L LL ih =>
    have h1 := h L (by simp)
    have h2 := ih (fun M hM => h M (List.mem_cons_of_mem _ hM))
    rw [List.flatten_cons, List.length_append, List.length_cons, Nat.succ_mul]
    omega
theorem sev_next (m k : Nat) (hk : k < m) (p : Nat → Bool) : ((List.range m).take (k + 1)).filter p = (((List.range m).take k).filter p ++ if p k then [k] else []) := by
  rw [← List.take_append_getElem (by simpa using hk), List.filter_append]
  congr 1
  simp only [List.getElem_range]
  cases h : p k <;> simp [h]

end Go.Proofs.Ytckcbaegehfkoaa
