/-
  The vertices of all blocks, less one each, are as many as there are vertices, less the components (layer 7). No program is named here.
  Graphs made of a graph (layer 6): what some vertices induce, what is left when one goes, two neighbours made one. No program is named here.
  Who goes, and what is left (layer 6): renumbered edges. No program is named here.
  What the calls of layer 6 tell, and what follows of it. No program is named here.
  How many edges a deletion and a contraction leave. No program is named here.
  How many blocks have a vertex, and how many parts there are without it (layer 7). No program is named here.
  One edge more; a way round an edge (layer 7). No program is named here.
  The blocks of the first edges, one behind the other (layer 7). No program is named here.
-/
import Derived.Test.YtplhpinaadgkkaaB09
import Derived.Test.YtplhpinaadgkkaaB06
import Derived.Test.YtplhpinaadgkkaaB05
namespace Go.Proofs.Ytplhpinaadgkkaa

/-- Pairs of which none joins what the others join: each makes one class fewer. -/
theorem forest {m : Nat} : ∀ (Q : List (Nat × Nat)), Q.reverse.Nodup → PairsIn m Q.reverse → (∀ p ∈ Q.reverse, ¬ Cl (Q.reverse.filter (fun q => decide (q ≠ p))) p.1 p.2) → ∃ f, Pt m f ∧ Tells m f Q.reverse ∧ (repsF m f).length + Q.length = m
  | [], _, _, _ => ⟨fun i => i, pt_new m, tells_new m, by
    have : repsF m (fun i => i) = List.range m := by unfold repsF; rw [List.filter_eq_self]; simp
    rw [this]; simp⟩
  | p :: Q, hn, hin, hc => by
    rw [List.reverse_cons] at hn hin hc ⊢
    rw [List.nodup_append] at hn
    obtain ⟨hn1, _, hn2⟩ := hn
    have hne : ∀ q ∈ Q.reverse, q ≠ p := fun q hq => hn2 q hq p (by simp)
    obtain ⟨f, hf, ht, hl⟩ := forest Q hn1 (fun e he => hin e (List.mem_append_left _ he)) (fun q hq h => hc q (List.mem_append_left _ hq) (h.mono (fun e he => by
      refine Cl.of ?_
      rw [List.mem_filter] at he ⊢
      exact ⟨List.mem_append_left _ he.1, he.2⟩)))
    have hp := hin p (by simp)
    have hsep : f p.1 ≠ f p.2 := fun e => hc p (by simp) (((ht p.1 p.2 hp.1 hp.2).1 e).mono (fun e he => Cl.of (by
      rw [List.mem_filter]
      exact ⟨List.mem_append_left _ he, decide_eq_true (hne e he)⟩)))
    have hj := reps_join hf hp.1 hp.2 hsep
    refine ⟨joinF f p.1 p.2, hf.join hp.1 hp.2, tells_join ht (fun e he => hin e (List.mem_append_left _ he)) hp.1 hp.2, ?_⟩
    rw [List.length_cons]
    omega
/-- The edges that do not belong to e's block. -/
def OffB (n : Int) (es : List (Int × Int)) (e : Int × Int) (os : List (Int × Int)) : Prop := RightG n os ∧ ∀ x y, Adj os x y ↔ Adj es x y ∧ ¬ Tog es e (x, y)
theorem offB_ex {n : Int} {es : List (Int × Int)} (hR : RightG n es) (e : Int × Int) : ∃ os, OffB n es e os := by
  classical
  refine ⟨es.filter (fun f => decide (¬ Tog es e f)), ⟨hR.1, hR.2.1, Nat.le_trans (List.length_filter_le _ _) hR.2.2.1, fun f hf => hR.2.2.2.1 f (List.mem_filter.1 hf).1, hR.2.2.2.2.filter _⟩, fun x y => ?_⟩
  unfold Adj
  rw [List.mem_filter, List.mem_filter, decide_eq_true_eq, decide_eq_true_eq]
  constructor
  · rintro (⟨h1, h2⟩ | ⟨h1, h2⟩)
    · exact ⟨Or.inl h1, h2⟩
    · exact ⟨Or.inr h1, fun h => h2 (Tog.turn h.symm).symm⟩
  · rintro ⟨h1 | h1, h2⟩
    · exact Or.inl ⟨h1, h2⟩
    · exact Or.inr ⟨h1, fun h => h2 (Tog.turn h.symm).symm⟩
/-- By other edges one comes from a block's vertex to no other one of it. -/
theorem off_one {n : Int} {es os : List (Int × Int)} {e : Int × Int} {x y : Int} (ho : OffB n es e os) (hx : Bl es e x) (hy : Bl es e y) (h : Pth n os (fun _ => True) x y) : x = y := by
  obtain ⟨p, hp, h1, h2, _⟩ := h
  obtain ⟨h0, e1⟩ := head_at h1
  obtain ⟨_, e2⟩ := last_at h2
  have hp2 : PathL n es p := ⟨hp.ne, hp.nd, hp.inn, fun i hi => ((ho.2 _ _).1 (hp.lk i hi)).1⟩
  obtain ⟨_, r2⟩ := path_in hp2 (fun _ => by rw [e1, e2]; exact ⟨hx, hy⟩)
  by_cases h3 : p.length = 1
  · rw [← e1, ← e2]
    congr 1
    omega
  · exact absurd (r2 0 (by omega)) ((ho.2 _ _).1 (hp.lk 0 (by omega))).2
/-- Another block's vertices are joined by other edges. -/
theorem off_other {n : Int} {es os : List (Int × Int)} {e f : Int × Int} {x y s : Int} (ho : OffB n es e os) (hR : RightG n es) (hf : Adj es f.1 f.2) (hno : ¬ Tog es e f) (hx : Bl es f x) (hy : Bl es f y) (h : Pth n os (fun _ => True) s x) : Pth n os (fun _ => True) s y := by
  have hxi := hx.in hR
  have hyi := hy.in hR
  obtain ⟨p, hp, h1, h2, _, _, h5⟩ := block_path (v := -1) hR (hf.in hR).2.2 hx hy (by omega) (by omega)
  obtain ⟨h0, e1⟩ := head_at h1
  obtain ⟨_, e2⟩ := last_at h2
  have key : ∀ i (hi : i < p.length), Pth n os (fun _ => True) s p[i] := fun i => by
    induction i with
    | zero => intro hi; rw [e1]; exact h
    | succ i ih =>
      intro hi
      have ha := hp.lk i hi
      refine (ih (by omega)).step ho.1 ((ho.2 _ _).2 ⟨ha, fun k => hno (Tog.trans ?_ k (h5 i hi).symm)⟩) trivial
      exact (ha.in hR).2.2
  have := key (p.length - 1) (by omega)
  rw [e2] at this
  exact this
/-- A block's first vertex with each other one. -/
def starN : List Int → List (Nat × Nat)
  | [] => []
  | x :: xs => xs.map (fun y => (x.toNat, y.toNat))
theorem starN_len (B : List Int) : (starN B).length = B.length - 1 := by
  cases B with
  | nil => rfl
  | cons x xs => simp [starN]
theorem mem_starN {B : List Int} (hB : B.Pairwise (· < ·)) (h0 : ∀ x ∈ B, 0 ≤ x) {p : Nat × Nat} (hp : p ∈ starN B) : ((p.1 : Int) ∈ B ∧ (p.2 : Int) ∈ B) ∧ p.1 < p.2 ∧ B.head? = some (p.1 : Int) := by
  cases B with
  | nil => simp [starN] at hp
  | cons x xs =>
    obtain ⟨y, hy, rfl⟩ := List.mem_map.1 hp
    have h1 := h0 x (by simp)
    have h2 := h0 y (List.mem_cons_of_mem _ hy)
    have h3 := (List.pairwise_cons.1 hB).1 y hy
    have e1 : ((x.toNat : Nat) : Int) = x := by omega
    have e2 : ((y.toNat : Nat) : Int) = y := by omega
    refine ⟨⟨by rw [e1]; simp, by rw [e2]; exact List.mem_cons_of_mem _ hy⟩, by simp only; omega, by rw [e1]; rfl⟩
theorem starN_nodup {B : List Int} (hB : B.Pairwise (· < ·)) (h0 : ∀ x ∈ B, 0 ≤ x) : (starN B).Nodup := by
  cases B with
  | nil => simp [starN]
  | cons x xs =>
    unfold starN
    rw [List.nodup_iff_pairwise_ne, List.pairwise_map]
    refine (List.pairwise_cons.1 hB).2.imp_of_mem (fun {a b} ha hb hab e => ?_)
    have h1 := h0 a (List.mem_cons_of_mem _ ha)
    have h2 := h0 b (List.mem_cons_of_mem _ hb)
    have := congrArg Prod.snd e
    simp only at this
    omega
theorem IsBlk.in {n : Int} {es : List (Int × Int)} {B : List Int} (hR : RightG n es) (h : IsBlk es B) : ∀ x ∈ B, 0 ≤ x ∧ x < n := fun x hx => by
  obtain ⟨_, a, b, _, ib⟩ := h
  exact ((ib x).1 hx).in hR
theorem block_count {m : Nat} {es : List (Int × Int)} {Bs : List (List Int)} {g : Nat → Nat} (hR : RightG m es) (hB : BlocksL es Bs) (hg : Pt m g) (hT : Tells m g (prsN es)) : (repsF m g).length + (Bs.map (fun B => B.length - 1)).sum = m := by
  have hin : ∀ B ∈ Bs, ∀ x ∈ B, 0 ≤ x ∧ x < m := fun B hb => ((hB.is B).1 hb).in hR
  have hup : ∀ B ∈ Bs, B.Pairwise (· < ·) := fun B hb => ((hB.is B).1 hb).1
  have hP : ∀ p, p ∈ Bs.flatMap starN → ∃ B ∈ Bs, p ∈ starN B := fun p hp => List.mem_flatMap.1 hp
  have hnd : (Bs.flatMap starN).Nodup := by
    rw [List.nodup_iff_pairwise_ne, List.pairwise_flatMap]
    refine ⟨fun B hb => List.nodup_iff_pairwise_ne.1 (starN_nodup (hup B hb) (fun x hx => (hin B hb x hx).1)), hB.ord.imp_of_mem (fun {A B} hA hb hlt p hp q hq e => ?_)⟩
    subst e
    obtain ⟨⟨a1, a2⟩, a3, _⟩ := mem_starN (hup A hA) (fun x hx => (hin A hA x hx).1) hp
    obtain ⟨⟨b1, b2⟩, _, _⟩ := mem_starN (hup B hb) (fun x hx => (hin B hb x hx).1) hq
    have := blk_share hR ((hB.is A).1 hA) ((hB.is B).1 hb) (x := (p.1 : Int)) (y := (p.2 : Int)) (by omega) a1 a2 b1 b2
    subst this
    rw [lexL_irrefl] at hlt
    cases hlt
  have hpi : PairsIn m (Bs.flatMap starN) := fun p hp => by
    obtain ⟨B, hb, hp⟩ := hP p hp
    obtain ⟨⟨a1, a2⟩, _, _⟩ := mem_starN (hup B hb) (fun x hx => (hin B hb x hx).1) hp
    have := hin B hb _ a1
    have := hin B hb _ a2
    omega
  have hsep : ∀ p ∈ Bs.flatMap starN, ¬ Cl ((Bs.flatMap starN).filter (fun q => decide (q ≠ p))) p.1 p.2 := fun p hp hcl => by
    obtain ⟨B, hb, hpB⟩ := hP p hp
    obtain ⟨⟨a1, a2⟩, a3, a4⟩ := mem_starN (hup B hb) (fun x hx => (hin B hb x hx).1) hpB
    obtain ⟨_, c, d, hcd, ib⟩ := (hB.is B).1 hb
    have hb1 := (ib _).1 a1
    have hb2 := (ib _).1 a2
    have hr2 := hin B hb _ a2
    -- what is come to from p.2 by the other blocks' edges
    obtain ⟨os, ho⟩ := offB_ex hR (c, d)
    have key := hcl (fun x y => Pth m os (fun _ => True) (p.2 : Int) (x : Int) ↔ Pth m os (fun _ => True) (p.2 : Int) (y : Int)) (fun _ => Iff.rfl) (fun _ _ h => h.symm) (fun _ _ _ h k => h.trans k) (fun q hq => by
      rw [List.mem_filter] at hq
      have hqne : q ≠ p := of_decide_eq_true hq.2
      obtain ⟨A, hA, hqA⟩ := hP q hq.1
      obtain ⟨⟨q1, q2⟩, q3, q4⟩ := mem_starN (hup A hA) (fun x hx => (hin A hA x hx).1) hqA
      obtain ⟨_, u, w, huw, ia⟩ := (hB.is A).1 hA
      by_cases hsame : Tog es (c, d) (u, w)
      · -- another one of the same block: neither is come to
        have hAB : A = B := up_oneB (hup A hA) (hup B hb) (fun z => by
          rw [ia, ib]
          exact ⟨fun h => h.tog (huw.in hR).2.2 hsame.symm, fun h => h.tog (hcd.in hR).2.2 hsame⟩)
        subst hAB
        have e1 : q.1 = p.1 := by
          rw [q4] at a4
          have := Option.some.inj a4
          omega
        have e2 : q.2 ≠ p.2 := fun e => hqne (Prod.ext e1 e)
        constructor
        · intro h
          have := off_one ho hb2 ((ib _).1 q1) h
          rw [e1] at this
          omega
        · intro h
          have := off_one ho hb2 ((ib _).1 q2) h
          omega
      · exact ⟨fun h => off_other ho hR huw hsame ((ia _).1 q1) ((ia _).1 q2) h, fun h => off_other ho hR huw hsame ((ia _).1 q2) ((ia _).1 q1) h⟩)
    have h2 := key.2 (pth_self hr2 trivial)
    have := off_one ho hb2 hb1 h2
    omega
  obtain ⟨f, hf, ht, hl⟩ := forest (m := m) (Bs.flatMap starN).reverse (by rw [List.reverse_reverse]; exact hnd) (by rw [List.reverse_reverse]; exact hpi) (by rw [List.reverse_reverse]; exact hsep)
  rw [List.reverse_reverse] at ht
  have hlen : (Bs.flatMap starN).length = (Bs.map (fun B => B.length - 1)).sum := by
    rw [List.length_flatMap]
    congr 1
    exact List.map_congr_left (fun B _ => starN_len B)
  -- the pairs join what the edges do
  have hfg : ∀ i, i < m → f i = g i := tells_one hf hg ht hT (fun p hp => by
    obtain ⟨B, hb, hp⟩ := hP p hp
    obtain ⟨⟨a1, a2⟩, _, _⟩ := mem_starN (hup B hb) (fun x hx => (hin B hb x hx).1) hp
    obtain ⟨_, c, d, hcd, ib⟩ := (hB.is B).1 hb
    have r1 := hin B hb _ a1
    have r2 := hin B hb _ a2
    have hav := Bl.av2 (v := -1) (hcd.in hR).2.2 ((ib _).1 a1) ((ib _).1 a2) (by omega) (by omega)
    obtain ⟨q, k1, k2, k3, _⟩ := av_pth hR r1 (by omega) hav
    have hpt : Pth m es (fun _ => True) (p.1 : Int) (p.2 : Int) := ⟨q, k1, k2, k3, fun _ _ => trivial⟩
    exact (hT p.1 p.2 (by omega) (by omega)).1 ((pth_cl hR hT (by omega) (by omega)).2 hpt)) (fun e he => by
    have hm := (mem_prsN (a := e.1) (b := e.2) hR).1 he
    have ha : Adj es (e.1 : Int) (e.2 : Int) := Or.inl hm
    obtain ⟨B, hb, b1, b2, _⟩ := blk_edge hR hB ha
    have star : ∀ x : Nat, (x : Int) ∈ B → ∀ z, B.head? = some (z : Int) → 0 ≤ z → Cl (Bs.flatMap starN) z.toNat x := fun x hx z hz h0 => by
      cases B with
      | nil => simp at hx
      | cons y ys =>
        have ez : y = z := Option.some.inj hz
        subst ez
        rcases List.mem_cons.1 hx with e | hx
        · rw [← e]; simpa using Cl.refl _ _
        · exact Cl.of (e := (y.toNat, x)) (List.mem_flatMap.2 ⟨_, hb, List.mem_map.2 ⟨(x : Int), hx, by simp⟩⟩)
    cases hB0 : B with
    | nil => rw [hB0] at b1; cases b1
    | cons z zs =>
      have hz := hin B hb z (by rw [hB0]; simp)
      have h1 := star e.1 b1 z (by rw [hB0]; rfl) hz.1
      have h2 := star e.2 b2 z (by rw [hB0]; rfl) hz.1
      exact h1.symm.trans h2)
  have hreps : repsF m f = repsF m g := by
    unfold repsF
    refine List.filter_congr (fun i hi => ?_)
    rw [hfg i (by simpa using hi)]
  rw [← hreps]
  rw [List.length_reverse] at hl
  omega
end Go.Proofs.Ytplhpinaadgkkaa
namespace Go.Proofs.Ytplhpinaadgkkaa

/-- The edges of the graph that the vertices at l's places induce (F1). -/
def IndE (es : List (Int × Int)) (l : List Int) (E : List (Int × Int)) : Prop := Rises E ∧ ∀ a b : Int, (a, b) ∈ E ↔ ∃ i j : Nat, ∃ (hi : i < l.length) (hj : j < l.length), a = i ∧ b = j ∧ i < j ∧ Adj es l[i] l[j]
theorem IndE.one {es : List (Int × Int)} {l : List Int} {E E' : List (Int × Int)} (h : IndE es l E) (k : IndE es l E') : E = E' := rises_one h.1 k.1 (fun e => by
  obtain ⟨a, b⟩ := e
  exact (h.2 a b).trans (k.2 a b).symm)
theorem nodup_inj {l : List Int} (h : l.Nodup) {i j : Nat} (hi : i < l.length) (hj : j < l.length) (e : l[i] = l[j]) : i = j := by
  by_cases h1 : i < j
  · exact absurd e (List.pairwise_iff_getElem.1 h i j hi hj h1)
  · by_cases h2 : j < i
    · exact absurd e.symm (List.pairwise_iff_getElem.1 h j i hj hi h2)
    · omega
/-- There are no more edges than there were. -/
theorem IndE.len {es : List (Int × Int)} {l : List Int} {E : List (Int × Int)} (h : IndE es l E) (hn : l.Nodup) : E.length ≤ es.length := by
  have hnd := rises_nodup h.1
  -- each edge goes to one of es
  let f : Int × Int → Int × Int := fun e => if (l.getD e.1.toNat 0, l.getD e.2.toNat 0) ∈ es then (l.getD e.1.toNat 0, l.getD e.2.toNat 0) else (l.getD e.2.toNat 0, l.getD e.1.toNat 0)
  have hmem : ∀ e ∈ E, f e ∈ es := fun e he => by
    obtain ⟨a, b⟩ := e
    obtain ⟨i, j, hi, hj, rfl, rfl, hlt, hadj⟩ := (h.2 a b).1 he
    show (if _ then _ else _) ∈ es
    simp only [Int.toNat_natCast, List.getD, List.getElem?_eq_getElem hi, List.getElem?_eq_getElem hj, Option.getD_some]
    split
    · assumption
    · rcases hadj with h1 | h1
      · contradiction
      · exact h1
  have hinj : (E.map f).Nodup := by
    rw [List.nodup_iff_pairwise_ne, List.pairwise_map]
    refine hnd.imp_of_mem (fun {x y} hx hy hne e => hne ?_)
    obtain ⟨a, b⟩ := x
    obtain ⟨c, d⟩ := y
    obtain ⟨i, j, hi, hj, rfl, rfl, hlt, _⟩ := (h.2 a b).1 hx
    obtain ⟨p, q, hp, hq, rfl, rfl, hlt2, _⟩ := (h.2 c d).1 hy
    have e' : (if _ then _ else _ : Int × Int) = (if _ then _ else _) := e
    simp only [Int.toNat_natCast, List.getD, List.getElem?_eq_getElem hi, List.getElem?_eq_getElem hj, List.getElem?_eq_getElem hp, List.getElem?_eq_getElem hq, Option.getD_some] at e'
    have key : (l[i] = l[p] ∧ l[j] = l[q]) ∨ (l[i] = l[q] ∧ l[j] = l[p]) := by
      split at e' <;> split at e' <;> simp only [Prod.mk.injEq] at e' <;> first | exact Or.inl e' | exact Or.inr e' | exact Or.inr ⟨e'.2, e'.1⟩ | exact Or.inl ⟨e'.2, e'.1⟩
    rcases key with ⟨h1, h2⟩ | ⟨h1, h2⟩
    · rw [nodup_inj hn hi hp h1, nodup_inj hn hj hq h2]
    · have := nodup_inj hn hi hq h1
      have := nodup_inj hn hj hp h2
      omega
  have := len_le_of_sub hinj (b := es) (fun e he => by
    obtain ⟨x, hx, rfl⟩ := List.mem_map.1 he
    exact hmem x hx)
  simpa using this
/-- What is induced is right. -/
theorem IndE.right {n : Int} {es : List (Int × Int)} {l : List Int} {E : List (Int × Int)} (hR : RightG n es) (h : IndE es l E) (hn : l.Nodup) (hl : l.length ≤ 1000) : RightG l.length E :=
  ⟨by omega, by omega, Nat.le_trans (h.len hn) hR.2.2.1, fun e he => by
    obtain ⟨a, b⟩ := e
    obtain ⟨i, j, hi, hj, rfl, rfl, hlt, _⟩ := (h.2 a b).1 he
    simp only
    omega, h.1⟩
end Go.Proofs.Ytplhpinaadgkkaa
namespace Go.Proofs.Ytplhpinaadgkkaa

/-- All numbers below n but v. -/
def othL (n v : Nat) : List Int := ((List.range n).filter (fun i => i ≠ v)).map (fun i : Nat => (i : Int))
/-- Who stands at place i, when v is gone. -/
def upN (v i : Nat) : Nat := if i < v then i else i + 1
end Go.Proofs.Ytplhpinaadgkkaa
namespace Go.Proofs.Ytplhpinaadgkkaa

/-- All are vertices. -/
def InL (n : Int) (l : List Int) : Prop := ∀ x ∈ l, 0 ≤ x ∧ x < n
/-- Induced (F1): the code, how many vertices, the edges. -/
def IndS (n : Int) (es : List (Int × Int)) (l : List Int) (er N : Int) (E : List (Int × Int)) : Prop :=
  (¬ RightG n es ∧ er = 1 ∧ N = 0 ∧ E = []) ∨ (RightG n es ∧ ¬ InL n l ∧ er = 4 ∧ N = 0 ∧ E = []) ∨ (RightG n es ∧ InL n l ∧ ¬ l.Nodup ∧ er = 1 ∧ N = 0 ∧ E = []) ∨ (RightG n es ∧ InL n l ∧ l.Nodup ∧ er = 0 ∧ N = l.length ∧ IndE es l E)
theorem IndS.one {n : Int} {es : List (Int × Int)} {l : List Int} {er N er' N' : Int} {E E' : List (Int × Int)} (h : IndS n es l er N E) (k : IndS n es l er' N' E') : er = er' ∧ N = N' ∧ E = E' := by
  rcases h with ⟨h1, rfl, rfl, rfl⟩ | ⟨h1, h2, rfl, rfl, rfl⟩ | ⟨h1, h2, h3, rfl, rfl, rfl⟩ | ⟨h1, h2, h3, rfl, rfl, h4⟩
  · rcases k with ⟨_, rfl, rfl, rfl⟩ | ⟨k1, _⟩ | ⟨k1, _⟩ | ⟨k1, _⟩
    · exact ⟨rfl, rfl, rfl⟩
    all_goals exact absurd k1 h1
  · rcases k with ⟨k1, _⟩ | ⟨_, _, rfl, rfl, rfl⟩ | ⟨_, k2, _⟩ | ⟨_, k2, _⟩
    · exact absurd h1 k1
    · exact ⟨rfl, rfl, rfl⟩
    all_goals exact absurd k2 h2
  · rcases k with ⟨k1, _⟩ | ⟨_, k2, _⟩ | ⟨_, _, _, rfl, rfl, rfl⟩ | ⟨_, _, k3, _⟩
    · exact absurd h1 k1
    · exact absurd h2 k2
    · exact ⟨rfl, rfl, rfl⟩
    · exact absurd k3 h3
  · rcases k with ⟨k1, _⟩ | ⟨_, k2, _⟩ | ⟨_, _, k3, _⟩ | ⟨_, _, _, rfl, rfl, k4⟩
    · exact absurd h1 k1
    · exact absurd h2 k2
    · exact absurd h3 k3
    · exact ⟨rfl, rfl, h4.one k4⟩
/-- Delete (F2). -/
def DelS (n : Int) (es : List (Int × Int)) (v er N : Int) (E : List (Int × Int)) : Prop :=
  (¬ RightG n es ∧ er = 1 ∧ N = 0 ∧ E = []) ∨ (RightG n es ∧ ¬ (0 ≤ v ∧ v < n) ∧ er = 4 ∧ N = 0 ∧ E = []) ∨ (RightG n es ∧ (0 ≤ v ∧ v < n) ∧ er = 0 ∧ N = n - 1 ∧ IndE es (othL n.toNat v.toNat) E)
theorem DelS.one {n : Int} {es : List (Int × Int)} {v er N er' N' : Int} {E E' : List (Int × Int)} (h : DelS n es v er N E) (k : DelS n es v er' N' E') : er = er' ∧ N = N' ∧ E = E' := by
  rcases h with ⟨h1, rfl, rfl, rfl⟩ | ⟨h1, h2, rfl, rfl, rfl⟩ | ⟨h1, h2, rfl, rfl, h4⟩
  · rcases k with ⟨_, rfl, rfl, rfl⟩ | ⟨k1, _⟩ | ⟨k1, _⟩
    · exact ⟨rfl, rfl, rfl⟩
    all_goals exact absurd k1 h1
  · rcases k with ⟨k1, _⟩ | ⟨_, _, rfl, rfl, rfl⟩ | ⟨_, k2, _⟩
    · exact absurd h1 k1
    · exact ⟨rfl, rfl, rfl⟩
    · exact absurd k2 h2
  · rcases k with ⟨k1, _⟩ | ⟨_, k2, _⟩ | ⟨_, _, rfl, rfl, k4⟩
    · exact absurd h1 k1
    · exact absurd h2 k2
    · exact ⟨rfl, rfl, h4.one k4⟩
/-- Neighbours, when hi's are lo's, too. -/
def MAdj (es : List (Int × Int)) (lo hi x y : Int) : Prop := Adj es x y ∨ (x = lo ∧ y ≠ lo ∧ Adj es hi y) ∨ (y = lo ∧ x ≠ lo ∧ Adj es hi x)
theorem MAdj.symm {es : List (Int × Int)} {lo hi x y : Int} (h : MAdj es lo hi x y) : MAdj es lo hi y x := by
  rcases h with h | h | h
  · exact Or.inl h.symm
  · exact Or.inr (Or.inr h)
  · exact Or.inr (Or.inl h)
/-- The edges, when two neighbours are one (F3). -/
def ConE (n : Nat) (es : List (Int × Int)) (lo hi : Nat) (E : List (Int × Int)) : Prop := Rises E ∧ ∀ a b : Int, (a, b) ∈ E ↔ ∃ i j : Nat, a = i ∧ b = j ∧ i < j ∧ j + 1 < n ∧ MAdj es lo hi (upN hi i) (upN hi j)
theorem ConE.one {n : Nat} {es : List (Int × Int)} {lo hi : Nat} {E E' : List (Int × Int)} (h : ConE n es lo hi E) (k : ConE n es lo hi E') : E = E' := rises_one h.1 k.1 (fun e => by
  obtain ⟨a, b⟩ := e
  exact (h.2 a b).trans (k.2 a b).symm)
/-- Contract (F3). -/
def ConS (n : Int) (es : List (Int × Int)) (a b er N : Int) (E : List (Int × Int)) : Prop :=
  (¬ RightG n es ∧ er = 1 ∧ N = 0 ∧ E = []) ∨ (RightG n es ∧ ¬ ((0 ≤ a ∧ a < n) ∧ (0 ≤ b ∧ b < n)) ∧ er = 4 ∧ N = 0 ∧ E = []) ∨ (RightG n es ∧ ((0 ≤ a ∧ a < n) ∧ (0 ≤ b ∧ b < n)) ∧ ¬ Adj es a b ∧ er = 6 ∧ N = 0 ∧ E = []) ∨ (RightG n es ∧ ((0 ≤ a ∧ a < n) ∧ (0 ≤ b ∧ b < n)) ∧ Adj es a b ∧ er = 0 ∧ N = n - 1 ∧ ConE n.toNat es (min a b).toNat (max a b).toNat E)
theorem ConS.one {n : Int} {es : List (Int × Int)} {a b er N er' N' : Int} {E E' : List (Int × Int)} (h : ConS n es a b er N E) (k : ConS n es a b er' N' E') : er = er' ∧ N = N' ∧ E = E' := by
  rcases h with ⟨h1, rfl, rfl, rfl⟩ | ⟨h1, h2, rfl, rfl, rfl⟩ | ⟨h1, h2, h3, rfl, rfl, rfl⟩ | ⟨h1, h2, h3, rfl, rfl, h4⟩
  · rcases k with ⟨_, rfl, rfl, rfl⟩ | ⟨k1, _⟩ | ⟨k1, _⟩ | ⟨k1, _⟩
    · exact ⟨rfl, rfl, rfl⟩
    all_goals exact absurd k1 h1
  · rcases k with ⟨k1, _⟩ | ⟨_, _, rfl, rfl, rfl⟩ | ⟨_, k2, _⟩ | ⟨_, k2, _⟩
    · exact absurd h1 k1
    · exact ⟨rfl, rfl, rfl⟩
    all_goals exact absurd k2 h2
  · rcases k with ⟨k1, _⟩ | ⟨_, k2, _⟩ | ⟨_, _, _, rfl, rfl, rfl⟩ | ⟨_, _, k3, _⟩
    · exact absurd h1 k1
    · exact absurd h2 k2
    · exact ⟨rfl, rfl, rfl⟩
    · exact absurd k3 h3
  · rcases k with ⟨k1, _⟩ | ⟨_, k2, _⟩ | ⟨_, _, k3, _⟩ | ⟨_, _, _, rfl, rfl, k4⟩
    · exact absurd h1 k1
    · exact absurd h2 k2
    · exact absurd h3 k3
    · exact ⟨rfl, rfl, h4.one k4⟩
/-- It does not matter which end is named first. -/
theorem ConS.swap {n : Int} {es : List (Int × Int)} {a b er N : Int} {E : List (Int × Int)} (h : ConS n es a b er N E) : ConS n es b a er N E := by
  rcases h with h | ⟨h1, h2, h3⟩ | ⟨h1, h2, h3, h4⟩ | ⟨h1, h2, h3, h4, h5, h6⟩
  · exact Or.inl h
  · exact Or.inr (Or.inl ⟨h1, fun k => h2 ⟨k.2, k.1⟩, h3⟩)
  · exact Or.inr (Or.inr (Or.inl ⟨h1, ⟨h2.2, h2.1⟩, fun k => h3 k.symm, h4⟩))
  · exact Or.inr (Or.inr (Or.inr ⟨h1, ⟨h2.2, h2.1⟩, h3.symm, h4, h5, by rw [Int.min_comm, Int.max_comm]; exact h6⟩))
end Go.Proofs.Ytplhpinaadgkkaa
namespace Go.Proofs.Ytplhpinaadgkkaa

theorem nb_adj {n v y : Int} {es : List (Int × Int)} (h : RightG n es) : y ∈ nbL v es ↔ Adj es v y := nbL_right h
end Go.Proofs.Ytplhpinaadgkkaa
namespace Go.Proofs.Ytplhpinaadgkkaa

/-- A block with v in it is that of an edge of v. -/
theorem blk_at {n : Int} {es : List (Int × Int)} {B : List Int} {v : Int} (hR : RightG n es) (hB : IsBlk es B) (hv : v ∈ B) : ∃ x, Adj es v x ∧ ∀ z, z ∈ B ↔ Bl es (v, x) z := by
  obtain ⟨_, a, b, hab, ic⟩ := hB
  obtain ⟨f, hf, ht, hend⟩ := (ic v).1 hv
  have hne := (hab.in hR).2.2
  have hnf := (hf.in hR).2.2
  rcases hend with e | e
  · refine ⟨f.2, by rw [e]; exact hf, fun z => ?_⟩
    have e2 : (v, f.2) = f := by rw [e]
    rw [ic, e2]
    exact ⟨fun h => h.tog hne ht, fun h => h.tog hnf ht.symm⟩
  · have ha : Adj es v f.1 := by rw [e]; exact hf.symm
    have ht2 : Tog es (a, b) (v, f.1) := by
      have e2 : (f.1, v) = f := by rw [e]
      rw [← e2] at ht
      exact (Tog.turn ht.symm).symm
    refine ⟨f.1, ha, fun z => ?_⟩
    rw [ic]
    exact ⟨fun h => h.tog hne ht2, fun h => h.tog (ha.in hR).2.2 ht2.symm⟩
/-- The blocks with v in them. -/
def atL (Bs : List (List Int)) (v : Int) : List (List Int) := Bs.filter (fun B => decide (v ∈ B))
/-- A cut is in two blocks and more. -/
theorem at_cut {m v : Nat} {es : List (Int × Int)} {Bs : List (List Int)} {Cs : List Int} (hR : RightG m es) (hB : BlocksL es Bs) (hC : CutsL es Cs) : (v : Int) ∈ Cs ↔ 2 ≤ (atL Bs v).length := by
  have hmem : ∀ B, B ∈ atL Bs v ↔ B ∈ Bs ∧ (v : Int) ∈ B := fun B => by unfold atL; rw [List.mem_filter, decide_eq_true_eq]
  have hnd : (atL Bs v).Pairwise (fun A B => lexL A B = true) := by unfold atL; exact hB.ord.filter _
  rw [hC.is]
  constructor
  · rintro ⟨x, y, hx, hy, hno⟩
    obtain ⟨A, h1, a1, a2, _⟩ := blk_edge hR hB hx
    obtain ⟨B, h2, b1, b2, _⟩ := blk_edge hR hB hy
    have hne : A ≠ B := fun e => by
      subst e
      obtain ⟨z, hz, iz⟩ := blk_at hR ((hB.is A).1 h1) a1
      have ha := (hz.in hR).2.2
      have t1 := edge_in (e := ((v : Int), z)) hx (hx.in hR).2.2 ((iz _).1 a1) ((iz _).1 a2)
      have t2 := edge_in (e := ((v : Int), z)) hy (hy.in hR).2.2 ((iz _).1 b1) ((iz _).1 b2)
      have hvx := (hx.in hR).2.2
      have hvy := (hy.in hR).2.2
      exact hno ((tog_at hx hy (fun e => hvx e.symm) (fun e => hvy e.symm)).1 (Tog.trans ha t1.symm t2))
    match hL : atL Bs v, hmem A, hmem B with
    | [], k1, _ => have := k1.2 ⟨h1, a1⟩; cases this
    | [C], k1, k2 =>
      have e1 := k1.2 ⟨h1, a1⟩
      have e2 := k2.2 ⟨h2, b1⟩
      simp at e1 e2
      exact absurd (e1.trans e2.symm) hne
    | _ :: _ :: _, _, _ => simp
  · intro h
    match hL : atL Bs v, h with
    | A :: B :: r, _ =>
      have hA := (hmem A).1 (by rw [hL]; simp)
      have hb := (hmem B).1 (by rw [hL]; simp)
      rw [hL] at hnd
      have hlt := (List.pairwise_cons.1 hnd).1 B (by simp)
      exact blk_cut hR ((hB.is A).1 hA.1) ((hB.is B).1 hb.1) (fun e => by subst e; rw [lexL_irrefl] at hlt; cases hlt) hA.2 hb.2
end Go.Proofs.Ytplhpinaadgkkaa
namespace Go.Proofs.Ytplhpinaadgkkaa

theorem len_le_subL : ∀ {a b : List (List Int)}, a.Nodup → (∀ x ∈ a, x ∈ b) → a.length ≤ b.length
  | [], _, _, _ => Nat.zero_le _
  | x :: a, b, hn, hs => by
    rw [List.nodup_cons] at hn
    have hx := hs x (by simp)
    have := len_le_subL (a := a) (b := b.erase x) hn.2 (fun y hy => by
      have hne : y ≠ x := fun e => by subst e; exact hn.1 hy
      rw [List.mem_erase_of_ne hne]
      exact hs y (List.mem_cons_of_mem _ hy))
    rw [List.length_erase_of_mem hx] at this
    have hp := List.length_pos_of_mem hx
    simp only [List.length_cons]
    omega
theorem BlocksL.nodup {es : List (Int × Int)} {Bs : List (List Int)} (h : BlocksL es Bs) : Bs.Nodup := by
  rw [List.nodup_iff_pairwise_ne]
  exact h.ord.imp (fun {A B} h e => by subst e; rw [lexL_irrefl] at h; cases h)
/-- With one edge more: a block that has not both its ends was one. -/
theorem add_block {n : Int} {es fs : List (Int × Int)} {a b : Int} {B : List Int} (hF : RightG n fs) (hsame : ∀ x y, Adj fs x y ↔ Adj es x y ∨ (x = a ∧ y = b) ∨ (x = b ∧ y = a)) (hB : IsBlk fs B) (hno : ¬ (a ∈ B ∧ b ∈ B)) : IsBlk es B := by
  obtain ⟨hu, c, d, hcd, ib⟩ := hB
  have hab : Adj fs a b := (hsame a b).2 (Or.inr (Or.inl ⟨rfl, rfl⟩))
  have hc : c ∈ B := (ib c).2 (Bl.own (e := (c, d)) hcd (Or.inl rfl))
  have hd : d ∈ B := (ib d).2 (Bl.own (e := (c, d)) hcd (Or.inr rfl))
  have hnt : ¬ Tog fs (c, d) (a, b) := fun h => hno ⟨(ib a).2 ⟨(a, b), hab, h, Or.inl rfl⟩, (ib b).2 ⟨(a, b), hab, h, Or.inr rfl⟩⟩
  have hcd2 : Adj es c d := by
    rcases (hsame c d).1 hcd with h | ⟨rfl, rfl⟩ | ⟨rfl, rfl⟩
    · exact h
    · exact absurd ⟨hc, hd⟩ hno
    · exact absurd ⟨hd, hc⟩ hno
  refine ⟨hu, c, d, hcd2, fun x => ?_⟩
  rw [ib]
  constructor
  · rintro ⟨f, hf, ht, hx⟩
    refine ⟨f, ?_, Tog.less hF (fun x y h => (hsame x y).1 h) hcd hf ht hnt, hx⟩
    rcases (hsame f.1 f.2).1 hf with h | ⟨e1, e2⟩ | ⟨e1, e2⟩
    · exact h
    · have : f = (a, b) := Prod.ext e1 e2
      rw [this] at ht; exact absurd ht hnt
    · have : f = (b, a) := Prod.ext e1 e2
      rw [this] at ht; exact absurd (Tog.turn ht.symm).symm hnt
  · rintro ⟨f, hf, ht, hx⟩
    exact ⟨f, (hsame _ _).2 (Or.inl hf), ht.more (fun x y h => (hsame x y).2 (Or.inl h)), hx⟩
theorem add_count {n : Int} {es fs : List (Int × Int)} {a b : Int} {As Bs : List (List Int)} (hF : RightG n fs) (hab : a ≠ b) (hsame : ∀ x y, Adj fs x y ↔ Adj es x y ∨ (x = a ∧ y = b) ∨ (x = b ∧ y = a)) (hA : BlocksL es As) (hB : BlocksL fs Bs) : Bs.length ≤ As.length + 1 := by
  have h1 : (Bs.filter (fun B => !(decide (a ∈ B) && decide (b ∈ B)))).length ≤ As.length := len_le_subL (hB.nodup.filter _) (fun B hb => by
    rw [List.mem_filter] at hb
    refine (hA.is B).2 (add_block hF hsame ((hB.is B).1 hb.1) (fun h => ?_))
    have := hb.2
    simp [h.1, h.2] at this)
  have h2 : (Bs.filter (fun B => decide (a ∈ B) && decide (b ∈ B))).length ≤ 1 := by
    match hL : Bs.filter (fun B => decide (a ∈ B) && decide (b ∈ B)) with
    | [] => simp
    | [_] => simp
    | A :: B :: r =>
      have hn : (Bs.filter (fun B => decide (a ∈ B) && decide (b ∈ B))).Nodup := List.Pairwise.filter _ hB.nodup
      have hmA : A ∈ Bs.filter (fun B => decide (a ∈ B) && decide (b ∈ B)) := by rw [hL]; simp
      have hmB : B ∈ Bs.filter (fun B => decide (a ∈ B) && decide (b ∈ B)) := by rw [hL]; simp
      rw [hL, List.nodup_cons] at hn
      rw [List.mem_filter, Bool.and_eq_true, decide_eq_true_eq, decide_eq_true_eq] at hmA hmB
      have := blk_share hF ((hB.is A).1 hmA.1) ((hB.is B).1 hmB.1) hab hmA.2.1 hmA.2.2 hmB.2.1 hmB.2.2
      exact absurd (by rw [this]; simp) hn.1
  have hsplit : ∀ (p : List Int → Bool) (l : List (List Int)), (l.filter p).length + (l.filter (fun w => !p w)).length = l.length := fun p l => by
    induction l with
    | nil => rfl
    | cons a l ih =>
      rw [List.filter_cons, List.filter_cons]
      cases p a <;> simp <;> omega
  have := hsplit (fun B => decide (a ∈ B) && decide (b ∈ B)) Bs
  omega
/-- A block's vertices are two and more. -/
theorem blk_two {n : Int} {es : List (Int × Int)} {B : List Int} (hR : RightG n es) (hB : IsBlk es B) : 2 ≤ B.length := by
  obtain ⟨hu, a, b, hab, ib⟩ := hB
  have h1 : a ∈ B := (ib a).2 (Bl.own (e := (a, b)) hab (Or.inl rfl))
  have h2 : b ∈ B := (ib b).2 (Bl.own (e := (a, b)) hab (Or.inr rfl))
  have := len_le_subI (a := [a, b]) (b := B) (by simp; exact (hab.in hR).2.2) (fun x hx => by
    simp at hx
    rcases hx with rfl | rfl
    · exact h1
    · exact h2)
  simpa using this
/-- The edge's block has just its two ends, if there is no way round; else all of the way, and more than two. -/
theorem blk_round {m : Nat} {es fs : List (Int × Int)} {B : List Int} {a b : Int} (hR : RightG m es) (hF : RightG m fs) (hsame : ∀ x y, Adj es x y ↔ Adj fs x y ∨ (x = a ∧ y = b) ∨ (x = b ∧ y = a)) (hnf : ¬ Adj fs a b) (hB : IsBlk es B) (ha : a ∈ B) (hb : b ∈ B) :
    ((¬ Pth m fs (fun _ => True) a b) → B.length = 2) ∧ ∀ p, PathL m fs p → p.head? = some a → p.getLast? = some b → (∀ z ∈ p, z ∈ B) ∧ 2 < B.length ∧ CycleL m es p := by
  have hab : Adj es a b := (hsame a b).2 (Or.inr (Or.inl ⟨rfl, rfl⟩))
  have hne := (hab.in hR).2.2
  obtain ⟨B2, k1, k2⟩ := blk_ex hR hab
  have e2 : B = B2 := blk_share hR hB k1 hne ha hb ((k2 _).2 (Bl.own (e := (a, b)) hab (Or.inl rfl))) ((k2 _).2 (Bl.own (e := (a, b)) hab (Or.inr rfl)))
  subst e2
  have hnd : B.Nodup := by rw [List.nodup_iff_pairwise_ne]; exact hB.1.imp (fun h => by omega)
  constructor
  · intro hno
    have h2 := blk_two hR hB
    apply Classical.byContradiction
    intro h3
    -- a third one would make a way round
    obtain ⟨z, hz, hza, hzb⟩ : ∃ z ∈ B, z ≠ a ∧ z ≠ b := by
      apply Classical.byContradiction
      intro hn
      have := len_le_subI (a := B) (b := [a, b]) hnd (fun x hx => by
        by_cases e1 : x = a
        · simp [e1]
        · by_cases e2 : x = b
          · simp [e2]
          · exact absurd ⟨x, hx, e1, e2⟩ hn)
      simp at this
      omega
    exact hno (way_round hR hF (fun x y h => (hsame x y).1 h) hab ((k2 z).1 hz) hza hzb)
  · intro p hp h1 h2
    obtain ⟨h0, e1⟩ := head_at h1
    obtain ⟨_, e3⟩ := last_at h2
    have hpe : PathL m es p := ⟨hp.ne, hp.nd, hp.inn, fun i hi => (hsame _ _).2 (Or.inl (hp.lk i hi))⟩
    obtain ⟨r1, _⟩ := path_in hpe (e := (a, b)) (fun _ => by rw [e1, e3]; exact ⟨(k2 a).1 ha, (k2 b).1 hb⟩)
    have hall : ∀ z ∈ p, z ∈ B := fun z hz => (k2 z).2 (r1 z hz)
    have hl3 : 3 ≤ p.length := by
      apply Classical.byContradiction
      intro hlt
      match p, h0, hlt with
      | [x], _, _ =>
        simp at e1 e3
        exact hne (e1.symm.trans e3)
      | [x, y], _, _ =>
        simp at e1 e3
        have := hp.lk 0 (by simp)
        simp at this
        rw [e1, e3] at this
        exact hnf this
      | x :: y :: z :: r, _, hlt => simp at hlt
    refine ⟨hall, ?_, hpe, hl3, fun _ => by rw [e1, e3]; exact hab.symm⟩
    have := len_le_subI hp.nd hall
    omega
end Go.Proofs.Ytplhpinaadgkkaa
namespace Go.Proofs.Ytplhpinaadgkkaa

/-- A row laid into rows in their order. -/
def insR (l : List Int) : List (List Int) → List (List Int)
  | [] => [l]
  | x :: xs => if lexL l x then l :: x :: xs else x :: insR l xs
theorem mem_insR {l y : List Int} : ∀ {xs : List (List Int)}, y ∈ insR l xs ↔ y = l ∨ y ∈ xs
  | [] => by simp [insR]
  | x :: xs => by
    unfold insR
    split
    · simp
    · rw [List.mem_cons, mem_insR, List.mem_cons]
      constructor
      · rintro (h | h | h)
        · exact Or.inr (Or.inl h)
        · exact Or.inl h
        · exact Or.inr (Or.inr h)
      · rintro (h | h | h)
        · exact Or.inr (Or.inl h)
        · exact Or.inl h
        · exact Or.inr (Or.inr h)
theorem insR_ord {l : List Int} : ∀ {xs : List (List Int)}, xs.Pairwise (fun A B => lexL A B = true) → l ∉ xs → (insR l xs).Pairwise (fun A B => lexL A B = true)
  | [], _, _ => by simp [insR]
  | x :: xs, h, hn => by
    rw [List.pairwise_cons] at h
    unfold insR
    split
    · rename_i hlx
      rw [List.pairwise_cons]
      refine ⟨fun y hy => ?_, List.pairwise_cons.2 h⟩
      rcases List.mem_cons.1 hy with e | hy
      · rw [e]; exact hlx
      · exact lexL_trans hlx (h.1 y hy)
    · rename_i hlx
      have hxl : lexL x l = true := by
        cases k : lexL x l with
        | true => rfl
        | false => exact absurd (lexL_tri (by simpa using hlx) k) (fun e => hn (by rw [e]; simp))
      rw [List.pairwise_cons]
      refine ⟨fun y hy => ?_, insR_ord h.2 (fun k => hn (List.mem_cons_of_mem _ k))⟩
      rcases mem_insR.1 hy with e | hy
      · rw [e]; exact hxl
      · exact h.1 y hy
/-- What stands there behind the first i edges. -/
structure BlkUpto (es : List (Int × Int)) (i : Nat) (Bs : List (List Int)) : Prop where
  is : ∀ B, B ∈ Bs → ∃ j, ∃ h : j < es.length, j < i ∧ B.Pairwise (· < ·) ∧ ∀ x, x ∈ B ↔ Bl es es[j] x
  all : ∀ j (h : j < es.length), j < i → ∃ B, B ∈ Bs ∧ ∀ x, x ∈ B ↔ Bl es es[j] x
  ord : Bs.Pairwise (fun A B => lexL A B = true)
theorem BlkUpto.nil (es : List (Int × Int)) : BlkUpto es 0 [] := ⟨fun _ h => absurd h (by simp), fun _ _ h => absurd h (by omega), List.Pairwise.nil⟩
/-- One that belongs with none ahead of it adds its block. -/
theorem BlkUpto.add {n : Int} {es : List (Int × Int)} {i : Nat} {Bs : List (List Int)} {l : List Int} (hR : RightG n es) (h : BlkUpto es i Bs) (hi : i < es.length) (hd : ∀ j (hj : j < es.length), j < i → ¬ Tog es es[j] es[i]) (hu : l.Pairwise (· < ·)) (hl : ∀ x, x ∈ l ↔ Bl es es[i] x) : BlkUpto es (i + 1) (insR l Bs) := by
  have n2 := (hR.2.2.2.1 es[i] (List.getElem_mem hi)).2.1
  have hai : Adj es es[i].1 es[i].2 := Or.inl (List.getElem_mem hi)
  refine ⟨fun B hB => ?_, fun j hj hji => ?_, insR_ord h.ord (fun k => ?_)⟩
  · rcases mem_insR.1 hB with e | hB
    · exact ⟨i, hi, by omega, by rw [e]; exact hu, fun x => by rw [e]; exact hl x⟩
    · obtain ⟨j, hj, h1, h2⟩ := h.is B hB
      exact ⟨j, hj, by omega, h2⟩
  · by_cases e : j < i
    · obtain ⟨B, hB, ib⟩ := h.all j hj e
      exact ⟨B, mem_insR.2 (Or.inr hB), ib⟩
    · have e2 : j = i := by omega
      subst e2
      exact ⟨l, mem_insR.2 (Or.inl rfl), hl⟩
  · obtain ⟨j, hj, h1, _, ib⟩ := h.is l k
    have k1 := (ib _).1 ((hl _).2 (Bl.own hai (Or.inl rfl)))
    have k2 := (ib _).1 ((hl _).2 (Bl.own hai (Or.inr rfl)))
    exact hd j hj h1 (edge_in (x := es[i].1) (y := es[i].2) hai (by omega) k1 k2)
/-- Behind the last edge these are all blocks. -/
theorem BlkUpto.whole {es : List (Int × Int)} {i : Nat} {Bs : List (List Int)} (h : BlkUpto es i Bs) (hi : es.length ≤ i) : BlocksL es Bs := by
  refine ⟨fun B => ⟨fun hB => ?_, fun hB => ?_⟩, h.ord⟩
  · obtain ⟨j, hj, _, h2, h3⟩ := h.is B hB
    exact ⟨h2, es[j].1, es[j].2, Or.inl (List.getElem_mem hj), h3⟩
  · obtain ⟨hu, a, b, hab, ib⟩ := hB
    have fin : ∀ e : Int × Int, e ∈ es → (∀ x, x ∈ B ↔ Bl es e x) → B ∈ Bs := fun e he ie => by
      obtain ⟨j, hj, e2⟩ := List.getElem_of_mem he
      obtain ⟨C, hC, ic⟩ := h.all j hj (by omega)
      obtain ⟨_, _, _, uC, _⟩ := h.is C hC
      have : B = C := up_oneB hu uC (fun x => by rw [ie, ic, e2])
      rw [this]; exact hC
    rcases hab with hm | hm
    · exact fin (a, b) hm ib
    · refine fin (b, a) hm (fun x => (ib x).trans ⟨?_, ?_⟩)
      · rintro ⟨f, hf, ht, hx⟩; exact ⟨f, hf, Tog.turn ht, hx⟩
      · rintro ⟨f, hf, ht, hx⟩; exact ⟨f, hf, Tog.turn ht, hx⟩
end Go.Proofs.Ytplhpinaadgkkaa
