/-
  The vertices of all blocks, less one each, are as many as there are vertices, less the components (layer 7). No program is named here.
  The row of an edge: for each vertex, what an end that is another one belongs to without it (layer 7). No program is named here.
  The blocks of the first edges, one behind the other (layer 7). No program is named here.
  One edge more; a way round an edge (layer 7). No program is named here.
  A search in depth that cuts off what hangs on one vertex alone (layer 7): what it cuts off is the blocks. No program is named here.
  The whole search (layer 7): how much memory it wants, and that the blocks of a graph are what it cuts off. No program is named here.
  What the laws of layer 7 ask of the program's blocks: contracts; what is told of a graph's blocks is one answer.
  How the document finds blocks (layer 7): what its loops keep. No program is named here.
  The part that leaves a vertex out, as the document's Of joins it (layer 7).
  The program's neighbours of a graph that falls apart (layer 7): each row in a block of its own.
-/
import Derived.Test.YtlebimolgienkaaP07
import Derived.Test.YtlebimolgienkaaP02
import Derived.Test.YtlebimolgienkaaRows
import Derived.Test.YtlebimolgienkaaP04
import Derived.BigQuiet
import Derived.Laws.IdiomCopy
import Derived.Deep.DeepCutAuto
import Derived.Test.YtlebimolgienkaaP05
namespace Go.Proofs.Ytlebimolgienkaa

/-- Pairs of which none joins what the others join: each makes one class fewer. -/
theorem forest {m : Nat} : ∀ (Q : List (Nat × Nat)), Q.reverse.Nodup → PairsIn m Q.reverse → (∀ p ∈ Q.reverse, ¬ Cl (Q.reverse.filter (fun q => decide (q ≠ p))) p.1 p.2) → ∃ f, Pt m f ∧ Tells m f Q.reverse ∧ (repsF m f).length + Q.length = m
  | [], _, _, _ => ⟨fun i => i, pt_new m, tells_new m, by
    have : repsF m (fun i => i) = List.range m := by unfold repsF; rw [List.filter_eq_self]; simp
    rw [this]; simp⟩
  | p :: Q, hn, hin, hc => by
    rw [List.reverse_cons] at hn hin hc ⊢
    rw [List.nodup_append] at hn
    obtain ⟨hn1, _, hn2⟩ := hn
    have hne : ∀ q ∈ Q.reverse, q ≠ p := fun q hq => hn2 q hq p (by simp)
    obtain ⟨f, hf, ht, hl⟩ := forest Q hn1 (fun e he => hin e (List.mem_append_left _ he)) (fun q hq h => hc q (List.mem_append_left _ hq) (h.mono (fun e he => by
      refine Cl.of ?_
      rw [List.mem_filter] at he ⊢
      exact ⟨List.mem_append_left _ he.1, he.2⟩)))
    have hp := hin p (by simp)
    have hsep : f p.1 ≠ f p.2 := fun e => hc p (by simp) (((ht p.1 p.2 hp.1 hp.2).1 e).mono (fun e he => Cl.of (by
      rw [List.mem_filter]
      exact ⟨List.mem_append_left _ he, decide_eq_true (hne e he)⟩)))
    have hj := reps_join hf hp.1 hp.2 hsep
    refine ⟨joinF f p.1 p.2, hf.join hp.1 hp.2, tells_join ht (fun e he => hin e (List.mem_append_left _ he)) hp.1 hp.2, ?_⟩
    rw [List.length_cons]
    omega
/-- The edges that do not belong to e's block. -/
def OffB (n : Int) (es : List (Int × Int)) (e : Int × Int) (os : List (Int × Int)) : Prop := RightG n os ∧ ∀ x y, Adj os x y ↔ Adj es x y ∧ ¬ Tog es e (x, y)
theorem offB_ex {n : Int} {es : List (Int × Int)} (hR : RightG n es) (e : Int × Int) : ∃ os, OffB n es e os := by
  classical
  refine ⟨es.filter (fun f => decide (¬ Tog es e f)), ⟨hR.1, hR.2.1, Nat.le_trans (List.length_filter_le _ _) hR.2.2.1, fun f hf => hR.2.2.2.1 f (List.mem_filter.1 hf).1, hR.2.2.2.2.filter _⟩, fun x y => ?_⟩
  unfold Adj
  rw [List.mem_filter, List.mem_filter, decide_eq_true_eq, decide_eq_true_eq]
  constructor
  · rintro (⟨h1, h2⟩ | ⟨h1, h2⟩)
    · exact ⟨Or.inl h1, h2⟩
    · exact ⟨Or.inr h1, fun h => h2 (Tog.turn h.symm).symm⟩
  · rintro ⟨h1 | h1, h2⟩
    · exact Or.inl ⟨h1, h2⟩
    · exact Or.inr ⟨h1, fun h => h2 (Tog.turn h.symm).symm⟩
/-- By other edges one comes from a block's vertex to no other one of it. -/
theorem off_one {n : Int} {es os : List (Int × Int)} {e : Int × Int} {x y : Int} (ho : OffB n es e os) (hx : Bl es e x) (hy : Bl es e y) (h : Pth n os (fun _ => True) x y) : x = y := by
  obtain ⟨p, hp, h1, h2, _⟩ := h
  obtain ⟨h0, e1⟩ := head_at h1
  obtain ⟨_, e2⟩ := last_at h2
  have hp2 : PathL n es p := ⟨hp.ne, hp.nd, hp.inn, fun i hi => ((ho.2 _ _).1 (hp.lk i hi)).1⟩
  obtain ⟨_, r2⟩ := path_in hp2 (fun _ => by rw [e1, e2]; exact ⟨hx, hy⟩)
  by_cases h3 : p.length = 1
  · rw [← e1, ← e2]
    congr 1
    omega
  · exact absurd (r2 0 (by omega)) ((ho.2 _ _).1 (hp.lk 0 (by omega))).2
/-- Another block's vertices are joined by other edges. -/
theorem off_other {n : Int} {es os : List (Int × Int)} {e f : Int × Int} {x y s : Int} (ho : OffB n es e os) (hR : RightG n es) (hf : Adj es f.1 f.2) (hno : ¬ Tog es e f) (hx : Bl es f x) (hy : Bl es f y) (h : Pth n os (fun _ => True) s x) : Pth n os (fun _ => True) s y := by
  have hxi := hx.in hR
  have hyi := hy.in hR
  obtain ⟨p, hp, h1, h2, _, _, h5⟩ := block_path (v := -1) hR (hf.in hR).2.2 hx hy (by omega) (by omega)
  obtain ⟨h0, e1⟩ := head_at h1
  obtain ⟨_, e2⟩ := last_at h2
  have key : ∀ i (hi : i < p.length), Pth n os (fun _ => True) s p[i] := fun i => by
    induction i with
    | zero => intro hi; rw [e1]; exact h
    | succ i ih =>
      intro hi
      have ha := hp.lk i hi
      refine (ih (by omega)).step ho.1 ((ho.2 _ _).2 ⟨ha, fun k => hno (Tog.trans ?_ k (h5 i hi).symm)⟩) trivial
      exact (ha.in hR).2.2
  have := key (p.length - 1) (by omega)
  rw [e2] at this
  exact this
/-- A block's first vertex with each other one. -/
def starN : List Int → List (Nat × Nat)
  | [] => []
  | x :: xs => xs.map (fun y => (x.toNat, y.toNat))
theorem starN_len (B : List Int) : (starN B).length = B.length - 1 := by
  cases B with
  | nil => rfl
  | cons x xs => simp [starN]
theorem mem_starN {B : List Int} (hB : B.Pairwise (· < ·)) (h0 : ∀ x ∈ B, 0 ≤ x) {p : Nat × Nat} (hp : p ∈ starN B) : ((p.1 : Int) ∈ B ∧ (p.2 : Int) ∈ B) ∧ p.1 < p.2 ∧ B.head? = some (p.1 : Int) := by
  cases B with
  | nil => simp [starN] at hp
  | cons x xs =>
    obtain ⟨y, hy, rfl⟩ := List.mem_map.1 hp
    have h1 := h0 x (by simp)
    have h2 := h0 y (List.mem_cons_of_mem _ hy)
    have h3 := (List.pairwise_cons.1 hB).1 y hy
    have e1 : ((x.toNat : Nat) : Int) = x := by omega
    have e2 : ((y.toNat : Nat) : Int) = y := by omega
    refine ⟨⟨by rw [e1]; simp, by rw [e2]; exact List.mem_cons_of_mem _ hy⟩, by simp only; omega, by rw [e1]; rfl⟩
theorem starN_nodup {B : List Int} (hB : B.Pairwise (· < ·)) (h0 : ∀ x ∈ B, 0 ≤ x) : (starN B).Nodup := by
  cases B with
  | nil => simp [starN]
  | cons x xs =>
    unfold starN
    rw [List.nodup_iff_pairwise_ne, List.pairwise_map]
    refine (List.pairwise_cons.1 hB).2.imp_of_mem (fun {a b} ha hb hab e => ?_)
    have h1 := h0 a (List.mem_cons_of_mem _ ha)
    have h2 := h0 b (List.mem_cons_of_mem _ hb)
    have := congrArg Prod.snd e
    simp only at this
    omega
theorem IsBlk.in {n : Int} {es : List (Int × Int)} {B : List Int} (hR : RightG n es) (h : IsBlk es B) : ∀ x ∈ B, 0 ≤ x ∧ x < n := fun x hx => by
  obtain ⟨_, a, b, _, ib⟩ := h
  exact ((ib x).1 hx).in hR
theorem block_count {m : Nat} {es : List (Int × Int)} {Bs : List (List Int)} {g : Nat → Nat} (hR : RightG m es) (hB : BlocksL es Bs) (hg : Pt m g) (hT : Tells m g (prsN es)) : (repsF m g).length + (Bs.map (fun B => B.length - 1)).sum = m := by
  have hin : ∀ B ∈ Bs, ∀ x ∈ B, 0 ≤ x ∧ x < m := fun B hb => ((hB.is B).1 hb).in hR
  have hup : ∀ B ∈ Bs, B.Pairwise (· < ·) := fun B hb => ((hB.is B).1 hb).1
  have hP : ∀ p, p ∈ Bs.flatMap starN → ∃ B ∈ Bs, p ∈ starN B := fun p hp => List.mem_flatMap.1 hp
  have hnd : (Bs.flatMap starN).Nodup := by
    rw [List.nodup_iff_pairwise_ne, List.pairwise_flatMap]
    refine ⟨fun B hb => List.nodup_iff_pairwise_ne.1 (starN_nodup (hup B hb) (fun x hx => (hin B hb x hx).1)), hB.ord.imp_of_mem (fun {A B} hA hb hlt p hp q hq e => ?_)⟩
    subst e
    obtain ⟨⟨a1, a2⟩, a3, _⟩ := mem_starN (hup A hA) (fun x hx => (hin A hA x hx).1) hp
    obtain ⟨⟨b1, b2⟩, _, _⟩ := mem_starN (hup B hb) (fun x hx => (hin B hb x hx).1) hq
    have := blk_share hR ((hB.is A).1 hA) ((hB.is B).1 hb) (x := (p.1 : Int)) (y := (p.2 : Int)) (by omega) a1 a2 b1 b2
    subst this
    rw [lexL_irrefl] at hlt
    cases hlt
  have hpi : PairsIn m (Bs.flatMap starN) := fun p hp => by
    obtain ⟨B, hb, hp⟩ := hP p hp
    obtain ⟨⟨a1, a2⟩, _, _⟩ := mem_starN (hup B hb) (fun x hx => (hin B hb x hx).1) hp
    have := hin B hb _ a1
    have := hin B hb _ a2
    omega
  have hsep : ∀ p ∈ Bs.flatMap starN, ¬ Cl ((Bs.flatMap starN).filter (fun q => decide (q ≠ p))) p.1 p.2 := fun p hp hcl => by
    obtain ⟨B, hb, hpB⟩ := hP p hp
    obtain ⟨⟨a1, a2⟩, a3, a4⟩ := mem_starN (hup B hb) (fun x hx => (hin B hb x hx).1) hpB
    obtain ⟨_, c, d, hcd, ib⟩ := (hB.is B).1 hb
    have hb1 := (ib _).1 a1
    have hb2 := (ib _).1 a2
    have hr2 := hin B hb _ a2
    -- what is come to from p.2 by the other blocks' edges
    obtain ⟨os, ho⟩ := offB_ex hR (c, d)
    have key := hcl (fun x y => Pth m os (fun _ => True) (p.2 : Int) (x : Int) ↔ Pth m os (fun _ => True) (p.2 : Int) (y : Int)) (fun _ => Iff.rfl) (fun _ _ h => h.symm) (fun _ _ _ h k => h.trans k) (fun q hq => by
      rw [List.mem_filter] at hq
      have hqne : q ≠ p := of_decide_eq_true hq.2
      obtain ⟨A, hA, hqA⟩ := hP q hq.1
      obtain ⟨⟨q1, q2⟩, q3, q4⟩ := mem_starN (hup A hA) (fun x hx => (hin A hA x hx).1) hqA
      obtain ⟨_, u, w, huw, ia⟩ := (hB.is A).1 hA
      by_cases hsame : Tog es (c, d) (u, w)
      · -- another one of the same block: neither is come to
        have hAB : A = B := up_oneB (hup A hA) (hup B hb) (fun z => by
          rw [ia, ib]
          exact ⟨fun h => h.tog (huw.in hR).2.2 hsame.symm, fun h => h.tog (hcd.in hR).2.2 hsame⟩)
        subst hAB
        have e1 : q.1 = p.1 := by
          rw [q4] at a4
          have := Option.some.inj a4
          omega
        have e2 : q.2 ≠ p.2 := fun e => hqne (Prod.ext e1 e)
        constructor
        · intro h
          have := off_one ho hb2 ((ib _).1 q1) h
          rw [e1] at this
          omega
        · intro h
          have := off_one ho hb2 ((ib _).1 q2) h
          omega
      · exact ⟨fun h => off_other ho hR huw hsame ((ia _).1 q1) ((ia _).1 q2) h, fun h => off_other ho hR huw hsame ((ia _).1 q2) ((ia _).1 q1) h⟩)
    have h2 := key.2 (pth_self hr2 trivial)
    have := off_one ho hb2 hb1 h2
    omega
  obtain ⟨f, hf, ht, hl⟩ := forest (m := m) (Bs.flatMap starN).reverse (by rw [List.reverse_reverse]; exact hnd) (by rw [List.reverse_reverse]; exact hpi) (by rw [List.reverse_reverse]; exact hsep)
  rw [List.reverse_reverse] at ht
  have hlen : (Bs.flatMap starN).length = (Bs.map (fun B => B.length - 1)).sum := by
    rw [List.length_flatMap]
    congr 1
    exact List.map_congr_left (fun B _ => starN_len B)
  -- the pairs join what the edges do
  have hfg : ∀ i, i < m → f i = g i := tells_one hf hg ht hT (fun p hp => by
    obtain ⟨B, hb, hp⟩ := hP p hp
    obtain ⟨⟨a1, a2⟩, _, _⟩ := mem_starN (hup B hb) (fun x hx => (hin B hb x hx).1) hp
    obtain ⟨_, c, d, hcd, ib⟩ := (hB.is B).1 hb
    have r1 := hin B hb _ a1
    have r2 := hin B hb _ a2
    have hav := Bl.av2 (v := -1) (hcd.in hR).2.2 ((ib _).1 a1) ((ib _).1 a2) (by omega) (by omega)
    obtain ⟨q, k1, k2, k3, _⟩ := av_pth hR r1 (by omega) hav
    have hpt : Pth m es (fun _ => True) (p.1 : Int) (p.2 : Int) := ⟨q, k1, k2, k3, fun _ _ => trivial⟩
    exact (hT p.1 p.2 (by omega) (by omega)).1 ((pth_cl hR hT (by omega) (by omega)).2 hpt)) (fun e he => by
    have hm := (mem_prsN (a := e.1) (b := e.2) hR).1 he
    have ha : Adj es (e.1 : Int) (e.2 : Int) := Or.inl hm
    obtain ⟨B, hb, b1, b2, _⟩ := blk_edge hR hB ha
    have star : ∀ x : Nat, (x : Int) ∈ B → ∀ z, B.head? = some (z : Int) → 0 ≤ z → Cl (Bs.flatMap starN) z.toNat x := fun x hx z hz h0 => by
      cases B with
      | nil => simp at hx
      | cons y ys =>
        have ez : y = z := Option.some.inj hz
        subst ez
        rcases List.mem_cons.1 hx with e | hx
        · rw [← e]; simpa using Cl.refl _ _
        · exact Cl.of (e := (y.toNat, x)) (List.mem_flatMap.2 ⟨_, hb, List.mem_map.2 ⟨(x : Int), hx, by simp⟩⟩)
    cases hB0 : B with
    | nil => rw [hB0] at b1; cases b1
    | cons z zs =>
      have hz := hin B hb z (by rw [hB0]; simp)
      have h1 := star e.1 b1 z (by rw [hB0]; rfl) hz.1
      have h2 := star e.2 b2 z (by rw [hB0]; rfl) hz.1
      exact h1.symm.trans h2)
  have hreps : repsF m f = repsF m g := by
    unfold repsF
    refine List.filter_congr (fun i hi => ?_)
    rw [hfg i (by simpa using hi)]
  rw [← hreps]
  rw [List.length_reverse] at hl
  omega
end Go.Proofs.Ytlebimolgienkaa
namespace Go.Proofs.Ytlebimolgienkaa

/-- An end of e that is not v. -/
def offEnd (v : Nat) (e : Int × Int) : Nat := if e.1 = v then e.2.toNat else e.1.toNat
end Go.Proofs.Ytlebimolgienkaa
namespace Go.Proofs.Ytlebimolgienkaa

/-- A row laid into rows in their order. -/
def insR (l : List Int) : List (List Int) → List (List Int)
  | [] => [l]
  | x :: xs => if lexL l x then l :: x :: xs else x :: insR l xs
theorem mem_insR {l y : List Int} : ∀ {xs : List (List Int)}, y ∈ insR l xs ↔ y = l ∨ y ∈ xs
  | [] => by simp [insR]
  | x :: xs => by
    unfold insR
    split
    · simp
    · rw [List.mem_cons, mem_insR, List.mem_cons]
      constructor
      · rintro (h | h | h)
        · exact Or.inr (Or.inl h)
        · exact Or.inl h
        · exact Or.inr (Or.inr h)
      · rintro (h | h | h)
        · exact Or.inr (Or.inl h)
        · exact Or.inl h
        · exact Or.inr (Or.inr h)
theorem insR_ord {l : List Int} : ∀ {xs : List (List Int)}, xs.Pairwise (fun A B => lexL A B = true) → l ∉ xs → (insR l xs).Pairwise (fun A B => lexL A B = true)
  | [], _, _ => by simp [insR]
  | x :: xs, h, hn => by
    rw [List.pairwise_cons] at h
    unfold insR
    split
    · rename_i hlx
      rw [List.pairwise_cons]
      refine ⟨fun y hy => ?_, List.pairwise_cons.2 h⟩
      rcases List.mem_cons.1 hy with e | hy
      · rw [e]; exact hlx
      · exact lexL_trans hlx (h.1 y hy)
    · rename_i hlx
      have hxl : lexL x l = true := by
        cases k : lexL x l with
        | true => rfl
        | false => exact absurd (lexL_tri (by simpa using hlx) k) (fun e => hn (by rw [e]; simp))
      rw [List.pairwise_cons]
      refine ⟨fun y hy => ?_, insR_ord h.2 (fun k => hn (List.mem_cons_of_mem _ k))⟩
      rcases mem_insR.1 hy with e | hy
      · rw [e]; exact hxl
      · exact h.1 y hy
/-- What stands there behind the first i edges. -/
structure BlkUpto (es : List (Int × Int)) (i : Nat) (Bs : List (List Int)) : Prop where
  is : ∀ B, B ∈ Bs → ∃ j, ∃ h : j < es.length, j < i ∧ B.Pairwise (· < ·) ∧ ∀ x, x ∈ B ↔ Bl es es[j] x
  all : ∀ j (h : j < es.length), j < i → ∃ B, B ∈ Bs ∧ ∀ x, x ∈ B ↔ Bl es es[j] x
  ord : Bs.Pairwise (fun A B => lexL A B = true)
theorem BlkUpto.nil (es : List (Int × Int)) : BlkUpto es 0 [] := ⟨fun _ h => absurd h (by simp), fun _ _ h => absurd h (by omega), List.Pairwise.nil⟩
/-- One that belongs with none ahead of it adds its block. -/
theorem BlkUpto.add {n : Int} {es : List (Int × Int)} {i : Nat} {Bs : List (List Int)} {l : List Int} (hR : RightG n es) (h : BlkUpto es i Bs) (hi : i < es.length) (hd : ∀ j (hj : j < es.length), j < i → ¬ Tog es es[j] es[i]) (hu : l.Pairwise (· < ·)) (hl : ∀ x, x ∈ l ↔ Bl es es[i] x) : BlkUpto es (i + 1) (insR l Bs) := by
  have n2 := (hR.2.2.2.1 es[i] (List.getElem_mem hi)).2.1
  have hai : Adj es es[i].1 es[i].2 := Or.inl (List.getElem_mem hi)
  refine ⟨fun B hB => ?_, fun j hj hji => ?_, insR_ord h.ord (fun k => ?_)⟩
  · rcases mem_insR.1 hB with e | hB
    · exact ⟨i, hi, by omega, by rw [e]; exact hu, fun x => by rw [e]; exact hl x⟩
    · obtain ⟨j, hj, h1, h2⟩ := h.is B hB
      exact ⟨j, hj, by omega, h2⟩
  · by_cases e : j < i
    · obtain ⟨B, hB, ib⟩ := h.all j hj e
      exact ⟨B, mem_insR.2 (Or.inr hB), ib⟩
    · have e2 : j = i := by omega
      subst e2
      exact ⟨l, mem_insR.2 (Or.inl rfl), hl⟩
  · obtain ⟨j, hj, h1, _, ib⟩ := h.is l k
    have k1 := (ib _).1 ((hl _).2 (Bl.own hai (Or.inl rfl)))
    have k2 := (ib _).1 ((hl _).2 (Bl.own hai (Or.inr rfl)))
    exact hd j hj h1 (edge_in (x := es[i].1) (y := es[i].2) hai (by omega) k1 k2)
/-- Behind the last edge these are all blocks. -/
theorem BlkUpto.whole {es : List (Int × Int)} {i : Nat} {Bs : List (List Int)} (h : BlkUpto es i Bs) (hi : es.length ≤ i) : BlocksL es Bs := by
  refine ⟨fun B => ⟨fun hB => ?_, fun hB => ?_⟩, h.ord⟩
  · obtain ⟨j, hj, _, h2, h3⟩ := h.is B hB
    exact ⟨h2, es[j].1, es[j].2, Or.inl (List.getElem_mem hj), h3⟩
  · obtain ⟨hu, a, b, hab, ib⟩ := hB
    have fin : ∀ e : Int × Int, e ∈ es → (∀ x, x ∈ B ↔ Bl es e x) → B ∈ Bs := fun e he ie => by
      obtain ⟨j, hj, e2⟩ := List.getElem_of_mem he
      obtain ⟨C, hC, ic⟩ := h.all j hj (by omega)
      obtain ⟨_, _, _, uC, _⟩ := h.is C hC
      have : B = C := up_oneB hu uC (fun x => by rw [ie, ic, e2])
      rw [this]; exact hC
    rcases hab with hm | hm
    · exact fin (a, b) hm ib
    · refine fin (b, a) hm (fun x => (ib x).trans ⟨?_, ?_⟩)
      · rintro ⟨f, hf, ht, hx⟩; exact ⟨f, hf, Tog.turn ht, hx⟩
      · rintro ⟨f, hf, ht, hx⟩; exact ⟨f, hf, Tog.turn ht, hx⟩
end Go.Proofs.Ytlebimolgienkaa
namespace Go.Proofs.Ytlebimolgienkaa

theorem BlocksL.nodup {es : List (Int × Int)} {Bs : List (List Int)} (h : BlocksL es Bs) : Bs.Nodup := by
  rw [List.nodup_iff_pairwise_ne]
  exact h.ord.imp (fun {A B} h e => by subst e; rw [lexL_irrefl] at h; cases h)
/-- A block's vertices are two and more. -/
theorem blk_two {n : Int} {es : List (Int × Int)} {B : List Int} (hR : RightG n es) (hB : IsBlk es B) : 2 ≤ B.length := by
  obtain ⟨hu, a, b, hab, ib⟩ := hB
  have h1 : a ∈ B := (ib a).2 (Bl.own (e := (a, b)) hab (Or.inl rfl))
  have h2 : b ∈ B := (ib b).2 (Bl.own (e := (a, b)) hab (Or.inr rfl))
  have := len_le_subI (a := [a, b]) (b := B) (by simp; exact (hab.in hR).2.2) (fun x hx => by
    simp at hx
    rcases hx with rfl | rfl
    · exact h1
    · exact h2)
  simpa using this
end Go.Proofs.Ytlebimolgienkaa
namespace Go.Proofs.Ytlebimolgienkaa

/-- A search under way: the numbers of the vertices come to, how many they are, those gone through, the blocks cut off. -/
structure Dst where
  num : Nat → Int
  cnt : Nat
  gone : List Int
  blk : List (List Int)
def Dst.enter (s : Dst) (v : Nat) : Dst := ⟨fun x => if x = v then (s.cnt : Int) + 1 else s.num x, s.cnt + 1, s.gone ++ [(v : Int)], s.blk⟩
/-- One comes from v to x within R. -/
def Con (es : List (Int × Int)) (R : Int → Prop) (v x : Int) : Prop := ∀ S : Int → Prop, S v → (∀ u w, S u → Adj es u w → R w → S w) → S x
theorem Con.refl (es : List (Int × Int)) (R : Int → Prop) (v : Int) : Con es R v v := fun _ h _ => h
theorem Con.mono {es : List (Int × Int)} {R Q : Int → Prop} {v x : Int} (h : Con es R v x) (hs : ∀ z, R z → Q z) : Con es Q v x := fun _ h0 hst => h _ h0 (fun u w hu ha hw => hst u w hu ha (hs w hw))
theorem Con.trans {es : List (Int × Int)} {R : Int → Prop} {v x y : Int} (h : Con es R v x) (k : Con es R x y) : Con es R v y := fun S h0 hs => k S (h S h0 hs) hs
theorem Con.one {es : List (Int × Int)} {R : Int → Prop} {v x : Int} (ha : Adj es v x) (hx : R x) : Con es R v x := fun _ h0 hs => hs v x h0 ha hx
/-- What is come to within R is come to without u, if u is not in R. -/
theorem Con.av {es : List (Int × Int)} {R : Int → Prop} {u v x : Int} (h : Con es R v x) (hv : v ≠ u) (hu : ∀ z, R z → z ≠ u) : Av es u v x :=
  (h (fun z => z ≠ u ∧ Av es u v z) ⟨hv, Av.refl _ _ _⟩ (fun _ q hp ha hq => ⟨hu q hq, hp.2.step ha hp.1 (hu q hq)⟩)).2

/-- A row is the block of the edge (a, b). -/
def IsB (es : List (Int × Int)) (a b : Int) (B : List Int) : Prop := B.Pairwise (· < ·) ∧ ∀ z, z ∈ B ↔ Bl es (a, b) z
theorem IsB.turn {es : List (Int × Int)} {a b : Int} {B : List Int} (h : IsB es a b B) : IsB es b a B := ⟨h.1, fun z => (h.2 z).trans ⟨fun ⟨f, hf, ht, hx⟩ => ⟨f, hf, Tog.turn ht, hx⟩, fun ⟨f, hf, ht, hx⟩ => ⟨f, hf, Tog.turn ht, hx⟩⟩⟩
theorem IsB.other {n : Int} {es : List (Int × Int)} {a b c d : Int} {B : List Int} (hR : RightG n es) (hab : Adj es a b) (hcd : Adj es c d) (h : IsB es a b B) (h1 : c ∈ B) (h2 : d ∈ B) : IsB es c d B := by
  have ht := edge_in hcd (hcd.in hR).2.2 ((h.2 c).1 h1) ((h.2 d).1 h2)
  exact ⟨h.1, fun z => (h.2 z).trans ⟨fun k => k.tog (hab.in hR).2.2 ht, fun k => k.tog (hcd.in hR).2.2 ht.symm⟩⟩

end Go.Proofs.Ytlebimolgienkaa
namespace Go.Proofs.Ytlebimolgienkaa

/-- How many were not come to. -/
def unv (m : Nat) (num : Nat → Int) : Nat := ((List.range m).filter (fun x => decide (num x = 0))).length
/-- What a search holds: no more than vertices. -/
structure DSz (m : Nat) (s : Dst) : Prop where
  sum : s.cnt + unv m s.num ≤ m
  gone : s.gone.length ≤ s.cnt
  blk : s.blk.length ≤ s.cnt
  pos : ∀ x, 0 ≤ s.num x
/-- What a call leaves, as far as its sizes go; d: the call's own vertex, if a block was not cut off behind it. -/
structure DGr (m : Nat) (s t : Dst) (d : Nat) : Prop where
  sz : DSz m t
  cnt : s.cnt + d ≤ t.cnt
  gone : ∃ T, t.gone = s.gone ++ T ∧ T.length + s.cnt ≤ t.cnt ∧ d ≤ T.length
  blk : t.blk.length + s.cnt + d ≤ s.blk.length + t.cnt
  unv : unv m t.num + d ≤ unv m s.num
theorem DGr.refl {m : Nat} {s : Dst} (h : DSz m s) : DGr m s s 0 := ⟨h, by omega, ⟨[], by simp, by simp, by simp⟩, by omega, by omega⟩
def Dst.zero : Dst := ⟨fun _ => 0, 0, [], []⟩
end Go.Proofs.Ytlebimolgienkaa
namespace Go.Proofs.Ytlebimolgienkaa
open Go.RowKit Go.Lib

/-- What Of tells (G2). -/
def OfRel (n : Int) (es : List (Int × Int)) (Cs : List Int) (Bs : List (List Int)) : Prop := (RightG n es ∧ BlocksL es Bs ∧ CutsL es Cs) ∨ (¬ RightG n es ∧ Cs = [] ∧ Bs = [])
theorem OfRel.one {n : Int} {es : List (Int × Int)} {Cs Ds : List Int} {Bs As : List (List Int)} (h : OfRel n es Cs Bs) (k : OfRel n es Ds As) : Cs = Ds ∧ Bs = As := by
  rcases h with ⟨h1, h2, h3⟩ | ⟨h1, h2, h3⟩
  · rcases k with ⟨_, k2, k3⟩ | ⟨k1, _, _⟩
    · exact ⟨h3.one k3, h2.one k2⟩
    · exact absurd h1 k1
  · rcases k with ⟨k1, _, _⟩ | ⟨_, k2, k3⟩
    · exact absurd k1 h1
    · exact ⟨h2.trans k2.symm, h3.trans k3.symm⟩
/-- How many blocks there are, and how many vertices each has. -/
theorem blk_len {m : Nat} {es : List (Int × Int)} {B : List Int} (hR : RightG m es) (hB : IsBlk es B) : B.length ≤ m := by
  have hnd : B.Nodup := by rw [List.nodup_iff_pairwise_ne]; exact hB.1.imp (fun h => by omega)
  have hin := hB.in hR
  have := len_le_subI (a := B) (b := (List.range m).map (fun i : Nat => (i : Int))) hnd (fun x hx => by
    have := hin x hx
    exact List.mem_map.2 ⟨x.toNat, List.mem_range.2 (by omega), by omega⟩)
  simpa using this
theorem sum_ge (l : List Nat) (h : ∀ x ∈ l, 1 ≤ x) : l.length ≤ l.sum := by
  induction l with
  | nil => simp
  | cons x l ih =>
    have h1 := h x (by simp)
    have h2 := ih (fun y hy => h y (List.mem_cons_of_mem _ hy))
    simp
    omega
theorem blks_len {m : Nat} {es : List (Int × Int)} {Bs : List (List Int)} (hR : RightG m es) (hB : BlocksL es Bs) : Bs.length ≤ m := by
  obtain ⟨g, hg, hT⟩ := tells_ex (n := m) (prsN es) (prsN_in hR)
  have h := block_count hR hB hg hT
  have h2 := sum_ge (Bs.map (fun B => B.length - 1)) (fun x hx => by
    obtain ⟨B, hb, rfl⟩ := List.mem_map.1 hx
    have := blk_two hR ((hB.is B).1 hb)
    omega)
  rw [List.length_map] at h2
  omega
theorem OfRel.len {n : Int} {es : List (Int × Int)} {Cs : List Int} {Bs : List (List Int)} (h : OfRel n es Cs Bs) : Bs.length ≤ 1000 ∧ (∀ B ∈ Bs, B.length ≤ 1000) ∧ Cs.length ≤ 1000 := by
  rcases h with ⟨hR, hB, hC⟩ | ⟨_, rfl, rfl⟩
  · obtain ⟨m, rfl⟩ : ∃ m : Nat, n = m := ⟨n.toNat, by have := hR.1; omega⟩
    have hm := hR.2.1
    refine ⟨by have := blks_len hR hB; omega, fun B hb => by have := blk_len hR ((hB.is B).1 hb); omega, ?_⟩
    have hnd : Cs.Nodup := by rw [List.nodup_iff_pairwise_ne]; exact hC.up.imp (fun h => by omega)
    have := len_le_subI (a := Cs) (b := (List.range m).map (fun i : Nat => (i : Int))) hnd (fun x hx => by
      obtain ⟨y, z, hy, _⟩ := (hC.is x).1 hx
      have := (hy.in hR).1
      exact List.mem_map.2 ⟨x.toNat, List.mem_range.2 (by omega), by omega⟩)
    simp at this
    omega
  · simp
end Go.Proofs.Ytlebimolgienkaa
namespace Go.Proofs.Ytlebimolgienkaa

/-- How the rows stand while l is laid in: it stands at k. -/
def midR (l : List Int) (Bs : List (List Int)) (k : Nat) : List (List Int) := Bs.take k ++ l :: Bs.drop k
theorem midR_len {l : List Int} {Bs : List (List Int)} {k : Nat} (hk : k ≤ Bs.length) : (midR l Bs k).length = Bs.length + 1 := by
  unfold midR
  rw [List.length_append, List.length_cons, List.length_take, List.length_drop]; omega
theorem midR_at {l : List Int} {Bs : List (List Int)} {k : Nat} (hk : k ≤ Bs.length) {j : Nat} (hj : j < k) : (midR l Bs k)[j]? = Bs[j]? := by
  unfold midR
  rw [List.getElem?_append_left (by rw [List.length_take]; omega), List.getElem?_take_of_lt hj]
/-- One place down. -/
theorem midR_step {l : List Int} {Bs : List (List Int)} {k : Nat} (hk : k + 1 ≤ Bs.length) : midR l Bs k = ((midR l Bs (k + 1)).set (k + 1) (Bs[k]'(by omega))).set k l := by
  apply List.ext_getElem?
  intro j
  unfold midR
  have hl1 : (Bs.take k).length = k := by rw [List.length_take]; omega
  have hl2 : (Bs.take (k + 1)).length = k + 1 := by rw [List.length_take]; omega
  have hT : (Bs.take (k + 1) ++ l :: Bs.drop (k + 1)).length = Bs.length + 1 := by rw [List.length_append, List.length_cons, hl2, List.length_drop]; omega
  by_cases e : j = k
  · subst e
    rw [List.getElem?_set_self (by rw [List.length_set, hT]; omega), List.getElem?_append_right (by omega), hl1]
    simp
  · rw [List.getElem?_set_ne (fun h => e h.symm)]
    by_cases e2 : j = k + 1
    · subst e2
      rw [List.getElem?_set_self (by rw [hT]; omega), List.getElem?_append_right (by omega), hl1]
      simp
    · rw [List.getElem?_set_ne (fun h => e2 h.symm)]
      by_cases e3 : j < k
      · rw [List.getElem?_append_left (by omega), List.getElem?_append_left (by omega), List.getElem?_take_of_lt e3, List.getElem?_take_of_lt (by omega)]
      · rw [List.getElem?_append_right (by omega), List.getElem?_append_right (by omega), hl1, hl2]
        obtain ⟨d, rfl⟩ : ∃ d, j = k + 2 + d := ⟨j - (k + 2), by omega⟩
        rw [show k + 2 + d - k = (d + 1) + 1 by omega, show k + 2 + d - (k + 1) = d + 1 by omega, List.getElem?_cons_succ, List.getElem?_cons_succ, List.getElem?_drop, List.getElem?_drop]
        congr 1
        omega
/-- The rows of edges, as numbers. -/
def clsI (F : Nat → Nat → Nat) (t : Nat) (e : Int × Int) : List Int := (List.range t).map (fun v => (F v (offEnd v e) : Int))
theorem clsI_next (F : Nat → Nat → Nat) (t : Nat) (e : Int × Int) : clsI F (t + 1) e = clsI F t e ++ [(F t (offEnd t e) : Int)] := by
  unfold clsI
  rw [List.range_succ, List.map_append]; rfl
theorem clsI_len (F : Nat → Nat → Nat) (t : Nat) (e : Int × Int) : (clsI F t e).length = t := by unfold clsI; simp
end Go.Proofs.Ytlebimolgienkaa
namespace Go.Proofs.Ytlebimolgienkaa
open Go.RowKit Go.Lib

theorem offL_take {v : Int} {es : List (Int × Int)} {k : Nat} (hk : k < es.length) : offL v (es.take (k + 1)) = offL v (es.take k) ++ (if es[k].1 ≠ v ∧ es[k].2 ≠ v then [es[k]] else []) := by
  unfold offL
  rw [List.take_succ_eq_append_getElem hk, List.filter_append]
  congr 1
  by_cases h1 : es[k].1 = v
  · simp [h1]
  · by_cases h2 : es[k].2 = v
    · simp [h2]
    · simp [h1, h2]
theorem offL_in {m : Nat} {v : Int} {es : List (Int × Int)} (hR : RightG m es) (k : Nat) : PairsIn m (prsN (offL v (es.take k))) := fun e he => by
  unfold prsN at he
  obtain ⟨x, hx, rfl⟩ := List.mem_map.1 he
  have := hR.2.2.2.1 x (List.mem_of_mem_take (mem_offL.1 hx).1)
  simp only
  omega
/-- The part without v, behind the first k edges. -/
def PartTo (w : World) (b g : Nat) (a : Option Addr) (c m v k : Nat) (es : List (Int × Int)) : Prop := ∃ f, Pt m f ∧ Tells m f (prsN (offL (v : Int) (es.take k))) ∧ QAt w b g a m c f
theorem PartTo.below {w w' : World} {b g : Nat} {a : Option Addr} {c m v k : Nat} {es : List (Int × Int)} (h : PartTo w b g a c m v k es) (hb : Below w.heap.size w w') : PartTo w' b g a c m v k es := by
  obtain ⟨f, h1, h2, h3⟩ := h
  exact ⟨f, h1, h2, h3.below hb⟩
/-- Both ends are joined. -/
theorem PartTo.join {w : World} {b g : Nat} {a : Option Addr} {c m v k : Nat} {es : List (Int × Int)} (h : PartTo w b g a c m v k es) (hR : RightG m es) (hk : k < es.length) (hn : es[k].1 ≠ (v : Int) ∧ es[k].2 ≠ (v : Int)) {p q : Nat} (hp : (p : Int) = es[k].1) (hq : (q : Int) = es[k].2) :
    ∃ r, Calls Try.prog 43 #[.pointer (some ⟨b, 0, none⟩), .int .i64 p, .int .i64 q] w fun e w' => e = .returned (.bool r) ∧ PartTo w' b g a c m v (k + 1) es ∧ KeptBut (fun k => k = g) w w' := by
  obtain ⟨f, h1, h2, h3⟩ := h
  have hin := hR.2.2.2.1 _ (List.getElem_mem hk)
  have hm : m ≤ 1000 := by have := hR.2.1; omega
  have hpm : p < m := by omega
  have hqm : q < m := by omega
  obtain ⟨r, hr⟩ := boolR_of ((0 ≤ (p : Int) ∧ (p : Int) < m) ∧ (0 ≤ (q : Int) ∧ (q : Int) < m) ∧ f (p : Int).toNat ≠ f (q : Int).toNat)
  refine ⟨r, (rjoin_any b g a m c f p q r w hm h3 hr).mono ?_⟩
  rintro e w' ⟨rfl, h4, h5, _⟩
  refine ⟨rfl, ⟨_, h1.join hpm hqm, ?_, ?_⟩, h5.mono (fun k _ e => e.2)⟩
  · rw [offL_take hk, if_pos hn]
    unfold prsN
    rw [List.map_append]
    have := tells_join h2 (offL_in hR k) hpm hqm
    simp only [List.map_cons, List.map_nil, ← hp, ← hq, Int.toNat_natCast]
    exact this
  · have e : joinR m f (p : Int) (q : Int) = joinF f p q := by
      unfold joinR
      rw [if_pos ⟨⟨by omega, by omega⟩, by omega, by omega⟩]
      rfl
    rw [← e]; exact h4
/-- Behind all of them it tells the parts without v. -/
theorem PartTo.all {w : World} {b g : Nat} {a : Option Addr} {c m v k : Nat} {es : List (Int × Int)} {F : Nat → Nat} (h : PartTo w b g a c m v k es) (hk : es.length ≤ k) (hP : Pt m F) (hT : Tells m F (prsN (offL (v : Int) es))) : QAt w b g a m c F := by
  obtain ⟨f, h1, h2, h3⟩ := h
  rw [List.take_of_length_le hk] at h2
  exact h3.congr (tells_one h1 hP h2 hT (fun e he => Cl.of he) (fun e he => Cl.of he))
/-- The rows of numbers of all edges, while the first k have one more. -/
def clsK (F : Nat → Nat → Nat) (es : List (Int × Int)) (t k j : Nat) : List Int := clsI F (if j < k then t + 1 else t) (es.getD j (0, 0))
end Go.Proofs.Ytlebimolgienkaa
namespace Go.Proofs.Ytlebimolgienkaa
open Go.RowKit Go.Lib

/-- Headers in block N; each row is of the call's own, in a block of its own. -/
structure NO (w : World) (base N m : Nat) (V : Nat → Value) (B : Nat → List Int) : Prop where
  lt : N < w.heap.size
  hd : ∀ j, j < m → w.cell? ⟨N, j, none⟩ = some (V j) ∧ w.frozen? ⟨N, j, none⟩ = false
  own : ∀ j, j < m → w.ownsRow base 3 1 (V j) (B j).length ((B j).map (Value.int .i64)) ∧ (V j).ownBlock ≠ some N
  apart : ∀ i j, i < m → j < m → i ≠ j → ∀ g, (V i).ownBlock = some g → (V j).ownBlock ≠ some g
theorem NO.below {w w' : World} {base N m : Nat} {V : Nat → Value} {B : Nat → List Int} (h : NO w base N m V B) (hb : Below w.heap.size w w') : NO w' base N m V B := by
  have hk := KeptBut.of_whole (fun _ => False) hb
  refine ⟨Nat.lt_of_lt_of_le h.lt hb.size, fun j hj => ?_, fun j hj => ⟨own_below (h.own j hj).1 hb, (h.own j hj).2⟩, h.apart⟩
  rw [hk.cell (p := ⟨N, j, none⟩) h.lt (fun e => e), hk.frozen (p := ⟨N, j, none⟩) h.lt (fun e => e)]
  exact h.hd j hj
/-- One number more in row j. -/
theorem NO.push {w wa w4 : World} {base N m : Nat} {V : Nat → Value} {B : Nat → List Int} (h : NO w base N m V B) {j : Nat} (hj : j < m) (hb : Below w.heap.size w wa) {x : Int} {v' : Value}
    (hown : w4.ownsRow base 3 1 v' ((B j).length + 1) ((B j).map (Value.int .i64) ++ [.int .i64 x])) (hg : wa.grownBy w4 (V j).ownBlock) (hat : v'.ownBlock = (V j).ownBlock ∨ v'.ownBlock = some wa.heap.size) :
    NO (w4.setCell ⟨N, j, none⟩ v') base N m (fun u => if u = j then v' else V u) (fun u => if u = j then B j ++ [x] else B u) := by
  have hk : KeptBut (fun k => some k = (V j).ownBlock) w w4 := (KeptBut.of_whole _ hb).trans (KeptBut.of_grown hg)
  have hN := hb.size
  have hks := kept_set w4 ⟨N, j, none⟩ v'
  have hvN : v'.ownBlock ≠ some N := fun e => by
    rcases hat with h1 | h1
    · exact (h.own j hj).2 (h1.symm.trans e)
    · rw [h1] at e; have := h.lt; simp at e; omega
  have hNj : ¬ some N = (V j).ownBlock := fun e => (h.own j hj).2 e.symm
  have hc : ∀ u, u < m → w4.cell? ⟨N, u, none⟩ = some (V u) ∧ w4.frozen? ⟨N, u, none⟩ = false := fun u hu => by
    rw [hk.cell (p := ⟨N, u, none⟩) h.lt hNj, hk.frozen (p := ⟨N, u, none⟩) h.lt hNj]
    exact h.hd u hu
  refine ⟨by simpa using Nat.lt_of_lt_of_le h.lt hk.size, fun u hu => ?_, fun u hu => ?_, fun i u hi hu hne g => ?_⟩
  · obtain ⟨h1, h2⟩ := hc u hu
    by_cases e : u = j
    · subst e
      simp only [if_pos]
      exact ⟨World.cell?_setCell_same' _ _ _ (by rw [h1]; rfl), by rw [World.frozen?_setCell]; exact h2⟩
    · simp only [if_neg e]
      exact ⟨by rw [World.cell?_setCell_other _ _ _ _ (by simp <;> omega)]; exact h1, by rw [World.frozen?_setCell]; exact h2⟩
  · by_cases e : u = j
    · subst e
      simp only [if_pos]
      refine ⟨own_kept (S := fun k => k = N) ?_ hks (fun g hg e => hvN (by rw [hg, e])), hvN⟩
      rw [List.length_append, List.map_append]
      exact hown
    · simp only [if_neg e]
      refine ⟨own_kept (S := fun k => k = N) (own_kept (h.own u hu).1 hk (fun g hg e2 => h.apart u j hu hj e g hg e2.symm)) hks (fun g hg e2 => (h.own u hu).2 (by rw [hg, e2])), (h.own u hu).2⟩
  · have key : ∀ u, u < m → u ≠ j → ∀ g, (V u).ownBlock = some g → v'.ownBlock ≠ some g := fun u hu hne g hgu e => by
      rcases hat with h1 | h1
      · exact h.apart u j hu hj hne g hgu (h1.symm.trans e)
      · have := ((h.own u hu).1.lt g hgu).2
        rw [h1] at e
        simp at e
        omega
    by_cases e1 : i = j
    · subst e1
      simp only [if_pos, if_neg (show ¬ u = i from fun e => hne e.symm)]
      intro hg1 hg2
      exact key u hu (fun e => hne e.symm) g hg2 hg1
    · simp only [if_neg e1]
      by_cases e2 : u = j
      · subst e2
        simp only [if_pos]
        exact fun hg1 => key i hi e1 g hg1
      · simp only [if_neg e2]
        exact h.apart i u hi hu hne g
theorem NO.congr {w : World} {base N m : Nat} {V : Nat → Value} {B B' : Nat → List Int} (h : NO w base N m V B) (e : ∀ j, j < m → B j = B' j) : NO w base N m V B' := ⟨h.lt, h.hd, fun j hj => by rw [← e j hj]; exact h.own j hj, h.apart⟩
theorem NO.near {w : World} {base N m : Nat} {V : Nat → Value} {es : List (Int × Int)} (h : NO w base N m V (fun j => nbL j es)) : NearAt w N m es := by
  refine ⟨h.lt, fun j hj => ?_⟩
  obtain ⟨a, cap, hv, hI⟩ := own_form (h.own j hj).1
  obtain ⟨a', cap', hv', hsl⟩ := sl_own (h.own j hj).1
  rw [hv] at hv'
  simp only [Value.slice.injEq, true_and] at hv'
  obtain ⟨rfl, rfl⟩ := hv'
  exact ⟨a, cap, by rw [← hv]; exact (h.hd j hj).1, hI, hsl.w⟩
/-- What holds on the way, while one number more goes to row j: ahead of the store, and behind it. -/
theorem NO.half {w : World} {base N m b0 : Nat} {w0 : World} {V : Nat → Value} {B : Nat → List Int} (h : NO w base N m V B) {j : Nat} (hj : j < m) (hb0 : Below b0 w0 w) (hbase : b0 ≤ base) (hN : b0 ≤ N) (h0 : b0 ≤ w.heap.size) {E : Nat} (hE : E < w.heap.size) (hEN : E ≠ N) (hEV : ∀ j, j < m → (V j).ownBlock ≠ some E) (x : Int) :
    ∀ wa w4 v', Below w.heap.size w wa → w4.ownsRow base 3 1 v' ((B j).length + 1) ((B j).map (Value.int .i64) ++ [.int .i64 x]) → wa.grownBy w4 (V j).ownBlock → (v'.ownBlock = (V j).ownBlock ∨ v'.ownBlock = some wa.heap.size) →
      (w4.cell? ⟨N, j, none⟩ = some (V j) ∧ w4.frozen? ⟨N, j, none⟩ = false) ∧ (∀ i, w4.cell? ⟨E, i, none⟩ = w.cell? ⟨E, i, none⟩) ∧
      (∀ i, (w4.setCell ⟨N, j, none⟩ v').cell? ⟨E, i, none⟩ = w.cell? ⟨E, i, none⟩) ∧ Below b0 w0 (w4.setCell ⟨N, j, none⟩ v') ∧ w.heap.size ≤ (w4.setCell ⟨N, j, none⟩ v').heap.size ∧
      NO (w4.setCell ⟨N, j, none⟩ v') base N m (fun u => if u = j then v' else V u) (fun u => if u = j then B j ++ [x] else B u) ∧ (∀ u, u < m → (if u = j then v' else V u).ownBlock ≠ some E) := fun wa w4 v' hb hown hg hat => by
  have hk : KeptBut (fun k => some k = (V j).ownBlock) w w4 := (KeptBut.of_whole _ hb).trans (KeptBut.of_grown hg)
  have hNj : ¬ some N = (V j).ownBlock := fun e => (h.own j hj).2 e.symm
  have hEj : ¬ some E = (V j).ownBlock := fun e => hEV j hj e.symm
  have hv : ∀ i, w4.cell? ⟨E, i, none⟩ = w.cell? ⟨E, i, none⟩ := fun i => hk.cell (p := ⟨E, i, none⟩) hE hEj
  refine ⟨?_, hv, fun i => ?_, ?_, ?_, h.push hj hb hown hg hat, fun u hu => ?_⟩
  · rw [hk.cell (p := ⟨N, j, none⟩) h.lt hNj, hk.frozen (p := ⟨N, j, none⟩) h.lt hNj]
    exact h.hd j hj
  · rw [World.cell?_setCell_other _ _ _ _ (fun e => hEN (congrArg Addr.block e).symm)]; exact hv i
  · refine (hb0.trans (hk.below h0 (fun k _ e => ?_))).setCell (p := ⟨N, j, none⟩) hN _
    have := ((h.own j hj).1.lt k e.symm).1
    omega
  · simpa using hk.size
  · by_cases e : u = j
    · rw [if_pos e]
      intro k
      rcases hat with h1 | h1
      · exact hEV j hj (h1.symm.trans k)
      · rw [h1] at k
        have := hb.size
        simp at k
        omega
    · rw [if_neg e]; exact hEV u hu

end Go.Proofs.Ytlebimolgienkaa
