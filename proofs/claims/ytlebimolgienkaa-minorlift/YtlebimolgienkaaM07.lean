/-
  How many edges a deletion and a contraction leave. No program is named here.
  Contractions as images; three that are neighbours, made one. No program is named here.
  Models of patterns, as the document says them (layer 8); what stays one.
-/
import Derived.Test.YtlebimolgienkaaM06
import Derived.Test.YtlebimolgienkaaM05
namespace Go.Proofs.Ytlebimolgienkaa

theorem nbL_nodup {n v : Int} {es : List (Int × Int)} (h : RightG n es) : (nbL v es).Nodup := by
  rw [List.nodup_iff_pairwise_ne]
  exact (nbL_rises h).imp (fun h => by omega)
theorem nb_adj {n v y : Int} {es : List (Int × Int)} (h : RightG n es) : y ∈ nbL v es ↔ Adj es v y := nbL_right h
theorem len_same {a b : List Int} (ha : a.Nodup) (hb : b.Nodup) (h : ∀ x, x ∈ a ↔ x ∈ b) : a.length = b.length :=
  Nat.le_antisymm (len_le_subI ha (fun x hx => (h x).1 hx)) (len_le_subI hb (fun x hx => (h x).2 hx))
theorem len_sameE {a b : List (Int × Int)} (ha : a.Nodup) (hb : b.Nodup) (h : ∀ x, x ∈ a ↔ x ∈ b) : a.length = b.length :=
  Nat.le_antisymm (len_le_of_sub ha (fun x hx => (h x).1 hx)) (len_le_of_sub hb (fun x hx => (h x).2 hx))
/-- Edges that do not meet v. -/
def offL (v : Int) (es : List (Int × Int)) : List (Int × Int) := es.filter (fun e => !(e.1 == v) && !(e.2 == v))
theorem mem_offL {v : Int} {es : List (Int × Int)} {e : Int × Int} : e ∈ offL v es ↔ e ∈ es ∧ e.1 ≠ v ∧ e.2 ≠ v := by
  unfold offL
  simp [List.mem_filter]
theorem off_len (v : Int) : ∀ es : List (Int × Int), (offL v es).length + (nbL v es).length = es.length
  | [] => rfl
  | e :: es => by
    have ih := off_len v es
    unfold offL at ih ⊢
    rw [List.filter_cons, nbL, List.length_append]
    unfold other
    by_cases h1 : e.1 = v
    · simp [h1]; omega
    · by_cases h2 : e.2 = v
      · simp [h1, h2]; omega
      · simp [h1, h2]; omega
/-- The edges, when hi goes to lo, ahead of the new numbers. -/
def conPre (lo hi : Int) (es : List (Int × Int)) : List (Int × Int) := offL hi es ++ ((nbL hi es).filter (fun w : Int => decide (w ≠ lo) && !adjB es lo w)).map (fun w => (min lo w, max lo w))
theorem fC_inj {hi : Nat} {lo x y : Int} (hx : x ≠ hi) (hy : y ≠ hi) (h : fC hi lo x = fC hi lo y) : x = y := by
  unfold fC at h
  split at h <;> split at h
  all_goals first | omega | (split at h <;> omega) | (split at h <;> split at h <;> omega)
theorem con_count {m lo hi : Nat} {es E : List (Int × Int)} (hR : RightG m es) (hlt : lo < hi) (hh : hi < m) (hadj : Adj es lo hi) (h : ConE m es lo hi E) : E.length + 1 + ((nbL (lo : Int) es).filter (fun w : Int => decide ((hi : Int) ∈ nbL w es))).length = es.length := by
  have hadjN : ∀ {x y : Int}, Adj es x y → (0 ≤ x ∧ x < m) ∧ (0 ≤ y ∧ y < m) ∧ x ≠ y := fun h => h.in hR
  have hnd := rises_nodup hR.2.2.2.2
  -- the edges under their new numbers
  have hpn : (conPre lo hi es).Nodup := by
    unfold conPre
    rw [List.nodup_append]
    refine ⟨hnd.filter _, ?_, fun a ha b hb e => ?_⟩
    · rw [List.nodup_iff_pairwise_ne, List.pairwise_map]
      refine ((nbL_nodup hR).filter _).imp (fun {x y} hxy e => hxy ?_)
      have e1 := congrArg Prod.fst e
      have e2 := congrArg Prod.snd e
      simp only at e1 e2
      omega
    · subst e
      obtain ⟨w, hw, rfl⟩ := List.mem_map.1 hb
      simp only [List.mem_filter, Bool.and_eq_true, decide_eq_true_eq, Bool.not_eq_true'] at hw
      obtain ⟨_, _, hw2⟩ := hw
      have hm := (mem_offL.1 ha).1
      have : adjB es lo w = true := by
        rw [adjB_iff]
        by_cases hlw : (lo : Int) ≤ w
        · rw [Int.min_eq_left hlw, Int.max_eq_right hlw] at hm; exact Or.inl hm
        · rw [Int.min_eq_right (by omega), Int.max_eq_left (by omega)] at hm; exact Or.inr hm
      rw [this] at hw2
      cases hw2
  have hpo : ∀ e ∈ conPre lo hi es, e.1 ≠ hi ∧ e.2 ≠ hi ∧ e.1 < e.2 ∧ MAdj es lo hi e.1 e.2 := fun e he => by
    unfold conPre at he
    rcases List.mem_append.1 he with he | he
    · obtain ⟨h1, h2, h3⟩ := mem_offL.1 he
      have := hR.2.2.2.1 e h1
      exact ⟨h2, h3, by omega, Or.inl (Or.inl h1)⟩
    · obtain ⟨w, hw, rfl⟩ := List.mem_map.1 he
      simp only [List.mem_filter, Bool.and_eq_true, decide_eq_true_eq, Bool.not_eq_true'] at hw
      obtain ⟨hw0, hw1, hw2⟩ := hw
      have ha := (nb_adj hR).1 hw0
      have hn := (hadjN ha).2.2
      refine ⟨by simp only; omega, by simp only; omega, by simp only; omega, ?_⟩
      by_cases hlw : (lo : Int) ≤ w
      · rw [Int.min_eq_left hlw, Int.max_eq_right hlw]; exact Or.inr (Or.inl ⟨rfl, hw1, ha⟩)
      · rw [Int.min_eq_right (by omega), Int.max_eq_left (by omega)]; exact Or.inr (Or.inr ⟨rfl, hw1, ha⟩)
  have hlen : E.length = (conPre lo hi es).length := by
    have hmn : ((conPre lo hi es).map (fun e => (fC hi lo e.1, fC hi lo e.2))).Nodup := by
      rw [List.nodup_iff_pairwise_ne, List.pairwise_map]
      refine hpn.imp_of_mem (fun {x y} hx hy hxy e => hxy ?_)
      have e1 := fC_inj (hpo x hx).1 (hpo y hy).1 (congrArg Prod.fst e)
      have e2 := fC_inj (hpo x hx).2.1 (hpo y hy).2.1 (congrArg Prod.snd e)
      exact Prod.ext e1 e2
    have hl2 : E.length = ((conPre lo hi es).map (fun e => (fC hi lo e.1, fC hi lo e.2))).length := by
     refine len_sameE (rises_nodup h.1) hmn (fun e => ?_)
     obtain ⟨x, y⟩ := e
     rw [h.2, List.mem_map]
     constructor
     · rintro ⟨i, j, rfl, rfl, hij, hj, hm⟩
       have hne : ∀ k : Nat, (upN hi k : Int) ≠ hi := fun k => by unfold upN; split <;> omega
       have hup : (upN hi i : Int) < upN hi j := by unfold upN; split <;> split <;> omega
       refine ⟨((upN hi i : Nat), (upN hi j : Nat)), ?_, by rw [Prod.mk.injEq]; exact ⟨fC_up, fC_up⟩⟩
       unfold conPre
       rw [List.mem_append]
       by_cases ha : Adj es (upN hi i : Nat) (upN hi j : Nat)
       · left
         rw [mem_offL]
         refine ⟨?_, hne i, hne j⟩
         rcases ha with ha | ha
         · exact ha
         · have := hR.2.2.2.1 _ ha
           simp only at this
           omega
       · right
         rw [List.mem_map]
         rcases hm with hm | ⟨e1, e2, hm⟩ | ⟨e1, e2, hm⟩
         · exact absurd hm ha
         · refine ⟨(upN hi j : Nat), ?_, by rw [← e1, Int.min_eq_left (by omega), Int.max_eq_right (by omega)]⟩
           simp only [List.mem_filter, Bool.and_eq_true, decide_eq_true_eq, Bool.not_eq_true']
           refine ⟨(nb_adj hR).2 hm, e2, ?_⟩
           rw [Bool.eq_false_iff, Ne, adjB_iff, ← e1]
           exact ha
         · refine ⟨(upN hi i : Nat), ?_, by rw [← e1, Int.min_eq_right (by omega), Int.max_eq_left (by omega)]⟩
           simp only [List.mem_filter, Bool.and_eq_true, decide_eq_true_eq, Bool.not_eq_true']
           refine ⟨(nb_adj hR).2 hm, e2, ?_⟩
           rw [Bool.eq_false_iff, Ne, adjB_iff, ← e1]
           exact fun k => ha k.symm
     · rintro ⟨⟨p, q⟩, he, e⟩
       obtain ⟨h1, h2, h3, h4⟩ := hpo _ he
       simp only at h1 h2 h3 h4
       have e1 : fC hi lo p = x := congrArg Prod.fst e
       have e2 : fC hi lo q = y := congrArg Prod.snd e
       have hr : (0 ≤ p ∧ p < m) ∧ (0 ≤ q ∧ q < m) := by
         rcases h4 with h4 | ⟨e3, _, h4⟩ | ⟨e3, _, h4⟩
         · exact ⟨(hadjN h4).1, (hadjN h4).2.1⟩
         · exact ⟨by omega, (hadjN h4).2.1⟩
         · exact ⟨(hadjN h4).2.1, by omega⟩
       have hfp : 0 ≤ fC hi lo p ∧ (fC hi lo p = p ∧ p < hi ∨ fC hi lo p = p - 1 ∧ hi < p) := by unfold fC; split <;> first | omega | (split <;> omega)
       have hfq : 0 ≤ fC hi lo q ∧ (fC hi lo q = q ∧ q < hi ∨ fC hi lo q = q - 1 ∧ hi < q) := by unfold fC; split <;> first | omega | (split <;> omega)
       have u1 : (upN hi (fC hi lo p).toNat : Int) = p := by unfold upN; split <;> omega
       have u2 : (upN hi (fC hi lo q).toNat : Int) = q := by unfold upN; split <;> omega
       refine ⟨(fC hi lo p).toNat, (fC hi lo q).toNat, by omega, by omega, by omega, by omega, ?_⟩
       rw [u1, u2]; exact h4
    rw [hl2, List.length_map]
  -- who is counted
  have hoff := off_len hi es
  have hone : ((nbL (hi : Int) es).filter (fun w : Int => !(decide (w ≠ (lo : Int)) && !adjB es lo w))).length = 1 + ((nbL (lo : Int) es).filter (fun w : Int => decide ((hi : Int) ∈ nbL w es))).length := by
    rw [Nat.add_comm, ← List.length_cons (a := (lo : Int))]
    refine len_same ((nbL_nodup hR).filter _) ?_ (fun x => ?_)
    · rw [List.nodup_cons]
      refine ⟨fun hm => ?_, (nbL_nodup hR).filter _⟩
      have := (nb_adj hR).1 (List.mem_filter.1 hm).1
      exact (hadjN this).2.2 rfl
    · rw [List.mem_cons, List.mem_filter, List.mem_filter, nb_adj hR, nb_adj hR]
      simp only [Bool.not_eq_true', Bool.and_eq_false_iff, decide_eq_false_iff_not, Bool.not_eq_false', adjB_iff, decide_eq_true_eq, nb_adj hR, Decidable.not_not, ne_eq]
      constructor
      · rintro ⟨h1, h2 | h2⟩
        · exact Or.inl h2
        · exact Or.inr ⟨h2, h1.symm⟩
      · rintro (rfl | ⟨h1, h2⟩)
        · exact ⟨hadj.symm, Or.inl rfl⟩
        · exact ⟨h2.symm, Or.inr h1⟩
  have hsplit : ∀ (p : Int → Bool) (l : List Int), (l.filter p).length + (l.filter (fun w => !p w)).length = l.length := fun p l => by
    induction l with
    | nil => rfl
    | cons a l ih =>
      rw [List.filter_cons, List.filter_cons]
      cases p a <;> simp <;> omega
  have h9 := hsplit (fun w : Int => decide (w ≠ (lo : Int)) && !adjB es lo w) (nbL hi es)
  rw [hlen]
  unfold conPre
  rw [List.length_append, List.length_map]
  omega
end Go.Proofs.Ytlebimolgienkaa
namespace Go.Proofs.Ytlebimolgienkaa

/-- The edges under new numbers, in order. -/
def Img (es : List (Int × Int)) (f : Int → Int) (E : List (Int × Int)) : Prop := Rises E ∧ ∀ a b : Int, (a, b) ∈ E ↔ a < b ∧ ∃ x y, Adj es x y ∧ f x = a ∧ f y = b
theorem Img.one {es E E' : List (Int × Int)} {f g : Int → Int} (h : Img es f E) (k : Img es g E') (e : ∀ x y, Adj es x y → f x = g x) : E = E' := rises_one h.1 k.1 (fun z => by
  obtain ⟨a, b⟩ := z
  rw [h.2, k.2]
  constructor
  · rintro ⟨h0, x, y, h1, h2, h3⟩; exact ⟨h0, x, y, h1, by rw [← e x y h1]; exact h2, by rw [← e y x h1.symm]; exact h3⟩
  · rintro ⟨h0, x, y, h1, h2, h3⟩; exact ⟨h0, x, y, h1, by rw [e x y h1]; exact h2, by rw [e y x h1.symm]; exact h3⟩)
theorem Img.adj {es E : List (Int × Int)} {f : Int → Int} (h : Img es f E) {a b : Int} : Adj E a b ↔ a ≠ b ∧ ∃ x y, Adj es x y ∧ f x = a ∧ f y = b := by
  unfold Adj
  rw [h.2, h.2]
  constructor
  · rintro (⟨h0, x, y, h1, h2, h3⟩ | ⟨h0, x, y, h1, h2, h3⟩)
    · exact ⟨by omega, x, y, h1, h2, h3⟩
    · exact ⟨by omega, y, x, Adj.symm h1, h3, h2⟩
  · rintro ⟨h0, x, y, h1, h2, h3⟩
    by_cases e : a < b
    · exact Or.inl ⟨e, x, y, h1, h2, h3⟩
    · exact Or.inr ⟨by omega, y, x, Adj.symm h1, h3, h2⟩
theorem con_right {m lo hi : Nat} {es E : List (Int × Int)} (hR : RightG m es) (hlt : lo < hi) (hh : hi < m) (hadj : Adj es lo hi) (h : ConE m es lo hi E) : RightG ((m - 1 : Nat) : Int) E :=
  ⟨by omega, by have := hR.2.1; omega, by have h1 := con_count hR hlt hh hadj h; have h2 := hR.2.2.1; omega, fun e he => by
    obtain ⟨a, b⟩ := e
    obtain ⟨i, j, rfl, rfl, h1, h2, _⟩ := (h.2 a b).1 he
    simp only
    omega, h.1⟩
end Go.Proofs.Ytlebimolgienkaa
namespace Go.Proofs.Ytlebimolgienkaa

/-- How many vertices a pattern has. -/
def patN (k : Int) : Nat := if k = 1 then 4 else if k = 2 then 5 else 0
/-- Its edges (H1). -/
def patE (k : Int) : List (Int × Int) := if k = 1 then [(0, 1), (0, 2), (0, 3), (1, 2), (1, 3), (2, 3)] else if k = 2 then [(0, 2), (0, 3), (0, 4), (1, 2), (1, 3), (1, 4)] else []
theorem patN_none {k : Int} (h : ¬ (k = 1 ∨ k = 2)) : patN k = 0 := by
  unfold patN; rw [if_neg (fun e => h (Or.inl e)), if_neg (fun e => h (Or.inr e))]
theorem patE_in {k : Int} {e : Int × Int} (h : e ∈ patE k) : 0 ≤ e.1 ∧ e.1 < e.2 ∧ e.2 < patN k := by
  unfold patE at h
  unfold patN
  split at h
  · rename_i e1; rw [if_pos e1]; revert h; revert e; decide
  · rename_i e1
    split at h
    · rename_i e2; rw [if_neg e1, if_pos e2]; revert h; revert e; decide
    · cases h
theorem patE_nodup (k : Int) : (patE k).Nodup := by
  unfold patE; split
  · decide
  · split <;> decide
theorem patE_len {k : Int} (h : k = 1 ∨ k = 2) : (patE k).length = 6 := by
  unfold patE
  rcases h with rfl | rfl <;> decide
/-- Some vertex of the one is a neighbour of some of the other. -/
def Touch (es : List (Int × Int)) (A B : List Int) : Prop := ∃ x y, x ∈ A ∧ y ∈ B ∧ Adj es x y
theorem Touch.symm {es : List (Int × Int)} {A B : List Int} (h : Touch es A B) : Touch es B A := by
  obtain ⟨x, y, h1, h2, h3⟩ := h; exact ⟨y, x, h2, h1, h3.symm⟩
/-- The set of a pattern's vertex. -/
def setAt (Ss : List (List Int)) (i : Int) : List Int := Ss.getD i.toNat []
/-- A model (H2). -/
structure ModelL (n : Int) (es : List (Int × Int)) (k : Int) (Ss : List (List Int)) : Prop where
  kind : k = 1 ∨ k = 2
  right : RightG n es
  len : Ss.length = patN k
  whole : ∀ S ∈ Ss, WholeL n es S
  apart : ∀ i j, i < j → ∀ x, x ∈ Ss.getD i [] → x ∉ Ss.getD j []
  meet : ∀ e ∈ patE k, Touch es (setAt Ss e.1) (setAt Ss e.2)
theorem getD_mem {Ss : List (List Int)} {i : Nat} (h : i < Ss.length) : Ss.getD i [] ∈ Ss := by
  rw [List.getD_eq_getElem?_getD, List.getElem?_eq_getElem h]; exact List.getElem_mem h
theorem mem_getD {Ss : List (List Int)} {i : Nat} {x : Int} (h : x ∈ Ss.getD i []) : i < Ss.length := by
  rw [List.getD_eq_getElem?_getD] at h
  rcases Nat.lt_or_ge i Ss.length with h1 | h1
  · exact h1
  · rw [List.getElem?_eq_none h1] at h; cases h
theorem getD_map' {Ss : List (List Int)} {g : List Int → List Int} (h0 : g [] = []) (i : Nat) : (Ss.map g).getD i [] = g (Ss.getD i []) := by
  rw [List.getD_eq_getElem?_getD, List.getD_eq_getElem?_getD, List.getElem?_map]
  cases Ss[i]? with
  | none => simp [h0]
  | some x => rfl
theorem ModelL.ne {n : Int} {es : List (Int × Int)} {k : Int} {Ss : List (List Int)} (h : ModelL n es k Ss) : ∀ i j, i ≠ j → ∀ x, x ∈ Ss.getD i [] → x ∉ Ss.getD j [] := fun i j hij x hx hy => by
  rcases Nat.lt_or_gt_of_ne hij with h1 | h1
  · exact h.apart i j h1 x hx hy
  · exact h.apart j i h1 x hy hx
/-- An edge more (what follows). -/
theorem adj_more {es es' : List (Int × Int)} (hs : ∀ e ∈ es, e ∈ es') {x y : Int} (h : Adj es x y) : Adj es' x y := h.elim (fun h => Or.inl (hs _ h)) (fun h => Or.inr (hs _ h))
theorem ModelL.more {n : Int} {es es' : List (Int × Int)} {k : Int} {Ss : List (List Int)} (h : ModelL n es k Ss) (hR : RightG n es') (hs : ∀ e ∈ es, e ∈ es') : ModelL n es' k Ss :=
  ⟨h.kind, hR, h.len, fun S hS => ⟨(h.whole S hS).ne, (h.whole S hS).nd, (h.whole S hS).inn, fun x hx y hy => fun P h0 hst => (h.whole S hS).one x hx y hy P h0 (fun u v hu ha hv => hst u v hu (adj_more hs ha) hv)⟩, h.apart, fun e he => by
    obtain ⟨x, y, h1, h2, h3⟩ := h.meet e he
    exact ⟨x, y, h1, h2, adj_more hs h3⟩⟩
/-- Sets changed one by one. -/
theorem ModelL.turn {n n' : Int} {es E : List (Int × Int)} {k : Int} {Ss : List (List Int)} (h : ModelL n' E k Ss) (hR : RightG n es) {g : List Int → List Int} (h0 : g [] = [])
    (hw : ∀ S, WholeL n' E S → WholeL n es (g S)) (hd : ∀ A B, (∀ x ∈ A, 0 ≤ x ∧ x < n') → (∀ x ∈ B, 0 ≤ x ∧ x < n') → (∀ x ∈ A, x ∉ B) → ∀ x ∈ g A, x ∉ g B)
    (ht : ∀ A B, Touch E A B → Touch es (g A) (g B)) : ModelL n es k (Ss.map g) := by
  have hin : ∀ i, ∀ x ∈ Ss.getD i [], 0 ≤ x ∧ x < n' := fun _ x hx => (h.whole _ (getD_mem (mem_getD hx))).inn x hx
  refine ⟨h.kind, hR, by rw [List.length_map]; exact h.len, fun S hS => ?_, fun i j hij x hx => ?_, fun e he => ?_⟩
  · obtain ⟨T, hT, rfl⟩ := List.mem_map.1 hS
    exact hw T (h.whole T hT)
  · rw [getD_map' h0] at hx ⊢
    exact hd _ _ (hin i) (hin j) (h.apart i j hij) x hx
  · unfold setAt
    rw [getD_map' h0, getD_map' h0]
    exact ht _ _ (h.meet e he)
/-- A number, when a vertex comes to stand at v. -/
def upI (v x : Int) : Int := if x < v then x else x + 1
theorem upI_nat (v i : Nat) : upI v i = (upN v i : Int) := by
  unfold upI upN
  by_cases h : i < v
  · rw [if_pos h, if_pos (by omega)]
  · rw [if_neg h, if_neg (by omega)]; simp
theorem upI_inj {v x y : Int} (h : upI v x = upI v y) : x = y := by
  unfold upI at h; split at h <;> split at h <;> omega
theorem upI_ne {v x : Int} : upI v x ≠ v := by unfold upI; split <;> omega
theorem upI_in {v x n : Int} (h : 0 ≤ x ∧ x < n - 1) : 0 ≤ upI v x ∧ upI v x < n := by unfold upI; split <;> omega
theorem upI_lo {lo hi x : Int} (hlt : lo < hi) : upI hi x = lo ↔ x = lo := by
  unfold upI; split <;> constructor <;> intro h <;> omega
theorem nodup_up {v : Int} {S : List Int} (h : S.Nodup) : (S.map (upI v)).Nodup := by
  rw [List.Nodup, List.pairwise_map]
  exact List.Pairwise.imp (fun hne e => hne (upI_inj e)) h
/-- Dropped (H3). -/
def dropL (v : Int) (Ss : List (List Int)) : List (List Int) := if v < 0 then Ss else Ss.map (List.map (upI v))
theorem ind_up {n v : Nat} {es E : List (Int × Int)} (hv : v < n) (hR : RightG ((n : Int) - 1) E) (hI : IndE es (othL n v) E) {x y : Int} (h : Adj E x y) : Adj es (upI v x) (upI v y) := by
  obtain ⟨h1, h2, h3⟩ := h.in hR
  obtain ⟨i, rfl⟩ : ∃ i : Nat, x = i := ⟨x.toNat, by omega⟩
  obtain ⟨j, rfl⟩ : ∃ j : Nat, y = j := ⟨y.toNat, by omega⟩
  have hl := othL_len hv
  have hi : i < (othL n v).length := by omega
  have hj : j < (othL n v).length := by omega
  have := (hI.adj hi hj (by omega)).1 h
  rw [othL_at hv, othL_at hv] at this
  rw [upI_nat, upI_nat]; exact this
theorem model_drop {n v : Nat} {es E : List (Int × Int)} {k : Int} {Ss : List (List Int)} (hR : RightG n es) (hv : v < n) (hI : IndE es (othL n v) E) (h : ModelL ((n : Int) - 1) E k Ss) : ModelL n es k (dropL v Ss) := by
  have hadj : ∀ {x y : Int}, Adj E x y → Adj es (upI v x) (upI v y) := fun h' => ind_up hv h.right hI h'
  unfold dropL
  rw [if_neg (by omega)]
  refine h.turn hR rfl (fun S hS => ⟨?_, nodup_up hS.nd, fun x hx => ?_, fun x hx y hy => ?_⟩) (fun A B hA hB hd x hx hy => ?_) (fun A B ht => ?_)
  · intro e; exact hS.ne (List.map_eq_nil_iff.1 e)
  · obtain ⟨z, hz, rfl⟩ := List.mem_map.1 hx
    exact upI_in (hS.inn z hz)
  · obtain ⟨p, hp, rfl⟩ := List.mem_map.1 hx
    obtain ⟨q, hq, rfl⟩ := List.mem_map.1 hy
    exact hS.one p hp q hq (fun z => Rch es (S.map (upI v)) (upI v p) (upI v z)) (Rch.refl _ _ _) (fun u w hu ha hw => hu.step (hadj ha) (List.mem_map_of_mem hw))
  · obtain ⟨p, hp, rfl⟩ := List.mem_map.1 hx
    obtain ⟨q, hq, e⟩ := List.mem_map.1 hy
    rw [upI_inj e] at hq
    exact hd p hp hq
  · obtain ⟨x, y, h1, h2, h3⟩ := ht
    exact ⟨_, _, List.mem_map_of_mem h1, List.mem_map_of_mem h2, hadj h3⟩
/-- A set, lifted. -/
def liftS (lo hi : Int) (S : List Int) : List Int := S.map (upI hi) ++ (if lo ∈ S then [hi] else [])
/-- Lifted (H3). -/
def liftL (a b : Int) (Ss : List (List Int)) : List (List Int) := if min a b < 0 ∨ min a b = max a b then Ss else Ss.map (liftS (min a b) (max a b))
theorem liftL_swap (a b : Int) (Ss : List (List Int)) : liftL a b Ss = liftL b a Ss := by
  unfold liftL; rw [Int.min_comm a b, Int.max_comm a b]
theorem con_up {n lo hi : Nat} {es E : List (Int × Int)} (hC : ConE n es lo hi E) {x y : Int} (h : Adj E x y) : MAdj es lo hi (upI hi x) (upI hi y) := by
  rcases h with h | h
  · obtain ⟨i, j, rfl, rfl, _, _, hm⟩ := (hC.2 x y).1 h
    rw [upI_nat, upI_nat]; exact hm
  · obtain ⟨i, j, rfl, rfl, _, _, hm⟩ := (hC.2 y x).1 h
    rw [upI_nat, upI_nat]; exact hm.symm
theorem mem_liftS {lo hi x : Int} {S : List Int} : x ∈ liftS lo hi S ↔ (∃ z ∈ S, upI hi z = x) ∨ (lo ∈ S ∧ x = hi) := by
  unfold liftS
  rw [List.mem_append, List.mem_map]
  by_cases h : lo ∈ S
  · rw [if_pos h]; simp [h]
  · rw [if_neg h]; simp [h]
theorem model_lift {n lo hi : Nat} {es E : List (Int × Int)} {k : Int} {Ss : List (List Int)} (hR : RightG n es) (hlt : lo < hi) (hh : hi < n) (hadj : Adj es lo hi) (hC : ConE n es lo hi E) (h : ModelL ((n : Int) - 1) E k Ss) : ModelL n es k (liftL lo hi Ss) := by
  have hm : ∀ {x y : Int}, Adj E x y → MAdj es lo hi (upI hi x) (upI hi y) := fun h' => con_up hC h'
  have hll : (lo : Int) < hi := by omega
  have huplo : upI (hi : Int) (lo : Int) = lo := (upI_lo hll).2 rfl
  unfold liftL
  rw [show min (lo : Int) hi = lo by omega, show max (lo : Int) hi = hi by omega, if_neg (by omega)]
  have hst : ∀ S : List Int, ∀ x u v : Int, u ∈ S → v ∈ S → Rch es (liftS lo hi S) x (upI hi u) → Adj E u v → Rch es (liftS lo hi S) x (upI hi v) := fun S x u v hu hv hr ha => by
    have hv' : upI hi v ∈ liftS lo hi S := mem_liftS.2 (Or.inl ⟨v, hv, rfl⟩)
    rcases hm ha with h1 | ⟨h1, h2, h3⟩ | ⟨h1, h2, h3⟩
    · exact hr.step h1 hv'
    · have e := (upI_lo hll).1 h1
      have hi' : (hi : Int) ∈ liftS lo hi S := mem_liftS.2 (Or.inr ⟨e ▸ hu, rfl⟩)
      rw [h1] at hr
      exact (hr.step hadj hi').step h3 hv'
    · have e := (upI_lo hll).1 h1
      have hi' : (hi : Int) ∈ liftS lo hi S := mem_liftS.2 (Or.inr ⟨e ▸ hv, rfl⟩)
      have := (hr.step h3.symm hi').step hadj.symm (h1 ▸ hv')
      rw [h1]; exact this
  refine h.turn hR rfl (fun S hS => ?_) (fun A B hA hB hd x hx hy => ?_) (fun A B ht => ?_)
  · obtain ⟨x0, hx0⟩ := List.exists_mem_of_ne_nil S hS.ne
    have hx0' : upI hi x0 ∈ liftS lo hi S := mem_liftS.2 (Or.inl ⟨x0, hx0, rfl⟩)
    have hall : ∀ y ∈ S, Rch es (liftS lo hi S) (upI hi x0) (upI hi y) := fun y hy =>
      (hS.one x0 hx0 y hy (fun z => z ∈ S ∧ Rch es (liftS lo hi S) (upI hi x0) (upI hi z)) ⟨hx0, Rch.refl _ _ _⟩ (fun u w hu ha hw => ⟨hw, hst S _ u w hu.1 hw hu.2 ha⟩)).2
    have hal : ∀ y ∈ liftS lo hi S, Rch es (liftS lo hi S) (upI hi x0) y := fun y hy => by
      rcases mem_liftS.1 hy with ⟨z, hz, rfl⟩ | ⟨hl, rfl⟩
      · exact hall z hz
      · have := hall _ hl
        rw [huplo] at this
        exact this.step hadj hy
    refine ⟨fun e => (by rw [e] at hx0'; cases hx0'), ?_, fun x hx => ?_, fun x hx y hy => ((hal x hx).symm hx0').trans (hal y hy)⟩
    · unfold liftS
      refine List.nodup_append.2 ⟨nodup_up hS.nd, by split <;> simp, fun a ha b hb e => ?_⟩
      obtain ⟨z, _, rfl⟩ := List.mem_map.1 ha
      split at hb
      · simp at hb; subst hb; exact upI_ne e
      · cases hb
    · rcases mem_liftS.1 hx with ⟨z, hz, rfl⟩ | ⟨_, rfl⟩
      · exact upI_in (hS.inn z hz)
      · omega
  · rcases mem_liftS.1 hx with ⟨z, hz, rfl⟩ | ⟨hl, rfl⟩
    · rcases mem_liftS.1 hy with ⟨q, hq, e⟩ | ⟨_, e⟩
      · rw [upI_inj e] at hq; exact hd z hz hq
      · exact upI_ne e
    · rcases mem_liftS.1 hy with ⟨q, hq, e⟩ | ⟨hl2, _⟩
      · exact upI_ne e
      · exact hd _ hl hl2
  · obtain ⟨x, y, h1, h2, h3⟩ := ht
    rcases hm h3 with k1 | ⟨k1, _, k3⟩ | ⟨k1, _, k3⟩
    · exact ⟨_, _, mem_liftS.2 (Or.inl ⟨x, h1, rfl⟩), mem_liftS.2 (Or.inl ⟨y, h2, rfl⟩), k1⟩
    · rw [(upI_lo hll).1 k1] at h1
      exact ⟨_, _, mem_liftS.2 (Or.inr ⟨h1, rfl⟩), mem_liftS.2 (Or.inl ⟨y, h2, rfl⟩), k3⟩
    · rw [(upI_lo hll).1 k1] at h2
      exact ⟨_, _, mem_liftS.2 (Or.inl ⟨x, h1, rfl⟩), mem_liftS.2 (Or.inr ⟨h2, rfl⟩), k3.symm⟩
/-- In which set each vertex is. -/
def HomeIs (n : Int) (Ss : List (List Int)) (D : Int → Int) : Prop := ∀ x, 0 ≤ x → x < n → ∀ i : Nat, i < Ss.length → (D x = i ↔ x ∈ Ss.getD i [])
/-- Which sets an edge leads between. -/
def metE (D : Int → Int) (e : Int × Int) : Int × Int := (min (D e.1) (D e.2), max (D e.1) (D e.2))
theorem meet_iff {n : Int} {es : List (Int × Int)} {k : Int} {Ss : List (List Int)} {D : Int → Int} (hR : RightG n es) (hl : Ss.length = patN k) (hin : ∀ i, ∀ x ∈ Ss.getD i [], 0 ≤ x ∧ x < n) (hD : HomeIs n Ss D) (p : Int × Int) (hp : p ∈ patE k) : p ∈ es.map (metE D) ↔ Touch es (setAt Ss p.1) (setAt Ss p.2) := by
  obtain ⟨p1, p2, p3⟩ := patE_in hp
  have l1 : p.1.toNat < Ss.length := by omega
  have l2 : p.2.toNat < Ss.length := by omega
  unfold setAt
  constructor
  · intro h
    obtain ⟨e, he, hm⟩ := List.mem_map.1 h
    obtain ⟨q1, q2, q3⟩ := hR.2.2.2.1 e he
    have hm1 : min (D e.1) (D e.2) = p.1 := congrArg Prod.fst hm
    have hm2 : max (D e.1) (D e.2) = p.2 := congrArg Prod.snd hm
    by_cases hle : D e.1 ≤ D e.2
    · exact ⟨e.1, e.2, (hD e.1 q1 (by omega) _ l1).1 (by omega), (hD e.2 (by omega) q3 _ l2).1 (by omega), Or.inl he⟩
    · exact ⟨e.2, e.1, (hD e.2 (by omega) q3 _ l1).1 (by omega), (hD e.1 q1 (by omega) _ l2).1 (by omega), Or.inr he⟩
  · rintro ⟨x, y, hx, hy, ha⟩
    have ix := hin _ x hx
    have iy := hin _ y hy
    have dx := (hD x ix.1 ix.2 _ l1).2 hx
    have dy := (hD y iy.1 iy.2 _ l2).2 hy
    rcases ha with h | h
    · refine List.mem_map.2 ⟨_, h, Prod.ext ?_ ?_⟩
      · show min (D x) (D y) = _; omega
      · show max (D x) (D y) = _; omega
    · refine List.mem_map.2 ⟨_, h, Prod.ext ?_ ?_⟩
      · show min (D y) (D x) = _; omega
      · show max (D y) (D x) = _; omega
theorem home_ex {n : Int} {es : List (Int × Int)} {k : Int} {Ss : List (List Int)} (h : ModelL n es k Ss) : ∃ D, HomeIs n Ss D := by
  classical
  refine ⟨fun x => if hx : ∃ i : Nat, x ∈ Ss.getD i [] then ((Classical.choose hx : Nat) : Int) else -1, fun x _ _ i _ => ?_⟩
  constructor
  · intro e
    by_cases hx : ∃ i : Nat, x ∈ Ss.getD i []
    · simp only [dif_pos hx] at e
      have := Classical.choose_spec hx
      rw [show Classical.choose hx = i by omega] at this
      exact this
    · simp only [dif_neg hx] at e; omega
  · intro hi
    have hx : ∃ i : Nat, x ∈ Ss.getD i [] := ⟨i, hi⟩
    simp only [dif_pos hx]
    have := Classical.choose_spec hx
    by_cases e : Classical.choose hx = i
    · rw [e]
    · exact absurd hi (h.ne _ _ e x this)
theorem len_le_subE {a b : List (Int × Int)} (h : a.Nodup) (hs : ∀ e ∈ a, e ∈ b) : a.length ≤ b.length := by
  induction a generalizing b with
  | nil => simp
  | cons x a ih =>
    have hx : x ∈ b := hs x (by simp)
    obtain ⟨h1, h2⟩ := List.nodup_cons.1 h
    have := ih (b := b.erase x) h2 (fun e he => (List.mem_erase_of_ne (fun e' => h1 (by rw [← e']; exact he))).2 (hs e (List.mem_cons_of_mem _ he)))
    rw [List.length_erase_of_mem hx] at this
    have : 0 < b.length := List.length_pos_of_mem hx
    simp; omega
theorem ModelL.inn {n : Int} {es : List (Int × Int)} {k : Int} {Ss : List (List Int)} (h : ModelL n es k Ss) : ∀ i, ∀ x ∈ Ss.getD i [], 0 ≤ x ∧ x < n := fun _ x hx => (h.whole _ (getD_mem (mem_getD hx))).inn x hx
/-- Six edges at least. -/
theorem model_edges {n : Int} {es : List (Int × Int)} {k : Int} {Ss : List (List Int)} (h : ModelL n es k Ss) : 6 ≤ es.length := by
  obtain ⟨D, hD⟩ := home_ex h
  have := len_le_subE (patE_nodup k) (b := es.map (metE D)) (fun p hp => (meet_iff h.right h.len h.inn hD p hp).2 (h.meet p hp))
  rw [patE_len h.kind, List.length_map] at this
  exact this
/-- As many vertices as the pattern at least. -/
theorem model_verts {n : Int} {es : List (Int × Int)} {k : Int} {Ss : List (List Int)} (h : ModelL n es k Ss) : (patN k : Int) ≤ n := by
  have h0 := h.right.1
  obtain ⟨m, rfl⟩ : ∃ m : Nat, n = m := ⟨n.toNat, by omega⟩
  have hne : ∀ i (hi : i < Ss.length), Ss[i].headD 0 ∈ Ss[i] := fun i hi => by
    have hn := (h.whole _ (List.getElem_mem hi)).ne
    cases hs : Ss[i] with
    | nil => exact absurd hs hn
    | cons x l => simp
  have hnd : (Ss.map (fun S => S.headD 0)).Nodup := by
    rw [List.Nodup, List.pairwise_map, List.pairwise_iff_getElem]
    intro i j hi hj hij e
    have h1 := hne i hi
    have h2 := hne j hj
    rw [← e] at h2
    have := h.apart i j hij (Ss[i].headD 0)
    rw [List.getD_eq_getElem?_getD, List.getElem?_eq_getElem hi, List.getD_eq_getElem?_getD, List.getElem?_eq_getElem hj] at this
    exact this h1 h2
  have := len_le_subI hnd (b := (List.range m).map (fun i : Nat => (i : Int))) (fun x hx => by
    obtain ⟨S, hS, rfl⟩ := List.mem_map.1 hx
    obtain ⟨i, hi, rfl⟩ := List.getElem_of_mem hS
    have := (h.whole _ hS).inn _ (hne i hi)
    exact List.mem_map.2 ⟨(Ss[i].headD 0).toNat, by rw [List.mem_range]; omega, by omega⟩)
  rw [List.length_map, List.length_map, List.length_range, h.len] at this
  omega
/-- Four vertices have six edges at most. -/
theorem four_edges {es : List (Int × Int)} (hR : RightG 4 es) : es.length ≤ 6 := by
  have hnd : es.Nodup := hR.2.2.2.2.imp (fun h e => by subst e; simp [ltE] at h)
  have := len_le_subE hnd (b := patE 1) (fun e he => by
    have := hR.2.2.2.1 e he
    obtain ⟨a, b⟩ := e
    simp only at this
    unfold patE
    rw [if_pos rfl]
    have : (a = 0 ∧ b = 1) ∨ (a = 0 ∧ b = 2) ∨ (a = 0 ∧ b = 3) ∨ (a = 1 ∧ b = 2) ∨ (a = 1 ∧ b = 3) ∨ (a = 2 ∧ b = 3) := by omega
    rcases this with ⟨rfl, rfl⟩ | ⟨rfl, rfl⟩ | ⟨rfl, rfl⟩ | ⟨rfl, rfl⟩ | ⟨rfl, rfl⟩ | ⟨rfl, rfl⟩ <;> simp)
  exact this
end Go.Proofs.Ytlebimolgienkaa
