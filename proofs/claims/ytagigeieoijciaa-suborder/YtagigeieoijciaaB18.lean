/-
  How many edges a deletion and a contraction leave. No program is named here.
  Contractions as images; three that are neighbours, made one. No program is named here.
  Vertices told in another order, and told back. No program is named here.
-/
import Derived.Test.YtagigeieoijciaaB06
import Derived.Test.YtagigeieoijciaaB03
namespace Go.Proofs.Ytagigeieoijciaa

theorem nbL_nodup {n v : Int} {es : List (Int × Int)} (h : RightG n es) : (nbL v es).Nodup := by
  rw [List.nodup_iff_pairwise_ne]
  exact (nbL_rises h).imp (fun h => by omega)
theorem nb_adj {n v y : Int} {es : List (Int × Int)} (h : RightG n es) : y ∈ nbL v es ↔ Adj es v y := nbL_right h
theorem len_same {a b : List Int} (ha : a.Nodup) (hb : b.Nodup) (h : ∀ x, x ∈ a ↔ x ∈ b) : a.length = b.length :=
  Nat.le_antisymm (len_le_subI ha (fun x hx => (h x).1 hx)) (len_le_subI hb (fun x hx => (h x).2 hx))
theorem len_sameE {a b : List (Int × Int)} (ha : a.Nodup) (hb : b.Nodup) (h : ∀ x, x ∈ a ↔ x ∈ b) : a.length = b.length :=
  Nat.le_antisymm (len_le_of_sub ha (fun x hx => (h x).1 hx)) (len_le_of_sub hb (fun x hx => (h x).2 hx))
/-- Edges that do not meet v. -/
def offL (v : Int) (es : List (Int × Int)) : List (Int × Int) := es.filter (fun e => !(e.1 == v) && !(e.2 == v))
theorem mem_offL {v : Int} {es : List (Int × Int)} {e : Int × Int} : e ∈ offL v es ↔ e ∈ es ∧ e.1 ≠ v ∧ e.2 ≠ v := by
  unfold offL
  simp [List.mem_filter]
theorem off_len (v : Int) : ∀ es : List (Int × Int), (offL v es).length + (nbL v es).length = es.length
  | [] => rfl
  | e :: es => by
    have ih := off_len v es
    unfold offL at ih ⊢
    rw [List.filter_cons, nbL, List.length_append]
    unfold other
    by_cases h1 : e.1 = v
    · simp [h1]; omega
    · by_cases h2 : e.2 = v
      · simp [h1, h2]; omega
      · simp [h1, h2]; omega
theorem del_count {m V : Nat} {es E : List (Int × Int)} (hR : RightG m es) (hv : V < m) (h : IndE es (othL m V) E) : E.length + (nbL V es).length = es.length := by
  rw [h.one (del_ind hR hv), List.length_map]
  exact off_len V es
/-- The edges, when hi goes to lo, ahead of the new numbers. -/
def conPre (lo hi : Int) (es : List (Int × Int)) : List (Int × Int) := offL hi es ++ ((nbL hi es).filter (fun w : Int => decide (w ≠ lo) && !adjB es lo w)).map (fun w => (min lo w, max lo w))
theorem fC_inj {hi : Nat} {lo x y : Int} (hx : x ≠ hi) (hy : y ≠ hi) (h : fC hi lo x = fC hi lo y) : x = y := by
  unfold fC at h
  split at h <;> split at h
  all_goals first | omega | (split at h <;> omega) | (split at h <;> split at h <;> omega)
theorem con_count {m lo hi : Nat} {es E : List (Int × Int)} (hR : RightG m es) (hlt : lo < hi) (hh : hi < m) (hadj : Adj es lo hi) (h : ConE m es lo hi E) : E.length + 1 + ((nbL (lo : Int) es).filter (fun w : Int => decide ((hi : Int) ∈ nbL w es))).length = es.length := by
  have hadjN : ∀ {x y : Int}, Adj es x y → (0 ≤ x ∧ x < m) ∧ (0 ≤ y ∧ y < m) ∧ x ≠ y := fun h => h.in hR
  have hnd := rises_nodup hR.2.2.2.2
  -- the edges under their new numbers
  have hpn : (conPre lo hi es).Nodup := by
    unfold conPre
    rw [List.nodup_append]
    refine ⟨hnd.filter _, ?_, fun a ha b hb e => ?_⟩
    · rw [List.nodup_iff_pairwise_ne, List.pairwise_map]
      refine ((nbL_nodup hR).filter _).imp (fun {x y} hxy e => hxy ?_)
      have e1 := congrArg Prod.fst e
      have e2 := congrArg Prod.snd e
      simp only at e1 e2
      omega
    · subst e
      obtain ⟨w, hw, rfl⟩ := List.mem_map.1 hb
      simp only [List.mem_filter, Bool.and_eq_true, decide_eq_true_eq, Bool.not_eq_true'] at hw
      obtain ⟨_, _, hw2⟩ := hw
      have hm := (mem_offL.1 ha).1
      have : adjB es lo w = true := by
        rw [adjB_iff]
        by_cases hlw : (lo : Int) ≤ w
        · rw [Int.min_eq_left hlw, Int.max_eq_right hlw] at hm; exact Or.inl hm
        · rw [Int.min_eq_right (by omega), Int.max_eq_left (by omega)] at hm; exact Or.inr hm
      rw [this] at hw2
      cases hw2
  have hpo : ∀ e ∈ conPre lo hi es, e.1 ≠ hi ∧ e.2 ≠ hi ∧ e.1 < e.2 ∧ MAdj es lo hi e.1 e.2 := fun e he => by
    unfold conPre at he
    rcases List.mem_append.1 he with he | he
    · obtain ⟨h1, h2, h3⟩ := mem_offL.1 he
      have := hR.2.2.2.1 e h1
      exact ⟨h2, h3, by omega, Or.inl (Or.inl h1)⟩
    · obtain ⟨w, hw, rfl⟩ := List.mem_map.1 he
      simp only [List.mem_filter, Bool.and_eq_true, decide_eq_true_eq, Bool.not_eq_true'] at hw
      obtain ⟨hw0, hw1, hw2⟩ := hw
      have ha := (nb_adj hR).1 hw0
      have hn := (hadjN ha).2.2
      refine ⟨by simp only; omega, by simp only; omega, by simp only; omega, ?_⟩
      by_cases hlw : (lo : Int) ≤ w
      · rw [Int.min_eq_left hlw, Int.max_eq_right hlw]; exact Or.inr (Or.inl ⟨rfl, hw1, ha⟩)
      · rw [Int.min_eq_right (by omega), Int.max_eq_left (by omega)]; exact Or.inr (Or.inr ⟨rfl, hw1, ha⟩)
  have hlen : E.length = (conPre lo hi es).length := by
    have hmn : ((conPre lo hi es).map (fun e => (fC hi lo e.1, fC hi lo e.2))).Nodup := by
      rw [List.nodup_iff_pairwise_ne, List.pairwise_map]
      refine hpn.imp_of_mem (fun {x y} hx hy hxy e => hxy ?_)
      have e1 := fC_inj (hpo x hx).1 (hpo y hy).1 (congrArg Prod.fst e)
      have e2 := fC_inj (hpo x hx).2.1 (hpo y hy).2.1 (congrArg Prod.snd e)
      exact Prod.ext e1 e2
    have hl2 : E.length = ((conPre lo hi es).map (fun e => (fC hi lo e.1, fC hi lo e.2))).length := by
     refine len_sameE (rises_nodup h.1) hmn (fun e => ?_)
     obtain ⟨x, y⟩ := e
     rw [h.2, List.mem_map]
     constructor
     · rintro ⟨i, j, rfl, rfl, hij, hj, hm⟩
       have hne : ∀ k : Nat, (upN hi k : Int) ≠ hi := fun k => by unfold upN; split <;> omega
       have hup : (upN hi i : Int) < upN hi j := by unfold upN; split <;> split <;> omega
       refine ⟨((upN hi i : Nat), (upN hi j : Nat)), ?_, by rw [Prod.mk.injEq]; exact ⟨fC_up, fC_up⟩⟩
       unfold conPre
       rw [List.mem_append]
       by_cases ha : Adj es (upN hi i : Nat) (upN hi j : Nat)
       · left
         rw [mem_offL]
         refine ⟨?_, hne i, hne j⟩
         rcases ha with ha | ha
         · exact ha
         · have := hR.2.2.2.1 _ ha
           simp only at this
           omega
       · right
         rw [List.mem_map]
         rcases hm with hm | ⟨e1, e2, hm⟩ | ⟨e1, e2, hm⟩
         · exact absurd hm ha
         · refine ⟨(upN hi j : Nat), ?_, by rw [← e1, Int.min_eq_left (by omega), Int.max_eq_right (by omega)]⟩
           simp only [List.mem_filter, Bool.and_eq_true, decide_eq_true_eq, Bool.not_eq_true']
           refine ⟨(nb_adj hR).2 hm, e2, ?_⟩
           rw [Bool.eq_false_iff, Ne, adjB_iff, ← e1]
           exact ha
         · refine ⟨(upN hi i : Nat), ?_, by rw [← e1, Int.min_eq_right (by omega), Int.max_eq_left (by omega)]⟩
           simp only [List.mem_filter, Bool.and_eq_true, decide_eq_true_eq, Bool.not_eq_true']
           refine ⟨(nb_adj hR).2 hm, e2, ?_⟩
           rw [Bool.eq_false_iff, Ne, adjB_iff, ← e1]
           exact fun k => ha k.symm
     · rintro ⟨⟨p, q⟩, he, e⟩
       obtain ⟨h1, h2, h3, h4⟩ := hpo _ he
       simp only at h1 h2 h3 h4
       have e1 : fC hi lo p = x := congrArg Prod.fst e
       have e2 : fC hi lo q = y := congrArg Prod.snd e
       have hr : (0 ≤ p ∧ p < m) ∧ (0 ≤ q ∧ q < m) := by
         rcases h4 with h4 | ⟨e3, _, h4⟩ | ⟨e3, _, h4⟩
         · exact ⟨(hadjN h4).1, (hadjN h4).2.1⟩
         · exact ⟨by omega, (hadjN h4).2.1⟩
         · exact ⟨(hadjN h4).2.1, by omega⟩
       have hfp : 0 ≤ fC hi lo p ∧ (fC hi lo p = p ∧ p < hi ∨ fC hi lo p = p - 1 ∧ hi < p) := by unfold fC; split <;> first | omega | (split <;> omega)
       have hfq : 0 ≤ fC hi lo q ∧ (fC hi lo q = q ∧ q < hi ∨ fC hi lo q = q - 1 ∧ hi < q) := by unfold fC; split <;> first | omega | (split <;> omega)
       have u1 : (upN hi (fC hi lo p).toNat : Int) = p := by unfold upN; split <;> omega
       have u2 : (upN hi (fC hi lo q).toNat : Int) = q := by unfold upN; split <;> omega
       refine ⟨(fC hi lo p).toNat, (fC hi lo q).toNat, by omega, by omega, by omega, by omega, ?_⟩
       rw [u1, u2]; exact h4
    rw [hl2, List.length_map]
  -- who is counted
  have hoff := off_len hi es
  have hone : ((nbL (hi : Int) es).filter (fun w : Int => !(decide (w ≠ (lo : Int)) && !adjB es lo w))).length = 1 + ((nbL (lo : Int) es).filter (fun w : Int => decide ((hi : Int) ∈ nbL w es))).length := by
    rw [Nat.add_comm, ← List.length_cons (a := (lo : Int))]
    refine len_same ((nbL_nodup hR).filter _) ?_ (fun x => ?_)
    · rw [List.nodup_cons]
      refine ⟨fun hm => ?_, (nbL_nodup hR).filter _⟩
      have := (nb_adj hR).1 (List.mem_filter.1 hm).1
      exact (hadjN this).2.2 rfl
    · rw [List.mem_cons, List.mem_filter, List.mem_filter, nb_adj hR, nb_adj hR]
      simp only [Bool.not_eq_true', Bool.and_eq_false_iff, decide_eq_false_iff_not, Bool.not_eq_false', adjB_iff, decide_eq_true_eq, nb_adj hR, Decidable.not_not, ne_eq]
      constructor
      · rintro ⟨h1, h2 | h2⟩
        · exact Or.inl h2
        · exact Or.inr ⟨h2, h1.symm⟩
      · rintro (rfl | ⟨h1, h2⟩)
        · exact ⟨hadj.symm, Or.inl rfl⟩
        · exact ⟨h2.symm, Or.inr h1⟩
  have hsplit : ∀ (p : Int → Bool) (l : List Int), (l.filter p).length + (l.filter (fun w => !p w)).length = l.length := fun p l => by
    induction l with
    | nil => rfl
    | cons a l ih =>
      rw [List.filter_cons, List.filter_cons]
      cases p a <;> simp <;> omega
  have h9 := hsplit (fun w : Int => decide (w ≠ (lo : Int)) && !adjB es lo w) (nbL hi es)
  rw [hlen]
  unfold conPre
  rw [List.length_append, List.length_map]
  omega
end Go.Proofs.Ytagigeieoijciaa
namespace Go.Proofs.Ytagigeieoijciaa

/-- The edges under new numbers, in order. -/
def Img (es : List (Int × Int)) (f : Int → Int) (E : List (Int × Int)) : Prop := Rises E ∧ ∀ a b : Int, (a, b) ∈ E ↔ a < b ∧ ∃ x y, Adj es x y ∧ f x = a ∧ f y = b
theorem Img.one {es E E' : List (Int × Int)} {f g : Int → Int} (h : Img es f E) (k : Img es g E') (e : ∀ x y, Adj es x y → f x = g x) : E = E' := rises_one h.1 k.1 (fun z => by
  obtain ⟨a, b⟩ := z
  rw [h.2, k.2]
  constructor
  · rintro ⟨h0, x, y, h1, h2, h3⟩; exact ⟨h0, x, y, h1, by rw [← e x y h1]; exact h2, by rw [← e y x h1.symm]; exact h3⟩
  · rintro ⟨h0, x, y, h1, h2, h3⟩; exact ⟨h0, x, y, h1, by rw [e x y h1]; exact h2, by rw [e y x h1.symm]; exact h3⟩)
theorem Img.adj {es E : List (Int × Int)} {f : Int → Int} (h : Img es f E) {a b : Int} : Adj E a b ↔ a ≠ b ∧ ∃ x y, Adj es x y ∧ f x = a ∧ f y = b := by
  unfold Adj
  rw [h.2, h.2]
  constructor
  · rintro (⟨h0, x, y, h1, h2, h3⟩ | ⟨h0, x, y, h1, h2, h3⟩)
    · exact ⟨by omega, x, y, h1, h2, h3⟩
    · exact ⟨by omega, y, x, Adj.symm h1, h3, h2⟩
  · rintro ⟨h0, x, y, h1, h2, h3⟩
    by_cases e : a < b
    · exact Or.inl ⟨e, x, y, h1, h2, h3⟩
    · exact Or.inr ⟨by omega, y, x, Adj.symm h1, h3, h2⟩
theorem con_right {m lo hi : Nat} {es E : List (Int × Int)} (hR : RightG m es) (hlt : lo < hi) (hh : hi < m) (hadj : Adj es lo hi) (h : ConE m es lo hi E) : RightG ((m - 1 : Nat) : Int) E :=
  ⟨by omega, by have := hR.2.1; omega, by have h1 := con_count hR hlt hh hadj h; have h2 := hR.2.2.1; omega, fun e he => by
    obtain ⟨a, b⟩ := e
    obtain ⟨i, j, rfl, rfl, h1, h2, _⟩ := (h.2 a b).1 he
    simp only
    omega, h.1⟩
end Go.Proofs.Ytagigeieoijciaa
namespace Go.Proofs.Ytagigeieoijciaa

/-- A row that names all numbers below k once. -/
def Perm0 (k : Nat) (P : List Int) : Prop := P.length = k ∧ P.Nodup ∧ InL k P
theorem Perm0.zero : Perm0 0 [] := ⟨rfl, List.nodup_nil, fun x hx => by cases hx⟩
theorem Perm0.put {k : Nat} {P : List Int} (h : Perm0 k P) {t : Nat} (ht : t ≤ k) : Perm0 (k + 1) (P.take t ++ [(k : Int)] ++ P.drop t) := by
  obtain ⟨hl, hn, hi⟩ := h
  have hmem : ∀ x, x ∈ P.take t ++ [(k : Int)] ++ P.drop t ↔ x ∈ P ∨ x = k := fun x => by
    rw [List.append_assoc, List.mem_append, List.mem_append]
    have e : x ∈ P ↔ x ∈ P.take t ∨ x ∈ P.drop t := by
      rw [← List.mem_append, List.take_append_drop]
    rw [e]
    simp only [List.mem_singleton]
    constructor
    · rintro (h | h | h)
      · exact Or.inl (Or.inl h)
      · exact Or.inr h
      · exact Or.inl (Or.inr h)
    · rintro ((h | h) | h)
      · exact Or.inl h
      · exact Or.inr (Or.inr h)
      · exact Or.inr (Or.inl h)
  have hk : (k : Int) ∉ P := fun hm => by have := hi _ hm; omega
  refine ⟨?_, ?_, fun x hx => ?_⟩
  · simp only [List.length_append, List.length_take, List.length_drop, List.length_singleton]
    omega
  · have h2 : (P.take t ++ P.drop t).Nodup := by rw [List.take_append_drop]; exact hn
    rw [List.nodup_append] at h2
    rw [List.append_assoc, List.nodup_append]
    refine ⟨h2.1, ?_, fun a ha b hb => ?_⟩
    · rw [List.singleton_append, List.nodup_cons]
      exact ⟨fun hm => hk (List.mem_of_mem_drop hm), h2.2.1⟩
    · rw [List.singleton_append, List.mem_cons] at hb
      rcases hb with rfl | hb
      · intro e; subst e; exact hk (List.mem_of_mem_take ha)
      · exact h2.2.2 a ha b hb
  · rcases (hmem x).1 hx with h | rfl
    · have := hi x h; omega
    · omega
theorem Perm0.all {m : Nat} {P : List Int} (h : Perm0 m P) {v : Nat} (hv : v < m) : ∃ (i : Nat) (hi : i < P.length), P[i] = (v : Int) := by
  have hm : (v : Int) ∈ P := by
    apply Classical.byContradiction
    intro hn
    -- all but v would have to hold m places
    have h1 := len_le_subI (a := (v : Int) :: P) (b := (List.range m).map (fun i : Nat => (i : Int))) (List.nodup_cons.2 ⟨hn, h.2.1⟩) (fun x hx => by
      rcases List.mem_cons.1 hx with rfl | hx
      · exact List.mem_map.2 ⟨v, by simpa using hv, rfl⟩
      · have := h.2.2 x hx
        exact List.mem_map.2 ⟨x.toNat, by simp; omega, by omega⟩)
    have h2 := h.1
    simp at h1
    omega
  obtain ⟨i, hi, e⟩ := List.mem_iff_getElem.1 hm
  exact ⟨i, hi, e⟩
/-- Where each one stands, as far as told. -/
def BackOK (P : List Int) (k : Nat) (F : Nat → Int) : Prop := ∀ i (hi : i < P.length), i < k → F (P[i]).toNat = i
theorem BackOK.zero (P : List Int) (F : Nat → Int) : BackOK P 0 F := fun i _ h => by omega
theorem BackOK.next {m k : Nat} {P : List Int} {F : Nat → Int} (hP : Perm0 m P) (h : BackOK P k F) (hk : k < P.length) {x : Nat} (hx : P[k] = (x : Int)) : BackOK P (k + 1) (fun j => if j = x then (k : Int) else F j) := fun i hi hik => by
  show (if (P[i]).toNat = x then (k : Int) else F (P[i]).toNat) = i
  have hin := hP.2.2 _ (List.getElem_mem hi)
  by_cases e : i = k
  · subst e; rw [if_pos (by omega)]
  · rw [if_neg (fun e2 => e (nodup_inj hP.2.1 hi hk (by omega)))]
    exact h i hi (by omega)
/-- The row of the places. -/
def backL (m : Nat) (F : Nat → Int) : List Int := (List.range m).map F
theorem backL_len (m : Nat) (F : Nat → Int) : (backL m F).length = m := by simp [backL]
theorem back_at {m : Nat} {P : List Int} {F : Nat → Int} (hP : Perm0 m P) (h : BackOK P m F) {v : Nat} (hv : v < m) : ∃ (i : Nat) (hi : i < P.length), P[i] = (v : Int) ∧ F v = i := by
  obtain ⟨i, hi, e⟩ := hP.all hv
  exact ⟨i, hi, e, by have := h i hi (by have := hP.1; omega); rw [e] at this; simpa using this⟩
theorem back_in {m : Nat} {P : List Int} {F : Nat → Int} (hP : Perm0 m P) (h : BackOK P m F) : InL m (backL m F) := fun x hx => by
  obtain ⟨v, hv, rfl⟩ := List.mem_map.1 hx
  obtain ⟨i, hi, _, e⟩ := back_at hP h (by simpa using hv)
  have := hP.1
  omega
theorem back_nodup {m : Nat} {P : List Int} {F : Nat → Int} (hP : Perm0 m P) (h : BackOK P m F) : (backL m F).Nodup := by
  unfold backL
  rw [List.nodup_iff_pairwise_ne, List.pairwise_map]
  refine List.nodup_range.imp_of_mem (fun {x y} hx hy hne e => hne ?_)
  obtain ⟨i, hi, e1, e2⟩ := back_at hP h (by simpa using hx)
  obtain ⟨j, hj, e3, e4⟩ := back_at hP h (by simpa using hy)
  have : i = j := by omega
  subst this
  omega
theorem back_map {m : Nat} {P : List Int} {F : Nat → Int} (hP : Perm0 m P) (h : BackOK P m F) : (backL m F).map (fun x => P.getD x.toNat 0) = (List.range m).map (fun i : Nat => (i : Int)) := by
  unfold backL
  rw [List.map_map]
  refine List.map_congr_left (fun v hv => ?_)
  obtain ⟨i, hi, e1, e2⟩ := back_at hP h (by simpa using hv)
  show P.getD (F v).toNat 0 = (v : Int)
  rw [e2, Int.toNat_natCast, List.getD, List.getElem?_eq_getElem hi, Option.getD_some, e1]
theorem back_same {m : Nat} {P : List Int} {F : Nat → Int} {es E E2 : List (Int × Int)} (hR : RightG m es) (hP : Perm0 m P) (h : BackOK P m F) (h1 : IndE es P E) (h2 : IndE E (backL m F) E2) : E2 = es := by
  have h3 := ind_ind h1 h2 (by rw [hP.1]; exact back_in hP h) (back_nodup hP h)
  rw [back_map hP h] at h3
  exact h3.one (ind_id hR)
theorem order_len {m : Nat} {P : List Int} {F : Nat → Int} {es E E2 : List (Int × Int)} (hR : RightG m es) (hP : Perm0 m P) (h : BackOK P m F) (h1 : IndE es P E) (h2 : IndE E (backL m F) E2) : E.length = es.length := by
  have e := back_same hR hP h h1 h2
  have l1 := h1.len hP.2.1
  have l2 := h2.len (back_nodup hP h)
  rw [e] at l2
  omega
/-- There is a graph that some vertices induce. -/
theorem ind_ex (es : List (Int × Int)) (l : List Int) : ∃ E, IndE es l E := ⟨_, indTo_all es l (j := 0) (by omega)⟩
theorem order_len' {m : Nat} {P : List Int} {F : Nat → Int} {es E : List (Int × Int)} (hR : RightG m es) (hP : Perm0 m P) (h : BackOK P m F) (h1 : IndE es P E) : E.length = es.length := by
  obtain ⟨E2, h2⟩ := ind_ex E (backL m F)
  exact order_len hR hP h h1 h2
end Go.Proofs.Ytagigeieoijciaa
