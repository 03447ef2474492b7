/-
  Rows of edges: in which order they stand, what a graph that may be is, which edges were told. No program is named here.
-/
import Derived.Test.YtalhjankofdhgaaRows
namespace Go.Proofs.Ytalhjankofdhgaa

/-- One edge stands ahead of another one. -/
def ltE (x y : Int × Int) : Bool := decide (x.1 < y.1 ∨ (x.1 = y.1 ∧ x.2 < y.2))
theorem ltE_iff (x y : Int × Int) : ltE x y = true ↔ (x.1 < y.1 ∨ (x.1 = y.1 ∧ x.2 < y.2)) := by unfold ltE; rw [decide_eq_true_eq]
theorem ltE_no (x y : Int × Int) : ltE x y = false ↔ ¬ (x.1 < y.1 ∨ (x.1 = y.1 ∧ x.2 < y.2)) := by unfold ltE; rw [decide_eq_false_iff_not]
theorem ltE_irrefl (x : Int × Int) : ltE x x = false := by rw [ltE_no]; omega
theorem ltE_trans {x y z : Int × Int} (h : ltE x y = true) (h' : ltE y z = true) : ltE x z = true := by rw [ltE_iff] at *; omega
theorem ltE_asymm {x y : Int × Int} (h : ltE x y = true) : ltE y x = false := by rw [ltE_iff] at h; rw [ltE_no]; omega
theorem ltE_tri (x y : Int × Int) (h : ltE x y = false) (h' : ltE y x = false) : x = y := by
  rw [ltE_no] at h h'
  exact Prod.ext (by omega) (by omega)
theorem ltE_ntrans {x y z : Int × Int} (h : ltE x y = false) (h' : ltE y z = false) : ltE x z = false := by rw [ltE_no] at *; omega

def Rises (es : List (Int × Int)) : Prop := es.Pairwise (fun x y => ltE x y = true)
theorem rises_nil : Rises [] := List.Pairwise.nil
theorem rises_cons {x : Int × Int} {es : List (Int × Int)} : Rises (x :: es) ↔ (∀ y ∈ es, ltE x y = true) ∧ Rises es := List.pairwise_cons

/-- Rising rows that have the same edges are the same. -/
theorem rises_one : ∀ {a b : List (Int × Int)}, Rises a → Rises b → (∀ e, e ∈ a ↔ e ∈ b) → a = b
  | [], [], _, _, _ => rfl
  | [], y :: b, _, _, h => by have := (h y).2 (by simp); simp at this
  | x :: a, [], _, _, h => by have := (h x).1 (by simp); simp at this
  | x :: a, y :: b, ha, hb, h => by
    rw [rises_cons] at ha hb
    have hxy : x = y := by
      have h1 := (h x).1 (by simp)
      have h2 := (h y).2 (by simp)
      rcases List.mem_cons.1 h1 with e | h1
      · exact e
      rcases List.mem_cons.1 h2 with e | h2
      · exact e.symm
      have l1 := hb.1 x h1
      have l2 := ha.1 y h2
      rw [ltE_asymm l1] at l2
      exact absurd l2 (by simp)
    subst hxy
    congr 1
    refine rises_one ha.2 hb.2 (fun e => ⟨fun he => ?_, fun he => ?_⟩)
    · rcases List.mem_cons.1 ((h e).1 (by simp [he])) with e1 | h1
      · subst e1; have := ha.1 e he; rw [ltE_irrefl] at this; simp at this
      · exact h1
    · rcases List.mem_cons.1 ((h e).2 (by simp [he])) with e1 | h1
      · subst e1; have := hb.1 e he; rw [ltE_irrefl] at this; simp at this
      · exact h1

theorem rises_of_chain : ∀ (es : List (Int × Int)), (∀ i (h : i + 1 < es.length), ltE (es[i]'(by omega)) es[i + 1] = true) → Rises es
  | [], _ => rises_nil
  | [x], _ => by unfold Rises; simp
  | x :: y :: es, h => by
    have hr : Rises (y :: es) := rises_of_chain (y :: es) (fun i hi => h (i + 1) (by simpa using hi))
    have h0 := h 0 (by simp)
    simp only [List.getElem_cons_zero, List.getElem_cons_succ, Nat.zero_add] at h0
    refine rises_cons.2 ⟨fun z hz => ?_, hr⟩
    rcases List.mem_cons.1 hz with rfl | hz
    · exact h0
    · exact ltE_trans h0 ((rises_cons.1 hr).1 z hz)
theorem rises_at {es : List (Int × Int)} (h : Rises es) {i j : Nat} (hij : i < j) (hj : j < es.length) : ltE (es[i]'(by omega)) es[j] = true :=
  List.pairwise_iff_getElem.1 h i j (by omega) hj hij

/-- A graph that may be. -/
def RightG (n : Int) (es : List (Int × Int)) : Prop := 0 ≤ n ∧ n ≤ 1000 ∧ es.length ≤ 4000 ∧ (∀ e ∈ es, 0 ≤ e.1 ∧ e.1 < e.2 ∧ e.2 < n) ∧ Rises es
/-- The same, place by place. -/
def OkAt (n : Int) (es : List (Int × Int)) (i : Nat) : Prop := ∀ h : i < es.length, (0 ≤ es[i].1 ∧ es[i].1 < es[i].2 ∧ es[i].2 < n) ∧ (0 < i → ltE (es[i - 1]'(by omega)) es[i] = true)
theorem right_of {n : Int} {es : List (Int × Int)} (h0 : 0 ≤ n) (h1 : n ≤ 1000) (h2 : es.length ≤ 4000) (h : ∀ i, i < es.length → OkAt n es i) : RightG n es := by
  refine ⟨h0, h1, h2, fun e he => ?_, rises_of_chain es (fun i hi => ?_)⟩
  · obtain ⟨i, hi, rfl⟩ := List.getElem_of_mem he
    exact (h i hi hi).1
  · exact (h (i + 1) hi hi).2 (by omega)
theorem RightG.at {n : Int} {es : List (Int × Int)} (h : RightG n es) (i : Nat) : OkAt n es i := fun hi =>
  ⟨h.2.2.2.1 _ (List.getElem_mem _), fun h0 => rises_at h.2.2.2.2 (by omega) hi⟩

/-- The edges that were told, the lesser end first; a vertex beside itself is passed over. -/
def prs (l : List (Int × Int)) : List (Int × Int) := (l.filter (fun e => !(e.1 == e.2))).map (fun e => (min e.1 e.2, max e.1 e.2))
theorem prs_nil : prs [] = [] := rfl
theorem prs_snoc (l : List (Int × Int)) (e : Int × Int) : prs (l ++ [e]) = prs l ++ prs [e] := by unfold prs; rw [List.filter_append, List.map_append]
theorem prs_append (l k : List (Int × Int)) : prs (l ++ k) = prs l ++ prs k := by unfold prs; rw [List.filter_append, List.map_append]
theorem prs_same {e : Int × Int} (h : e.1 = e.2) : prs [e] = [] := by unfold prs; simp [h]
theorem prs_one {e : Int × Int} (h : e.1 ≠ e.2) : prs [e] = [(min e.1 e.2, max e.1 e.2)] := by unfold prs; simp [h]
theorem mem_prs {l : List (Int × Int)} {x : Int × Int} : x ∈ prs l ↔ ∃ e ∈ l, e.1 ≠ e.2 ∧ x = (min e.1 e.2, max e.1 e.2) := by
  unfold prs
  simp only [List.mem_map, List.mem_filter]
  constructor
  · rintro ⟨e, ⟨h1, h2⟩, rfl⟩; exact ⟨e, h1, by simpa using h2, rfl⟩
  · rintro ⟨e, h1, h2, rfl⟩; exact ⟨e, ⟨h1, by simpa using h2⟩, rfl⟩
theorem prs_len (l : List (Int × Int)) : (prs l).length ≤ l.length := by unfold prs; rw [List.length_map]; exact List.length_filter_le _ _

def AllIn (n : Int) (l : List (Int × Int)) : Prop := ∀ e ∈ l, (0 ≤ e.1 ∧ e.1 < n) ∧ (0 ≤ e.2 ∧ e.2 < n)
/-- The edges, in order, each once. -/
def IsNorm (l es : List (Int × Int)) : Prop := Rises es ∧ ∀ e, e ∈ es ↔ e ∈ prs l
theorem IsNorm.one {l a b : List (Int × Int)} (h : IsNorm l a) (h' : IsNorm l b) : a = b := rises_one h.1 h'.1 (fun e => (h.2 e).trans (h'.2 e).symm)
theorem IsNorm.right {n : Int} {l es : List (Int × Int)} (h : IsNorm l es) (hl : AllIn n l) (h0 : 0 ≤ n) (h1 : n ≤ 1000) (h2 : es.length ≤ 4000) : RightG n es := by
  refine ⟨h0, h1, h2, fun e he => ?_, h.1⟩
  obtain ⟨x, hx, hne, rfl⟩ := mem_prs.1 ((h.2 e).1 he)
  have := hl x hx
  simp only
  omega
theorem rises_nodup {es : List (Int × Int)} (h : Rises es) : es.Nodup := by
  refine List.Pairwise.imp ?_ h
  intro a b hab e
  subst e
  rw [ltE_irrefl] at hab
  simp at hab
/-- What is right stays as it is. -/
theorem prs_right {n : Int} {es : List (Int × Int)} (h : RightG n es) : prs es = es := by
  unfold prs
  have h1 : es.filter (fun e => !(e.1 == e.2)) = es := by
    rw [List.filter_eq_self]
    intro e he
    have := h.2.2.2.1 e he
    simp; omega
  rw [h1]
  have : es.map (fun e => (min e.1 e.2, max e.1 e.2)) = es.map id := by
    refine List.map_congr_left (fun e he => ?_)
    have := h.2.2.2.1 e he
    exact Prod.ext (by simp; omega) (by simp; omega)
  rw [this, List.map_id]
theorem norm_right {n : Int} {es : List (Int × Int)} (h : RightG n es) : IsNorm es es := ⟨h.2.2.2.2, fun e => by rw [prs_right h]⟩
theorem len_le_of_sub {a b : List (Int × Int)} (h : a.Nodup) (hs : ∀ e ∈ a, e ∈ b) : a.length ≤ b.length := by
  induction a generalizing b with
  | nil => simp
  | cons x a ih =>
    have hx := hs x (by simp)
    have hnd := List.nodup_cons.1 h
    have := ih (b := b.erase x) hnd.2 (fun e he => by
      refine (List.mem_erase_of_ne ?_).2 (hs e (by simp [he]))
      rintro rfl
      exact hnd.1 he)
    rw [List.length_erase_of_mem hx] at this
    have : 0 < b.length := List.length_pos_of_mem hx
    simp; omega
theorem IsNorm.len {l es : List (Int × Int)} (h : IsNorm l es) : es.length ≤ l.length :=
  Nat.le_trans (len_le_of_sub (rises_nodup h.1) (fun e he => (h.2 e).1 he)) (prs_len l)

end Go.Proofs.Ytalhjankofdhgaa
