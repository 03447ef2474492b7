/-
  Plain facts on the tokens of a row of runes: what stands ahead of it or behind it; where tokens stand. No program is named here.
-/
import Derived.Test.YtfklgicmhbkoiaaDoorLexD
namespace Go.Proofs.YtfklgicmhbkoiaaDoor
open Go.RowKit Go.Lib

theorem more_append (r : Nat) (a b : List Nat) : more r (a ++ b) = if (more r a).length = a.length then a ++ more r b else more r a := by
  unfold more
  exact List.takeWhile_append
theorem more_full {r : Nat} {a : List Nat} (h : (more r a).length = a.length) : more r a = a := by
  have := more_take r a
  rw [h, List.take_length] at this
  exact this
theorem flat_split (r : Nat) (rs : List Nat) : (flat (r :: rs)).length = (flat (r :: more r rs)).length + (flat (rs.drop (more r rs).length)).length := by
  rw [flat_cons, flat_cons, List.length_append, List.length_append]
  have e : flat rs = flat (more r rs) ++ flat (rs.drop (more r rs).length) := by
    rw [← flat_append]
    conv => lhs; rw [← List.take_append_drop (more r rs).length rs]
    rw [← more_take]
  rw [e, List.length_append]
  omega

theorem goes_word {r : Nat} (h : r ≠ 35) {k : Int} (hg : goes r k = true) : k = 3 ∨ k = 4 := by
  unfold goes at hg
  rw [if_neg h] at hg
  split at hg
  · rename_i h34
    simp at hg
    rcases hg with hg | hg
    · exact Or.inl hg
    · rcases h34 with h3 | h4
      · exact Or.inl (hg.trans h3)
      · exact Or.inr (hg.trans h4)
  · simp at hg
theorem goes_line (r : Nat) : goes r 2 = false := by
  by_cases h : r = 35
  · subst h; rfl
  · cases hg : goes r 2 with
    | false => rfl
    | true => rcases goes_word h hg with h | h <;> omega
theorem kin_line : kin (10 : Nat) = 2 := by decide
theorem kin_hash : kin (35 : Nat) = 5 := by decide
theorem more_line (r : Nat) (b : List Nat) : more r (10 :: b) = [] := by
  unfold more
  rw [List.takeWhile_cons, if_neg]
  rw [kin_line, goes_line]
  simp
theorem more_lines (r : Nat) (a b : List Nat) : more r (a ++ 10 :: b) = more r a := by
  rw [more_append, more_line, List.append_nil]
  split
  · rename_i h; rw [more_full h]
  · rfl

/-- Two rows of runes, parted by the end of a line. -/
theorem LexT.lines {p : Nat} {a b : List Nat} {ts ts' : List Tk} {e e' : Nat × Nat} (h : LexT p a ts e) (he : e = (0, 0)) (h' : LexT (p + (flat a).length) (10 :: b) ts' e') : LexT p (a ++ 10 :: b) (ts ++ ts') e' := by
  induction h using LexT.ind with
  | nil p => simpa [flat] using h'
  | skip p r rs ts e h1 _ ih =>
    have := ih he (by rw [flat_split, ← Nat.add_assoc] at h'; exact h')
    rw [List.cons_append]
    refine LexT.skip p r _ _ _ h1 ?_
    rw [more_lines, List.drop_append_of_le_length (more_le r rs)]
    exact this
  | tok p r rs ts e t h1 h2 _ ih =>
    have := ih he (by rw [flat_split, ← Nat.add_assoc] at h'; exact h')
    rw [List.cons_append, List.cons_append]
    have ht := LexT.tok p r (rs ++ 10 :: b) (ts ++ ts') e' t h1 (by rw [more_lines]; exact h2) (by rw [more_lines, List.drop_append_of_le_length (more_le r rs)]; exact this)
    exact ht
  | bad p r rs t c h1 h2 h3 =>
    simp only [Prod.mk.injEq] at he
    exact absurd he.2 h3

/-- What may stand behind a text and changes nothing. -/
def Tail (sf : List Nat) : Prop := (∀ x ∈ sf, kin x ≠ 2) ∧ (∀ x t, sf = x :: t → kin x ≠ 3 ∧ kin x ≠ 4) ∧ ∀ q, LexT q sf [] (0, 0)
theorem Tail.word {sf : List Nat} (h : Tail sf) {r : Nat} (hr : r ≠ 35) : more r sf = [] := by
  cases sf with
  | nil => rfl
  | cons x t =>
    unfold more
    rw [List.takeWhile_cons, if_neg]
    intro hg
    have := h.2.1 x t rfl
    rcases goes_word hr hg with h3 | h3
    · exact this.1 h3
    · exact this.2 h3
theorem Tail.hash {sf : List Nat} (h : Tail sf) : more 35 sf = sf := by
  unfold more
  have hg : ∀ x ∈ sf, goes 35 (kin x) = true := by
    intro x hx
    have := h.1 x hx
    unfold goes
    rw [if_pos rfl]
    simpa using this
  clear h
  induction sf with
  | nil => rfl
  | cons x t ih =>
    rw [List.takeWhile_cons, if_pos (hg x (by simp)), ih (fun y hy => hg y (by simp [hy]))]
theorem LexT.tail {p : Nat} {a sf : List Nat} {ts : List Tk} {e : Nat × Nat} (hs : Tail sf) (h : LexT p a ts e) : LexT p (a ++ sf) ts e := by
  induction h using LexT.ind with
  | nil p => exact hs.2.2 p
  | skip p r rs ts e h1 h2 ih =>
    rw [List.cons_append]
    refine LexT.skip p r _ _ _ h1 ?_
    by_cases hf : (more r rs).length = rs.length
    · by_cases hr : r = 35
      · subst hr
        have e1 : more 35 (rs ++ sf) = rs ++ sf := by rw [more_append, if_pos hf, hs.hash]
        rw [e1, List.drop_length]
        rw [hf, List.drop_length] at h2
        obtain ⟨rfl, rfl⟩ := h2.none
        exact LexT.nil _
      · have e1 : more r (rs ++ sf) = more r rs := by rw [more_append, if_pos hf, hs.word hr, List.append_nil, more_full hf]
        rw [e1, List.drop_append_of_le_length (more_le r rs)]
        exact ih
    · have e1 : more r (rs ++ sf) = more r rs := by rw [more_append, if_neg hf]
      rw [e1, List.drop_append_of_le_length (more_le r rs)]
      exact ih
  | tok p r rs ts e t h1 h2 _ ih =>
    have hr : r ≠ 35 := by intro hr; rw [hr] at h1; cases h1
    have e1 : more r (rs ++ sf) = more r rs := by
      rw [more_append, hs.word hr, List.append_nil]
      split
      · rename_i hf; rw [more_full hf]
      · rfl
    exact LexT.tok p r (rs ++ sf) ts e t h1 (by rw [e1]; exact h2) (by rw [e1, List.drop_append_of_le_length (more_le r rs)]; exact ih)
  | bad p r rs t c h1 h2 h3 =>
    have hr : r ≠ 35 := by intro hr; rw [hr] at h1; cases h1
    have e1 : more r (rs ++ sf) = more r rs := by
      rw [more_append, hs.word hr, List.append_nil]
      split
      · rename_i hf; rw [more_full hf]
      · rfl
    exact LexT.bad p r (rs ++ sf) t c h1 (by rw [e1]; exact h2) h3

theorem blank_more {r : Nat} (h : r = 32 ∨ r = 9) (rs : List Nat) : more r rs = [] := by
  have hg : ∀ k, goes r k = false := by
    intro k
    rcases h with rfl | rfl
    · unfold goes; rw [if_neg (by decide), if_neg (by decide)]
    · unfold goes; rw [if_neg (by decide), if_neg (by decide)]
  unfold more
  cases rs with
  | nil => rfl
  | cons x t => rw [List.takeWhile_cons, if_neg]; rw [hg]; simp
theorem blank_passed {r : Nat} (h : r = 32 ∨ r = 9) : passed r = true := by
  rcases h with rfl | rfl <;> decide
theorem blank_flat {r : Nat} (h : r = 32 ∨ r = 9) : (flat [r]).length = 1 := by
  rcases h with rfl | rfl
  · simp [flat, enc1]
  · simp [flat, enc1]
theorem LexT.head {rs : List Nat} {ts : List Tk} {e : Nat × Nat} : ∀ (bl : List Nat) (p : Nat), (∀ x ∈ bl, x = 32 ∨ x = 9) → LexT (p + bl.length) rs ts e → LexT p (bl ++ rs) ts e
  | [], p, _, h => by simpa using h
  | x :: bl, p, hb, h => by
    have hx := hb x (by simp)
    rw [List.cons_append]
    refine LexT.skip p x _ _ _ (blank_passed hx) ?_
    rw [blank_more hx, List.length_nil, List.drop_zero, blank_flat hx]
    refine LexT.head bl (p + 1) (fun y hy => hb y (by simp [hy])) ?_
    rw [List.length_cons] at h
    rw [Nat.add_assoc, Nat.add_comm 1]
    exact h
theorem blank_tail {bl : List Nat} (hb : ∀ x ∈ bl, x = 32 ∨ x = 9) : Tail bl := by
  refine ⟨fun x hx => ?_, fun x t hx => ?_, fun q => ?_⟩
  · rcases hb x hx with rfl | rfl <;> decide
  · rcases hb x (by rw [hx]; simp) with rfl | rfl <;> decide
  · have := LexT.head bl q hb (LexT.nil _)
    rwa [List.append_nil] at this

def shiftT (d : Nat) (t : Tk) : Tk := { t with pos := t.pos + d }
def shiftE (d : Nat) (e : Nat × Nat) : Nat × Nat := if e.2 = 0 then e else (e.1 + d, e.2)
theorem tokOf_shift {r p : Nat} (d : Nat) {tx : List UInt8} {t : Tk} {c : Nat} (h : tokOf r p tx = (t, c)) : ∃ t', tokOf r (p + d) tx = (t', c) ∧ (c = 0 → t' = shiftT d t) := by
  unfold tokOf at h ⊢
  by_cases k2 : kin r = 2
  · rw [if_pos k2] at h ⊢; cases h; exact ⟨_, rfl, fun _ => rfl⟩
  rw [if_neg k2] at h ⊢
  by_cases k3 : kin r = 3
  · rw [if_pos k3] at h ⊢
    by_cases h9 : 9 < tx.length
    · rw [if_pos h9] at h ⊢; cases h; exact ⟨_, rfl, fun h => by cases h⟩
    · rw [if_neg h9] at h ⊢; cases h; exact ⟨_, rfl, fun _ => rfl⟩
  rw [if_neg k3] at h ⊢
  by_cases k4 : kin r = 4
  · rw [if_pos k4] at h ⊢
    by_cases h9 : 32 < tx.length
    · rw [if_pos h9] at h ⊢; cases h; exact ⟨_, rfl, fun h => by cases h⟩
    · rw [if_neg h9] at h ⊢; cases h; exact ⟨_, rfl, fun _ => rfl⟩
  rw [if_neg k4] at h ⊢
  by_cases k5 : kin r = 5
  · rw [if_pos k5] at h ⊢; cases h; exact ⟨_, rfl, fun _ => rfl⟩
  · rw [if_neg k5] at h ⊢; cases h; exact ⟨_, rfl, fun h => by cases h⟩
theorem LexT.shift (d : Nat) {p : Nat} {rs : List Nat} {ts : List Tk} {e : Nat × Nat} (h : LexT p rs ts e) : LexT (p + d) rs (ts.map (shiftT d)) (shiftE d e) := by
  induction h using LexT.ind with
  | nil p => exact LexT.nil _
  | skip p r rs ts e h1 _ ih =>
    refine LexT.skip _ r _ _ _ h1 ?_
    rw [Nat.add_right_comm]
    exact ih
  | tok p r rs ts e t h1 h2 _ ih =>
    obtain ⟨t', a1, a2⟩ := tokOf_shift d h2
    rw [List.map_cons, ← a2 rfl]
    refine LexT.tok _ r _ _ _ t' h1 a1 ?_
    rw [Nat.add_right_comm]
    exact ih
  | bad p r rs t c h1 h2 h3 =>
    obtain ⟨t', a1, _⟩ := tokOf_shift d h2
    have : shiftE d (p, c) = (p + d, c) := by unfold shiftE; rw [if_neg h3]
    rw [this]
    exact LexT.bad _ r rs t' c h1 a1 h3
theorem LexT.zero {p : Nat} {rs : List Nat} {ts : List Tk} {e : Nat × Nat} (h : LexT p rs ts e) (he : e.2 = 0) : e = (0, 0) := by
  induction h using LexT.ind with
  | nil p => rfl
  | skip _ _ _ _ _ _ _ ih => exact ih he
  | tok _ _ _ _ _ _ _ _ _ ih => exact ih he
  | bad p r rs t c h1 h2 h3 => exact absurd he h3
theorem LexT.len {p : Nat} {rs : List Nat} {ts : List Tk} {e : Nat × Nat} (h : LexT p rs ts e) : ts.length ≤ rs.length := by
  induction h using LexT.ind with
  | nil p => exact Nat.le_refl _
  | skip p r rs ts e _ _ ih => rw [List.length_drop] at ih; rw [List.length_cons]; omega
  | tok p r rs ts e t _ _ _ ih => rw [List.length_drop] at ih; rw [List.length_cons, List.length_cons]; omega
  | bad p r rs => simp
/-- The errors that are no ErrText. -/
theorem tokOf_err {r p : Nat} {tx : List UInt8} {t : Tk} {c : Nat} (h : tokOf r p tx = (t, c)) : c = 0 ∨ c = 3 ∨ c = 4 ∨ c = 5 := by
  unfold tokOf at h
  by_cases k2 : kin r = 2
  · rw [if_pos k2] at h; cases h; omega
  rw [if_neg k2] at h
  by_cases k3 : kin r = 3
  · rw [if_pos k3] at h
    by_cases h9 : 9 < tx.length
    · rw [if_pos h9] at h; cases h; omega
    · rw [if_neg h9] at h; cases h; omega
  rw [if_neg k3] at h
  by_cases k4 : kin r = 4
  · rw [if_pos k4] at h
    by_cases h9 : 32 < tx.length
    · rw [if_pos h9] at h; cases h; omega
    · rw [if_neg h9] at h; cases h; omega
  rw [if_neg k4] at h
  by_cases k5 : kin r = 5
  · rw [if_pos k5] at h; cases h; omega
  · rw [if_neg k5] at h; cases h; omega
theorem LexT.err {p : Nat} {rs : List Nat} {ts : List Tk} {e : Nat × Nat} (h : LexT p rs ts e) : e.2 = 0 ∨ e.2 = 3 ∨ e.2 = 4 ∨ e.2 = 5 := by
  induction h using LexT.ind with
  | nil p => exact Or.inl rfl
  | skip _ _ _ _ _ _ _ ih => exact ih
  | tok _ _ _ _ _ _ _ _ _ ih => exact ih
  | bad p r rs t c h1 h2 h3 => exact tokOf_err h2

theorem tokOf_ok {r p : Nat} {tx : List UInt8} {t : Tk} (h : tokOf r p tx = (t, 0)) : t.pos = p ∧ 1 ≤ t.kind ∧ t.kind ≤ 4 ∧
    ((kin r = 2 ∧ t = ⟨4, p, [], 0⟩) ∨ (kin r = 3 ∧ tx.length ≤ 9 ∧ t = ⟨2, p, tx, digits tx⟩) ∨ (kin r = 4 ∧ tx.length ≤ 32 ∧ t = ⟨1, p, tx, 0⟩) ∨ (kin r = 5 ∧ t = ⟨3, p, tx, 0⟩)) := by
  unfold tokOf at h
  by_cases k2 : kin r = 2
  · rw [if_pos k2] at h; cases h; exact ⟨rfl, by simp, by simp, Or.inl ⟨k2, rfl⟩⟩
  rw [if_neg k2] at h
  by_cases k3 : kin r = 3
  · rw [if_pos k3] at h
    by_cases h9 : 9 < tx.length
    · rw [if_pos h9] at h; cases h
    · rw [if_neg h9] at h; cases h; exact ⟨rfl, by simp, by simp, Or.inr (Or.inl ⟨k3, by omega, rfl⟩)⟩
  rw [if_neg k3] at h
  by_cases k4 : kin r = 4
  · rw [if_pos k4] at h
    by_cases h9 : 32 < tx.length
    · rw [if_pos h9] at h; cases h
    · rw [if_neg h9] at h; cases h; exact ⟨rfl, by simp, by simp, Or.inr (Or.inr (Or.inl ⟨k4, by omega, rfl⟩))⟩
  rw [if_neg k4] at h
  by_cases k5 : kin r = 5
  · rw [if_pos k5] at h; cases h; exact ⟨rfl, by simp, by simp, Or.inr (Or.inr (Or.inr ⟨k5, rfl⟩))⟩
  · rw [if_neg k5] at h; cases h
theorem LexT.pos {p : Nat} {rs : List Nat} {ts : List Tk} {e : Nat × Nat} (h : LexT p rs ts e) : ∀ t ∈ ts, p ≤ t.pos ∧ t.pos < p + (flat rs).length := by
  induction h using LexT.ind with
  | nil p => intro t ht; simp at ht
  | skip p r rs ts e _ _ ih =>
    intro t ht
    have := ih t ht
    rw [flat_split]; omega
  | tok p r rs ts e t h1 h2 _ ih =>
    intro x hx
    have hp := enc_pos r
    have hf := flat_split r rs
    have h3 : (flat (r :: more r rs)).length = (enc r).length + (flat (more r rs)).length := by rw [flat_cons, List.length_append]
    rcases List.mem_cons.1 hx with rfl | hx
    · have := (tokOf_ok h2).1
      omega
    · have := ih x hx
      omega
  | bad p r rs t c h1 h2 h3 => intro t ht; simp at ht

/-- An error stands within the text. -/
theorem LexT.place {p : Nat} {rs : List Nat} {ts : List Tk} {e : Nat × Nat} (h : LexT p rs ts e) (he : e.2 ≠ 0) : p ≤ e.1 ∧ e.1 < p + (flat rs).length := by
  induction h using LexT.ind with
  | nil p => exact absurd rfl he
  | skip p r rs ts e _ _ ih => have := ih he; rw [flat_split]; omega
  | tok p r rs ts e t _ _ _ ih => have := ih he; rw [flat_split]; omega
  | bad p r rs t c h1 h2 h3 =>
    have := enc_pos r
    rw [flat_cons, List.length_append]
    show p ≤ p ∧ p < _
    omega

end Go.Proofs.YtfklgicmhbkoiaaDoor
