/-
  Plain facts on the first rune of a text, read byte by byte. No program is named here.
-/
import Derived.Test.YtfklgicmhbkoiaaDoorCutFacts
namespace Go.Proofs.YtfklgicmhbkoiaaDoor

def byt (l : List UInt8) (k : Nat) : Nat := (l.getD k 0).toNat
def acc (l : List UInt8) (v0 : Nat) : Nat → Nat
  | 0 => v0
  | k + 1 => acc l v0 k * 64 + (byt l (k + 1) - 128)
def conts (l : List UInt8) (n : Nat) : Prop := ∀ j, 1 ≤ j → j < n → 128 ≤ byt l j ∧ byt l j < 192
def Lead (n base least c : Nat) : Prop :=
  (n = 2 ∧ base = 192 ∧ least = 128 ∧ 192 ≤ c ∧ c < 224) ∨ (n = 3 ∧ base = 224 ∧ least = 2048 ∧ 224 ≤ c ∧ c < 240) ∨ (n = 4 ∧ base = 240 ∧ least = 65536 ∧ 240 ≤ c ∧ c < 248)

/-- What the document's One answers of a text: its first rune and how many bytes it has; or nothing. -/
def OneOf (l : List UInt8) (v n : Nat) : Prop := (v = 0 ∧ n = 0 ∧ NoRune l) ∨ (∃ r t, okR r ∧ l = enc r ++ t ∧ v = r ∧ n = (enc r).length)

theorem acc1 (l : List UInt8) (v : Nat) : acc l v 1 = v * 64 + (byt l 1 - 128) := rfl
theorem acc2 (l : List UInt8) (v : Nat) : acc l v 2 = (v * 64 + (byt l 1 - 128)) * 64 + (byt l 2 - 128) := rfl
theorem acc3 (l : List UInt8) (v : Nat) : acc l v 3 = ((v * 64 + (byt l 1 - 128)) * 64 + (byt l 2 - 128)) * 64 + (byt l 3 - 128) := rfl
theorem acc_le (l : List UInt8) (v0 : Nat) (h0 : v0 ≤ 31) : ∀ k, k ≤ 3 → conts l (k + 1) → acc l v0 k ≤ 8388607
  | 0, _, _ => by show v0 ≤ 8388607; omega
  | 1, _, hc => by
    have h1 := hc 1 (by omega) (by omega)
    rw [acc1]; omega
  | 2, _, hc => by
    have h1 := hc 1 (by omega) (by omega)
    have h2 := hc 2 (by omega) (by omega)
    rw [acc2]; omega
  | 3, _, hc => by
    have h1 := hc 1 (by omega) (by omega)
    have h2 := hc 2 (by omega) (by omega)
    have h3 := hc 3 (by omega) (by omega)
    rw [acc3]; omega
  | k + 4, h, _ => by omega

theorem one_of_form {l : List UInt8} {v n : Nat} (hf : Form v (l.take n)) (hn : n ≤ l.length) : OneOf l v n := by
  obtain ⟨ho, he⟩ := form_is hf
  refine Or.inr ⟨v, l.drop n, ho, ?_, rfl, ?_⟩
  · rw [← he, List.take_append_drop]
  · rw [← he, List.length_take]; omega

theorem one_empty : OneOf [] 0 0 := Or.inl ⟨rfl, rfl, noRune_nil⟩
theorem one_ascii {l : List UInt8} (h0 : 0 < l.length) (h : byt l 0 < 128) : OneOf l (byt l 0) 1 := by
  refine one_of_form (Or.inl ⟨l.getD 0 0, ?_, rfl, h⟩) h0
  cases l with
  | nil => simp at h0
  | cons a l => simp

theorem no_lead {l : List UInt8} (h : (128 ≤ byt l 0 ∧ byt l 0 < 192) ∨ 248 ≤ byt l 0) : OneOf l 0 0 := by
  refine Or.inl ⟨rfl, rfl, fun r t ho he => ?_⟩
  have hf := form_enc ho
  generalize enc r = e at *
  subst he
  rcases hf with ⟨a, rfl, rfl, h1⟩ | ⟨a, b, rfl, h1, h2, _⟩ | ⟨a, b, c, rfl, h1, h2, _⟩ | ⟨a, b, c, d, rfl, h1, h2, _⟩
  all_goals
    simp [byt] at h
    omega

theorem lead_no {l : List UInt8} {n base least : Nat} (hL : Lead n base least (byt l 0)) (h : ¬ (n ≤ l.length ∧ conts l n ∧ least ≤ acc l (byt l 0 - base) (n - 1) ∧ okR (acc l (byt l 0 - base) (n - 1)))) : OneOf l 0 0 := by
  refine Or.inl ⟨rfl, rfl, fun r t ho he => h ?_⟩
  have hf := form_enc ho
  generalize enc r = e at *
  subst he
  clear h
  rcases hf with ⟨a, rfl, rfl, h1⟩ | ⟨a, b, rfl, h1, h2, h3, h4, h5, h6⟩ | ⟨a, b, c, rfl, h1, h2, h3, h4, h5, h6, h7, h8, h9⟩ | ⟨a, b, c, d, rfl, h1, h2, h3, h4, h5, h6, h7, h8, h9, h10, h11⟩
  · exfalso
    have e0 : byt ([a] ++ t) 0 = a.toNat := rfl
    rw [e0] at hL
    unfold Lead at hL
    omega
  · have e0 : byt ([a, b] ++ t) 0 = a.toNat := rfl
    have e1 : byt ([a, b] ++ t) 1 = b.toNat := rfl
    rw [e0] at hL ⊢
    obtain ⟨rfl, rfl, rfl⟩ : n = 2 ∧ base = 192 ∧ least = 128 := by unfold Lead at hL; omega
    have ev : acc ([a, b] ++ t) (a.toNat - 192) (2 - 1) = r := by
      show acc ([a, b] ++ t) (a.toNat - 192) 1 = r
      rw [acc1, e1]; omega
    rw [ev]
    refine ⟨by simp, ?_, h6, ho⟩
    intro j j1 j2
    obtain rfl : j = 1 := by omega
    rw [e1]
    exact ⟨h3, h4⟩
  · have e0 : byt ([a, b, c] ++ t) 0 = a.toNat := rfl
    have e1 : byt ([a, b, c] ++ t) 1 = b.toNat := rfl
    have e2 : byt ([a, b, c] ++ t) 2 = c.toNat := rfl
    rw [e0] at hL ⊢
    obtain ⟨rfl, rfl, rfl⟩ : n = 3 ∧ base = 224 ∧ least = 2048 := by unfold Lead at hL; omega
    have ev : acc ([a, b, c] ++ t) (a.toNat - 224) (3 - 1) = r := by
      show acc ([a, b, c] ++ t) (a.toNat - 224) 2 = r
      rw [acc2, e1, e2]; omega
    rw [ev]
    refine ⟨by simp, ?_, h8, ho⟩
    intro j j1 j2
    rcases (show j = 1 ∨ j = 2 by omega) with rfl | rfl
    · rw [e1]; exact ⟨h3, h4⟩
    · rw [e2]; exact ⟨h5, h6⟩
  · have e0 : byt ([a, b, c, d] ++ t) 0 = a.toNat := rfl
    have e1 : byt ([a, b, c, d] ++ t) 1 = b.toNat := rfl
    have e2 : byt ([a, b, c, d] ++ t) 2 = c.toNat := rfl
    have e3 : byt ([a, b, c, d] ++ t) 3 = d.toNat := rfl
    rw [e0] at hL ⊢
    obtain ⟨rfl, rfl, rfl⟩ : n = 4 ∧ base = 240 ∧ least = 65536 := by unfold Lead at hL; omega
    have ev : acc ([a, b, c, d] ++ t) (a.toNat - 240) (4 - 1) = r := by
      show acc ([a, b, c, d] ++ t) (a.toNat - 240) 3 = r
      rw [acc3, e1, e2, e3]; omega
    rw [ev]
    refine ⟨by simp, ?_, h10, ho⟩
    intro j j1 j2
    rcases (show j = 1 ∨ j = 2 ∨ j = 3 by omega) with rfl | rfl | rfl
    · rw [e1]; exact ⟨h3, h4⟩
    · rw [e2]; exact ⟨h5, h6⟩
    · rw [e3]; exact ⟨h7, h8⟩

theorem take_two {l : List UInt8} (h : 2 ≤ l.length) : l.take 2 = [l.getD 0 0, l.getD 1 0] := by
  match l, h with
  | a :: b :: t, _ => simp
theorem take_three {l : List UInt8} (h : 3 ≤ l.length) : l.take 3 = [l.getD 0 0, l.getD 1 0, l.getD 2 0] := by
  match l, h with
  | a :: b :: c :: t, _ => simp
theorem take_four {l : List UInt8} (h : 4 ≤ l.length) : l.take 4 = [l.getD 0 0, l.getD 1 0, l.getD 2 0, l.getD 3 0] := by
  match l, h with
  | a :: b :: c :: d :: t, _ => simp

theorem lead_yes {l : List UInt8} {n base least : Nat} (hL : Lead n base least (byt l 0)) (hn : n ≤ l.length) (hc : conts l n) (h1 : least ≤ acc l (byt l 0 - base) (n - 1)) (h2 : okR (acc l (byt l 0 - base) (n - 1))) : OneOf l (acc l (byt l 0 - base) (n - 1)) n := by
  refine one_of_form ?_ hn
  rcases hL with ⟨rfl, rfl, rfl, ha, hb⟩ | ⟨rfl, rfl, rfl, ha, hb⟩ | ⟨rfl, rfl, rfl, ha, hb⟩
  · have c1 := hc 1 (by omega) (by omega)
    exact Or.inr (Or.inl ⟨_, _, take_two hn, ha, hb, c1.1, c1.2, rfl, h1⟩)
  · have c1 := hc 1 (by omega) (by omega)
    have c2 := hc 2 (by omega) (by omega)
    exact Or.inr (Or.inr (Or.inl ⟨_, _, _, take_three hn, ha, hb, c1.1, c1.2, c2.1, c2.2, rfl, h1, h2⟩))
  · have c1 := hc 1 (by omega) (by omega)
    have c2 := hc 2 (by omega) (by omega)
    have c3 := hc 3 (by omega) (by omega)
    exact Or.inr (Or.inr (Or.inr ⟨_, _, _, _, take_four hn, ha, hb, c1.1, c1.2, c2.1, c2.2, c3.1, c3.2, rfl, h1, h2⟩))

end Go.Proofs.YtfklgicmhbkoiaaDoor
