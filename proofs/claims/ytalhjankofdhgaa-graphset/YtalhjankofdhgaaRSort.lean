/-
  The document's Sorted: a row of numbers, rising.
-/
import Derived.Test.YtalhjankofdhgaaGDeg
import Derived.BigQuiet
import Derived.Laws.IdiomCopy
import Derived.Deep.DeepCutAuto
namespace Go.Proofs.Ytalhjankofdhgaa
open Go.RowKit Go.Lib

/-- A number is put into a rising row: behind those that are not greater. -/
def ins (x : Int) : List Int → List Int
  | [] => [x]
  | y :: ys => if y ≤ x then y :: ins x ys else x :: y :: ys
theorem ins_len (x : Int) (ys : List Int) : (ins x ys).length = ys.length + 1 := by
  induction ys with
  | nil => rfl
  | cons y ys ih => unfold ins; split <;> simp [ih]
theorem ins_mem {x z : Int} {ys : List Int} : z ∈ ins x ys ↔ z = x ∨ z ∈ ys := by
  induction ys with
  | nil => simp [ins]
  | cons y ys ih =>
    unfold ins
    split
    · simp [ih]
      constructor
      · rintro (h | h | h)
        · exact Or.inr (Or.inl h)
        · exact Or.inl h
        · exact Or.inr (Or.inr h)
      · rintro (h | h | h)
        · exact Or.inr (Or.inl h)
        · exact Or.inl h
        · exact Or.inr (Or.inr h)
    · simp
def Up (xs : List Int) : Prop := xs.Pairwise (· ≤ ·)
theorem ins_up {x : Int} {ys : List Int} (h : Up ys) : Up (ins x ys) := by
  induction ys with
  | nil => unfold Up ins; simp
  | cons y ys ih =>
    unfold Up at h
    rw [List.pairwise_cons] at h
    unfold ins
    split
    · unfold Up
      rw [List.pairwise_cons]
      refine ⟨fun z hz => ?_, ih h.2⟩
      rcases ins_mem.1 hz with rfl | hz
      · assumption
      · exact h.1 z hz
    · unfold Up
      rw [List.pairwise_cons, List.pairwise_cons]
      refine ⟨fun z hz => ?_, h⟩
      rcases List.mem_cons.1 hz with rfl | hz
      · omega
      · have := h.1 z hz; omega
def srt : List Int → List Int → List Int
  | acc, [] => acc
  | acc, x :: xs => srt (ins x acc) xs
theorem srt_snoc (acc xs : List Int) (x : Int) : srt acc (xs ++ [x]) = ins x (srt acc xs) := by
  induction xs generalizing acc with
  | nil => rfl
  | cons y xs ih => exact ih (ins y acc)
theorem srt_up {acc xs : List Int} (h : Up acc) : Up (srt acc xs) := by
  induction xs generalizing acc with
  | nil => exact h
  | cons y xs ih => exact ih (ins_up h)
theorem srt_mem {acc xs : List Int} {z : Int} : z ∈ srt acc xs ↔ z ∈ acc ∨ z ∈ xs := by
  induction xs generalizing acc with
  | nil => simp [srt]
  | cons y xs ih =>
    show z ∈ srt (ins y acc) xs ↔ _
    rw [ih, ins_mem, List.mem_cons]
    constructor
    · rintro ((h | h) | h)
      · exact Or.inr (Or.inl h)
      · exact Or.inl h
      · exact Or.inr (Or.inr h)
    · rintro (h | h | h)
      · exact Or.inl (Or.inr h)
      · exact Or.inl (Or.inl h)
      · exact Or.inr h
theorem srt_len (acc xs : List Int) : (srt acc xs).length = acc.length + xs.length := by
  induction xs generalizing acc with
  | nil => simp [srt]
  | cons y xs ih =>
    show (srt (ins y acc) xs).length = _
    rw [ih, ins_len, List.length_cons]; omega
/-- Where the number goes. -/
theorem ins_at {x : Int} {ys : List Int} {k : Nat} (hk : k ≤ ys.length) (h1 : ∀ j (h : j < ys.length), j < k → ys[j] ≤ x) (h2 : ∀ j (h : j < ys.length), k ≤ j → x < ys[j]) : ins x ys = ys.take k ++ x :: ys.drop k := by
  induction ys generalizing k with
  | nil =>
    have : k = 0 := by simpa using hk
    subst this; rfl
  | cons y ys ih =>
    cases k with
    | zero =>
      have := h2 0 (by simp) (Nat.le_refl _)
      unfold ins
      simp only [List.getElem_cons_zero] at this
      rw [if_neg (by omega)]
      simp
    | succ k =>
      have := h1 0 (by simp) (by omega)
      simp only [List.getElem_cons_zero] at this
      unfold ins
      rw [if_pos this, ih (k := k) (by simpa using hk) (fun j h hj => h1 (j + 1) (by simpa using h) (by omega)) (fun j h hj => h2 (j + 1) (by simpa using h) (by omega))]
      simp
end Go.Proofs.Ytalhjankofdhgaa
