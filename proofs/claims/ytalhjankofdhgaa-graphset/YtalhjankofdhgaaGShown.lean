/-
  carcanetlaw03.shown answers true.
-/
import Derived.Test.YtalhjankofdhgaaGNormal
import Derived.Test.YtalhjankofdhgaaGAdd2
import Derived.Test.YtalhjankofdhgaaGDeg
namespace Go.Proofs.Ytalhjankofdhgaa
open Go.RowKit Go.Lib

theorem right_a : RightG 4 [(0, 3), (1, 2)] := ⟨by decide, by decide, by decide, by simp, by unfold Rises; simp [ltE]⟩
theorem right_b : RightG 4 [(0, 1), (0, 3), (1, 2)] := ⟨by decide, by decide, by decide, by simp, by unfold Rises; simp [ltE]⟩
theorem right_c : RightG 4 [(0, 1), (1, 2)] := ⟨by decide, by decide, by decide, by simp, by unfold Rises; simp [ltE]⟩

theorem sh_norm (a : Option Addr) (c : Nat) (w : World) (h : EAt w a [(2, 1), (0, 0), (1, 2), (3, 0)]) : Calls Try.prog 11 #[.int .i64 4, .slice a 4 c] w fun e w' => ∃ a' cap', e = .returned (.tuple #[.agg #[.int .i64 4, .slice a' 2 cap'], .int .i64 0]) ∧ Hid (Sl a' cap' 2) ∧ Hid (EAt w' a' [(0, 3), (1, 2)]) ∧ Below w.heap.size w w' := by
  refine (normal_any 4 a c [(2, 1), (0, 0), (1, 2), (3, 0)] w (by simp) h).mono ?_
  rintro e w' ⟨er, es, a', cap', rfl, hn, hs, hE, hb⟩
  have hall : AllIn 4 [(2, 1), (0, 0), (1, 2), (3, 0)] := by intro e he; simp at he; rcases he with rfl | rfl | rfl | rfl <;> simp
  have hnorm : IsNorm [(2, 1), (0, 0), (1, 2), (3, 0)] [(0, 3), (1, 2)] := by
    refine ⟨right_a.2.2.2.2, fun e => ?_⟩
    have hp : prs [(2, 1), (0, 0), (1, 2), (3, 0)] = [(1, 2), (1, 2), (0, 3)] := by decide
    rw [hp]
    simp
    constructor
    · rintro (h | h)
      · exact Or.inr h
      · exact Or.inl h
    · rintro (h | h)
      · exact Or.inr h
      · exact Or.inl h
  rcases hn with ⟨h1, _⟩ | ⟨h1, _⟩ | ⟨_, h1, _⟩ | ⟨_, _, _, _, x, hx, hl⟩ | ⟨_, _, h1, h2, _⟩
  · omega
  · omega
  · exact absurd hall h1
  · rw [hx.one hnorm] at hl
    simp at hl
  · obtain rfl := h2.one hnorm
    subst h1
    exact ⟨a', cap', rfl, hs, hE, hb⟩
theorem sh_bad (a : Option Addr) (c : Nat) (w : World) (h : EAt w a [(0, 2)]) : Calls Try.prog 11 #[.int .i64 2, .slice a 1 c] w fun e w' => ∃ a' cap', e = .returned (.tuple #[.agg #[.int .i64 0, .slice a' 0 cap'], .int .i64 4]) ∧ Below w.heap.size w w' := by
  refine (normal_any 2 a c [(0, 2)] w (by simp) h).mono ?_
  rintro e w' ⟨er, es, a', cap', rfl, hn, hs, hE, hb⟩
  have hall : ¬ AllIn 2 [(0, 2)] := fun h => by have := h (0, 2) (by simp); simp at this
  rcases hn with ⟨h1, _⟩ | ⟨h1, _⟩ | ⟨_, _, h1, h2⟩ | ⟨_, h1, _⟩ | ⟨_, h1, _⟩
  · omega
  · omega
  · subst h1 h2
    exact ⟨a', cap', rfl, hb⟩
  · exact absurd h1 hall
  · exact absurd h1 hall
theorem sh_add (a : Option Addr) (c : Nat) (w : World) (h : EAt w a [(0, 3), (1, 2)]) (hs : Sl a c 2) : Calls Try.prog 23 #[.agg #[.int .i64 4, .slice a 2 c], .int .i64 1, .int .i64 0] w fun e w' => ∃ a' cap', e = .returned (.tuple #[.agg #[.int .i64 4, .slice a' 3 cap'], .int .i64 0]) ∧ Hid (Sl a' cap' 3) ∧ Hid (EAt w' a' [(0, 1), (0, 3), (1, 2)]) ∧ Below w.heap.size w w' := by
  refine (add_any 4 a c [(0, 3), (1, 2)] 1 0 true w (by simp) h hs ⟨fun _ => right_a, fun _ => rfl⟩).mono ?_
  rintro e w' ⟨er, es, a', cap', rfl, hn, hs, hE, hb⟩
  unfold AddE at hn
  rw [show (min (1 : Int) 0, max (1 : Int) 0) = (0, 1) by decide] at hn
  rcases hn with ⟨h1, _⟩ | ⟨_, h1, _⟩ | ⟨_, _, ⟨h1, _⟩ | ⟨_, h1, _⟩ | ⟨_, _, h1, _⟩ | ⟨_, _, _, h1, h2, _, h3⟩⟩
  · exact absurd right_a h1
  · exact absurd (by decide) h1
  · omega
  · simp at h1
  · simp at h1
  · have : es = [(0, 1), (0, 3), (1, 2)] := rises_one h2 right_b.2.2.2.2 (fun x => by
      rw [h3]
      simp
      constructor
      · rintro ((h | h) | h)
        · exact Or.inr (Or.inl h)
        · exact Or.inr (Or.inr h)
        · exact Or.inl h
      · rintro (h | h | h)
        · exact Or.inr h
        · exact Or.inl (Or.inl h)
        · exact Or.inl (Or.inr h))
    subst this h1
    exact ⟨a', cap', rfl, hs, hE, hb⟩
theorem sh_wo (a : Option Addr) (c : Nat) (w : World) (h : EAt w a [(0, 1), (0, 3), (1, 2)]) (hs : Sl a c 3) : Calls Try.prog 25 #[.agg #[.int .i64 4, .slice a 3 c], .int .i64 0, .int .i64 3] w fun e w' => ∃ a' cap', e = .returned (.tuple #[.agg #[.int .i64 4, .slice a' 2 cap'], .int .i64 0]) ∧ Hid (EAt w' a' [(0, 1), (1, 2)]) ∧ Below w.heap.size w w' := by
  refine (without_any 4 a c [(0, 1), (0, 3), (1, 2)] 0 3 true w (by simp) h hs ⟨fun _ => right_b, fun _ => rfl⟩).mono ?_
  rintro e w' ⟨er, es, a', cap', rfl, hn, hs, hE, hb⟩
  unfold WithoutE at hn
  rw [show (min (0 : Int) 3, max (0 : Int) 3) = (0, 3) by decide] at hn
  rcases hn with ⟨h1, _⟩ | ⟨_, h1, _⟩ | ⟨_, _, h1, h2, _, h3⟩
  · exact absurd right_b h1
  · exact absurd (by decide) h1
  · have : es = [(0, 1), (1, 2)] := rises_one h2 right_c.2.2.2.2 (fun x => by
      rw [h3]
      simp
      constructor
      · rintro ⟨h | h | h, hne⟩
        · exact Or.inl h
        · exact absurd h hne
        · exact Or.inr h
      · rintro (h | h)
        · subst h; simp
        · subst h; simp)
    subst this h1
    exact ⟨a', cap', rfl, hE, hb⟩
theorem sh_deg (a : Option Addr) (c : Nat) (w : World) (h : EAt w a [(0, 1), (0, 3), (1, 2)]) : Calls Try.prog 21 #[.agg #[.int .i64 4, .slice a 3 c]] w fun e w' => ∃ g off cap', e = .returned (.slice (some ⟨g, off, none⟩) 4 cap') ∧ (w'.cell? ⟨g, off, none⟩ = some (.int .i64 2) ∧ w'.cell? ⟨g, off + 3, none⟩ = some (.int .i64 1)) ∧ Below w.heap.size w w' := by
  refine (degrees_any 4 a c [(0, 1), (0, 3), (1, 2)] true w (by simp) h ⟨fun _ => right_b, fun _ => rfl⟩).mono ?_
  rintro e w' ⟨a', cap', D, rfl, hD, hI, hb⟩
  have : D = [2, 2, 1, 1] := by rw [hD]; decide
  subst this
  obtain ⟨g, off, rfl, _, hc⟩ := hI (by simp)
  exact ⟨g, off, cap', rfl, ⟨hc 0 (by simp), hc 3 (by simp)⟩, hb⟩
theorem sh_right (a : Option Addr) (c : Nat) (w : World) (h : EAt w a [(0, 1), (1, 2)]) : Calls Try.prog 14 #[.agg #[.int .i64 4, .slice a 2 c]] w fun e w' => e = .returned (.bool true) ∧ Below w.heap.size w w' :=
  right_any 4 a c [(0, 1), (1, 2)] true w (by simp) h ⟨fun _ => right_c, fun _ => rfl⟩
theorem sh_has1 (a : Option Addr) (c : Nat) (w : World) (h : EAt w a [(0, 1), (1, 2)]) : Calls Try.prog 16 #[.agg #[.int .i64 4, .slice a 2 c], .int .i64 2, .int .i64 1] w fun e w' => e = .returned (.bool true) ∧ Below w.heap.size w w' :=
  has_any 4 a c [(0, 1), (1, 2)] 2 1 true [1] w (by simp) h ⟨fun _ => right_c, fun _ => rfl⟩ (by decide)
theorem sh_has2 (a : Option Addr) (c : Nat) (w : World) (h : EAt w a [(0, 1), (1, 2)]) : Calls Try.prog 16 #[.agg #[.int .i64 4, .slice a 2 c], .int .i64 0, .int .i64 3] w fun e w' => e = .returned (.bool false) ∧ Below w.heap.size w w' :=
  has_any 4 a c [(0, 1), (1, 2)] 0 3 true [1] w (by simp) h ⟨fun _ => right_c, fun _ => rfl⟩ (by decide)
theorem sh_near (a : Option Addr) (c : Nat) (w : World) (h : EAt w a [(0, 1), (1, 2)]) : Calls Try.prog 19 #[.agg #[.int .i64 4, .slice a 2 c], .int .i64 1] w fun e w' => ∃ a' cap', e = .returned (.slice a' 2 cap') ∧ Below w.heap.size w w' := by
  refine (near_any 4 a c [(0, 1), (1, 2)] 1 true [0, 2] w (by simp) h ⟨fun _ => right_c, fun _ => rfl⟩ (by decide)).mono ?_
  rintro e w' ⟨a', cap', rfl, _, hb⟩
  exact ⟨a', cap', rfl, hb⟩
end Go.Proofs.Ytalhjankofdhgaa
