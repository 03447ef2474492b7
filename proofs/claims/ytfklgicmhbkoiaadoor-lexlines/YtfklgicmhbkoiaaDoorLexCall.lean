/-
  lex.Lex, as the laws meet it: of a text that has tokens, of one that has none; the tokens of two lines; of a text with blanks round it or a remark behind it.
-/
import Derived.Test.YtfklgicmhbkoiaaDoorLShown
import Derived.Test.YtfklgicmhbkoiaaDoorLxPure
namespace Go.Proofs.YtfklgicmhbkoiaaDoor
open Go.RowKit Go.Lib

theorem lex_toks (s : ByteArray) (rs : List Nat) (ts : List Tk) (w : World) (hs : s.size ≤ 1000000) (hok : ∀ r ∈ rs, okR r) (hl : s.data.toList = flat rs) (hx : LexT 0 rs ts (0, 0)) :
    Calls Tryd.prog 11 #[.string s] w fun e w' => ∃ a cap, e = .returned (.tuple #[.slice a ts.length cap, .int .i64 0, .int .i64 0]) ∧ TksAt w' a ts ∧ Below w.heap.size w w' := by
  refine (lex_ok s rs w hs hok hl).mono ?_
  rintro e w' ⟨hb, ts', er, hx', h | h⟩
  · obtain ⟨rfl, rfl⟩ := hx.one hx'
    obtain ⟨_, v, rfl, hown⟩ := h
    obtain ⟨a, cap, rfl, ht⟩ := tksAt_own hown
    exact ⟨a, cap, rfl, ht, hb⟩
  · obtain ⟨rfl, rfl⟩ := hx.one hx'
    exact absurd rfl h.1
theorem lex_errs (s : ByteArray) (rs : List Nat) (ts : List Tk) (p er : Nat) (w : World) (hs : s.size ≤ 1000000) (hok : ∀ r ∈ rs, okR r) (hl : s.data.toList = flat rs) (hx : LexT 0 rs ts (p, er)) (he : er ≠ 0) :
    Calls Tryd.prog 11 #[.string s] w fun e w' => e = .returned (.tuple #[.slice none 0 0, .int .i64 p, .int .i64 er]) ∧ Below w.heap.size w w' := by
  refine (lex_ok s rs w hs hok hl).mono ?_
  rintro e w' ⟨hb, ts', er', hx', h | h⟩
  · obtain ⟨rfl, rfl⟩ := hx.one hx'
    obtain ⟨h0, _⟩ := h
    simp only [Prod.mk.injEq] at h0
    exact absurd h0.2 he
  · obtain ⟨rfl, rfl⟩ := hx.one hx'
    exact ⟨h.2, hb⟩

/-- A text has tokens, or an error. -/
theorem lex_cases (s : ByteArray) (hs : s.size ≤ 1000000) :
    (∃ rs ts, (∀ r ∈ rs, okR r) ∧ s.data.toList = flat rs ∧ LexT 0 rs ts (0, 0)) ∨
    (∃ rs ts p er, (∀ r ∈ rs, okR r) ∧ s.data.toList = flat rs ∧ LexT 0 rs ts (p, er) ∧ er ≠ 0 ∧ er ≠ 2 ∧ p ≤ 1000000 ∧ er ≤ 5 ∧ ∀ w, Calls Tryd.prog 11 #[.string s] w fun e w' => e = .returned (.tuple #[.slice none 0 0, .int .i64 p, .int .i64 er]) ∧ Below w.heap.size w w') ∨
    (∃ p, p ≤ 1000000 ∧ (∃ rs rest, (∀ r ∈ rs, okR r) ∧ s.data.toList = flat rs ++ rest ∧ NoRune rest ∧ rest ≠ [] ∧ p = (flat rs).length) ∧ ∀ w, Calls Tryd.prog 11 #[.string s] w fun e w' => e = .returned (.tuple #[.slice none 0 0, .int .i64 p, .int .i64 2]) ∧ Below w.heap.size w w') := by
  obtain ⟨rs, rest, hl, hok, hn⟩ := runs_of _ s.data.toList (Nat.le_refl _)
  have hsz := congrArg List.length hl
  rw [size_data, List.length_append] at hsz
  by_cases hr : rest = []
  · subst hr
    rw [List.append_nil] at hl
    obtain ⟨ts, ⟨p, er⟩, hx⟩ : ∃ ts e, LexT 0 rs ts e := ⟨_, _, lexF_is rs.length 0 rs (Nat.le_refl _)⟩
    by_cases he : er = 0
    · left
      have := hx.zero he
      rw [this] at hx
      exact ⟨rs, ts, hok, hl, hx⟩
    · right; left
      have h5 : er = 0 ∨ er = 3 ∨ er = 4 ∨ er = 5 := hx.err
      refine ⟨rs, ts, p, er, hok, hl, hx, he, by omega, ?_, by omega, fun w => lex_errs s rs ts p er w hs hok hl hx he⟩
      have hp := hx.place he
      have := flat_len rs
      omega
  · right; right
    exact ⟨(flat rs).length, by omega, ⟨rs, rest, hok, hl, hn, hr, rfl⟩, fun w => lex_bad s rs rest w hs hok hl hn hr⟩

/-- lex.Lex of whatever text answers something. -/
theorem lex_gen (x : ByteArray) (W : World) (hx : x.size ≤ 1000000) : Calls Tryd.prog 11 #[.string x] W fun e w' => (∃ v p, ∃ er : Nat, er ≤ 5 ∧ e = .returned (.tuple #[v, .int .i64 p, .int .i64 er])) ∧ Below W.heap.size W w' := by
  rcases lex_cases x hx with ⟨rs, ts, h1, h2, h3⟩ | ⟨rs, ts, p, er, _, _, _, _, _, _, h5, h⟩ | ⟨p, _, _, h⟩
  · refine (lex_toks x rs ts W hx h1 h2 h3).mono ?_
    rintro e w' ⟨a, cap, rfl, _, hb⟩
    exact ⟨⟨_, _, 0, by omega, rfl⟩, hb⟩
  · refine (h W).mono ?_
    rintro e w' ⟨rfl, hb⟩
    exact ⟨⟨_, _, er, h5, rfl⟩, hb⟩
  · refine (h W).mono ?_
    rintro e w' ⟨rfl, hb⟩
    exact ⟨⟨_, _, 2, by omega, rfl⟩, hb⟩

theorem tokens_lines {rs rt : List Nat} {ts tt : List Tk} (h : LexT 0 rs ts (0, 0)) (h' : LexT 0 rt tt (0, 0)) : LexT 0 (rs ++ 10 :: rt) (ts ++ ⟨4, (flat rs).length, [], 0⟩ :: tt.map (shiftT ((flat rs).length + 1))) (0, 0) := by
  refine h.lines rfl ?_
  have h2 := h'.shift ((flat rs).length + 1)
  rw [Nat.zero_add] at h2 ⊢
  have h1 : flat [10] = [10] := by simp [flat, enc1]
  have ht := LexT.tok (flat rs).length 10 rt (tt.map (shiftT ((flat rs).length + 1))) (0, 0) ⟨4, (flat rs).length, [], 0⟩ (by decide) (by unfold tokOf; rw [if_pos kin_line]) (by
    have hm : more 10 rt = [] := by
      have hg : ∀ k, goes 10 k = false := by intro k; unfold goes; rw [if_neg (by decide), if_neg (by decide)]
      unfold more
      cases rt with
      | nil => rfl
      | cons x t => rw [List.takeWhile_cons, if_neg]; rw [hg]; simp
    rw [hm, h1, List.length_nil, List.drop_zero]
    exact h2)
  exact ht

end Go.Proofs.YtfklgicmhbkoiaaDoor
