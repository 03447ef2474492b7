/-
  Plain facts on a step of the document's Lex.
-/
import Derived.Test.YtfklgicmhbkoiaaDoorRLexA
namespace Go.Proofs.YtfklgicmhbkoiaaDoor
open Go.RowKit Go.Lib

theorem mk_text (x : ByteArray) : (⟨x.data.toList.toArray⟩ : ByteArray) = x := by cases x; simp
theorem digits_snoc (l : List UInt8) (b : UInt8) : digits (l ++ [b]) = digits l * 10 + (b.toNat - 48) := by
  unfold digits; rw [List.foldl_append]; rfl
theorem digits_take {l : List UInt8} {m : Nat} (h : m < l.length) : digits (l.take (m + 1)) = digits (l.take m) * 10 + ((l.getD m 0).toNat - 48) := by
  rw [List.take_succ_eq_append_getElem h, digits_snoc, List.getD_eq_getElem?_getD, List.getElem?_eq_getElem h]
  rfl
theorem digits_lt {l : List UInt8} (h : ∀ b ∈ l, isDig b) : ∀ m, m ≤ l.length → digits (l.take m) < 10 ^ m
  | 0, _ => by simp [digits]
  | m + 1, hm => by
    have ih := digits_lt h m (by omega)
    have hb : ((l.getD m 0).toNat - 48) ≤ 9 := by
      rw [List.getD_eq_getElem?_getD, List.getElem?_eq_getElem (show m < l.length by omega)]
      have := h l[m] (List.getElem_mem _)
      unfold isDig at this
      show l[m].toNat - 48 ≤ 9
      omega
    rw [digits_take (by omega), Nat.pow_succ]
    omega
theorem more_nil {r : Nat} (h35 : r ≠ 35) (h3 : kin r ≠ 3) (h4 : kin r ≠ 4) (l : List Nat) : more r l = [] := by
  have hg : ∀ c, goes r c = false := by
    intro c
    unfold goes
    rw [if_neg h35, if_neg (by rintro (h | h); exact h3 h; exact h4 h)]
  unfold more
  cases l with
  | nil => rfl
  | cons x t => rw [List.takeWhile_cons, if_neg]; rw [hg]; simp
theorem toK_one {rs : List Nat} {k : Nat} (hk : k < rs.length) (h35 : rs[k] ≠ 35) (h3 : kin rs[k] ≠ 3) (h4 : kin rs[k] ≠ 4) : toK rs k hk = k + 1 := by
  unfold toK
  rw [more_nil h35 h3 h4]
  rfl
section
variable {s : ByteArray} {rs : List Nat} {ts : List Tk} {k : Nat}
theorem passed_no (hk : k < rs.length) (h35 : rs[k] ≠ 35) (h1 : kin rs[k] ≠ 1) : passed rs[k] = false := by
  unfold passed
  rw [decide_eq_false_iff_not]
  rintro (h | h)
  · exact h35 h
  · exact h1 h
theorem passed_yes (hk : k < rs.length) (h : rs[k] = 35 ∨ kin rs[k] = 1) : passed rs[k] = true := by
  unfold passed
  exact decide_eq_true h
theorem st_hash (hk : k < rs.length) (hu : Upto rs k ts) (h : rs[k] = 35) : Upto rs (toK rs k hk) ts := upto_skip hk (passed_yes hk (Or.inl h)) hu
theorem st_blank (hk : k < rs.length) (hu : Upto rs k ts) (h35 : rs[k] ≠ 35) (h : kin rs[k] = 1) : Upto rs (k + 1) ts := by
  have := upto_skip hk (passed_yes hk (Or.inr h)) hu
  rwa [toK_one hk h35 (by omega) (by omega)] at this
theorem st_line (hk : k < rs.length) (hu : Upto rs k ts) (h35 : rs[k] ≠ 35) (h : kin rs[k] = 2) : Upto rs (k + 1) (ts ++ [⟨4, posR rs k, [], 0⟩]) := by
  have := upto_tok (t := ⟨4, posR rs k, [], 0⟩) hk (passed_no hk h35 (by omega)) (by unfold tokOf; rw [if_pos h]) hu
  rwa [toK_one hk h35 (by omega) (by omega)] at this
theorem st_none (hk : k < rs.length) (hu : Upto rs k ts) (h35 : rs[k] ≠ 35) (h : kin rs[k] = 0) : LexT 0 rs ts (posR rs k, 3) :=
  upto_bad (t := noTk) (c := 3) hk (passed_no hk h35 (by omega)) (by unfold tokOf; rw [if_neg (by omega), if_neg (by omega), if_neg (by omega), if_neg (by omega)]) (by omega) hu
theorem st_sign (hl : s.data.toList = flat rs) (hk : k < rs.length) (hu : Upto rs k ts) (h35 : rs[k] ≠ 35) (h : kin rs[k] = 5) : Upto rs (k + 1) (ts ++ [⟨3, posR rs k, (s.extract (posR rs k) (posR rs (k + 1))).data.toList, 0⟩]) := by
  have hx := extract_txt hl hk
  rw [toK_one hk h35 (by omega) (by omega)] at hx
  have := upto_tok (t := ⟨3, posR rs k, txt rs k hk, 0⟩) hk (passed_no hk h35 (by omega)) (by unfold tokOf; rw [if_neg (by omega), if_neg (by omega), if_neg (by omega), if_pos h]) hu
  rw [toK_one hk h35 (by omega) (by omega)] at this
  rw [hx]
  exact this
theorem txt_len (hk : k < rs.length) : (txt rs k hk).length = posR rs (toK rs k hk) - posR rs k := by rw [posR_toK hk]; unfold txt; omega
theorem st_digit (hl : s.data.toList = flat rs) (hk : k < rs.length) (hu : Upto rs k ts) (h : kin rs[k] = 3) :
    (posR rs (toK rs k hk) - posR rs k ≤ 9 → Upto rs (toK rs k hk) (ts ++ [⟨2, posR rs k, (s.extract (posR rs k) (posR rs (toK rs k hk))).data.toList, digits (txt rs k hk)⟩])) ∧ (9 < posR rs (toK rs k hk) - posR rs k → LexT 0 rs ts (posR rs k, 4)) := by
  have n35 : rs[k] ≠ 35 := by have := kin_dig h; omega
  have hx := extract_txt hl hk
  have hlen := txt_len hk
  refine ⟨fun h9 => ?_, fun h9 => ?_⟩
  · rw [hx]
    exact upto_tok hk (passed_no hk n35 (by omega)) (by unfold tokOf; rw [if_neg (by omega), if_pos h, if_neg (by omega)]) hu
  · exact upto_bad (t := noTk) hk (passed_no hk n35 (by omega)) (by unfold tokOf; rw [if_neg (by omega), if_pos h, if_pos (by omega)]) (by omega) hu
theorem st_word (hl : s.data.toList = flat rs) (hk : k < rs.length) (hu : Upto rs k ts) (n35 : rs[k] ≠ 35) (h : kin rs[k] = 4) :
    (posR rs (toK rs k hk) - posR rs k ≤ 32 → Upto rs (toK rs k hk) (ts ++ [⟨1, posR rs k, (s.extract (posR rs k) (posR rs (toK rs k hk))).data.toList, 0⟩])) ∧ (32 < posR rs (toK rs k hk) - posR rs k → LexT 0 rs ts (posR rs k, 5)) := by
  have hx := extract_txt hl hk
  have hlen := txt_len hk
  refine ⟨fun h9 => ?_, fun h9 => ?_⟩
  · rw [hx]
    exact upto_tok hk (passed_no hk n35 (by omega)) (by unfold tokOf; rw [if_neg (by omega), if_neg (by omega), if_pos h, if_neg (by omega)]) hu
  · exact upto_bad (t := noTk) hk (passed_no hk n35 (by omega)) (by unfold tokOf; rw [if_neg (by omega), if_neg (by omega), if_pos h, if_pos (by omega)]) (by omega) hu
end

theorem word_step {rs : List Nat} {k : Nat} (hk : k < rs.length) (h35 : rs[k] ≠ 35) (h4 : kin rs[k] = 4) : ∀ j, j ≤ (more rs[k] (rs.drop (k + 1))).length → ∀ hlt : k + 1 + j < rs.length, (j < (more rs[k] (rs.drop (k + 1))).length ∧ (kin rs[k + 1 + j] = 3 ∨ kin rs[k + 1 + j] = 4)) ∨ (j = (more rs[k] (rs.drop (k + 1))).length ∧ kin rs[k + 1 + j] ≠ 3 ∧ kin rs[k + 1 + j] ≠ 4) := by
  intro j hj hlt
  have hg : ∀ c, goes rs[k] c = (c == 3 || c == 4) := by
    intro c
    unfold goes
    rw [if_neg h35, if_pos (Or.inr h4), h4]
  rcases behind_step hk hj hlt with ⟨a, b⟩ | ⟨a, b⟩
  · rw [hg] at b
    exact Or.inl ⟨a, by simpa using b⟩
  · rw [hg] at b
    exact Or.inr ⟨a, by simpa using b⟩

theorem toK_is {rs : List Nat} {k : Nat} (hk : k < rs.length) : toK rs k hk = k + 1 + (more rs[k] (rs.drop (k + 1))).length := rfl

theorem ex_eq {α : Type} (x : α) : ∃ y, y = x := ⟨x, rfl⟩

/-- What a round is told of its rune. -/
structure AtK (s : ByteArray) (rs : List Nat) (ts : List Tk) (k r p q : Nat) : Prop where
  lt : k < rs.length
  rune : r = rs[k]
  place : p = posR rs k
  upto : q = posR rs (toK rs k lt)

end Go.Proofs.YtfklgicmhbkoiaaDoor
