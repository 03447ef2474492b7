/-
  Plain facts on tokens as a text: that text is read as the same tokens, but for their places. No program is named here.
-/
import Derived.Test.YtfklgicmhbkoiaaDoorLexCall
namespace Go.Proofs.YtfklgicmhbkoiaaDoor
open Go.RowKit Go.Lib

def strip (t : Tk) : Tk := { t with pos := 0 }
/-- A token that can be written and read again. -/
structure Good (t : Tk) : Prop where
  ex : ∃ r m, okR r ∧ (∀ x ∈ m, okR x) ∧ passed r = false ∧ (∀ l, more r l = [] → more r (m ++ l) = m) ∧ (∀ p, tokOf r p (flat (r :: m)) = (⟨t.kind, p, t.text, t.num⟩, 0)) ∧
    (if t.kind = 4 then [10] else t.text) = flat (r :: m) ∧ (t.kind = 4 → r = 10)
  short : t.text.length ≤ 32

theorem kin10_is {r : Nat} (h : kin r = 2) : r = 10 := by
  unfold kin at h
  repeat' split at h
  all_goals omega
theorem kin5_is {r : Nat} (h : kin r = 5) : 33 ≤ r ∧ r ≤ 126 := by
  unfold kin at h
  repeat' split at h
  all_goals omega
theorem stop_nil {r : Nat} (h35 : r ≠ 35) (h3 : kin r ≠ 3) (h4 : kin r ≠ 4) (l : List Nat) : more r l = [] := by
  have hg : ∀ c, goes r c = false := by
    intro c
    unfold goes
    rw [if_neg h35, if_neg (by rintro (h | h); exact h3 h; exact h4 h)]
  unfold more
  cases l with
  | nil => rfl
  | cons x t => rw [List.takeWhile_cons, if_neg]; rw [hg]; simp
theorem more_again (r : Nat) (rs l : List Nat) (h : more r l = []) : more r (more r rs ++ l) = more r rs := by
  have hm : more r (more r rs) = more r rs := by
    unfold more
    induction rs with
    | nil => rfl
    | cons x t ih =>
      rw [List.takeWhile_cons]
      split
      · rename_i hx
        rw [List.takeWhile_cons, if_pos hx, ih]
      · rfl
  rw [more_append, hm, if_pos rfl, h, List.append_nil]
theorem tok_any_place {r p : Nat} {tx : List UInt8} {t : Tk} (h : tokOf r p tx = (t, 0)) : ∀ q, tokOf r q tx = (⟨t.kind, q, t.text, t.num⟩, 0) := by
  intro q
  obtain ⟨_, _, _, hc⟩ := tokOf_ok h
  unfold tokOf
  rcases hc with ⟨k, rfl⟩ | ⟨k, h9, rfl⟩ | ⟨k, h32, rfl⟩ | ⟨k, rfl⟩
  · rw [if_pos k]
  · rw [if_neg (by omega), if_pos k, if_neg (by omega)]
  · rw [if_neg (by omega), if_neg (by omega), if_pos k, if_neg (by omega)]
  · rw [if_neg (by omega), if_neg (by omega), if_neg (by omega), if_pos k]
theorem LexT.good {p : Nat} {rs : List Nat} {ts : List Tk} {e : Nat × Nat} (h : LexT p rs ts e) : (∀ r ∈ rs, okR r) → ∀ t ∈ ts, Good t := by
  induction h using LexT.ind with
  | nil p => intro _ t ht; simp at ht
  | skip p r rs ts e _ _ ih => intro hok; exact ih (fun x hx => hok x (by simp [List.mem_of_mem_drop hx]))
  | tok p r rs ts e t h1 h2 _ ih =>
    intro hok x hx
    rcases List.mem_cons.1 hx with rfl | hx
    · have hok' : ∀ y ∈ more r rs, okR y := fun y hy => hok y (by simp [(List.takeWhile_prefix _).subset hy])
      have hr35 : r ≠ 35 := by intro h35; rw [h35] at h1; cases h1
      have hor := hok r (by simp)
      have hpl := tok_any_place h2
      obtain ⟨_, _, _, hc⟩ := tokOf_ok h2
      refine ⟨⟨r, more r rs, hor, hok', h1, fun l hl => more_again r rs l hl, hpl, ?_, ?_⟩, ?_⟩
      · rcases hc with ⟨k, rfl⟩ | ⟨k, h9, rfl⟩ | ⟨k, h32, rfl⟩ | ⟨k, rfl⟩
        · rw [if_pos rfl]
          have hr := kin10_is k
          rw [stop_nil hr35 (by omega) (by omega), hr]
          simp [flat, enc1]
        · rw [if_neg (by simp)]
        · rw [if_neg (by simp)]
        · rw [if_neg (by simp)]
      · rcases hc with ⟨k, rfl⟩ | ⟨k, h9, rfl⟩ | ⟨k, h32, rfl⟩ | ⟨k, rfl⟩
        · intro _; exact kin10_is k
        · intro h; simp at h
        · intro h; simp at h
        · intro h; simp at h
      · rcases hc with ⟨k, rfl⟩ | ⟨k, h9, rfl⟩ | ⟨k, h32, rfl⟩ | ⟨k, rfl⟩
        · simp
        · show (flat (r :: more r rs)).length ≤ 32; omega
        · exact h32
        · show (flat (r :: more r rs)).length ≤ 32
          have hr := kin5_is k
          rw [stop_nil hr35 (by omega) (by omega), flat_cons, enc1 (by omega)]
          simp [flat]
    · exact ih (fun y hy => hok y (by simp [List.mem_of_mem_drop hy])) x hx
  | bad p r rs t c h1 h2 h3 => intro _ t ht; simp at ht

/-- What may stand behind a token: nothing, the end of a line, a blank. -/
def Parted (l : List Nat) : Prop := l = [] ∨ ∃ x t, l = x :: t ∧ (x = 10 ∨ x = 32)
theorem parted_more {l : List Nat} (h : Parted l) {r : Nat} (h35 : r ≠ 35) : more r l = [] := by
  rcases h with rfl | ⟨x, t, rfl, hx⟩
  · rfl
  · unfold more
    rw [List.takeWhile_cons, if_neg]
    intro hg
    have := goes_word h35 hg
    rcases hx with rfl | rfl
    · rw [kin_line] at this; omega
    · have h1 : kin (32 : Nat) = 1 := by decide
      rw [h1] at this; omega

theorem relex : ∀ (ts : List Tk) (ahead : Bool) (p : Nat), (∀ t ∈ ts, Good t) → ∃ rt ts', (∀ r ∈ rt, okR r) ∧ flat rt = pieces ahead ts ∧ LexT p rt ts' (0, 0) ∧ ts'.map strip = ts.map strip ∧ (ahead = true → Parted rt)
  | [], ahead, p, _ => ⟨[], [], by simp, rfl, LexT.nil p, rfl, fun _ => Or.inl rfl⟩
  | t :: ts, ahead, p, hg => by
    have hgt := hg t (by simp)
    have hgs : ∀ x ∈ ts, Good x := fun x hx => hg x (by simp [hx])
    obtain ⟨⟨r, m, hor, hom, hps, hmo, htk, htx, h10⟩, hsh⟩ := hgt
    have hr35 : r ≠ 35 := by intro h35; rw [h35] at hps; cases hps
    by_cases h4 : t.kind = 4
    · -- an End
      obtain ⟨rt, ts', ho, hf, hx, hst, _⟩ := relex ts false (p + (flat (r :: m)).length) hgs
      have hm : m = [] := by
        rw [if_pos h4] at htx
        have h1 := congrArg List.length htx
        rw [flat_cons, List.length_append, List.length_singleton] at h1
        have h2 := enc_pos r
        have h3 := flat_len m
        cases m with
        | nil => rfl
        | cons y t' => simp at h3; omega
      have hr := h10 h4
      have hmr : more r rt = [] := by
        rw [hr]
        have hg : ∀ c, goes 10 c = false := by intro c; unfold goes; rw [if_neg (by decide), if_neg (by decide)]
        unfold more
        cases rt with
        | nil => rfl
        | cons x t' => rw [List.takeWhile_cons, if_neg]; rw [hg]; simp
      have hmm := hmo rt hmr
      refine ⟨r :: m ++ rt, ⟨t.kind, p, t.text, t.num⟩ :: ts', ?_, ?_, ?_, ?_, ?_⟩
      · intro x hx
        rcases List.mem_append.1 hx with hx | hx
        · rcases List.mem_cons.1 hx with rfl | hx
          · exact hor
          · exact hom x hx
        · exact ho x hx
      · rw [flat_append, hf, ← htx, if_pos h4, pieces, if_pos h4]
        rfl
      · rw [List.cons_append]
        refine LexT.tok p r (m ++ rt) ts' (0, 0) _ hps ?_ ?_
        · rw [hmm]; exact htk p
        · rw [hmm, List.drop_left]; exact hx
      · rw [List.map_cons, List.map_cons, hst]
        rfl
      · intro _
        exact Or.inr ⟨r, m ++ rt, rfl, Or.inl hr⟩
    · -- a word, a number, a sign
      have key : ∀ p, ∃ rt ts', (∀ x ∈ rt, okR x) ∧ flat rt = pieces true ts ∧ LexT p (r :: m ++ rt) (⟨t.kind, p, t.text, t.num⟩ :: ts') (0, 0) ∧ ts'.map strip = ts.map strip := by
        intro p
        obtain ⟨rt, ts', ho, hf, hx, hst, hpa⟩ := relex ts true (p + (flat (r :: m)).length) hgs
        have hmm := hmo rt (parted_more (hpa rfl) hr35)
        refine ⟨rt, ts', ho, hf, ?_, hst⟩
        rw [List.cons_append]
        refine LexT.tok p r (m ++ rt) ts' (0, 0) _ hps ?_ ?_
        · rw [hmm]; exact htk p
        · rw [hmm, List.drop_left]; exact hx
      rw [if_neg h4] at htx
      have hall : ∀ rt, (∀ x ∈ rt, okR x) → ∀ x ∈ r :: m ++ rt, okR x := by
        intro rt ho x hx
        rcases List.mem_append.1 hx with hx | hx
        · rcases List.mem_cons.1 hx with rfl | hx
          · exact hor
          · exact hom x hx
        · exact ho x hx
      cases ahead with
      | false =>
        obtain ⟨rt, ts', ho, hf, hx, hst⟩ := key p
        refine ⟨r :: m ++ rt, ⟨t.kind, p, t.text, t.num⟩ :: ts', hall rt ho, ?_, hx, ?_, fun h => by cases h⟩
        · rw [flat_append, hf, ← htx, pieces, if_neg h4, if_neg (by simp), List.nil_append]
        · rw [List.map_cons, List.map_cons, hst]
          rfl
      | true =>
        obtain ⟨rt, ts', ho, hf, hx, hst⟩ := key (p + 1)
        refine ⟨32 :: (r :: m ++ rt), ⟨t.kind, p + 1, t.text, t.num⟩ :: ts', ?_, ?_, ?_, ?_, fun _ => Or.inr ⟨32, _, rfl, Or.inr rfl⟩⟩
        · intro x hx
          rcases List.mem_cons.1 hx with rfl | hx
          · exact Or.inl (by omega)
          · exact hall rt ho x hx
        · rw [flat_cons, flat_append, hf, ← htx, pieces, if_neg h4, if_pos rfl, enc1 (by omega), List.append_assoc]
          rfl
        · exact LexT.head [32] p (by simp) hx
        · rw [List.map_cons, List.map_cons, hst]
          rfl
theorem pieces_strip : ∀ (ts : List Tk) (ahead : Bool), pieces ahead (ts.map strip) = pieces ahead ts
  | [], _ => rfl
  | t :: ts, ahead => by
    have ih1 := pieces_strip ts false
    have ih2 := pieces_strip ts true
    rw [List.map_cons, pieces, pieces, ih1, ih2]
    rfl
theorem same_at {a b : List Tk} (h : a.map strip = b.map strip) : a.length = b.length ∧ ∀ (i : Nat) (h1 : i < a.length) (h2 : i < b.length), a[i].kind = b[i].kind ∧ a[i].text = b[i].text ∧ a[i].num = b[i].num := by
  have hl := congrArg List.length h
  rw [List.length_map, List.length_map] at hl
  refine ⟨hl, fun i h1 h2 => ?_⟩
  have hs : strip a[i] = strip b[i] := by
    have h3 : (a.map strip)[i]'(by rw [List.length_map]; exact h1) = (b.map strip)[i]'(by rw [List.length_map]; exact h2) := by simp only [h]
    rw [List.getElem_map, List.getElem_map] at h3
    exact h3
  unfold strip at hs
  simp only [Tk.mk.injEq] at hs
  exact ⟨hs.1, hs.2.2.1, hs.2.2.2⟩

end Go.Proofs.YtfklgicmhbkoiaaDoor
