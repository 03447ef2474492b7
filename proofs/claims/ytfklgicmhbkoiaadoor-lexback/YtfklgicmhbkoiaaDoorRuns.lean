/-
  Texts as rows of runes: plain facts on lists. No program is named here.
-/
import Derived.Test.YtfklgicmhbkoiaaDoorUtf
namespace Go.Proofs.YtfklgicmhbkoiaaDoor

def cellsR : Nat → List Nat → List Value
  | _, [] => []
  | p, r :: rs => .int .i64 p :: .int .i32 r :: cellsR (p + (enc r).length) rs

theorem flat_nil : flat [] = [] := rfl
theorem flat_cons (r : Nat) (rs : List Nat) : flat (r :: rs) = enc r ++ flat rs := by simp [flat]
theorem flat_append (a b : List Nat) : flat (a ++ b) = flat a ++ flat b := by simp [flat]
theorem enc_pos (r : Nat) : 1 ≤ (enc r).length ∧ (enc r).length ≤ 4 := by
  unfold enc
  split
  · simp
  · split
    · simp
    · split <;> simp
theorem noRune_nil : NoRune [] := fun r t _ h => by
  have h1 := congrArg List.length h
  have := enc_pos r
  simp at h1
  omega
theorem flat_len (rs : List Nat) : rs.length ≤ (flat rs).length := by
  induction rs with
  | nil => simp [flat]
  | cons r rs ih => rw [flat_cons]; have := enc_pos r; simp; omega
theorem cellsR_length (rs : List Nat) : ∀ p, (cellsR p rs).length = rs.length * 2 := by
  induction rs with
  | nil => intro p; rfl
  | cons r rs ih => intro p; simp [cellsR, ih]; omega
theorem cellsR_snoc (rs : List Nat) (r : Nat) : ∀ p, cellsR p (rs ++ [r]) = cellsR p rs ++ [.int .i64 (p + (flat rs).length : Nat), .int .i32 r] := by
  induction rs with
  | nil => intro p; simp [cellsR, flat]
  | cons a rs ih => intro p; simp only [List.cons_append, cellsR, ih, flat_cons, List.length_append]; rw [Nat.add_assoc]

/-- Every text is some runes, and behind them what begins with none. -/
theorem runs_of : ∀ (n : Nat) (l : List UInt8), l.length ≤ n → ∃ rs rest, l = flat rs ++ rest ∧ (∀ r ∈ rs, okR r) ∧ NoRune rest
  | 0, l, h => ⟨[], [], by have : l = [] := List.eq_nil_of_length_eq_zero (by omega); simp [this, flat], by simp, noRune_nil⟩
  | n + 1, l, h => by
    by_cases hn : NoRune l
    · exact ⟨[], l, by simp [flat], by simp, hn⟩
    · have hx : ∃ r t, okR r ∧ l = enc r ++ t := by
        apply Classical.byContradiction
        intro hc
        exact hn fun r t ho he => hc ⟨r, t, ho, he⟩
      obtain ⟨r, t, ho, rfl⟩ := hx
      have hp := enc_pos r
      obtain ⟨rs, rest, e, hr, hm⟩ := runs_of n t (by simp at h; omega)
      refine ⟨r :: rs, rest, by rw [flat_cons, e]; simp, ?_, hm⟩
      intro x hx
      rcases List.mem_cons.1 hx with rfl | hx
      · exact ho
      · exact hr x hx

theorem flat_take_drop (rs : List Nat) (k : Nat) (h : k < rs.length) : flat rs = flat (rs.take k) ++ (enc rs[k] ++ flat (rs.drop (k + 1))) := by
  have e : rs = rs.take k ++ (rs[k] :: rs.drop (k + 1)) := by
    rw [List.getElem_cons_drop h]; simp
  have e2 := congrArg flat e
  rw [flat_append, flat_cons] at e2
  exact e2
theorem take_snocN (rs : List Nat) (k : Nat) (h : k < rs.length) : rs.take (k + 1) = rs.take k ++ [rs[k]] := by
  rw [List.take_succ_eq_append_getElem h]

/-- U+FFFD has these bytes; whatever begins with them begins with a rune. -/
theorem enc_fffd : enc 65533 = [239, 191, 189] := by rw [enc3 (by omega) (by omega)]; rfl
theorem noRune_fffd {l : List UInt8} (h : NoRune l) : ¬ l.take 3 = [239, 191, 189] := by
  intro hx
  refine h 65533 (l.drop 3) (Or.inr (by omega)) ?_
  rw [enc_fffd, ← hx]
  simp

def hasFF (l : List UInt8) : Bool := decide (l.take 3 = [239, 191, 189])
/-- Of a text: does it begin with the three bytes of U+FFFD? (Named, so that the walk leaves it as it is.) -/
def ffB (s : ByteArray) : Bool := hasFF s.data.toList
theorem size_data (s : ByteArray) : s.data.toList.length = s.size := Array.length_toList
theorem extract_data (s : ByteArray) (p : Nat) : (s.extract p s.size).data.toList = s.data.toList.drop p := by
  rw [ByteArray.data_extract, Array.toList_extract]
  simp only [List.extract]
  rw [List.take_of_length_le]
  rw [List.length_drop, size_data]
  omega

theorem step_hit {s : ByteArray} {rs : List Nat} {rest : List UInt8} (hok : ∀ r ∈ rs, okR r) (hl : s.data.toList = flat rs ++ rest) {k : Nat} (hk : k < rs.length) :
    ∃ p r n : Nat, (flat (rs.take k)).length = p ∧ p + n ≤ s.size ∧ 1 ≤ n ∧ n ≤ 4 ∧ r ≤ 1114111 ∧ Utf8.decode s p = (r, n) ∧ (r = 65533 → ffB (s.extract p s.size) = true) ∧
      (flat (rs.take (k + 1))).length = p + n ∧ cellsR 0 (rs.take (k + 1)) = cellsR 0 (rs.take k) ++ [.int .i64 p, .int .i32 r] := by
  have ho := hok rs[k] (List.getElem_mem hk)
  have hd : s.data.toList.drop (flat (rs.take k)).length = enc rs[k] ++ (flat (rs.drop (k + 1)) ++ rest) := by
    rw [hl, flat_take_drop rs k hk, List.append_assoc, List.drop_left, List.append_assoc]
  have hsz := congrArg List.length hd
  rw [List.length_drop, size_data, List.length_append] at hsz
  have hp := enc_pos rs[k]
  refine ⟨_, rs[k], (enc rs[k]).length, rfl, by omega, hp.1, hp.2, ?_, decode_hit ho hd, ?_, ?_, ?_⟩
  · unfold okR at ho; omega
  · intro e
    unfold ffB
    rw [extract_data, hd, e, enc_fffd]
    simp [hasFF]
  · rw [take_snocN rs k hk, flat_append, List.length_append, flat_cons, flat_nil, List.append_nil]
  · rw [take_snocN rs k hk, cellsR_snoc, Nat.zero_add]

theorem step_end {s : ByteArray} {rs : List Nat} {rest : List UInt8} (hl : s.data.toList = flat rs ++ rest) (hn : NoRune rest) :
    s.size = (flat rs).length + rest.length ∧ (rest ≠ [] → (flat rs).length < s.size ∧ Utf8.decode s (flat rs).length = (65533, 1) ∧ ffB (s.extract (flat rs).length s.size) = false) := by
  have hsz := congrArg List.length hl
  rw [size_data, List.length_append] at hsz
  have hd : s.data.toList.drop (flat rs).length = rest := by rw [hl, List.drop_left]
  refine ⟨hsz, fun hr => ?_⟩
  have h1 : 0 < rest.length := by
    cases rest with
    | nil => exact absurd rfl hr
    | cons a b => simp
  have h2 : (flat rs).length < s.size := by omega
  refine ⟨h2, decode_miss h2 (by rw [hd]; exact hn), ?_⟩
  unfold ffB
  rw [extract_data, hd]
  exact decide_eq_false (noRune_fffd hn)
end Go.Proofs.YtfklgicmhbkoiaaDoor
