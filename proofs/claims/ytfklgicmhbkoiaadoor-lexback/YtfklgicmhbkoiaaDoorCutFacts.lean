/-
  Plain facts on a text that is cut somewhere: between two runes, or within one. No program is named here.
-/
import Derived.Test.YtfklgicmhbkoiaaDoorOwn
namespace Go.Proofs.YtfklgicmhbkoiaaDoor

def lenOf (n : Nat) : Nat := if n < 128 then 1 else if n < 224 then 2 else if n < 240 then 3 else 4
theorem enc_head {r : Nat} (ho : okR r) : ∃ b t, enc r = b :: t ∧ (enc r).length = lenOf b.toNat ∧ ¬ (128 ≤ b.toNat ∧ b.toNat < 192) ∧ ∀ c ∈ t, 128 ≤ c.toNat ∧ c.toNat < 192 := by
  have hf := form_enc ho
  generalize enc r = l at *
  rcases hf with ⟨a, rfl, rfl, h1⟩ | ⟨a, b, rfl, h1, h2, h3, h4, h5, h6⟩ | ⟨a, b, c, rfl, h1, h2, h3, h4, h5, h6, h7, h8, h9⟩ | ⟨a, b, c, d, rfl, h1, h2, h3, h4, h5, h6, h7, h8, h9, h10, h11⟩
  · exact ⟨a, [], rfl, by unfold lenOf; rw [if_pos h1]; rfl, by omega, by simp⟩
  · refine ⟨a, [b], rfl, by unfold lenOf; rw [if_neg (by omega), if_pos h2]; rfl, by omega, ?_⟩
    intro x hx
    simp at hx
    subst hx
    exact ⟨h3, h4⟩
  · refine ⟨a, [b, c], rfl, by unfold lenOf; rw [if_neg (by omega), if_neg (by omega), if_pos h2]; rfl, by omega, ?_⟩
    intro x hx
    simp at hx
    rcases hx with rfl | rfl
    · exact ⟨h3, h4⟩
    · exact ⟨h5, h6⟩
  · refine ⟨a, [b, c, d], rfl, by unfold lenOf; rw [if_neg (by omega), if_neg (by omega), if_neg (by omega)]; rfl, by omega, ?_⟩
    intro x hx
    simp at hx
    rcases hx with rfl | rfl | rfl
    · exact ⟨h3, h4⟩
    · exact ⟨h5, h6⟩
    · exact ⟨h7, h8⟩

theorem noRune_part {r m : Nat} (ho : okR r) (h0 : 0 < m) (h1 : m < (enc r).length) : NoRune ((enc r).take m) := by
  intro r' t' ho' h
  obtain ⟨b, t, hb, hl, _, _⟩ := enc_head ho
  obtain ⟨b', u, hb', hl', _, _⟩ := enc_head ho'
  have hlen := congrArg List.length h
  rw [List.length_take, List.length_append] at hlen
  rw [hb, hb'] at h
  cases m with
  | zero => omega
  | succ m =>
    rw [List.take_succ_cons, List.cons_append] at h
    have e := (List.cons.inj h).1
    rw [e] at hl
    omega
theorem noRune_tail {r m : Nat} (ho : okR r) (h0 : 0 < m) (h1 : m < (enc r).length) (t : List UInt8) : NoRune ((enc r).drop m ++ t) := by
  intro r' t' ho' h
  obtain ⟨b, u, hb, _, _, hu⟩ := enc_head ho
  obtain ⟨b', u', hb', _, hc, _⟩ := enc_head ho'
  rw [List.drop_eq_getElem_cons h1, hb', List.cons_append, List.cons_append] at h
  have e := (List.cons.inj h).1
  have hm : (enc r)[m] ∈ u := by
    cases m with
    | zero => omega
    | succ m =>
      simp only [hb, List.getElem_cons_succ]
      exact List.getElem_mem _
  have := hu _ hm
  rw [e] at this
  exact hc this

theorem extract_head (s : ByteArray) (q : Nat) : (s.extract 0 q).data.toList = s.data.toList.take q := by
  rw [ByteArray.data_extract, Array.toList_extract]
  simp

def posR (rs : List Nat) (k : Nat) : Nat := (flat (rs.take k)).length
theorem posR_zero (rs : List Nat) : posR rs 0 = 0 := by simp [posR, flat]
theorem posR_step {rs : List Nat} {k : Nat} (h : k < rs.length) : posR rs (k + 1) = posR rs k + (enc rs[k]).length := by
  unfold posR
  rw [take_snocN rs k h, flat_append, List.length_append, flat_cons, flat_nil, List.append_nil]
theorem posR_end (rs : List Nat) : posR rs rs.length = (flat rs).length := by unfold posR; rw [List.take_length]

theorem cut_at {s : ByteArray} {rs : List Nat} {q k : Nat} (hl : s.data.toList = flat rs) (h1 : posR rs k = q) :
    (s.extract 0 q).data.toList = flat (rs.take k) ∧ (s.extract q s.size).data.toList = flat (rs.drop k) := by
  have e : flat rs = flat (rs.take k) ++ flat (rs.drop k) := by rw [← flat_append, List.take_append_drop]
  rw [extract_head, extract_data, hl, e, ← h1]
  exact ⟨List.take_left, List.drop_left⟩
theorem cut_in {s : ByteArray} {rs : List Nat} {q k : Nat} (hok : ∀ r ∈ rs, okR r) (hl : s.data.toList = flat rs) (hk : k < rs.length) (h1 : posR rs k < q) (h2 : q < posR rs (k + 1)) :
    ∃ p t, p ≠ [] ∧ NoRune p ∧ (s.extract 0 q).data.toList = flat (rs.take k) ++ p ∧ t ≠ [] ∧ NoRune t ∧ (s.extract q s.size).data.toList = t := by
  have ho := hok rs[k] (List.getElem_mem hk)
  rw [posR_step hk] at h2
  obtain ⟨m, rfl⟩ : ∃ m, q = posR rs k + m := ⟨q - posR rs k, by omega⟩
  have hm0 : 0 < m := by omega
  have hm1 : m < (enc rs[k]).length := by omega
  refine ⟨(enc rs[k]).take m, (enc rs[k]).drop m ++ flat (rs.drop (k + 1)), ?_, noRune_part ho hm0 hm1, ?_, ?_, noRune_tail ho hm0 hm1 _, ?_⟩
  · intro h
    have := congrArg List.length h
    rw [List.length_take, List.length_nil] at this
    omega
  · rw [extract_head, hl, flat_take_drop rs k hk]
    unfold posR
    rw [List.take_append, List.take_of_length_le (by omega), List.take_append]
    rw [show (flat (rs.take k)).length + m - (flat (rs.take k)).length = m by omega, show m - (enc rs[k]).length = 0 by omega]
    simp
  · intro h
    have := congrArg List.length h
    rw [List.length_append, List.length_drop, List.length_nil] at this
    omega
  · rw [extract_data, hl, flat_take_drop rs k hk]
    unfold posR
    rw [List.drop_append, List.drop_eq_nil_of_le (by omega), List.nil_append, List.drop_append]
    rw [show (flat (rs.take k)).length + m - (flat (rs.take k)).length = m by omega, show m - (enc rs[k]).length = 0 by omega]
    simp

end Go.Proofs.YtfklgicmhbkoiaaDoor
