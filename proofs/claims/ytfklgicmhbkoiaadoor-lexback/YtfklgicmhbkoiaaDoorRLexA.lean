/-
  The document's kind, and plain facts on the bytes at which it looks.
-/
import Derived.Test.YtfklgicmhbkoiaaDoorLexCall
import Derived.Test.YtfklgicmhbkoiaaDoorRefDec
namespace Go.Proofs.YtfklgicmhbkoiaaDoor
open Go.RowKit Go.Lib

theorem first_byte {r : Nat} (ho : okR r) (t : List UInt8) : (r < 128 ∧ ((enc r ++ t).getD 0 0).toNat = r) ∨ (128 ≤ r ∧ 192 ≤ ((enc r ++ t).getD 0 0).toNat) := by
  obtain ⟨b, u, he, hlen, hb, _⟩ := enc_head ho
  have hd : (enc r ++ t).getD 0 0 = b := by rw [he]; rfl
  rw [hd]
  rcases Nat.lt_or_ge r 128 with hr | hr
  · left
    refine ⟨hr, ?_⟩
    rw [enc1 hr] at he
    simp only [List.cons.injEq] at he
    rw [← he.1, u8n _ (by omega)]
  · right
    refine ⟨hr, ?_⟩
    have h2 : 2 ≤ (enc r).length := by
      rcases Nat.lt_or_ge r 2048 with h2 | h2
      · rw [enc2 hr h2]; simp
      · rcases Nat.lt_or_ge r 65536 with h3 | h3
        · rw [enc3 h2 h3]; simp
        · rw [enc4 h3]; simp
    rw [hlen] at h2
    unfold lenOf at h2
    split at h2
    · omega
    · omega
/-- The bytes of a rune that is no end of a line. -/
theorem enc_no_line {r : Nat} (ho : okR r) (h : kin r ≠ 2) : ∀ b ∈ enc r, b.toNat ≠ 10 := by
  obtain ⟨b, u, he, hlen, hb, hu⟩ := enc_head ho
  intro c hc h10
  have hf := first_byte ho []
  rw [List.append_nil, he] at hf
  have hf' : (r < 128 ∧ b.toNat = r) ∨ (128 ≤ r ∧ 192 ≤ b.toNat) := hf
  rw [he] at hc
  rcases List.mem_cons.1 hc with rfl | hc
  · rcases hf' with ⟨_, h1⟩ | ⟨_, h1⟩
    · apply h
      rw [← h1, h10]
      exact kin_line
    · omega
  · have := hu c hc
    omega

section
variable {s : ByteArray} {rs : List Nat}
theorem posR_lt (hl : s.data.toList = flat rs) {k : Nat} (hk : k < rs.length) : posR rs k < s.size ∧ posR rs (k + 1) = posR rs k + (enc rs[k]).length ∧ posR rs (k + 1) ≤ s.size := by
  have h1 := posR_step hk
  have h2 := enc_pos rs[k]
  have h3 : posR rs (k + 1) ≤ (flat rs).length := flat_take rs (k + 1)
  have h4 := size_data s
  rw [hl] at h4
  omega
theorem byte_rune (hl : s.data.toList = flat rs) (hok : ∀ r ∈ rs, okR r) {k : Nat} (hk : k < rs.length) (h : posR rs k < s.size) : (rs[k] < 128 ∧ s[posR rs k].toNat = rs[k]) ∨ (128 ≤ rs[k] ∧ 192 ≤ s[posR rs k].toNat) := by
  have hd : (flat rs).drop (posR rs k) = enc rs[k] ++ flat (rs.drop (k + 1)) := by
    rw [drop_posR (by omega), drop_at_k hk, flat_cons]
  have hg : s[posR rs k] = (enc rs[k] ++ flat (rs.drop (k + 1))).getD 0 0 := by
    rw [← hd, ← hl, List.getD_eq_getElem?_getD, List.getElem?_drop, Nat.add_zero, List.getElem?_eq_getElem (by rw [size_data]; exact h)]
    rfl
  rw [hg]
  exact first_byte (hok _ (List.getElem_mem hk)) _
/-- A byte of what begins with the rune k. -/
theorem byte_txt (hl : s.data.toList = flat rs) {k : Nat} (hk : k < rs.length) {j : Nat} (h1 : posR rs k ≤ j) (h2 : j < posR rs (toK rs k hk)) (h : j < s.size) : s[j] = (txt rs k hk).getD (j - posR rs k) 0 ∧ j - posR rs k < (txt rs k hk).length := by
  have hx := extract_txt hl hk
  rw [extract_mid] at hx
  have hlen : (txt rs k hk).length = posR rs (toK rs k hk) - posR rs k := by rw [posR_toK hk]; unfold txt; omega
  refine ⟨?_, by omega⟩
  rw [← hx, List.getD_eq_getElem?_getD, List.getElem?_take, if_pos (by omega), List.getElem?_drop, show posR rs k + (j - posR rs k) = j by omega, List.getElem?_eq_getElem (by rw [size_data]; exact h)]
  rfl
theorem remark_bytes (hl : s.data.toList = flat rs) (hok : ∀ r ∈ rs, okR r) {k : Nat} (hk : k < rs.length) (h35 : rs[k] = 35) :
    (∀ j (hj : j < s.size), posR rs (k + 1) ≤ j → j < posR rs (toK rs k hk) → s[j].toNat ≠ 10) ∧ (∀ hj : posR rs (toK rs k hk) < s.size, s[posR rs (toK rs k hk)].toNat = 10) := by
  refine ⟨fun j hj h1 h2 => ?_, fun hj => ?_⟩
  · have hs := (posR_lt hl hk).2.1
    have e35 : (enc rs[k]).length = 1 := by rw [h35, enc1 (by omega)]; rfl
    obtain ⟨hb, hlt⟩ := byte_txt hl hk (by omega) h2 hj
    have hm : (txt rs k hk).getD (j - posR rs k) 0 ∈ flat (more rs[k] (rs.drop (k + 1))) := by
      have e : txt rs k hk = enc rs[k] ++ flat (more rs[k] (rs.drop (k + 1))) := by unfold txt; rw [flat_cons]
      rw [e] at hlt ⊢
      rw [List.length_append] at hlt
      rw [List.getD_eq_getElem?_getD, List.getElem?_append_right (by omega), List.getElem?_eq_getElem (by omega)]
      exact List.getElem_mem _
    rw [hb]
    obtain ⟨l, hl1, hbl⟩ := List.mem_flatten.1 hm
    obtain ⟨x, hx, rfl⟩ := List.mem_map.1 hl1
    have hg := more_mem hx
    rw [h35] at hg
    unfold goes at hg
    rw [if_pos rfl] at hg
    have hxr : x ∈ rs := by
      have h5 : x ∈ rs.drop (k + 1) := (List.takeWhile_prefix _).subset hx
      exact List.mem_of_mem_drop h5
    exact enc_no_line (hok x hxr) (by intro h; rw [h] at hg; simp at hg) _ hbl
  · have hle := toK_le hk
    have hlt : toK rs k hk < rs.length := by
      rcases Nat.lt_or_ge (toK rs k hk) rs.length with h | h
      · exact h
      · have e : toK rs k hk = rs.length := by omega
        rw [e, posR_end, ← hl, size_data] at hj
        omega
    have st := behind_step hk (Nat.le_refl _) hlt
    have hg : goes rs[k] (kin rs[toK rs k hk]) = false := by
      rcases st with ⟨h, _⟩ | ⟨_, h⟩
      · omega
      · exact h
    rw [h35] at hg
    unfold goes at hg
    rw [if_pos rfl] at hg
    have hk2 : kin rs[toK rs k hk] = 2 := by simpa using hg
    have h10 : rs[toK rs k hk] = 10 := by
      unfold kin at hk2
      repeat' split at hk2
      all_goals omega
    rcases byte_rune hl hok hlt hj with ⟨_, h⟩ | ⟨h, _⟩
    · rw [h, h10]
    · omega
theorem digit_bytes (hl : s.data.toList = flat rs) (hok : ∀ r ∈ rs, okR r) {k : Nat} (hk : k < rs.length) (h3 : kin rs[k] = 3) :
    (∀ j (hj : j < s.size), posR rs k ≤ j → j < posR rs (toK rs k hk) → 48 ≤ s[j].toNat ∧ s[j].toNat ≤ 57) ∧ (∀ hj : posR rs (toK rs k hk) < s.size, ¬ (48 ≤ s[posR rs (toK rs k hk)].toNat ∧ s[posR rs (toK rs k hk)].toNat ≤ 57)) := by
  refine ⟨fun j hj h1 h2 => ?_, fun hj => ?_⟩
  · obtain ⟨hb, hlt⟩ := byte_txt hl hk h1 h2 hj
    rw [hb, List.getD_eq_getElem?_getD, List.getElem?_eq_getElem hlt]
    exact (txt_dig hk h3).2 _ (List.getElem_mem _)
  · have hle := toK_le hk
    have hlt : toK rs k hk < rs.length := by
      rcases Nat.lt_or_ge (toK rs k hk) rs.length with h | h
      · exact h
      · have e : toK rs k hk = rs.length := by omega
        rw [e, posR_end, ← hl, size_data] at hj
        omega
    have st := behind_step hk (Nat.le_refl _) hlt
    have hg : goes rs[k] (kin rs[toK rs k hk]) = false := by
      rcases st with ⟨h, _⟩ | ⟨_, h⟩
      · omega
      · exact h
    have n35 : ¬ rs[k] = 35 := by have := kin_dig h3; omega
    unfold goes at hg
    rw [if_neg n35, if_pos (Or.inl h3), h3] at hg
    have hk3 : kin rs[toK rs k hk] ≠ 3 := by simpa using hg
    intro hc
    rcases byte_rune hl hok hlt hj with ⟨_, h⟩ | ⟨_, h⟩
    · apply hk3
      rw [h] at hc
      exact (kin_facts _).2.2.2.1 (by omega)
    · omega
end

set_option maxHeartbeats 1000000 in
theorem rkind_at (s : ByteArray) (rs : List Nat) (k : Nat) (w : World) (hs : s.size ≤ 1000000) (hok : ∀ r ∈ rs, okR r) (hl : s.data.toList = flat rs) (hk : k < rs.length) :
    Calls Tryd.prog 22 #[.string s, .int .i64 (posR rs k : Nat)] w fun e w' => e = .returned (.tuple #[.int .i64 (kin rs[k]), .int .i64 ((enc rs[k]).length : Nat)]) ∧ w' = w := by
  have h1 := posR_lt hl hk
  have hr := hok _ (List.getElem_mem hk)
  have hd : s.data.toList.drop (posR rs k) = enc rs[k] ++ flat (rs.drop (k + 1)) := by
    rw [hl, drop_posR (by omega), drop_at_k hk, flat_cons]
  have hone : Hid (∀ v m, OneOf (s.extract (posR rs k) s.size).data.toList v m → v = rs[k] ∧ m = (enc rs[k]).length) := by
    show ∀ v m, _
    intro v m h
    rw [extract_data, hd] at h
    exact one_hit hr h
  obtain ⟨p, hp⟩ : ∃ p, p = posR rs k := ⟨_, rfl⟩
  obtain ⟨r, hrr⟩ : ∃ r, r = rs[k] := ⟨_, rfl⟩
  rw [← hp] at h1 hone ⊢
  rw [← hrr] at hone hr ⊢
  have hps := h1.1
  have hr2 : r ≤ 1114111 := by unfold okR at hr; omega
  have hex : (s.extract p s.size).size ≤ 1000000 := by rw [ByteArray.size_extract]; omega
  clear hd hp hrr h1 hl hok hr
  go_enter Tryd.func22, Tryd.ntmps22
  go_wp2_with fail
  refine (one_any _ _ hex).mono ?_
  rintro e w1 ⟨⟨v, m, rfl, ho⟩, rfl⟩
  obtain ⟨rfl, rfl⟩ := hone.out v m ho
  clear ho hone
  go_wp2_with fail
  refine (refKind_any _ _ (by omega) (by omega)).mono ?_
  rintro e w1 ⟨rfl, rfl⟩
  go_wp2
  go_ret2
  exact ⟨rfl, rfl⟩

end Go.Proofs.YtfklgicmhbkoiaaDoor
