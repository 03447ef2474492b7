/-
  Plain facts on UTF-8, over lists of bytes: a rune's bytes begin just one rune, and the model's decoder finds it. No program is named here.
-/
import GoSem.Core.Utf8
import Derived.Laws.Cover4
namespace Go.Proofs.YtfklgicmhbkoiaaDoor

def okR (r : Nat) : Prop := r < 55296 ∨ (57344 ≤ r ∧ r ≤ 1114111)
def enc (r : Nat) : List UInt8 :=
  if r < 128 then [UInt8.ofNat r]
  else if r < 2048 then [UInt8.ofNat (192 + r / 64), UInt8.ofNat (128 + r % 64)]
  else if r < 65536 then [UInt8.ofNat (224 + r / 4096), UInt8.ofNat (128 + r / 64 % 64), UInt8.ofNat (128 + r % 64)]
  else [UInt8.ofNat (240 + r / 262144), UInt8.ofNat (128 + r / 4096 % 64), UInt8.ofNat (128 + r / 64 % 64), UInt8.ofNat (128 + r % 64)]
def flat (rs : List Nat) : List UInt8 := (rs.map enc).flatten
def NoRune (l : List UInt8) : Prop := ∀ r t, okR r → l ≠ enc r ++ t

theorem valid_ok {r : Nat} (h : okR r) : Utf8.valid (r : Int) = true := by
  unfold okR at h; simp [Utf8.valid]; omega
theorem ok_valid {r : Nat} (h : Utf8.valid (r : Int) = true) : okR r := by
  unfold okR; simp [Utf8.valid] at h; omega

def encN (c : Nat) : ByteArray :=
  let b (n : Nat) : UInt8 := UInt8.ofNat n
  if c < 128 then ⟨#[b c]⟩
  else if c < 2048 then ⟨#[b (192 + c / 64), b (128 + c % 64)]⟩
  else if c < 65536 then ⟨#[b (224 + c / 4096), b (128 + c / 64 % 64), b (128 + c % 64)]⟩
  else ⟨#[b (240 + c / 262144), b (128 + c / 4096 % 64), b (128 + c / 64 % 64), b (128 + c % 64)]⟩
theorem encode_N (r : Int) : Utf8.encode r = encN (if Utf8.valid r then r.toNat else Utf8.runeError) := by
  delta Utf8.encode encN
  rfl
theorem encN_enc (r : Nat) : (encN r).data.toList = enc r := by
  unfold encN enc
  split
  · rfl
  · split
    · rfl
    · split
      · rfl
      · rfl
theorem encode_enc {r : Nat} (ho : okR r) : (Utf8.encode (r : Int)).data.toList = enc r := by
  rw [encode_N, valid_ok ho, if_pos rfl, Int.toNat_natCast, encN_enc]
theorem enc1 {r : Nat} (h : r < 128) : enc r = [UInt8.ofNat r] := by
  unfold enc; rw [if_pos h]
theorem enc2 {r : Nat} (h0 : 128 ≤ r) (h : r < 2048) : enc r = [UInt8.ofNat (192 + r / 64), UInt8.ofNat (128 + r % 64)] := by
  unfold enc; rw [if_neg (by omega), if_pos h]
theorem enc3 {r : Nat} (h0 : 2048 ≤ r) (h : r < 65536) : enc r = [UInt8.ofNat (224 + r / 4096), UInt8.ofNat (128 + r / 64 % 64), UInt8.ofNat (128 + r % 64)] := by
  unfold enc; rw [if_neg (by omega), if_neg (by omega), if_pos h]
theorem enc4 {r : Nat} (h0 : 65536 ≤ r) : enc r = [UInt8.ofNat (240 + r / 262144), UInt8.ofNat (128 + r / 4096 % 64), UInt8.ofNat (128 + r / 64 % 64), UInt8.ofNat (128 + r % 64)] := by
  unfold enc; rw [if_neg (by omega), if_neg (by omega), if_neg (by omega)]

theorem u8n (n : Nat) (h : n < 256) : (UInt8.ofNat n).toNat = n := by
  simp; omega
theorem u8e {b : UInt8} {n : Nat} (h : b.toNat = n) : b = UInt8.ofNat n := by
  rw [← h]; simp

/-- The four forms that a rune's bytes have, and the rune that they tell. -/
def Form (r : Nat) (l : List UInt8) : Prop :=
  (∃ a : UInt8, l = [a] ∧ a.toNat = r ∧ r < 128) ∨
  (∃ a b : UInt8, l = [a, b] ∧ 192 ≤ a.toNat ∧ a.toNat < 224 ∧ 128 ≤ b.toNat ∧ b.toNat < 192 ∧ r = (a.toNat - 192) * 64 + (b.toNat - 128) ∧ 128 ≤ r) ∨
  (∃ a b c : UInt8, l = [a, b, c] ∧ 224 ≤ a.toNat ∧ a.toNat < 240 ∧ 128 ≤ b.toNat ∧ b.toNat < 192 ∧ 128 ≤ c.toNat ∧ c.toNat < 192 ∧ r = ((a.toNat - 224) * 64 + (b.toNat - 128)) * 64 + (c.toNat - 128) ∧ 2048 ≤ r ∧ okR r) ∨
  (∃ a b c d : UInt8, l = [a, b, c, d] ∧ 240 ≤ a.toNat ∧ a.toNat < 248 ∧ 128 ≤ b.toNat ∧ b.toNat < 192 ∧ 128 ≤ c.toNat ∧ c.toNat < 192 ∧ 128 ≤ d.toNat ∧ d.toNat < 192 ∧ r = (((a.toNat - 240) * 64 + (b.toNat - 128)) * 64 + (c.toNat - 128)) * 64 + (d.toNat - 128) ∧ 65536 ≤ r ∧ okR r)

theorem form_enc {r : Nat} (ho : okR r) : Form r (enc r) := by
  have hr : r ≤ 1114111 := by unfold okR at ho; omega
  unfold Form
  by_cases h1 : r < 128
  · exact Or.inl ⟨_, enc1 h1, u8n _ (by omega), h1⟩
  · by_cases h2 : r < 2048
    · refine Or.inr (Or.inl ⟨_, _, enc2 (by omega) h2, ?_⟩)
      rw [u8n _ (by omega), u8n _ (by omega)]
      omega
    · by_cases h3 : r < 65536
      · refine Or.inr (Or.inr (Or.inl ⟨_, _, _, enc3 (by omega) h3, ?_⟩))
        rw [u8n _ (by omega), u8n _ (by omega), u8n _ (by omega)]
        refine ⟨?_, ?_, ?_, ?_, ?_, ?_, ?_, ?_, ho⟩
        all_goals omega
      · refine Or.inr (Or.inr (Or.inr ⟨_, _, _, _, enc4 (by omega), ?_⟩))
        rw [u8n _ (by omega), u8n _ (by omega), u8n _ (by omega), u8n _ (by omega)]
        refine ⟨?_, ?_, ?_, ?_, ?_, ?_, ?_, ?_, ?_, ?_, ho⟩
        all_goals omega

theorem form_is {r : Nat} {l : List UInt8} (h : Form r l) : okR r ∧ l = enc r := by
  rcases h with ⟨a, rfl, rfl, h1⟩ | ⟨a, b, rfl, h1, h2, h3, h4, h5, h6⟩ | ⟨a, b, c, rfl, h1, h2, h3, h4, h5, h6, h7, h8, h9⟩ | ⟨a, b, c, d, rfl, h1, h2, h3, h4, h5, h6, h7, h8, h9, h10, h11⟩
  · exact ⟨Or.inl (by omega), by rw [enc1 h1]; simp⟩
  · refine ⟨Or.inl (by omega), ?_⟩
    rw [enc2 h6 (by omega), u8e (b := a) (n := 192 + r / 64) (by omega), u8e (b := b) (n := 128 + r % 64) (by omega)]
  · refine ⟨h9, ?_⟩
    rw [enc3 h8 (by omega), u8e (b := a) (n := 224 + r / 4096) (by omega), u8e (b := b) (n := 128 + r / 64 % 64) (by omega), u8e (b := c) (n := 128 + r % 64) (by omega)]
  · refine ⟨h11, ?_⟩
    rw [enc4 h10, u8e (b := a) (n := 240 + r / 262144) (by omega), u8e (b := b) (n := 128 + r / 4096 % 64) (by omega), u8e (b := c) (n := 128 + r / 64 % 64) (by omega), u8e (b := d) (n := 128 + r % 64) (by omega)]

def decN (f : Nat → Nat) (cont : Nat → Bool) : Nat × Nat :=
  if f 0 < 128 then (f 0, 1)
  else if f 0 / 32 == 6 && cont 1 then
    if (f 0 % 32) * 64 + f 1 % 64 ≥ 128 then ((f 0 % 32) * 64 + f 1 % 64, 2) else (Utf8.runeError, 1)
  else if f 0 / 16 == 14 && cont 1 && cont 2 then
    if (f 0 % 16) * 4096 + (f 1 % 64) * 64 + f 2 % 64 ≥ 2048 && Utf8.valid ((f 0 % 16) * 4096 + (f 1 % 64) * 64 + f 2 % 64 : Nat) then ((f 0 % 16) * 4096 + (f 1 % 64) * 64 + f 2 % 64, 3) else (Utf8.runeError, 1)
  else if f 0 / 8 == 30 && cont 1 && cont 2 && cont 3 then
    if (f 0 % 8) * 262144 + (f 1 % 64) * 4096 + (f 2 % 64) * 64 + f 3 % 64 ≥ 65536 && Utf8.valid ((f 0 % 8) * 262144 + (f 1 % 64) * 4096 + (f 2 % 64) * 64 + f 3 % 64 : Nat) then ((f 0 % 8) * 262144 + (f 1 % 64) * 4096 + (f 2 % 64) * 64 + f 3 % 64, 4) else (Utf8.runeError, 1)
  else (Utf8.runeError, 1)
theorem decode_N (s : ByteArray) (i : Nat) : Utf8.decode s i = decN (fun k => (s.get! (i + k)).toNat) (fun k => i + k < s.size && (s.get! (i + k)).toNat / 64 == 2) := by
  delta Utf8.decode decN
  rfl

theorem decN1 {f : Nat → Nat} {cont : Nat → Bool} (h : f 0 < 128) : decN f cont = (f 0, 1) := by
  unfold decN; rw [if_pos h]
theorem decN2 {f : Nat → Nat} {cont : Nat → Bool} {v : Nat} (h0 : f 0 / 32 = 6) (c1 : cont 1 = true) (hv : (f 0 % 32) * 64 + f 1 % 64 = v) (h : 128 ≤ v) : decN f cont = (v, 2) := by
  unfold decN; rw [if_neg (by omega), if_pos (by simp [h0, c1]), hv, if_pos h]
theorem decN3 {f : Nat → Nat} {cont : Nat → Bool} {v : Nat} (h0 : f 0 / 16 = 14) (c1 : cont 1 = true) (c2 : cont 2 = true) (hv : (f 0 % 16) * 4096 + (f 1 % 64) * 64 + f 2 % 64 = v) (h : 2048 ≤ v) (ho : okR v) : decN f cont = (v, 3) := by
  have e : ¬ f 0 / 32 = 6 := by omega
  unfold decN; rw [if_neg (by omega), if_neg (by simp [e]), if_pos (by simp [h0, c1, c2]), hv, if_pos (by simp [h, valid_ok ho])]
theorem decN4 {f : Nat → Nat} {cont : Nat → Bool} {v : Nat} (h0 : f 0 / 8 = 30) (c1 : cont 1 = true) (c2 : cont 2 = true) (c3 : cont 3 = true) (hv : (f 0 % 8) * 262144 + (f 1 % 64) * 4096 + (f 2 % 64) * 64 + f 3 % 64 = v) (h : 65536 ≤ v) (ho : okR v) : decN f cont = (v, 4) := by
  have e : ¬ f 0 / 32 = 6 := by omega
  have e2 : ¬ f 0 / 16 = 14 := by omega
  unfold decN; rw [if_neg (by omega), if_neg (by simp [e]), if_neg (by simp [e2]), if_pos (by simp [h0, c1, c2, c3]), hv, if_pos (by simp [h, valid_ok ho])]
theorem decN_or (f : Nat → Nat) (cont : Nat → Bool) : decN f cont = (65533, 1) ∨ (f 0 < 128 ∧ decN f cont = (f 0, 1)) ∨
    (f 0 / 32 = 6 ∧ cont 1 = true ∧ 128 ≤ (f 0 % 32) * 64 + f 1 % 64 ∧ decN f cont = ((f 0 % 32) * 64 + f 1 % 64, 2)) ∨
    (f 0 / 16 = 14 ∧ cont 1 = true ∧ cont 2 = true ∧ 2048 ≤ (f 0 % 16) * 4096 + (f 1 % 64) * 64 + f 2 % 64 ∧ okR ((f 0 % 16) * 4096 + (f 1 % 64) * 64 + f 2 % 64) ∧ decN f cont = ((f 0 % 16) * 4096 + (f 1 % 64) * 64 + f 2 % 64, 3)) ∨
    (f 0 / 8 = 30 ∧ cont 1 = true ∧ cont 2 = true ∧ cont 3 = true ∧ 65536 ≤ (f 0 % 8) * 262144 + (f 1 % 64) * 4096 + (f 2 % 64) * 64 + f 3 % 64 ∧ okR ((f 0 % 8) * 262144 + (f 1 % 64) * 4096 + (f 2 % 64) * 64 + f 3 % 64) ∧ decN f cont = ((f 0 % 8) * 262144 + (f 1 % 64) * 4096 + (f 2 % 64) * 64 + f 3 % 64, 4)) := by
  by_cases h0 : f 0 < 128
  · exact Or.inr (Or.inl ⟨h0, decN1 h0⟩)
  by_cases h1 : f 0 / 32 = 6 ∧ cont 1 = true
  · obtain ⟨ha, hb⟩ := h1
    by_cases hv : 128 ≤ (f 0 % 32) * 64 + f 1 % 64
    · exact Or.inr (Or.inr (Or.inl ⟨ha, hb, hv, decN2 ha hb rfl hv⟩))
    · refine Or.inl ?_
      unfold decN; rw [if_neg h0, if_pos (by simp [ha, hb]), if_neg (by omega)]; rfl
  by_cases h2 : f 0 / 16 = 14 ∧ cont 1 = true ∧ cont 2 = true
  · obtain ⟨ha, hb, hc⟩ := h2
    by_cases hv : 2048 ≤ (f 0 % 16) * 4096 + (f 1 % 64) * 64 + f 2 % 64 ∧ okR ((f 0 % 16) * 4096 + (f 1 % 64) * 64 + f 2 % 64)
    · exact Or.inr (Or.inr (Or.inr (Or.inl ⟨ha, hb, hc, hv.1, hv.2, decN3 ha hb hc rfl hv.1 hv.2⟩)))
    · refine Or.inl ?_
      unfold decN; rw [if_neg h0, if_neg (by simpa using h1), if_pos (by simp [ha, hb, hc]), if_neg (fun hx => hv ?_)]
      · rfl
      · rw [Bool.and_eq_true, decide_eq_true_eq] at hx
        exact ⟨hx.1, ok_valid hx.2⟩
  by_cases h3 : f 0 / 8 = 30 ∧ cont 1 = true ∧ cont 2 = true ∧ cont 3 = true
  · obtain ⟨ha, hb, hc, hd⟩ := h3
    by_cases hv : 65536 ≤ (f 0 % 8) * 262144 + (f 1 % 64) * 4096 + (f 2 % 64) * 64 + f 3 % 64 ∧ okR ((f 0 % 8) * 262144 + (f 1 % 64) * 4096 + (f 2 % 64) * 64 + f 3 % 64)
    · exact Or.inr (Or.inr (Or.inr (Or.inr ⟨ha, hb, hc, hd, hv.1, hv.2, decN4 ha hb hc hd rfl hv.1 hv.2⟩)))
    · refine Or.inl ?_
      unfold decN; rw [if_neg h0, if_neg (by simpa using h1), if_neg (by simpa [and_assoc] using h2), if_pos (by simp [ha, hb, hc, hd]), if_neg (fun hx => hv ?_)]
      · rfl
      · rw [Bool.and_eq_true, decide_eq_true_eq] at hx
        exact ⟨hx.1, ok_valid hx.2⟩
  · refine Or.inl ?_
    unfold decN; rw [if_neg h0, if_neg (by simpa using h1), if_neg (by simpa [and_assoc] using h2), if_neg (by simpa [and_assoc] using h3)]; rfl

theorem at_drop {s : ByteArray} {pos : Nat} {p : List UInt8} (h : s.data.toList.drop pos = p) (i : Nat) (hi : i < p.length) : pos + i < s.size ∧ s.get! (pos + i) = p[i] := by
  subst h
  have hl : pos + i < s.size := by
    rw [List.length_drop] at hi
    have e : s.data.toList.length = s.size := Array.length_toList
    omega
  refine ⟨hl, ?_⟩
  rw [List.getElem_drop]
  show s.data[pos + i]! = _
  rw [getElem!_pos s.data (pos + i) hl, Array.getElem_toList]

theorem drop_at (s : ByteArray) (pos : Nat) (h : pos < s.size) : s.data.toList.drop pos = s.get! pos :: s.data.toList.drop (pos + 1) := by
  have e : s.data.toList.length = s.size := Array.length_toList
  rw [List.drop_eq_getElem_cons (by omega)]
  show _ = s.data[pos]! :: _
  rw [getElem!_pos s.data pos h, Array.getElem_toList]

/-- A rune's bytes at a place: the decoder tells it. -/
theorem decode_hit {s : ByteArray} {pos r : Nat} {t : List UInt8} (ho : okR r) (h : s.data.toList.drop pos = enc r ++ t) : Utf8.decode s pos = (r, (enc r).length) := by
  have hf := form_enc ho
  rw [decode_N]
  generalize enc r = l at *
  rcases hf with ⟨a, rfl, rfl, h1⟩ | ⟨a, b, rfl, h1, h2, h3, h4, h5, h6⟩ | ⟨a, b, c, rfl, h1, h2, h3, h4, h5, h6, h7, h8, h9⟩ | ⟨a, b, c, d, rfl, h1, h2, h3, h4, h5, h6, h7, h8, h9, h10, h11⟩
  · have g0 : s.get! (pos + 0) = a := (at_drop h 0 (by simp)).2
    rw [decN1 (by rw [g0]; exact h1), g0]; rfl
  · obtain ⟨_, g0⟩ := at_drop h 0 (by simp)
    obtain ⟨i1, g1⟩ := at_drop h 1 (by simp)
    simp only [List.cons_append, List.getElem_cons_zero, List.getElem_cons_succ] at g0 g1
    exact decN2 (by rw [g0]; omega) (by rw [g1]; simp [i1]; omega) (by rw [g0, g1]; omega) h6
  · obtain ⟨_, g0⟩ := at_drop h 0 (by simp)
    obtain ⟨i1, g1⟩ := at_drop h 1 (by simp)
    obtain ⟨i2, g2⟩ := at_drop h 2 (by simp)
    simp only [List.cons_append, List.getElem_cons_zero, List.getElem_cons_succ] at g0 g1 g2
    exact decN3 (by rw [g0]; omega) (by rw [g1]; simp [i1]; omega) (by rw [g2]; simp [i2]; omega) (by rw [g0, g1, g2]; omega) h8 h9
  · obtain ⟨_, g0⟩ := at_drop h 0 (by simp)
    obtain ⟨i1, g1⟩ := at_drop h 1 (by simp)
    obtain ⟨i2, g2⟩ := at_drop h 2 (by simp)
    obtain ⟨i3, g3⟩ := at_drop h 3 (by simp)
    simp only [List.cons_append, List.getElem_cons_zero, List.getElem_cons_succ] at g0 g1 g2 g3
    exact decN4 (by rw [g0]; omega) (by rw [g1]; simp [i1]; omega) (by rw [g2]; simp [i2]; omega) (by rw [g3]; simp [i3]; omega) (by rw [g0, g1, g2, g3]; omega) h10 h11

/-- Where no rune begins the decoder tells U+FFFD, and one byte. -/
theorem decode_miss {s : ByteArray} {pos : Nat} (hp : pos < s.size) (hn : NoRune (s.data.toList.drop pos)) : Utf8.decode s pos = (65533, 1) := by
  rw [decode_N]
  have hb : ∀ i, (s.get! i).toNat < 256 := fun i => (s.get! i).toNat_lt
  have key : ∀ r l t, Form r l → s.data.toList.drop pos = l ++ t → False := fun r l t hf h => by
    obtain ⟨ho, rfl⟩ := form_is hf
    exact hn r t ho h
  rcases decN_or (fun k => (s.get! (pos + k)).toNat) (fun k => pos + k < s.size && (s.get! (pos + k)).toNat / 64 == 2) with h | ⟨h0, _⟩ | ⟨h0, c1, hv, _⟩ | ⟨h0, c1, c2, hv, ho, _⟩ | ⟨h0, c1, c2, c3, hv, ho, _⟩
  · exact h
  · exact (key _ [s.get! pos] _ (Or.inl ⟨_, rfl, rfl, h0⟩) (drop_at s pos hp)).elim
  · simp only [Bool.and_eq_true, decide_eq_true_eq, beq_iff_eq, Nat.add_zero] at h0 c1 hv
    have b0 := hb pos; have b1 := hb (pos + 1)
    refine (key _ [s.get! pos, s.get! (pos + 1)] (s.data.toList.drop (pos + 1 + 1)) (Or.inr (Or.inl ⟨_, _, rfl, by omega, by omega, by omega, by omega, ?_, hv⟩)) ?_).elim
    · omega
    · rw [drop_at s pos hp, drop_at s (pos + 1) c1.1]; rfl
  · simp only [Bool.and_eq_true, decide_eq_true_eq, beq_iff_eq, Nat.add_zero] at h0 c1 c2 hv ho
    have b0 := hb pos; have b1 := hb (pos + 1); have b2 := hb (pos + 2)
    refine (key _ [s.get! pos, s.get! (pos + 1), s.get! (pos + 2)] (s.data.toList.drop (pos + 2 + 1)) (Or.inr (Or.inr (Or.inl ⟨_, _, _, rfl, by omega, by omega, by omega, by omega, by omega, by omega, ?_, hv, ho⟩))) ?_).elim
    · omega
    · rw [drop_at s pos hp, drop_at s (pos + 1) c1.1, drop_at s (pos + 1 + 1) c2.1]; rfl
  · simp only [Bool.and_eq_true, decide_eq_true_eq, beq_iff_eq, Nat.add_zero] at h0 c1 c2 c3 hv ho
    have b0 := hb pos; have b1 := hb (pos + 1); have b2 := hb (pos + 2); have b3 := hb (pos + 3)
    refine (key _ [s.get! pos, s.get! (pos + 1), s.get! (pos + 2), s.get! (pos + 3)] (s.data.toList.drop (pos + 3 + 1)) (Or.inr (Or.inr (Or.inr ⟨_, _, _, _, rfl, by omega, by omega, by omega, by omega, by omega, by omega, by omega, by omega, ?_, hv, ho⟩))) ?_).elim
    · omega
    · rw [drop_at s pos hp, drop_at s (pos + 1) c1.1, drop_at s (pos + 1 + 1) c2.1, drop_at s (pos + 1 + 1 + 1) c3.1]; rfl

end Go.Proofs.YtfklgicmhbkoiaaDoor
