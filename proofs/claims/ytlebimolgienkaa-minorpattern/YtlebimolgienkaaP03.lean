/-
  Rings: the ways round, and the least of them. No program is named here.
  Numbers that belong to classes: each number has the least one of its class. No program is named here.
  The document's Right, Has: which graphs may be; are two vertices neighbours?
  The document's Sorted, walked.
  The document's Normal, by rows: what stands above each vertex.
-/
import Derived.Test.YtlebimolgienkaaP02
import Derived.Test.YtlebimolgienkaaRows
import Derived.Test.YtlebimolgienkaaP01
import Derived.BigQuiet
import Derived.Laws.IdiomCopy
import Derived.Deep.DeepCutAuto
import Derived.Laws.CopyOwn
import Derived.Deep.OwnRows
import Derived.Deep.AppendLies
import Derived.Deep.RegionLaw
namespace Go.Proofs.Ytlebimolgienkaa

/-- A ring (E3). -/
def Ring (c : List Int) : Prop := 3 ≤ c.length ∧ c.Nodup
/-- From place s on, the one way round; and the other. -/
def oneL (c : List Int) (s : Nat) : List Int := (List.range c.length).map (fun i => c.getD ((s + i) % c.length) 0)
def twoL (c : List Int) (s : Nat) : List Int := (List.range c.length).map (fun i => c.getD ((s + c.length - i) % c.length) 0)
theorem oneL_len (c : List Int) (s : Nat) : (oneL c s).length = c.length := by simp [oneL]
theorem twoL_len (c : List Int) (s : Nat) : (twoL c s).length = c.length := by simp [twoL]
theorem oneL_at {c : List Int} {s i : Nat} (h : i < (oneL c s).length) : (oneL c s)[i] = c.getD ((s + i) % c.length) 0 := by simp [oneL]
theorem twoL_at {c : List Int} {s i : Nat} (h : i < (twoL c s).length) : (twoL c s)[i] = c.getD ((s + c.length - i) % c.length) 0 := by simp [twoL]
theorem oneL_zero (c : List Int) : oneL c 0 = c := List.ext_getElem (oneL_len c 0) (fun i h1 h2 => by
  rw [oneL_at h1, Nat.zero_add, Nat.mod_eq_of_lt h2]; simp [List.getD, h2])
/-- A way round. -/
def Round (c L : List Int) : Prop := ∃ s, s < c.length ∧ (L = oneL c s ∨ L = twoL c s)
theorem Round.len {c L : List Int} (h : Round c L) : L.length = c.length := by
  obtain ⟨s, _, rfl | rfl⟩ := h
  · exact oneL_len c s
  · exact twoL_len c s
/-- Turn (E3): the least of the ways round. -/
def TurnIs (c L : List Int) : Prop := (¬ Ring c ∧ L = c) ∨ (Ring c ∧ Round c L ∧ ∀ M, Round c M → lexL M L = false)
theorem TurnIs.one {c L M : List Int} (h : TurnIs c L) (k : TurnIs c M) : L = M := by
  rcases h with ⟨h, rfl⟩ | ⟨h, h1, h2⟩
  · rcases k with ⟨_, rfl⟩ | ⟨k, _⟩
    · rfl
    · exact absurd k h
  · rcases k with ⟨k, _⟩ | ⟨_, k1, k2⟩
    · exact absurd h k
    · exact lexL_tri (k2 L h1) (h2 M k1)
theorem TurnIs.len {c L : List Int} (h : TurnIs c L) : L.length = c.length := by
  rcases h with ⟨_, rfl⟩ | ⟨_, h, _⟩
  · rfl
  · exact h.len
/-- The best so far, of the ways from the first k places on. -/
def BestTo (c B : List Int) (k : Nat) : Prop := Round c B ∧ ∀ s, s < k → lexL (oneL c s) B = false ∧ lexL (twoL c s) B = false
theorem lex_low {M A B : List Int} (h : lexL M B = false) (k : A = B ∨ lexL A B = true) : lexL M A = false := by
  rcases k with rfl | k
  · exact h
  · cases h2 : lexL M A with
    | false => rfl
    | true => rw [lexL_trans h2 k] at h; cases h
theorem BestTo.low {c A B : List Int} {k : Nat} (h : BestTo c B k) (hA : Round c A) (hk : lexL A B = true) : BestTo c A k :=
  ⟨hA, fun s hs => ⟨lex_low (h.2 s hs).1 (Or.inr hk), lex_low (h.2 s hs).2 (Or.inr hk)⟩⟩
theorem BestTo.put {c B B1 B2 : List Int} {k : Nat} (h : BestTo c B k) (hk : k < c.length) (h1 : B1 = if lexL (oneL c k) B = true then oneL c k else B) (h2 : B2 = if lexL (twoL c k) B1 = true then twoL c k else B1) : BestTo c B2 (k + 1) := by
  have a1 : BestTo c B1 k ∧ lexL (oneL c k) B1 = false := by
    by_cases e : lexL (oneL c k) B = true
    · rw [if_pos e] at h1; subst h1; exact ⟨h.low ⟨k, hk, Or.inl rfl⟩ e, lexL_irrefl _⟩
    · rw [if_neg e] at h1; subst h1; exact ⟨h, by simpa using e⟩
  have a2 : BestTo c B2 k ∧ lexL (oneL c k) B2 = false ∧ lexL (twoL c k) B2 = false := by
    by_cases e : lexL (twoL c k) B1 = true
    · rw [if_pos e] at h2; subst h2; exact ⟨a1.1.low ⟨k, hk, Or.inr rfl⟩ e, lex_low a1.2 (Or.inr e), lexL_irrefl _⟩
    · rw [if_neg e] at h2; subst h2; exact ⟨a1.1, a1.2, by simpa using e⟩
  refine ⟨a2.1.1, fun s hs => ?_⟩
  by_cases e : s < k
  · exact a2.1.2 s e
  · obtain rfl : s = k := by omega
    exact a2.2
theorem BestTo.turn {c B : List Int} (h : BestTo c B c.length) (hc : Ring c) : TurnIs c B := Or.inr ⟨hc, h.1, fun M hM => by
  obtain ⟨s, hs, rfl | rfl⟩ := hM
  · exact (h.2 s hs).1
  · exact (h.2 s hs).2⟩

theorem mod_sub_self {n p : Nat} : (p + n - p) % n = 0 := by
  rw [Nat.add_sub_cancel_left]; exact Nat.mod_self n
/-- A way round of a way round is a way round. -/
theorem getD_mod {c : List Int} {n : Nat} {f : Nat → Nat} (L : List Int) (hL : L = (List.range c.length).map (fun i => c.getD (f i % c.length) 0)) (hn : n = c.length) (i : Nat) (hi : i < n) : L.getD i 0 = c.getD (f i % c.length) 0 := by
  subst hL
  subst hn
  simp [List.getD, hi]
theorem one_one {c : List Int} (hc : 0 < c.length) (s t : Nat) : oneL (oneL c s) t = oneL c ((s + t) % c.length) := by
  refine List.ext_getElem (by rw [oneL_len, oneL_len, oneL_len]) (fun i h1 h2 => ?_)
  rw [oneL_at h1, oneL_at h2, oneL_len]
  rw [getD_mod (f := fun i => s + i) (oneL c s) rfl rfl _ (Nat.mod_lt _ hc)]
  congr 1
  simp only [Nat.add_mod_mod, Nat.mod_add_mod, Nat.add_assoc]
theorem sub_mod' {n a b : Nat} (hb : b ≤ n) : (a + n - b) % n = (a % n + n - b) % n := by
  have h : a + n - b = a % n + n - b + n * (a / n) := by
    have := Nat.mod_add_div a n
    omega
  rw [h, Nat.add_mul_mod_self_left]
theorem two_one {c : List Int} (hc : 0 < c.length) (s t : Nat) : oneL (twoL c s) t = twoL c ((s + c.length - t % c.length) % c.length) := by
  refine List.ext_getElem (by rw [oneL_len, twoL_len, twoL_len]) (fun i h1 h2 => ?_)
  rw [oneL_at h1, twoL_at h2, twoL_len]
  have hlt := Nat.mod_lt (t + i) hc
  rw [getD_mod (f := fun i => s + c.length - i) (twoL c s) rfl rfl _ hlt]
  have hi : i < c.length := by rw [twoL_len] at h2; exact h2
  congr 1
  have ht := Nat.mod_lt t hc
  show (s + c.length - (t + i) % c.length) % c.length = ((s + c.length - t % c.length) % c.length + c.length - i) % c.length
  rw [← sub_mod' (Nat.le_of_lt hi)]
  have e : (t + i) % c.length = (t % c.length + i) % c.length := by rw [Nat.mod_add_mod]
  rw [e]
  by_cases h : t % c.length + i < c.length
  · rw [Nat.mod_eq_of_lt h]
    have : s + c.length - t % c.length + c.length - i = s + c.length - (t % c.length + i) + c.length := by omega
    rw [this, Nat.add_mod_right]
  · have e2 : (t % c.length + i) % c.length = t % c.length + i - c.length := by
      rw [Nat.mod_eq_sub_mod (by omega), Nat.mod_eq_of_lt (by omega)]
    rw [e2]
    congr 1
    omega
theorem one_two {c : List Int} (hc : 0 < c.length) (s t : Nat) : twoL (oneL c s) t = twoL c ((s + t) % c.length) := by
  refine List.ext_getElem (by rw [twoL_len, oneL_len, twoL_len]) (fun i h1 h2 => ?_)
  rw [twoL_at h1, twoL_at h2, oneL_len]
  have hi : i < c.length := by rw [twoL_len] at h2; exact h2
  rw [getD_mod (f := fun i => s + i) (oneL c s) rfl rfl _ (Nat.mod_lt _ hc)]
  congr 1
  show (s + (t + c.length - i) % c.length) % c.length = ((s + t) % c.length + c.length - i) % c.length
  rw [Nat.add_mod_mod, ← sub_mod' (Nat.le_of_lt hi)]
  congr 1
  omega
theorem two_two {c : List Int} (hc : 0 < c.length) (s t : Nat) : twoL (twoL c s) t = oneL c ((s + c.length - t % c.length) % c.length) := by
  refine List.ext_getElem (by rw [twoL_len, twoL_len, oneL_len]) (fun i h1 h2 => ?_)
  rw [twoL_at h1, oneL_at h2, twoL_len]
  have hi : i < c.length := by rw [oneL_len] at h2; exact h2
  have hlt := Nat.mod_lt (t + c.length - i) hc
  rw [getD_mod (f := fun i => s + c.length - i) (twoL c s) rfl rfl _ hlt]
  congr 1
  show (s + c.length - (t + c.length - i) % c.length) % c.length = ((s + c.length - t % c.length) % c.length + i) % c.length
  have ht := Nat.mod_lt t hc
  rw [Nat.mod_add_mod, sub_mod' (a := t) (Nat.le_of_lt hi)]
  by_cases h : t % c.length < i
  · rw [Nat.mod_eq_of_lt (a := t % c.length + c.length - i) (by omega), show s + c.length - t % c.length + i = s + c.length - (t % c.length + c.length - i) + c.length by omega, Nat.add_mod_right]
  · have e2 : (t % c.length + c.length - i) % c.length = t % c.length - i := by
      rw [show t % c.length + c.length - i = t % c.length - i + c.length by omega, Nat.add_mod_right, Nat.mod_eq_of_lt (by omega)]
    rw [e2]
    congr 1
    omega
/-- The ways round of a way round are those of the ring. -/
theorem Round.trans {c L M : List Int} (h : Round c L) (k : Round L M) : Round c M := by
  have hl := h.len
  obtain ⟨t, ht, hM⟩ := k
  have hc : 0 < c.length := by omega
  obtain ⟨s, hs, rfl | rfl⟩ := h
  · rcases hM with rfl | rfl
    · exact ⟨_, Nat.mod_lt _ hc, Or.inl (one_one hc s t)⟩
    · exact ⟨_, Nat.mod_lt _ hc, Or.inr (one_two hc s t)⟩
  · rcases hM with rfl | rfl
    · exact ⟨_, Nat.mod_lt _ hc, Or.inr (two_one hc s t)⟩
    · exact ⟨_, Nat.mod_lt _ hc, Or.inl (two_two hc s t)⟩
theorem Round.symm {c L : List Int} (h : Round c L) : Round L c := by
  have hl := h.len
  obtain ⟨s, hs, rfl | rfl⟩ := h
  · refine ⟨(c.length - s) % c.length, by rw [hl]; exact Nat.mod_lt _ (by omega), Or.inl ?_⟩
    rw [one_one (by omega), Nat.add_mod_mod, show s + (c.length - s) = c.length by omega, Nat.mod_self, oneL_zero]
  · refine ⟨s, by rw [hl]; exact hs, Or.inr ?_⟩
    rw [two_two (by omega), Nat.mod_eq_of_lt hs, mod_sub_self, oneL_zero]
theorem Round.mem {c L : List Int} (h : Round c L) {x : Int} (hx : x ∈ L) : x ∈ c := by
  have hl := h.len
  have hp := List.length_pos_of_mem hx
  have hc : 0 < c.length := by omega
  obtain ⟨s, hs, rfl | rfl⟩ := h
  · obtain ⟨i, _, rfl⟩ := List.mem_map.1 hx
    have := Nat.mod_lt (s + i) hc
    simp [List.getD, this]
  · obtain ⟨i, _, rfl⟩ := List.mem_map.1 hx
    have := Nat.mod_lt (s + c.length - i) hc
    simp [List.getD, this]
theorem nodup_of_sub {a b : List Int} (h : a.Nodup) (hl : b.length = a.length) (hs : ∀ x ∈ a, x ∈ b) : b.Nodup := by
  induction a generalizing b with
  | nil => simp at hl; subst hl; simp
  | cons x a ih =>
    have hx : x ∈ b := hs x (by simp)
    obtain ⟨h1, h2⟩ := List.nodup_cons.1 h
    have hle : (b.erase x).length = a.length := by rw [List.length_erase_of_mem hx]; simp at hl; omega
    have hsub : ∀ e ∈ a, e ∈ b.erase x := fun e he => (List.mem_erase_of_ne (fun e' => h1 (by rw [← e']; exact he))).2 (hs e (List.mem_cons_of_mem _ he))
    have hn := ih h2 hle hsub
    have hxn : x ∉ b.erase x := fun hm => by
      have := len_le_subI (a := x :: a) (b := b.erase x) h (fun e he => by
        rcases List.mem_cons.1 he with rfl | he
        · exact hm
        · exact hsub e he)
      simp at this
      omega
    exact (List.perm_cons_erase hx).nodup_iff.2 (List.nodup_cons.2 ⟨hxn, hn⟩)
theorem Round.ring {c L : List Int} (h : Round c L) (hc : Ring c) : Ring L := ⟨by rw [h.len]; exact hc.1, nodup_of_sub hc.2 h.len (fun _ hx => h.symm.mem hx)⟩
/-- A ring's Turn is the Turn of each of its ways round. -/
theorem TurnIs.round {c d L : List Int} (h : TurnIs c L) (hd : Round c d) (hc : Ring c) : TurnIs d L := by
  rcases h with ⟨h, _⟩ | ⟨_, h1, h2⟩
  · exact absurd hc h
  · exact Or.inr ⟨hd.ring hc, hd.symm.trans h1, fun M hM => h2 M (hd.trans hM)⟩
theorem TurnIs.again {c L : List Int} (h : TurnIs c L) : TurnIs L L := by
  by_cases hc : Ring c
  · have h' := h
    rcases h with ⟨h, _⟩ | ⟨_, h1, _⟩
    · exact absurd hc h
    · exact h'.round h1 hc
  · rcases h with ⟨_, rfl⟩ | ⟨h, _⟩
    · exact Or.inl ⟨hc, rfl⟩
    · exact absurd h hc
/-- The way back from the same place. -/
theorem two_back {c : List Int} (hc : 0 < c.length) : twoL c 0 = (c.headD 0) :: c.tail.reverse := by
  obtain ⟨x, l, rfl⟩ : ∃ x l, c = x :: l := by
    cases c with
    | nil => simp at hc
    | cons x l => exact ⟨x, l, rfl⟩
  refine List.ext_getElem (by rw [twoL_len]; simp) (fun i h1 h2 => ?_)
  rw [twoL_at h1]
  cases i with
  | zero => simp
  | succ j =>
    have hj : j < l.length := by rw [twoL_len] at h1; simpa using h1
    simp only [List.headD_cons, List.tail_cons, List.getElem_cons_succ, List.getElem_reverse, List.length_cons, Nat.zero_add]
    rw [Nat.mod_eq_of_lt (by omega), show l.length + 1 - (j + 1) = (l.length - 1 - j) + 1 by omega]
    simp [List.getD]
    rw [List.getElem?_eq_getElem (by omega)]
    rfl
/-- The Turn of a ring begins with its least number and goes on to the lesser neighbour. -/
theorem TurnIs.first {c L : List Int} (h : TurnIs c L) (hc : Ring c) : ∀ (h1 : 1 < L.length), L[1] < L[L.length - 1] := by
  intro h1
  have hr : Ring L := by
    rcases h with ⟨h, _⟩ | ⟨_, h2, _⟩
    · exact absurd hc h
    · exact h2.ring hc
  have hself := h.again
  rcases hself with ⟨h2, _⟩ | ⟨_, _, h2⟩
  · exact absurd hr h2
  · have h3 := h2 (twoL L 0) ⟨0, by omega, Or.inr rfl⟩
    rw [two_back (by omega)] at h3
    have hl := hr.1
    match L, h1, hr, h3, hl with
    | x :: z :: w :: l, h1, hr, h3, hl =>
      have hne : (x :: z :: w :: l).tail.reverse ≠ [] := by simp
      obtain ⟨u, t, ht⟩ := List.exists_cons_of_ne_nil hne
      have hu : u = (x :: z :: w :: l)[(x :: z :: w :: l).length - 1]'(by simp) := by
        have : ((x :: z :: w :: l).tail.reverse)[0]'(by rw [ht]; simp) = u := by rw [List.getElem_of_eq ht]; rfl
        rw [← this, List.getElem_reverse, List.getElem_tail]
        congr 1
      rw [ht] at h3
      simp only [List.headD_cons, lexL, Int.lt_irrefl, decide_false, beq_self_eq_true, Bool.true_and, Bool.false_or] at h3
      rw [Bool.or_eq_false_iff, decide_eq_false_iff_not] at h3
      have hz : z ≠ u := by
        intro e
        have := List.pairwise_iff_getElem.1 hr.2 1 ((x :: z :: w :: l).length - 1) (by simp) (by simp) (by simp)
        apply this
        rw [← hu, ← e]
        rfl
      rw [← hu]
      show z < u
      have := h3.1
      omega
end Go.Proofs.Ytlebimolgienkaa
namespace Go.Proofs.Ytlebimolgienkaa

/-- Each of the numbers below n has the least one of its class. -/
structure Pt (n : Nat) (f : Nat → Nat) : Prop where
  le : ∀ i, i < n → f i ≤ i
  idem : ∀ i, i < n → f (f i) = f i
theorem pt_new (n : Nat) : Pt n (fun i => i) := ⟨fun _ _ => Nat.le_refl _, fun _ _ => rfl⟩
theorem Pt.lt {n : Nat} {f : Nat → Nat} (h : Pt n f) {i : Nat} (hi : i < n) : f i < n := Nat.lt_of_le_of_lt (h.le i hi) hi
theorem Pt.congr {n : Nat} {f g : Nat → Nat} (h : Pt n f) (e : ∀ i, i < n → f i = g i) : Pt n g :=
  ⟨fun i hi => by rw [← e i hi]; exact h.le i hi, fun i hi => by rw [← e i hi, ← e (f i) (h.lt hi)]; exact h.idem i hi⟩
/-- What a join makes of it. -/
def joinF (f : Nat → Nat) (a b i : Nat) : Nat := if f i = max (f a) (f b) then min (f a) (f b) else f i
theorem Pt.join {n : Nat} {f : Nat → Nat} (h : Pt n f) {a b : Nat} (ha : a < n) (hb : b < n) : Pt n (joinF f a b) := by
  have ia := h.idem a ha
  have ib := h.idem b hb
  refine ⟨fun i hi => ?_, fun i hi => ?_⟩
  · have := h.le i hi
    unfold joinF
    split <;> omega
  · have ii := h.idem i hi
    unfold joinF
    by_cases e : f i = max (f a) (f b)
    · rw [if_pos e]
      have hm : f (min (f a) (f b)) = min (f a) (f b) := by
        rcases Nat.le_total (f a) (f b) with h1 | h1
        · rw [Nat.min_eq_left h1]; exact ia
        · rw [Nat.min_eq_right h1]; exact ib
      rw [hm]
      split <;> rfl
    · rw [if_neg e, ii, if_neg e]
theorem joinF_same (f : Nat → Nat) (a b i k : Nat) : joinF f a b i = joinF f a b k ↔ f i = f k ∨ (f i = f a ∧ f k = f b) ∨ (f i = f b ∧ f k = f a) := by
  unfold joinF
  by_cases e1 : f i = max (f a) (f b)
  · by_cases e2 : f k = max (f a) (f b)
    · rw [if_pos e1, if_pos e2]; omega
    · rw [if_pos e1, if_neg e2]; omega
  · by_cases e2 : f k = max (f a) (f b)
    · rw [if_neg e1, if_pos e2]; omega
    · rw [if_neg e1, if_neg e2]; omega
theorem joinF_one {f : Nat → Nat} {a b : Nat} (h : f a = f b) (i : Nat) : joinF f a b i = f i := by
  unfold joinF
  rw [h, Nat.max_self, Nat.min_self]
  split
  · next e => exact e.symm
  · rfl

/-- Belonging together by pairs: the least relation of that kind. -/
def Cl (P : List (Nat × Nat)) (a b : Nat) : Prop :=
  ∀ R : Nat → Nat → Prop, (∀ x, R x x) → (∀ x y, R x y → R y x) → (∀ x y z, R x y → R y z → R x z) → (∀ e ∈ P, R e.1 e.2) → R a b
theorem Cl.refl (P : List (Nat × Nat)) (a : Nat) : Cl P a a := fun _ h _ _ _ => h a
theorem Cl.symm {P : List (Nat × Nat)} {a b : Nat} (h : Cl P a b) : Cl P b a := fun R r s t p => s _ _ (h R r s t p)
theorem Cl.trans {P : List (Nat × Nat)} {a b c : Nat} (h : Cl P a b) (k : Cl P b c) : Cl P a c := fun R r s t p => t _ _ _ (h R r s t p) (k R r s t p)
theorem Cl.of {P : List (Nat × Nat)} {e : Nat × Nat} (h : e ∈ P) : Cl P e.1 e.2 := fun _ _ _ _ p => p e h
theorem Cl.mono {P Q : List (Nat × Nat)} {a b : Nat} (h : Cl P a b) (hs : ∀ e ∈ P, Cl Q e.1 e.2) : Cl Q a b :=
  h (Cl Q) (Cl.refl Q) (fun _ _ => Cl.symm) (fun _ _ _ => Cl.trans) hs
/-- The classes are those of the pairs. -/
def Tells (n : Nat) (f : Nat → Nat) (P : List (Nat × Nat)) : Prop := ∀ a b, a < n → b < n → (f a = f b ↔ Cl P a b)
def PairsIn (n : Nat) (P : List (Nat × Nat)) : Prop := ∀ e ∈ P, e.1 < n ∧ e.2 < n
theorem cl_nil {a b : Nat} (h : Cl [] a b) : a = b := h (fun x y => x = y) (fun _ => rfl) (fun _ _ h => h.symm) (fun _ _ _ h k => h.trans k) (fun e he => absurd he (by simp))
theorem tells_new (n : Nat) : Tells n (fun i => i) [] := fun a b _ _ => ⟨fun h => by have h' : a = b := h; rw [h']; exact Cl.refl _ _, cl_nil⟩
theorem tells_join {n : Nat} {f : Nat → Nat} {P : List (Nat × Nat)} (h : Tells n f P) (hP : PairsIn n P) {a b : Nat} (ha : a < n) (hb : b < n) : Tells n (joinF f a b) (P ++ [(a, b)]) := by
  have up : ∀ x y, Cl P x y → Cl (P ++ [(a, b)]) x y := fun x y hx => hx.mono (fun e he => Cl.of (List.mem_append_left _ he))
  have ab : Cl (P ++ [(a, b)]) a b := Cl.of (e := (a, b)) (by simp)
  intro i k hi hk
  constructor
  · intro e
    rcases (joinF_same f a b i k).1 e with e | ⟨e1, e2⟩ | ⟨e1, e2⟩
    · exact up _ _ ((h i k hi hk).1 e)
    · exact (up _ _ ((h i a hi ha).1 e1)).trans (ab.trans (up _ _ ((h k b hk hb).1 e2)).symm)
    · exact (up _ _ ((h i b hi hb).1 e1)).trans (ab.symm.trans (up _ _ ((h k a hk ha).1 e2)).symm)
  · intro hc
    have := hc (fun x y => x = y ∨ (x < n ∧ y < n ∧ joinF f a b x = joinF f a b y)) (fun x => Or.inl rfl) ?_ ?_ ?_
    · rcases this with e | ⟨_, _, e⟩
      · rw [e]
      · exact e
    · rintro x y (e | ⟨h1, h2, h3⟩)
      · exact Or.inl e.symm
      · exact Or.inr ⟨h2, h1, h3.symm⟩
    · rintro x y z (e | ⟨h1, h2, h3⟩) (e' | ⟨h1', h2', h3'⟩)
      · exact Or.inl (e.trans e')
      · rw [e]; exact Or.inr ⟨h1', h2', h3'⟩
      · rw [← e']; exact Or.inr ⟨h1, h2, h3⟩
      · exact Or.inr ⟨h1, h2', h3.trans h3'⟩
    · intro e he
      rcases List.mem_append.1 he with he | he
      · have hin := hP e he
        exact Or.inr ⟨hin.1, hin.2, (joinF_same _ _ _ _ _).2 (Or.inl ((h _ _ hin.1 hin.2).2 (Cl.of he)))⟩
      · simp at he
        subst he
        exact Or.inr ⟨ha, hb, (joinF_same _ _ _ _ _).2 (Or.inr (Or.inl ⟨rfl, rfl⟩))⟩
/-- There is one way alone to tell classes by their least numbers. -/
theorem pt_one {n : Nat} {f g : Nat → Nat} (hf : Pt n f) (hg : Pt n g) (h : ∀ a b, a < n → b < n → (f a = f b ↔ g a = g b)) : ∀ i, i < n → f i = g i := fun i hi => by
  have h1 : g (f i) = g i := (h _ _ (hf.lt hi) hi).1 (hf.idem i hi)
  have h2 : f (g i) = f i := (h _ _ (hg.lt hi) hi).2 (hg.idem i hi)
  have h3 := hg.le (f i) (hf.lt hi)
  have h4 := hf.le (g i) (hg.lt hi)
  omega
theorem tells_one {n : Nat} {f g : Nat → Nat} {P Q : List (Nat × Nat)} (hf : Pt n f) (hg : Pt n g) (tf : Tells n f P) (tg : Tells n g Q) (hPQ : ∀ e ∈ P, Cl Q e.1 e.2) (hQP : ∀ e ∈ Q, Cl P e.1 e.2) : ∀ i, i < n → f i = g i :=
  pt_one hf hg (fun a b ha hb => (tf a b ha hb).trans ((Iff.intro (fun h => h.mono hPQ) (fun h => h.mono hQP)).trans (tg a b ha hb).symm))

/-- The least numbers, and each one's class. -/
def repsF (n : Nat) (f : Nat → Nat) : List Nat := (List.range n).filter (fun i => f i == i)
theorem mem_reps {n : Nat} {f : Nat → Nat} {i : Nat} : i ∈ repsF n f ↔ i < n ∧ f i = i := by simp [repsF]
theorem reps_rises (n : Nat) (f : Nat → Nat) : (repsF n f).Pairwise (· < ·) := List.Pairwise.filter _ List.pairwise_lt_range
/-- A join makes one class fewer. -/
theorem reps_join {n : Nat} {f : Nat → Nat} (h : Pt n f) {a b : Nat} (ha : a < n) (hb : b < n) (hne : f a ≠ f b) : (repsF n f).length = (repsF n (joinF f a b)).length + 1 := by
  have hy : max (f a) (f b) ∈ repsF n f := by
    rw [mem_reps]
    rcases Nat.le_total (f a) (f b) with h1 | h1
    · rw [Nat.max_eq_right h1]; exact ⟨h.lt hb, h.idem b hb⟩
    · rw [Nat.max_eq_left h1]; exact ⟨h.lt ha, h.idem a ha⟩
  have e : repsF n (joinF f a b) = (repsF n f).filter (fun i => !(i == max (f a) (f b))) := by
    unfold repsF
    rw [List.filter_filter]
    refine List.filter_congr (fun i _ => ?_)
    unfold joinF
    by_cases h1 : f i = max (f a) (f b)
    · rw [if_pos h1]
      by_cases h2 : i = max (f a) (f b)
      · have h3 : ¬ min (f a) (f b) = i := by omega
        have h4 : (min (f a) (f b) == i) = false := beq_eq_false_iff_ne.2 h3
        have h5 : (i == max (f a) (f b)) = true := beq_iff_eq.2 h2
        rw [h4, h5]; rfl
      · have h3 : ¬ f i = i := by omega
        have h4 : ¬ min (f a) (f b) = i := fun e => by
          have : f i = i := by
            rw [← e]
            rcases Nat.le_total (f a) (f b) with h5 | h5
            · rw [Nat.min_eq_left h5]; exact h.idem a ha
            · rw [Nat.min_eq_right h5]; exact h.idem b hb
          omega
        rw [beq_eq_false_iff_ne.2 h3, beq_eq_false_iff_ne.2 h4, Bool.and_false]
    · rw [if_neg h1]
      by_cases h2 : i = max (f a) (f b)
      · have h4 : (f i == i) = false := beq_eq_false_iff_ne.2 (by omega)
        rw [h4, Bool.and_false]
      · simp [h2]
  rw [e]
  have hnd : (repsF n f).Nodup := (reps_rises n f).imp (fun h => by omega)
  have := List.length_eq_countP_add_countP (fun i => i == max (f a) (f b)) (l := repsF n f)
  rw [List.countP_eq_length_filter, List.countP_eq_length_filter] at this
  have h1 : ((repsF n f).filter (fun i => i == max (f a) (f b))).length = 1 := by
    rw [← List.countP_eq_length_filter]
    exact Nat.le_antisymm (List.nodup_iff_count.1 hnd _) (List.count_pos_iff.2 hy)
  rw [h1] at this
  rw [this, Nat.add_comm]
  congr 2
  refine List.filter_congr (fun i _ => by cases h : (i == max (f a) (f b)) <;> simp)
end Go.Proofs.Ytlebimolgienkaa
namespace Go.Proofs.Ytlebimolgienkaa
open Go.RowKit Go.Lib

set_option maxHeartbeats 2000000 in
set_option maxRecDepth 100000 in
theorem rright_any (n : Int) (a : Option Addr) (cap : Nat) (es : List (Int × Int)) (b : Bool) (w : World) (hN : es.length ≤ 1000000) (hE : EAt w a es) (hb : b = true ↔ RightG n es) :
    Calls Try.prog 41 #[.agg #[.int .i64 n, .slice a es.length cap]] w fun e w' => e = .returned (.bool b) ∧ Below w.heap.size w w' := by
  obtain ⟨N, hNe⟩ : ∃ N, N = es.length := ⟨_, rfl⟩
  rw [← hNe] at hN ⊢
  have HN : Hid (N = es.length) := hNe
  have HE : Hid (EAt w a es) := hE
  have HB : Hid (b = true ↔ RightG n es) := hb
  clear hNe hE hb
  by_cases h1 : n < 0
  · obtain rfl : b = false := b_false HB.out (fun h => absurd h.1 (by omega))
    clear HB
    go_enter Try.func41, Try.ntmps41
    go_wp2
    go_ret
    exact ⟨rfl, (Below.refl _ _).alloc (Nat.le_refl _) _⟩
  by_cases h2 : 1000 < n
  · obtain rfl : b = false := b_false HB.out (fun h => absurd h.2.1 (by omega))
    clear HB
    go_enter Try.func41, Try.ntmps41
    go_wp2
    go_ret
    exact ⟨rfl, (Below.refl _ _).alloc (Nat.le_refl _) _⟩
  by_cases h3 : 4000 < N
  · obtain rfl : b = false := b_false HB.out (fun h => absurd h.2.2.1 (by rw [← HN.out]; omega))
    clear HB
    go_enter Try.func41, Try.ntmps41
    go_wp2
    go_ret
    exact ⟨rfl, (Below.refl _ _).alloc (Nat.le_refl _) _⟩
  have h1' : 0 ≤ n := by omega
  have h2' : n ≤ 1000 := by omega
  have h3' : N ≤ 4000 := by omega
  clear h1 h2 h3
  go_enter Try.func41, Try.ntmps41
  go_wp2
  go_loopw [3] (fun i wr => ∃ k : Nat, k ≤ N ∧ i = .int .i64 k ∧ Hid (∀ j, j < k → OkAt n es j) ∧ Below w.heap.size w wr ∧ w.heap.size < wr.heap.size ∧ wr.cell? ⟨w.heap.size, 0, none⟩ = some (.int .i64 n) ∧ wr.cell? ⟨w.heap.size, 1, none⟩ = some (.slice a N cap)) (fun i _ => N - (RowKit.intOf i).toNat)
  case atStart =>
    refine ⟨0, Nat.zero_le _, rfl, fun j hj => absurd hj (by omega), (Below.refl _ _).alloc (Nat.le_refl _) _, by simp, ?_, ?_⟩
    · exact cell_of_heap (heap_alloc_new _ _) 0
    · exact cell_of_heap (heap_alloc_new _ _) 1
  case round =>
    obtain ⟨k, hk, rfl, hok, hbr, hsz, hc0, hc1⟩ := hrel
    have HSZ : Hid (w.heap.size < wr.heap.size) := hsz
    clear hsz
    by_cases hlt : k < N
    · have hkr : k < es.length := by rw [← HN.out]; exact hlt
      obtain ⟨g, off, rfl, hg, hcs⟩ := HE.out.at hkr
      obtain ⟨e1, he1⟩ := ex_eq es[k].1
      obtain ⟨e2, he2⟩ := ex_eq es[k].2
      have d := hcs wr hbr k hkr
      rw [← he1, ← he2] at d
      obtain ⟨d0, d1⟩ := d
      have HES : Hid (e1 = es[k].1 ∧ e2 = es[k].2) := ⟨he1, he2⟩
      have HCS : Hid (∀ j (hj : j < es.length), wr.cell? ⟨g, off + j * 2, none⟩ = some (.int .i64 es[j].1) ∧ wr.cell? ⟨g, off + j * 2 + 1, none⟩ = some (.int .i64 es[j].2)) := hcs wr hbr
      clear hcs he1 he2
      have q1 : (k : Int) < (N : Int) := by omega
      have hbW : Below w.heap.size w (wr.alloc (.cells #[.int .i64 e1, .int .i64 e2] 56)) := hbr.alloc hbr.size _
      have f0 : (wr.alloc (.cells #[.int .i64 e1, .int .i64 e2] 56)).cell? ⟨w.heap.size, 0, none⟩ = some (.int .i64 n) := cell_alloc_old hc0 _
      have f1 : (wr.alloc (.cells #[.int .i64 e1, .int .i64 e2] 56)).cell? ⟨w.heap.size, 1, none⟩ = some (.slice (some ⟨g, off, none⟩) N cap) := cell_alloc_old hc1 _
      by_cases hin : 0 ≤ e1 ∧ e1 < e2 ∧ e2 < n
      · obtain ⟨i1, i2, i3⟩ := hin
        by_cases hk0 : k = 0
        · subst hk0
          rw [Nat.zero_mul, Nat.add_zero] at d0 d1
          go_wp2
          go_quiet (fail)
          go_wp2
          go_roundw
          case rel => exact ⟨1, by omega, by go_num, okAt_next hok.out HES.out ⟨i1, i2, i3⟩ (fun h => absurd h (by omega)), below_drewN hbW _, by have := HSZ.out; simp; omega, by go_simp, by go_simp⟩
          case measure => simp [RowKit.intOf]; omega
        · have hk1 : k - 1 < es.length := by omega
          obtain ⟨p1, hp1⟩ := ex_eq es[k - 1].1
          obtain ⟨p2, hp2⟩ := ex_eq es[k - 1].2
          have c := HCS.out (k - 1) hk1
          rw [← hp1, ← hp2] at c
          obtain ⟨c0, c1⟩ := c
          have g0 : (wr.alloc (.cells #[.int .i64 e1, .int .i64 e2] 56)).cell? ⟨g, off + (k - 1) * 2, none⟩ = some (.int .i64 p1) := cell_alloc_old c0 _
          have g1 : (wr.alloc (.cells #[.int .i64 e1, .int .i64 e2] 56)).cell? ⟨g, off + (k - 1) * 2 + 1, none⟩ = some (.int .i64 p2) := cell_alloc_old c1 _
          have HPS : Hid (p1 = es[k - 1].1 ∧ p2 = es[k - 1].2) := ⟨hp1, hp2⟩
          obtain ⟨m, rfl⟩ : ∃ m, k = m + 1 := ⟨k - 1, by omega⟩
          rw [Nat.add_sub_cancel] at g0 g1
          clear hp1 hp2 c0 c1
          have q0 : (m : Int) < (N : Int) := by omega
          have HLT : Hid (ltE (es[m + 1 - 1]'(by omega)) es[m + 1] = true ↔ (p1 < e1 ∨ (p1 = e1 ∧ p2 < e2))) := by
            show _ ↔ _
            rw [ltE_iff, HPS.out.1, HPS.out.2, HES.out.1, HES.out.2]
          by_cases t1 : e1 < p1
          · obtain rfl : b = false := b_false HB.out (fun h => by
              have := (h.at (m + 1) hkr).2 (by omega)
              rw [HLT.out] at this; omega)
            clear HB
            go_wp2
            go_quiet (fail)
            go_wp2
            go_ret
            exact ⟨rfl, below_drewN hbW _⟩
          by_cases t2 : p1 = e1
          · subst t2
            by_cases t3 : e2 ≤ p2
            · obtain rfl : b = false := b_false HB.out (fun h => by
                have := (h.at (m + 1) hkr).2 (by omega)
                rw [HLT.out] at this; omega)
              clear HB
              go_wp2
              go_quiet (fail)
              go_wp2
              go_ret
              exact ⟨rfl, below_drewN hbW _⟩
            · have t3' : ¬ e2 ≤ p2 := t3
              go_wp2
              go_quiet (fail)
              go_wp2
              go_roundw
              case rel => exact ⟨m + 1 + 1, by omega, by go_num, okAt_next hok.out HES.out ⟨i1, i2, i3⟩ (fun _ => HLT.out.2 (Or.inr ⟨by first | rfl | trivial, by omega⟩)), below_drewN hbW _, by have := HSZ.out; simp; omega, by go_simp, by go_simp⟩
              case measure => simp [RowKit.intOf]; omega
          · have t2' : (p1 == e1) = false := beq_eq_false_iff_ne.2 t2
            have t1' : p1 ≤ e1 := by omega
            have HOK : Hid (p1 < e1) := by
              show p1 < e1
              omega
            have t1d : decide (e1 < p1) = false := decide_eq_false t1
            clear t2
            go_wp2
            go_quiet (fail)
            go_wp2
            go_roundw
            case rel => exact ⟨m + 1 + 1, by omega, by go_num, okAt_next hok.out HES.out ⟨i1, i2, i3⟩ (fun _ => HLT.out.2 (Or.inl HOK.out)), below_drewN hbW _, by have := HSZ.out; simp; omega, by go_simp, by go_simp⟩
            case measure => simp [RowKit.intOf]; omega
      · obtain rfl : b = false := b_false HB.out (fun h => by
          have := (h.at k hkr).1
          rw [← HES.out.1, ← HES.out.2] at this
          exact hin this)
        clear HB
        go_wp2
        all_goals go_ret
        all_goals exact ⟨rfl, hbW⟩
    · obtain rfl : k = N := by omega
      obtain rfl : b = true := HB.out.2 (right_of h1' h2' (by rw [← HN.out]; exact h3') (fun i hi => hok.out i (by rw [HN.out]; exact hi)))
      clear HB
      go_wp2
      go_ret
      exact ⟨rfl, hbr⟩
end Go.Proofs.Ytlebimolgienkaa
namespace Go.Proofs.Ytlebimolgienkaa
open Go.RowKit Go.Lib

theorem own_emptyI {w : World} (o : Obj) (ho : o = .cells #[] 3 (0, 0)) : (w.alloc o).ownsRow w.heap.size 3 1 (.slice (some ⟨w.heap.size, 0, none⟩) 0 0) 0 [] := by
  subst ho
  exact ⟨rfl, Or.inr ⟨w.heap.size, 0, #[], rfl, Nat.le_refl _, heap_alloc_new _ _, Nat.le_refl _, Nat.zero_le _, rfl, rfl⟩⟩
theorem own_form {w : World} {base : Nat} {e : TypeId} {v : Value} {xs : List Int} (h : w.ownsRow base e 1 v xs.length (xs.map (Value.int .i64))) : ∃ a cap, v = .slice a xs.length cap ∧ IAt w a xs := iat_own h
end Go.Proofs.Ytlebimolgienkaa
namespace Go.Proofs.Ytlebimolgienkaa
open Go.RowKit Go.Lib

theorem Try.info28 : (Try.prog.info? 28).map (fun i => (i.zero, i.size, i.bytes)) = some (some (.slice none 0 0), 1, 24) := by kernel_rfl

/-- The rows in memory, each in a block of its own. -/
structure UpAt (w : World) (g base n : Nat) (u : Nat → Value) (R : Nat → List Int) : Prop where
  lt : g < base
  bs : base ≤ w.heap.size
  row : w.rowIs g 28 n u
  own : ∀ v, v < n → w.ownsRow base 3 1 (u v) (R v).length ((R v).map (Value.int .i64))
  apart : ∀ v v', v < n → v' < n → v ≠ v' → (u v).ownBlock = none ∨ (u v).ownBlock ≠ (u v').ownBlock
theorem own_set {w : World} {base e size n : Nat} {v : Value} {xs : List Value} {p : Addr} (h : w.ownsRow base e size v n xs) (hp : p.block < base) (x : Value) : (w.setCell p x).ownsRow base e size v n xs := by
  refine ⟨h.1, ?_⟩
  rcases h.2 with hn | ⟨g, cap, cur, rfl, hb, hgg, rest⟩
  · exact .inl hn
  · exact .inr ⟨g, cap, cur, rfl, hb, by rw [Deep.blk_setCell_other _ _ _ _ (by omega)]; exact hgg, rest⟩
theorem UpAt.below {w w' : World} {g base n : Nat} {u : Nat → Value} {R : Nat → List Int} (h : UpAt w g base n u R) (hb : Below w.heap.size w w') : UpAt w' g base n u R :=
  ⟨h.lt, Nat.le_trans h.bs hb.size, h.row.of_block (hb.block _ h.row.lt), fun v hv => own_below (h.own v hv) hb, h.apart⟩
theorem UpAt.put {w w4 : World} {g base n lo : Nat} {u : Nat → Value} {R : Nat → List Int} {x : Int} {o : Obj} {g' cap' : Nat} {v' : Value} (h : UpAt w g base n u R) (hlo : lo < n) (hv' : v' = .slice (some ⟨g', 0, none⟩) ((R lo).length + 1) cap')
    (hown : w4.ownsRow base 3 1 v' ((R lo).length + 1) ((R lo).map (Value.int .i64) ++ [.int .i64 x])) (hg : (w.alloc o).grownBy w4 (u lo).ownBlock) (hat : (u lo).ownBlock = some g' ∨ g' = w.heap.size + 1) :
    UpAt (w4.setCell ⟨g, lo, none⟩ v') g base n (fun j => if j = lo then v' else u j) (fun j => if j = lo then R lo ++ [x] else R j) := by
  have hs : (w.alloc o).heap.size = w.heap.size + 1 := by simp
  have hlt := h.lt
  have hbs := h.bs
  have hgl := h.row.lt
  have hob : v'.ownBlock = some g' := by rw [hv']; rfl
  have hub : ∀ j, j < n → ∀ b, (u j).ownBlock = some b → base ≤ b ∧ b < w.heap.size := fun j hj b hb => (h.own j hj).lt b hb
  have hne : some g ≠ (u lo).ownBlock := fun e => by
    have := (hub lo hlo g e.symm).1
    omega
  refine ⟨h.lt, ?_, ?_, fun v hv => ?_, fun v v2 hv hv2 hvv => ?_⟩
  · have h1 := hg.size
    have h2 : (w4.setCell ⟨g, lo, none⟩ v').heap.size = w4.heap.size := by simp
    omega
  · refine (((h.row.alloc o).of_block (hg.block g (by omega) hne)).set lo v').congr (fun i _ => rfl)
  · refine own_set ?_ (by simpa using hlt) _
    show w4.ownsRow base 3 1 (if v = lo then v' else u v) (if v = lo then R lo ++ [x] else R v).length ((if v = lo then R lo ++ [x] else R v).map (Value.int .i64))
    by_cases e : v = lo
    · subst e
      rw [if_pos rfl, if_pos rfl]
      simpa using hown
    · rw [if_neg e, if_neg e]
      exact ((h.own v hv).alloc o).kept hg (h.apart v lo hv hlo e)
  · show (if v = lo then v' else u v : Value).ownBlock = none ∨ (if v = lo then v' else u v : Value).ownBlock ≠ (if v2 = lo then v' else u v2 : Value).ownBlock
    by_cases e : v = lo
    · subst e
      rw [if_pos rfl, if_neg (fun e => hvv e.symm), hob]
      right
      rcases hat with hat | hat
      · rcases h.apart v v2 hv hv2 hvv with h1 | h1
        · rw [hat] at h1; cases h1
        · rw [← hat]; exact h1
      · intro e
        have := (hub v2 hv2 g' e.symm).2
        omega
    · rw [if_neg e]
      by_cases e2 : v2 = lo
      · subst e2
        rw [if_pos rfl, hob]
        rcases hat with hat | hat
        · rw [← hat]; exact h.apart v v2 hv hv2 hvv
        · right
          intro e3
          have := (hub v hv g' e3).2
          omega
      · rw [if_neg e2]; exact h.apart v v2 hv hv2 hvv
theorem UpAt.iat {w : World} {g base n : Nat} {u : Nat → Value} {R : Nat → List Int} (h : UpAt w g base n u R) {v : Nat} (hv : v < n) : ∃ a cap, u v = .slice a (R v).length cap ∧ IAt w a (R v) := iat_own (h.own v hv)

/-- A graph's edges are put behind each other in its variable; a row of numbers lies elsewhere. -/
structure GAcc (w : World) (B : Nat) (m : Int) (sv : Value) (es : List (Int × Int)) (a5 : Option Addr) (S : List Int) : Prop where
  box : w.heap[B]? = some (.cells #[.int .i64 m, sv] 26 (0, 0))
  own : w.ownsRow (B + 1) 56 2 sv es.length (cellsE es)
  row : IAt w a5 S
  far : ∀ g off, 0 < S.length → a5 = some ⟨g, off, none⟩ → B < g ∧ ∀ b, sv.ownBlock = some b → b ≠ g
theorem box_put {w : World} {b : Nat} {x y v : Value} {T : TypeId} (h : w.heap[b]? = some (.cells #[x, y] T (0, 0))) : (w.setCell ⟨b, 1, none⟩ v).heap[b]? = some (.cells #[x, v] T (0, 0)) := by
  rw [heap_setCell_same w b 1 _ _ v h]; rfl
theorem GAcc.keep {w w4 : World} {B : Nat} {m : Int} {sv : Value} {es : List (Int × Int)} {a5 : Option Addr} {S : List Int} {o : Obj} (h : GAcc w B m sv es a5 S) (hg : (w.drew.alloc o).grownBy w4 sv.ownBlock) :
    w4.heap[B]? = some (.cells #[.int .i64 m, sv] 26 (0, 0)) := by
  have hB : B < w.heap.size := (Array.getElem?_eq_some_iff.1 h.box).1
  rw [hg.block B (by simp; omega) (fun e => by have := (h.own.lt B e.symm).1; omega), Below.heap_alloc w.drew _ _ hB]
  exact h.box
theorem GAcc.put {w w4 : World} {B g' cap' : Nat} {m p q : Int} {sv sv' : Value} {es : List (Int × Int)} {a5 : Option Addr} {S : List Int} {o : Obj} (h : GAcc w B m sv es a5 S) (hg : (w.drew.alloc o).grownBy w4 sv.ownBlock) (hsv : sv' = .slice (some ⟨g', 0, none⟩) (es.length + 1) cap')
    (hown : w4.ownsRow (B + 1) 56 2 sv' (es.length + 1) (cellsE es ++ [.int .i64 p, .int .i64 q])) (hat : sv.ownBlock = some g' ∨ g' = w.heap.size + 1) : GAcc (w4.setCell ⟨B, 1, none⟩ sv') B m sv' (es ++ [(p, q)]) a5 S := by
  have hs : (w.drew.alloc o).heap.size = w.heap.size + 1 := by simp
  refine ⟨box_put (h.keep hg), ?_, fun h0 => ?_, fun g off h0 ha => ⟨(h.far g off h0 ha).1, fun b hb => ?_⟩⟩
  · refine own_set ?_ (by simp) _
    rw [cellsE_append, List.length_append]
    exact hown
  · obtain ⟨g, off, ha, hlt, hc⟩ := h.row h0
    obtain ⟨h1, h2⟩ := h.far g off h0 ha
    refine ⟨g, off, ha, ?_, fun j hj => ?_⟩
    · have := hg.size
      have h3 : (w4.setCell ⟨B, 1, none⟩ sv').heap.size = w4.heap.size := by simp
      omega
    · rw [World.cell?_setCell_other _ _ _ _ (by first | (simp; done) | (simp; omega)), hg.cell_far _ (by first | (simp; done) | (simp; omega)) (fun e => h2 g e.symm rfl)]
      exact cell_alloc_old (w := w.drew) (hc j hj) _
  · obtain ⟨g1, off1, ha1, hlt, _⟩ := h.row h0
    rw [ha] at ha1
    simp only [Option.some.injEq, Addr.mk.injEq, and_true] at ha1
    rw [hsv] at hb
    simp only [Value.ownBlock, Option.some.injEq] at hb
    rcases hat with hat | hat
    · rw [← hb]; exact (h.far g off h0 ha).2 g' hat
    · omega
theorem GAcc.below {w w' : World} {B : Nat} {m : Int} {sv : Value} {es : List (Int × Int)} {a5 : Option Addr} {S : List Int} (h : GAcc w B m sv es a5 S) (hb : Below w.heap.size w w') {a6 : Option Addr} {S' : List Int} (h6 : IAt w' a6 S') (hn : ∀ g off, a6 = some ⟨g, off, none⟩ → w.heap.size ≤ g) : GAcc w' B m sv es a6 S' := by
  have hB : B < w.heap.size := (Array.getElem?_eq_some_iff.1 h.box).1
  exact ⟨(hb.block B hB).trans h.box, own_below h.own hb, h6, fun g off _ ha => ⟨by have := hn g off ha; omega, fun b hb' => by have := hn g off ha; have := (h.own.lt b hb').2; omega⟩⟩
end Go.Proofs.Ytlebimolgienkaa
