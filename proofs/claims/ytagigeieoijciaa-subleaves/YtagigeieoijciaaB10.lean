/-
  Rings: the ways round, and the least of them. No program is named here.
  What the laws of layer 5 ask of the program's walks: a row of contracts.
-/
import Derived.Test.YtagigeieoijciaaB04
import Derived.Test.YtagigeieoijciaaB08
namespace Go.Proofs.Ytagigeieoijciaa

/-- A ring (E3). -/
def Ring (c : List Int) : Prop := 3 ≤ c.length ∧ c.Nodup
/-- From place s on, the one way round; and the other. -/
def oneL (c : List Int) (s : Nat) : List Int := (List.range c.length).map (fun i => c.getD ((s + i) % c.length) 0)
def twoL (c : List Int) (s : Nat) : List Int := (List.range c.length).map (fun i => c.getD ((s + c.length - i) % c.length) 0)
theorem oneL_len (c : List Int) (s : Nat) : (oneL c s).length = c.length := by simp [oneL]
theorem twoL_len (c : List Int) (s : Nat) : (twoL c s).length = c.length := by simp [twoL]
theorem oneL_at {c : List Int} {s i : Nat} (h : i < (oneL c s).length) : (oneL c s)[i] = c.getD ((s + i) % c.length) 0 := by simp [oneL]
theorem twoL_at {c : List Int} {s i : Nat} (h : i < (twoL c s).length) : (twoL c s)[i] = c.getD ((s + c.length - i) % c.length) 0 := by simp [twoL]
theorem oneL_zero (c : List Int) : oneL c 0 = c := List.ext_getElem (oneL_len c 0) (fun i h1 h2 => by
  rw [oneL_at h1, Nat.zero_add, Nat.mod_eq_of_lt h2]; simp [List.getD, h2])
/-- A way round. -/
def Round (c L : List Int) : Prop := ∃ s, s < c.length ∧ (L = oneL c s ∨ L = twoL c s)
theorem Round.len {c L : List Int} (h : Round c L) : L.length = c.length := by
  obtain ⟨s, _, rfl | rfl⟩ := h
  · exact oneL_len c s
  · exact twoL_len c s
/-- Turn (E3): the least of the ways round. -/
def TurnIs (c L : List Int) : Prop := (¬ Ring c ∧ L = c) ∨ (Ring c ∧ Round c L ∧ ∀ M, Round c M → lexL M L = false)
theorem TurnIs.one {c L M : List Int} (h : TurnIs c L) (k : TurnIs c M) : L = M := by
  rcases h with ⟨h, rfl⟩ | ⟨h, h1, h2⟩
  · rcases k with ⟨_, rfl⟩ | ⟨k, _⟩
    · rfl
    · exact absurd k h
  · rcases k with ⟨k, _⟩ | ⟨_, k1, k2⟩
    · exact absurd h k
    · exact lexL_tri (k2 L h1) (h2 M k1)
theorem TurnIs.len {c L : List Int} (h : TurnIs c L) : L.length = c.length := by
  rcases h with ⟨_, rfl⟩ | ⟨_, h, _⟩
  · rfl
  · exact h.len
/-- The best so far, of the ways from the first k places on. -/
def BestTo (c B : List Int) (k : Nat) : Prop := Round c B ∧ ∀ s, s < k → lexL (oneL c s) B = false ∧ lexL (twoL c s) B = false
theorem lex_low {M A B : List Int} (h : lexL M B = false) (k : A = B ∨ lexL A B = true) : lexL M A = false := by
  rcases k with rfl | k
  · exact h
  · cases h2 : lexL M A with
    | false => rfl
    | true => rw [lexL_trans h2 k] at h; cases h
theorem BestTo.low {c A B : List Int} {k : Nat} (h : BestTo c B k) (hA : Round c A) (hk : lexL A B = true) : BestTo c A k :=
  ⟨hA, fun s hs => ⟨lex_low (h.2 s hs).1 (Or.inr hk), lex_low (h.2 s hs).2 (Or.inr hk)⟩⟩
theorem BestTo.put {c B B1 B2 : List Int} {k : Nat} (h : BestTo c B k) (hk : k < c.length) (h1 : B1 = if lexL (oneL c k) B = true then oneL c k else B) (h2 : B2 = if lexL (twoL c k) B1 = true then twoL c k else B1) : BestTo c B2 (k + 1) := by
  have a1 : BestTo c B1 k ∧ lexL (oneL c k) B1 = false := by
    by_cases e : lexL (oneL c k) B = true
    · rw [if_pos e] at h1; subst h1; exact ⟨h.low ⟨k, hk, Or.inl rfl⟩ e, lexL_irrefl _⟩
    · rw [if_neg e] at h1; subst h1; exact ⟨h, by simpa using e⟩
  have a2 : BestTo c B2 k ∧ lexL (oneL c k) B2 = false ∧ lexL (twoL c k) B2 = false := by
    by_cases e : lexL (twoL c k) B1 = true
    · rw [if_pos e] at h2; subst h2; exact ⟨a1.1.low ⟨k, hk, Or.inr rfl⟩ e, lex_low a1.2 (Or.inr e), lexL_irrefl _⟩
    · rw [if_neg e] at h2; subst h2; exact ⟨a1.1, a1.2, by simpa using e⟩
  refine ⟨a2.1.1, fun s hs => ?_⟩
  by_cases e : s < k
  · exact a2.1.2 s e
  · obtain rfl : s = k := by omega
    exact a2.2
theorem mod_sub_self {n p : Nat} : (p + n - p) % n = 0 := by
  rw [Nat.add_sub_cancel_left]; exact Nat.mod_self n
/-- A way round of a way round is a way round. -/
theorem getD_mod {c : List Int} {n : Nat} {f : Nat → Nat} (L : List Int) (hL : L = (List.range c.length).map (fun i => c.getD (f i % c.length) 0)) (hn : n = c.length) (i : Nat) (hi : i < n) : L.getD i 0 = c.getD (f i % c.length) 0 := by
  subst hL
  subst hn
  simp [List.getD, hi]
theorem one_one {c : List Int} (hc : 0 < c.length) (s t : Nat) : oneL (oneL c s) t = oneL c ((s + t) % c.length) := by
  refine List.ext_getElem (by rw [oneL_len, oneL_len, oneL_len]) (fun i h1 h2 => ?_)
  rw [oneL_at h1, oneL_at h2, oneL_len]
  rw [getD_mod (f := fun i => s + i) (oneL c s) rfl rfl _ (Nat.mod_lt _ hc)]
  congr 1
  simp only [Nat.add_mod_mod, Nat.mod_add_mod, Nat.add_assoc]
theorem sub_mod' {n a b : Nat} (hb : b ≤ n) : (a + n - b) % n = (a % n + n - b) % n := by
  have h : a + n - b = a % n + n - b + n * (a / n) := by
    have := Nat.mod_add_div a n
    omega
  rw [h, Nat.add_mul_mod_self_left]
theorem two_one {c : List Int} (hc : 0 < c.length) (s t : Nat) : oneL (twoL c s) t = twoL c ((s + c.length - t % c.length) % c.length) := by
  refine List.ext_getElem (by rw [oneL_len, twoL_len, twoL_len]) (fun i h1 h2 => ?_)
  rw [oneL_at h1, twoL_at h2, twoL_len]
  have hlt := Nat.mod_lt (t + i) hc
  rw [getD_mod (f := fun i => s + c.length - i) (twoL c s) rfl rfl _ hlt]
  have hi : i < c.length := by rw [twoL_len] at h2; exact h2
  congr 1
  have ht := Nat.mod_lt t hc
  show (s + c.length - (t + i) % c.length) % c.length = ((s + c.length - t % c.length) % c.length + c.length - i) % c.length
  rw [← sub_mod' (Nat.le_of_lt hi)]
  have e : (t + i) % c.length = (t % c.length + i) % c.length := by rw [Nat.mod_add_mod]
  rw [e]
  by_cases h : t % c.length + i < c.length
  · rw [Nat.mod_eq_of_lt h]
    have : s + c.length - t % c.length + c.length - i = s + c.length - (t % c.length + i) + c.length := by omega
    rw [this, Nat.add_mod_right]
  · have e2 : (t % c.length + i) % c.length = t % c.length + i - c.length := by
      rw [Nat.mod_eq_sub_mod (by omega), Nat.mod_eq_of_lt (by omega)]
    rw [e2]
    congr 1
    omega
theorem one_two {c : List Int} (hc : 0 < c.length) (s t : Nat) : twoL (oneL c s) t = twoL c ((s + t) % c.length) := by
  refine List.ext_getElem (by rw [twoL_len, oneL_len, twoL_len]) (fun i h1 h2 => ?_)
  rw [twoL_at h1, twoL_at h2, oneL_len]
  have hi : i < c.length := by rw [twoL_len] at h2; exact h2
  rw [getD_mod (f := fun i => s + i) (oneL c s) rfl rfl _ (Nat.mod_lt _ hc)]
  congr 1
  show (s + (t + c.length - i) % c.length) % c.length = ((s + t) % c.length + c.length - i) % c.length
  rw [Nat.add_mod_mod, ← sub_mod' (Nat.le_of_lt hi)]
  congr 1
  omega
theorem two_two {c : List Int} (hc : 0 < c.length) (s t : Nat) : twoL (twoL c s) t = oneL c ((s + c.length - t % c.length) % c.length) := by
  refine List.ext_getElem (by rw [twoL_len, twoL_len, oneL_len]) (fun i h1 h2 => ?_)
  rw [twoL_at h1, oneL_at h2, twoL_len]
  have hi : i < c.length := by rw [oneL_len] at h2; exact h2
  have hlt := Nat.mod_lt (t + c.length - i) hc
  rw [getD_mod (f := fun i => s + c.length - i) (twoL c s) rfl rfl _ hlt]
  congr 1
  show (s + c.length - (t + c.length - i) % c.length) % c.length = ((s + c.length - t % c.length) % c.length + i) % c.length
  have ht := Nat.mod_lt t hc
  rw [Nat.mod_add_mod, sub_mod' (a := t) (Nat.le_of_lt hi)]
  by_cases h : t % c.length < i
  · rw [Nat.mod_eq_of_lt (a := t % c.length + c.length - i) (by omega), show s + c.length - t % c.length + i = s + c.length - (t % c.length + c.length - i) + c.length by omega, Nat.add_mod_right]
  · have e2 : (t % c.length + c.length - i) % c.length = t % c.length - i := by
      rw [show t % c.length + c.length - i = t % c.length - i + c.length by omega, Nat.add_mod_right, Nat.mod_eq_of_lt (by omega)]
    rw [e2]
    congr 1
    omega
/-- The ways round of a way round are those of the ring. -/
theorem Round.trans {c L M : List Int} (h : Round c L) (k : Round L M) : Round c M := by
  have hl := h.len
  obtain ⟨t, ht, hM⟩ := k
  have hc : 0 < c.length := by omega
  obtain ⟨s, hs, rfl | rfl⟩ := h
  · rcases hM with rfl | rfl
    · exact ⟨_, Nat.mod_lt _ hc, Or.inl (one_one hc s t)⟩
    · exact ⟨_, Nat.mod_lt _ hc, Or.inr (one_two hc s t)⟩
  · rcases hM with rfl | rfl
    · exact ⟨_, Nat.mod_lt _ hc, Or.inr (two_one hc s t)⟩
    · exact ⟨_, Nat.mod_lt _ hc, Or.inl (two_two hc s t)⟩
theorem Round.symm {c L : List Int} (h : Round c L) : Round L c := by
  have hl := h.len
  obtain ⟨s, hs, rfl | rfl⟩ := h
  · refine ⟨(c.length - s) % c.length, by rw [hl]; exact Nat.mod_lt _ (by omega), Or.inl ?_⟩
    rw [one_one (by omega), Nat.add_mod_mod, show s + (c.length - s) = c.length by omega, Nat.mod_self, oneL_zero]
  · refine ⟨s, by rw [hl]; exact hs, Or.inr ?_⟩
    rw [two_two (by omega), Nat.mod_eq_of_lt hs, mod_sub_self, oneL_zero]
theorem Round.mem {c L : List Int} (h : Round c L) {x : Int} (hx : x ∈ L) : x ∈ c := by
  have hl := h.len
  have hp := List.length_pos_of_mem hx
  have hc : 0 < c.length := by omega
  obtain ⟨s, hs, rfl | rfl⟩ := h
  · obtain ⟨i, _, rfl⟩ := List.mem_map.1 hx
    have := Nat.mod_lt (s + i) hc
    simp [List.getD, this]
  · obtain ⟨i, _, rfl⟩ := List.mem_map.1 hx
    have := Nat.mod_lt (s + c.length - i) hc
    simp [List.getD, this]
theorem nodup_of_sub {a b : List Int} (h : a.Nodup) (hl : b.length = a.length) (hs : ∀ x ∈ a, x ∈ b) : b.Nodup := by
  induction a generalizing b with
  | nil => simp at hl; subst hl; simp
  | cons x a ih =>
    have hx : x ∈ b := hs x (by simp)
    obtain ⟨h1, h2⟩ := List.nodup_cons.1 h
    have hle : (b.erase x).length = a.length := by rw [List.length_erase_of_mem hx]; simp at hl; omega
    have hsub : ∀ e ∈ a, e ∈ b.erase x := fun e he => (List.mem_erase_of_ne (fun e' => h1 (by rw [← e']; exact he))).2 (hs e (List.mem_cons_of_mem _ he))
    have hn := ih h2 hle hsub
    have hxn : x ∉ b.erase x := fun hm => by
      have := len_le_subI (a := x :: a) (b := b.erase x) h (fun e he => by
        rcases List.mem_cons.1 he with rfl | he
        · exact hm
        · exact hsub e he)
      simp at this
      omega
    exact (List.perm_cons_erase hx).nodup_iff.2 (List.nodup_cons.2 ⟨hxn, hn⟩)
theorem Round.ring {c L : List Int} (h : Round c L) (hc : Ring c) : Ring L := ⟨by rw [h.len]; exact hc.1, nodup_of_sub hc.2 h.len (fun _ hx => h.symm.mem hx)⟩
/-- A ring's Turn is the Turn of each of its ways round. -/
theorem TurnIs.round {c d L : List Int} (h : TurnIs c L) (hd : Round c d) (hc : Ring c) : TurnIs d L := by
  rcases h with ⟨h, _⟩ | ⟨_, h1, h2⟩
  · exact absurd hc h
  · exact Or.inr ⟨hd.ring hc, hd.symm.trans h1, fun M hM => h2 M (hd.trans hM)⟩
theorem TurnIs.again {c L : List Int} (h : TurnIs c L) : TurnIs L L := by
  by_cases hc : Ring c
  · have h' := h
    rcases h with ⟨h, _⟩ | ⟨_, h1, _⟩
    · exact absurd hc h
    · exact h'.round h1 hc
  · rcases h with ⟨_, rfl⟩ | ⟨h, _⟩
    · exact Or.inl ⟨hc, rfl⟩
    · exact absurd h hc
/-- The way back from the same place. -/
theorem two_back {c : List Int} (hc : 0 < c.length) : twoL c 0 = (c.headD 0) :: c.tail.reverse := by
  obtain ⟨x, l, rfl⟩ : ∃ x l, c = x :: l := by
    cases c with
    | nil => simp at hc
    | cons x l => exact ⟨x, l, rfl⟩
  refine List.ext_getElem (by rw [twoL_len]; simp) (fun i h1 h2 => ?_)
  rw [twoL_at h1]
  cases i with
  | zero => simp
  | succ j =>
    have hj : j < l.length := by rw [twoL_len] at h1; simpa using h1
    simp only [List.headD_cons, List.tail_cons, List.getElem_cons_succ, List.getElem_reverse, List.length_cons, Nat.zero_add]
    rw [Nat.mod_eq_of_lt (by omega), show l.length + 1 - (j + 1) = (l.length - 1 - j) + 1 by omega]
    simp [List.getD]
    rw [List.getElem?_eq_getElem (by omega)]
    rfl
/-- The Turn of a ring begins with its least number and goes on to the lesser neighbour. -/
theorem TurnIs.first {c L : List Int} (h : TurnIs c L) (hc : Ring c) : ∀ (h1 : 1 < L.length), L[1] < L[L.length - 1] := by
  intro h1
  have hr : Ring L := by
    rcases h with ⟨h, _⟩ | ⟨_, h2, _⟩
    · exact absurd hc h
    · exact h2.ring hc
  have hself := h.again
  rcases hself with ⟨h2, _⟩ | ⟨_, _, h2⟩
  · exact absurd hr h2
  · have h3 := h2 (twoL L 0) ⟨0, by omega, Or.inr rfl⟩
    rw [two_back (by omega)] at h3
    have hl := hr.1
    match L, h1, hr, h3, hl with
    | x :: z :: w :: l, h1, hr, h3, hl =>
      have hne : (x :: z :: w :: l).tail.reverse ≠ [] := by simp
      obtain ⟨u, t, ht⟩ := List.exists_cons_of_ne_nil hne
      have hu : u = (x :: z :: w :: l)[(x :: z :: w :: l).length - 1]'(by simp) := by
        have : ((x :: z :: w :: l).tail.reverse)[0]'(by rw [ht]; simp) = u := by rw [List.getElem_of_eq ht]; rfl
        rw [← this, List.getElem_reverse, List.getElem_tail]
        congr 1
      rw [ht] at h3
      simp only [List.headD_cons, lexL, Int.lt_irrefl, decide_false, beq_self_eq_true, Bool.true_and, Bool.false_or] at h3
      rw [Bool.or_eq_false_iff, decide_eq_false_iff_not] at h3
      have hz : z ≠ u := by
        intro e
        have := List.pairwise_iff_getElem.1 hr.2 1 ((x :: z :: w :: l).length - 1) (by simp) (by simp) (by simp)
        apply this
        rw [← hu, ← e]
        rfl
      rw [← hu]
      show z < u
      have := h3.1
      omega
end Go.Proofs.Ytagigeieoijciaa
namespace Go.Proofs.Ytagigeieoijciaa
open Go.RowKit Go.Lib

/-- What is known of a slice that came in, beside its cells. -/
def Slw (a : Option Addr) (cap n : Nat) : Prop := n ≤ cap ∧ (a = none → cap = 0)
theorem Sl.w {a : Option Addr} {cap n : Nat} (h : Sl a cap n) : Slw a cap n := ⟨h.1, h.2.1⟩
/-- Rows in memory, with what is known of their slices. -/
def LLS (w : World) (a : Option Addr) (LL : List (List Int)) : Prop :=
  0 < LL.length → ∃ g off, a = some ⟨g, off, none⟩ ∧ g < w.heap.size ∧ ∀ k (hk : k < LL.length), ∃ ak ck, w.cell? ⟨g, off + k, none⟩ = some (.slice ak LL[k].length ck) ∧ IAt w ak LL[k] ∧ Slw ak ck LL[k].length
theorem LLS.below {w w' : World} {a : Option Addr} {LL : List (List Int)} (h : LLS w a LL) (hb : Below w.heap.size w w') : LLS w' a LL := fun h0 => by
  obtain ⟨g, off, ha, hg, hc⟩ := h h0
  refine ⟨g, off, ha, Nat.lt_of_lt_of_le hg hb.size, fun k hk => ?_⟩
  obtain ⟨ak, ck, h1, h2, h3⟩ := hc k hk
  exact ⟨ak, ck, (hb.cell (p := ⟨g, off + k, none⟩) hg).trans h1, h2.below hb, h3⟩
theorem LLS.at {w : World} {a : Option Addr} {LL : List (List Int)} (h : LLS w a LL) {k : Nat} (hk : k < LL.length) : ∃ g off ak ck, a = some ⟨g, off, none⟩ ∧ w.cell? ⟨g, off + k, none⟩ = some (.slice ak LL[k].length ck) ∧ IAt w ak LL[k] ∧ Slw ak ck LL[k].length := by
  obtain ⟨g, off, ha, hg, hc⟩ := h (by omega)
  obtain ⟨ak, ck, h1, h2, h3⟩ := hc k hk
  exact ⟨g, off, ak, ck, ha, h1, h2, h3⟩
/-- A row that was just made. -/
theorem iat_new (w : World) (xs : List Int) (arr : Array Value) (fr : Nat × Nat) (h : arr = (xs.map (Value.int .i64)).toArray) : IAt (w.alloc (.cells arr 3 fr)) (some ⟨w.heap.size, 0, none⟩) xs := fun _ => by
  refine ⟨w.heap.size, 0, rfl, by simp, fun k hk => ?_⟩
  rw [Nat.zero_add, cell_of_heap (heap_alloc_new w _), h]
  simp [hk]
end Go.Proofs.Ytagigeieoijciaa
