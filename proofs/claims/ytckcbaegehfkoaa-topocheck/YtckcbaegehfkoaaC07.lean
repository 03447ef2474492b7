/-
  Numbers that belong to classes: each number has the least one of its class. No program is named here.
  The document's parts (layer 4) in memory: New, Is, Same, Count, Join.
  Lists of rows in memory; the document's SameRows.
  What the laws of layer 5 ask of the program's walks: a row of contracts.
-/
import Derived.Test.YtckcbaegehfkoaaRows
import Derived.Test.YtckcbaegehfkoaaC03
import Derived.Test.YtckcbaegehfkoaaC06
import Derived.Test.YtckcbaegehfkoaaC04
import Derived.Deep.LoopGhost
import Derived.Deep.RegionHeld3
import Derived.BigQuiet
import Derived.Test.YtckcbaegehfkoaaC05
import Derived.Test.YtckcbaegehfkoaaC02
import Derived.Test.YtckcbaegehfkoaaC01
namespace Go.Proofs.Ytckcbaegehfkoaa

/-- Each of the numbers below n has the least one of its class. -/
structure Pt (n : Nat) (f : Nat → Nat) : Prop where
  le : ∀ i, i < n → f i ≤ i
  idem : ∀ i, i < n → f (f i) = f i
theorem pt_new (n : Nat) : Pt n (fun i => i) := ⟨fun _ _ => Nat.le_refl _, fun _ _ => rfl⟩
theorem Pt.lt {n : Nat} {f : Nat → Nat} (h : Pt n f) {i : Nat} (hi : i < n) : f i < n := Nat.lt_of_le_of_lt (h.le i hi) hi
theorem Pt.congr {n : Nat} {f g : Nat → Nat} (h : Pt n f) (e : ∀ i, i < n → f i = g i) : Pt n g :=
  ⟨fun i hi => by rw [← e i hi]; exact h.le i hi, fun i hi => by rw [← e i hi, ← e (f i) (h.lt hi)]; exact h.idem i hi⟩
/-- What a join makes of it. -/
def joinF (f : Nat → Nat) (a b i : Nat) : Nat := if f i = max (f a) (f b) then min (f a) (f b) else f i
theorem Pt.join {n : Nat} {f : Nat → Nat} (h : Pt n f) {a b : Nat} (ha : a < n) (hb : b < n) : Pt n (joinF f a b) := by
  have ia := h.idem a ha
  have ib := h.idem b hb
  refine ⟨fun i hi => ?_, fun i hi => ?_⟩
  · have := h.le i hi
    unfold joinF
    split <;> omega
  · have ii := h.idem i hi
    unfold joinF
    by_cases e : f i = max (f a) (f b)
    · rw [if_pos e]
      have hm : f (min (f a) (f b)) = min (f a) (f b) := by
        rcases Nat.le_total (f a) (f b) with h1 | h1
        · rw [Nat.min_eq_left h1]; exact ia
        · rw [Nat.min_eq_right h1]; exact ib
      rw [hm]
      split <;> rfl
    · rw [if_neg e, ii, if_neg e]
theorem joinF_same (f : Nat → Nat) (a b i k : Nat) : joinF f a b i = joinF f a b k ↔ f i = f k ∨ (f i = f a ∧ f k = f b) ∨ (f i = f b ∧ f k = f a) := by
  unfold joinF
  by_cases e1 : f i = max (f a) (f b)
  · by_cases e2 : f k = max (f a) (f b)
    · rw [if_pos e1, if_pos e2]; omega
    · rw [if_pos e1, if_neg e2]; omega
  · by_cases e2 : f k = max (f a) (f b)
    · rw [if_neg e1, if_pos e2]; omega
    · rw [if_neg e1, if_neg e2]; omega
/-- Belonging together by pairs: the least relation of that kind. -/
def Cl (P : List (Nat × Nat)) (a b : Nat) : Prop :=
  ∀ R : Nat → Nat → Prop, (∀ x, R x x) → (∀ x y, R x y → R y x) → (∀ x y z, R x y → R y z → R x z) → (∀ e ∈ P, R e.1 e.2) → R a b
theorem Cl.refl (P : List (Nat × Nat)) (a : Nat) : Cl P a a := fun _ h _ _ _ => h a
theorem Cl.symm {P : List (Nat × Nat)} {a b : Nat} (h : Cl P a b) : Cl P b a := fun R r s t p => s _ _ (h R r s t p)
theorem Cl.trans {P : List (Nat × Nat)} {a b c : Nat} (h : Cl P a b) (k : Cl P b c) : Cl P a c := fun R r s t p => t _ _ _ (h R r s t p) (k R r s t p)
theorem Cl.of {P : List (Nat × Nat)} {e : Nat × Nat} (h : e ∈ P) : Cl P e.1 e.2 := fun _ _ _ _ p => p e h
theorem Cl.mono {P Q : List (Nat × Nat)} {a b : Nat} (h : Cl P a b) (hs : ∀ e ∈ P, Cl Q e.1 e.2) : Cl Q a b :=
  h (Cl Q) (Cl.refl Q) (fun _ _ => Cl.symm) (fun _ _ _ => Cl.trans) hs
/-- The classes are those of the pairs. -/
def Tells (n : Nat) (f : Nat → Nat) (P : List (Nat × Nat)) : Prop := ∀ a b, a < n → b < n → (f a = f b ↔ Cl P a b)
def PairsIn (n : Nat) (P : List (Nat × Nat)) : Prop := ∀ e ∈ P, e.1 < n ∧ e.2 < n
theorem cl_nil {a b : Nat} (h : Cl [] a b) : a = b := h (fun x y => x = y) (fun _ => rfl) (fun _ _ h => h.symm) (fun _ _ _ h k => h.trans k) (fun e he => absurd he (by simp))
theorem tells_new (n : Nat) : Tells n (fun i => i) [] := fun a b _ _ => ⟨fun h => by have h' : a = b := h; rw [h']; exact Cl.refl _ _, cl_nil⟩
theorem tells_join {n : Nat} {f : Nat → Nat} {P : List (Nat × Nat)} (h : Tells n f P) (hP : PairsIn n P) {a b : Nat} (ha : a < n) (hb : b < n) : Tells n (joinF f a b) (P ++ [(a, b)]) := by
  have up : ∀ x y, Cl P x y → Cl (P ++ [(a, b)]) x y := fun x y hx => hx.mono (fun e he => Cl.of (List.mem_append_left _ he))
  have ab : Cl (P ++ [(a, b)]) a b := Cl.of (e := (a, b)) (by simp)
  intro i k hi hk
  constructor
  · intro e
    rcases (joinF_same f a b i k).1 e with e | ⟨e1, e2⟩ | ⟨e1, e2⟩
    · exact up _ _ ((h i k hi hk).1 e)
    · exact (up _ _ ((h i a hi ha).1 e1)).trans (ab.trans (up _ _ ((h k b hk hb).1 e2)).symm)
    · exact (up _ _ ((h i b hi hb).1 e1)).trans (ab.symm.trans (up _ _ ((h k a hk ha).1 e2)).symm)
  · intro hc
    have := hc (fun x y => x = y ∨ (x < n ∧ y < n ∧ joinF f a b x = joinF f a b y)) (fun x => Or.inl rfl) ?_ ?_ ?_
    · rcases this with e | ⟨_, _, e⟩
      · rw [e]
      · exact e
    · rintro x y (e | ⟨h1, h2, h3⟩)
      · exact Or.inl e.symm
      · exact Or.inr ⟨h2, h1, h3.symm⟩
    · rintro x y z (e | ⟨h1, h2, h3⟩) (e' | ⟨h1', h2', h3'⟩)
      · exact Or.inl (e.trans e')
      · rw [e]; exact Or.inr ⟨h1', h2', h3'⟩
      · rw [← e']; exact Or.inr ⟨h1, h2, h3⟩
      · exact Or.inr ⟨h1, h2', h3.trans h3'⟩
    · intro e he
      rcases List.mem_append.1 he with he | he
      · have hin := hP e he
        exact Or.inr ⟨hin.1, hin.2, (joinF_same _ _ _ _ _).2 (Or.inl ((h _ _ hin.1 hin.2).2 (Cl.of he)))⟩
      · simp at he
        subst he
        exact Or.inr ⟨ha, hb, (joinF_same _ _ _ _ _).2 (Or.inr (Or.inl ⟨rfl, rfl⟩))⟩
/-- There is one way alone to tell classes by their least numbers. -/
theorem pt_one {n : Nat} {f g : Nat → Nat} (hf : Pt n f) (hg : Pt n g) (h : ∀ a b, a < n → b < n → (f a = f b ↔ g a = g b)) : ∀ i, i < n → f i = g i := fun i hi => by
  have h1 : g (f i) = g i := (h _ _ (hf.lt hi) hi).1 (hf.idem i hi)
  have h2 : f (g i) = f i := (h _ _ (hg.lt hi) hi).2 (hg.idem i hi)
  have h3 := hg.le (f i) (hf.lt hi)
  have h4 := hf.le (g i) (hg.lt hi)
  omega
theorem tells_one {n : Nat} {f g : Nat → Nat} {P Q : List (Nat × Nat)} (hf : Pt n f) (hg : Pt n g) (tf : Tells n f P) (tg : Tells n g Q) (hPQ : ∀ e ∈ P, Cl Q e.1 e.2) (hQP : ∀ e ∈ Q, Cl P e.1 e.2) : ∀ i, i < n → f i = g i :=
  pt_one hf hg (fun a b ha hb => (tf a b ha hb).trans ((Iff.intro (fun h => h.mono hPQ) (fun h => h.mono hQP)).trans (tg a b ha hb).symm))

/-- The least numbers, and each one's class. -/
def repsF (n : Nat) (f : Nat → Nat) : List Nat := (List.range n).filter (fun i => f i == i)
theorem mem_reps {n : Nat} {f : Nat → Nat} {i : Nat} : i ∈ repsF n f ↔ i < n ∧ f i = i := by simp [repsF]
theorem reps_rises (n : Nat) (f : Nat → Nat) : (repsF n f).Pairwise (· < ·) := List.Pairwise.filter _ List.pairwise_lt_range
/-- A join makes one class fewer. -/
theorem reps_join {n : Nat} {f : Nat → Nat} (h : Pt n f) {a b : Nat} (ha : a < n) (hb : b < n) (hne : f a ≠ f b) : (repsF n f).length = (repsF n (joinF f a b)).length + 1 := by
  have hy : max (f a) (f b) ∈ repsF n f := by
    rw [mem_reps]
    rcases Nat.le_total (f a) (f b) with h1 | h1
    · rw [Nat.max_eq_right h1]; exact ⟨h.lt hb, h.idem b hb⟩
    · rw [Nat.max_eq_left h1]; exact ⟨h.lt ha, h.idem a ha⟩
  have e : repsF n (joinF f a b) = (repsF n f).filter (fun i => !(i == max (f a) (f b))) := by
    unfold repsF
    rw [List.filter_filter]
    refine List.filter_congr (fun i _ => ?_)
    unfold joinF
    by_cases h1 : f i = max (f a) (f b)
    · rw [if_pos h1]
      by_cases h2 : i = max (f a) (f b)
      · have h3 : ¬ min (f a) (f b) = i := by omega
        have h4 : (min (f a) (f b) == i) = false := beq_eq_false_iff_ne.2 h3
        have h5 : (i == max (f a) (f b)) = true := beq_iff_eq.2 h2
        rw [h4, h5]; rfl
      · have h3 : ¬ f i = i := by omega
        have h4 : ¬ min (f a) (f b) = i := fun e => by
          have : f i = i := by
            rw [← e]
            rcases Nat.le_total (f a) (f b) with h5 | h5
            · rw [Nat.min_eq_left h5]; exact h.idem a ha
            · rw [Nat.min_eq_right h5]; exact h.idem b hb
          omega
        rw [beq_eq_false_iff_ne.2 h3, beq_eq_false_iff_ne.2 h4, Bool.and_false]
    · rw [if_neg h1]
      by_cases h2 : i = max (f a) (f b)
      · have h4 : (f i == i) = false := beq_eq_false_iff_ne.2 (by omega)
        rw [h4, Bool.and_false]
      · simp [h2]
  rw [e]
  have hnd : (repsF n f).Nodup := (reps_rises n f).imp (fun h => by omega)
  have := List.length_eq_countP_add_countP (fun i => i == max (f a) (f b)) (l := repsF n f)
  rw [List.countP_eq_length_filter, List.countP_eq_length_filter] at this
  have h1 : ((repsF n f).filter (fun i => i == max (f a) (f b))).length = 1 := by
    rw [← List.countP_eq_length_filter]
    exact Nat.le_antisymm (List.nodup_iff_count.1 hnd _) (List.count_pos_iff.2 hy)
  rw [h1] at this
  rw [this, Nat.add_comm]
  congr 2
  refine List.filter_congr (fun i _ => by cases h : (i == max (f a) (f b)) <;> simp)
end Go.Proofs.Ytckcbaegehfkoaa
namespace Go.Proofs.Ytckcbaegehfkoaa
open Go.RowKit Go.Lib

/-- All blocks that were there are as they were, but for some. -/
structure KeptBut (S : Nat → Prop) (w w' : World) : Prop where
  os : w'.os = w.os
  tape : w'.tape = w.tape
  output : w'.output = w.output
  size : w.heap.size ≤ w'.heap.size
  block : ∀ k, k < w.heap.size → ¬ S k → w'.heap[k]? = w.heap[k]?
theorem KeptBut.refl (S : Nat → Prop) (w : World) : KeptBut S w w := ⟨rfl, rfl, rfl, Nat.le_refl _, fun _ _ _ => rfl⟩
theorem KeptBut.trans {S : Nat → Prop} {a b c : World} (h : KeptBut S a b) (k : KeptBut S b c) : KeptBut S a c :=
  ⟨k.os.trans h.os, k.tape.trans h.tape, k.output.trans h.output, Nat.le_trans h.size k.size, fun i hi hs => (k.block i (Nat.lt_of_lt_of_le hi h.size) hs).trans (h.block i hi hs)⟩
theorem KeptBut.mono {S S' : Nat → Prop} {a b : World} (h : KeptBut S a b) (hs : ∀ k, k < a.heap.size → S k → S' k) : KeptBut S' a b := ⟨h.os, h.tape, h.output, h.size, fun k hk hn => h.block k hk (fun e => hn (hs k hk e))⟩
theorem KeptBut.of_below {B : Nat} {a b : World} (h : Below B a b) : KeptBut (fun k => B ≤ k) a b := ⟨h.os, h.tape, h.output, h.size, fun k _ hn => h.block k (by omega)⟩
theorem KeptBut.below {S : Nat → Prop} {B : Nat} {a b : World} (h : KeptBut S a b) (hB : B ≤ a.heap.size) (hs : ∀ k, k < a.heap.size → S k → B ≤ k) : Below B a b := ⟨h.os, h.tape, h.output, h.size, fun k hk => h.block k (by omega) (fun e => by have := hs k (by omega) e; omega)⟩
theorem kept_set (w : World) (p : Addr) (v : Value) : KeptBut (fun k => k = p.block) w (w.setCell p v) :=
  ⟨rfl, rfl, rfl, by simp, fun _ _ hn => Below.heap_setCell _ _ _ _ hn⟩
theorem KeptBut.cell {S : Nat → Prop} {w w' : World} (h : KeptBut S w w') {p : Addr} (hp : p.block < w.heap.size) (hs : ¬ S p.block) : w'.cell? p = w.cell? p := World.cell?_of_block (w := w) (h.block p.block hp hs)
theorem KeptBut.frozen {S : Nat → Prop} {w w' : World} (h : KeptBut S w w') {p : Addr} (hp : p.block < w.heap.size) (hs : ¬ S p.block) : w'.frozen? p = w.frozen? p := World.frozen?_of_block (w := w) (h.block p.block hp hs)

/-- The numbers 0 to n-1, as cells. -/
def upto (n : Nat) : List Int := (List.range n).map (fun i : Nat => (i : Int))
theorem upto_len (n : Nat) : (upto n).length = n := by simp [upto]
theorem sl_own {w : World} {base : Nat} {e : TypeId} {size : Nat} {v : Value} {n : Nat} {xs : List Value} (h : w.ownsRow base e size v n xs) : ∃ a cap, v = .slice a n cap ∧ Sl a cap n := by
  rcases h.2 with ⟨hv, h0⟩ | ⟨g, cap, cur, hv, _, _, hc, _⟩
  · exact ⟨none, 0, by rw [hv, h0], by rw [h0]; exact sl_nil⟩
  · exact ⟨_, cap, hv, sl_some hc⟩
/-- A part of the document's: a variable with a row of the least numbers. -/
structure QAt (w : World) (b g : Nat) (a : Option Addr) (n cap : Nat) (f : Nat → Nat) : Prop where
  box : w.cell? ⟨b, 0, none⟩ = some (.slice a n cap)
  row : 0 < n → a = some ⟨g, 0, none⟩ ∧ Row1 w g n (fun i => (f i : Int))
  ne : g ≠ b
theorem QAt.kept {S : Nat → Prop} {w w' : World} {b g : Nat} {a : Option Addr} {n cap : Nat} {f : Nat → Nat} (h : QAt w b g a n cap f) (hk : KeptBut S w w') (hb : ¬ S b) (hg : 0 < n → ¬ S g) : QAt w' b g a n cap f := by
  refine ⟨(hk.cell (p := ⟨b, 0, none⟩) (block_lt_of_cell h.box) hb).trans h.box, fun h0 => ?_, h.ne⟩
  obtain ⟨ha, hr⟩ := h.row h0
  exact ⟨ha, Nat.lt_of_lt_of_le hr.1 hk.size, fun j hj => ⟨(hk.cell (p := ⟨g, j, none⟩) hr.1 (hg h0)).trans (hr.2 j hj).1, (hk.frozen (p := ⟨g, j, none⟩) hr.1 (hg h0)).trans (hr.2 j hj).2⟩⟩
theorem QAt.below {w w' : World} {b g : Nat} {a : Option Addr} {n cap : Nat} {f : Nat → Nat} (h : QAt w b g a n cap f) (hk : Below w.heap.size w w') : QAt w' b g a n cap f := by
  refine ⟨(hk.cell (p := ⟨b, 0, none⟩) (block_lt_of_cell h.box)).trans h.box, fun h0 => ?_, h.ne⟩
  obtain ⟨ha, hr⟩ := h.row h0
  exact ⟨ha, Nat.lt_of_lt_of_le hr.1 hk.size, fun j hj => ⟨(hk.cell (p := ⟨g, j, none⟩) hr.1).trans (hr.2 j hj).1, (hk.frozen (p := ⟨g, j, none⟩) hr.1).trans (hr.2 j hj).2⟩⟩
theorem QAt.iat {w : World} {b g : Nat} {a : Option Addr} {n cap : Nat} {f : Nat → Nat} (h : QAt w b g a n cap f) {i : Nat} (hi : i < n) : a = some ⟨g, 0, none⟩ ∧ w.cell? ⟨g, i, none⟩ = some (.int .i64 (f i)) ∧ w.frozen? ⟨g, i, none⟩ = false :=
  ⟨(h.row (by omega)).1, ((h.row (by omega)).2.2 i hi).1, ((h.row (by omega)).2.2 i hi).2⟩

end Go.Proofs.Ytckcbaegehfkoaa
namespace Go.Proofs.Ytckcbaegehfkoaa
open Go.RowKit Go.Lib

theorem KeptBut.of_grown {w w' : World} {row : Option Nat} (hg : w.grownBy w' row) : KeptBut (fun k => some k = row) w w' := ⟨hg.os, hg.tape, hg.output, hg.size, fun k hk hn => hg.block k hk hn⟩
theorem kept_alloc (w : World) (o : Obj) (S : Nat → Prop) : KeptBut S w (w.alloc o) := (KeptBut.of_below ((Below.refl w.heap.size w).alloc (Nat.le_refl _) o)).mono (fun k hk hs => absurd hs (by omega))
theorem KeptBut.of_whole {w w' : World} (S : Nat → Prop) (h : Below w.heap.size w w') : KeptBut S w w' := (KeptBut.of_below h).mono (fun k hk hs => absurd hs (by omega))
theorem IAt.kept {S : Nat → Prop} {w w' : World} {a : Option Addr} {xs : List Int} (h : IAt w a xs) (hk : KeptBut S w w') (hs : ∀ g off, a = some ⟨g, off, none⟩ → 0 < xs.length → ¬ S g) : IAt w' a xs := fun h0 => by
  obtain ⟨g, off, ha, hg, hc⟩ := h h0
  exact ⟨g, off, ha, Nat.lt_of_lt_of_le hg hk.size, fun k hk' => (hk.cell (p := ⟨g, off + k, none⟩) hg (hs g off ha h0)).trans (hc k hk')⟩
theorem own_kept {S : Nat → Prop} {w w' : World} {base : Nat} {e : TypeId} {size : Nat} {v : Value} {n : Nat} {xs : List Value} (h : w.ownsRow base e size v n xs) (hk : KeptBut S w w') (hs : ∀ g, v.ownBlock = some g → ¬ S g) : w'.ownsRow base e size v n xs := by
  refine ⟨h.1, ?_⟩
  rcases h.2 with h2 | ⟨g, cap, cur, hv, hg, hgc, r⟩
  · exact Or.inl h2
  · exact Or.inr ⟨g, cap, cur, hv, hg, (hk.block g (Array.getElem?_eq_some_iff.1 hgc).1 (hs g (by rw [hv]; rfl))).trans hgc, r⟩

/-- A list of rows in memory. -/
def LLAt (w : World) (a : Option Addr) (LL : List (List Int)) : Prop :=
  0 < LL.length → ∃ g off, a = some ⟨g, off, none⟩ ∧ g < w.heap.size ∧ ∀ k (hk : k < LL.length), ∃ ak ck, w.cell? ⟨g, off + k, none⟩ = some (.slice ak LL[k].length ck) ∧ IAt w ak LL[k]
theorem llat_nil (w : World) (a : Option Addr) : LLAt w a [] := fun h => absurd h (by simp)
theorem LLAt.below {w w' : World} {a : Option Addr} {LL : List (List Int)} (h : LLAt w a LL) (hb : Below w.heap.size w w') : LLAt w' a LL := fun h0 => by
  obtain ⟨g, off, ha, hg, hc⟩ := h h0
  refine ⟨g, off, ha, Nat.lt_of_lt_of_le hg hb.size, fun k hk => ?_⟩
  obtain ⟨ak, ck, h1, h2⟩ := hc k hk
  exact ⟨ak, ck, (hb.cell (p := ⟨g, off + k, none⟩) hg).trans h1, h2.below hb⟩
theorem LLAt.at {w : World} {a : Option Addr} {LL : List (List Int)} (h : LLAt w a LL) {k : Nat} (hk : k < LL.length) : ∃ g off ak ck, a = some ⟨g, off, none⟩ ∧ w.cell? ⟨g, off + k, none⟩ = some (.slice ak LL[k].length ck) ∧ IAt w ak LL[k] := by
  obtain ⟨g, off, ha, hg, hc⟩ := h (by omega)
  obtain ⟨ak, ck, h1, h2⟩ := hc k hk
  exact ⟨g, off, ak, ck, ha, h1, h2⟩

/-- A list of rows of the call's own: the headers in one block, the rows in others, all of them in blocks of A. -/
def LLOwn (w : World) (base : Nat) (A : Nat → Prop) (v : Value) (us : List Value) (LL : List (List Int)) : Prop :=
  w.ownsRow base 25 1 v LL.length us ∧ us.length = LL.length ∧ (∀ g, v.ownBlock = some g → A g) ∧
    ∀ k (hk : k < LL.length), ∃ ak ck, us[k]? = some (.slice ak LL[k].length ck) ∧ IAt w ak LL[k] ∧ ∀ g off, ak = some ⟨g, off, none⟩ → 0 < LL[k].length → A g ∧ v.ownBlock ≠ some g
theorem LLOwn.kept {S A : Nat → Prop} {w w' : World} {base : Nat} {v : Value} {us : List Value} {LL : List (List Int)} (h : LLOwn w base A v us LL) (hk : KeptBut S w w') (hs : ∀ k, A k → k < w.heap.size → ¬ S k) : LLOwn w' base A v us LL := by
  refine ⟨own_kept h.1 hk (fun g hg => hs g (h.2.2.1 g hg) (h.1.lt g hg).2), h.2.1, h.2.2.1, fun k hk' => ?_⟩
  obtain ⟨ak, ck, h1, h2, h3⟩ := h.2.2.2 k hk'
  exact ⟨ak, ck, h1, h2.kept hk (fun g off ha h0 => hs g (h3 g off ha h0).1 (by
    obtain ⟨g', off', ha', hg', _⟩ := h2 h0
    rw [ha] at ha'
    cases ha'
    exact hg')), h3⟩
theorem LLOwn.below {A : Nat → Prop} {w w' : World} {base : Nat} {v : Value} {us : List Value} {LL : List (List Int)} (h : LLOwn w base A v us LL) (hb : Below w.heap.size w w') : LLOwn w' base A v us LL :=
  h.kept (KeptBut.of_whole (fun _ => False) hb) (fun _ _ _ e => e)
theorem LLOwn.put {A : Nat → Prop} {w w4 : World} {base : Nat} {v v4 : Value} {us : List Value} {LL : List (List Int)} {L : List Int} {ar : Option Addr} {cr : Nat} {X : Obj} (h : LLOwn w base A v us LL) (hI : IAt w ar L)
    (hA : ∀ g off, ar = some ⟨g, off, none⟩ → 0 < L.length → A g ∧ v.ownBlock ≠ some g) (hnew : A (w.alloc X).heap.size)
    (ho : w4.ownsRow base 25 1 v4 (LL.length + 1) (us ++ [.slice ar L.length cr])) (hg : (w.alloc X).grownBy w4 v.ownBlock) (hat : v4.ownBlock = v.ownBlock ∨ v4.ownBlock = some (w.alloc X).heap.size) :
    LLOwn w4 base A v4 (us ++ [.slice ar L.length cr]) (LL ++ [L]) := by
  have hk : KeptBut (fun k => some k = v.ownBlock) w w4 := (kept_alloc w X _).trans (KeptBut.of_grown hg)
  have hs : (w.alloc X).heap.size = w.heap.size + 1 := by simp
  have hne : ∀ g, g < w.heap.size → v.ownBlock ≠ some g → v4.ownBlock ≠ some g := fun g h1 h2 e => by
    rcases hat with h3 | h3
    · exact h2 (h3.symm.trans e)
    · rw [h3, hs] at e; simp only [Option.some.injEq] at e; omega
  refine ⟨by rw [List.length_append]; exact ho, by simp [h.2.1], fun g e => ?_, fun k hk' => ?_⟩
  · rcases hat with h3 | h3
    · exact h.2.2.1 g (h3.symm.trans e)
    · rw [h3] at e; simp only [Option.some.injEq] at e; rw [← e]; exact hnew
  · by_cases hlt : k < LL.length
    · obtain ⟨ak, ck, h1, h2, h3⟩ := h.2.2.2 k hlt
      have e1 : (LL ++ [L])[k] = LL[k] := List.getElem_append_left hlt
      rw [e1]
      refine ⟨ak, ck, by rw [List.getElem?_append_left (by rw [h.2.1]; exact hlt)]; exact h1, h2.kept hk (fun g off ha h0 e => (h3 g off ha h0).2 e.symm), fun g off ha h0 => ⟨(h3 g off ha h0).1, hne g ?_ (h3 g off ha h0).2⟩⟩
      obtain ⟨g', off', ha', hg', _⟩ := h2 h0
      rw [ha] at ha'
      cases ha'
      exact hg'
    · obtain rfl : k = LL.length := by simp at hk'; omega
      have e1 : (LL ++ [L])[LL.length] = L := by simp
      rw [e1]
      refine ⟨ar, cr, by rw [← h.2.1]; simp, hI.kept hk (fun g off ha h0 e => (hA g off ha h0).2 e.symm), fun g off ha h0 => ⟨(hA g off ha h0).1, hne g ?_ (hA g off ha h0).2⟩⟩
      obtain ⟨g', off', ha', hg', _⟩ := hI h0
      rw [ha] at ha'
      cases ha'
      exact hg'
theorem LLOwn.at {A : Nat → Prop} {w : World} {base : Nat} {v : Value} {us : List Value} {LL : List (List Int)} (h : LLOwn w base A v us LL) : ∃ a cap, v = .slice a LL.length cap ∧ Sl a cap LL.length ∧ LLAt w a LL := by
  obtain ⟨a, cap, hv, hsl⟩ := sl_own h.1
  refine ⟨a, cap, hv, hsl, fun h0 => ?_⟩
  obtain ⟨g, cap', hv', hb, hg, hc, hcs⟩ := own_row h.1 h0
  rw [hv] at hv'
  simp only [Value.slice.injEq, true_and] at hv'
  refine ⟨g, 0, hv'.1, hg, fun k hk => ?_⟩
  obtain ⟨ak, ck, h1, h2, _⟩ := h.2.2.2 k hk
  exact ⟨ak, ck, by rw [Nat.zero_add]; exact hcs k _ h1, h2⟩

theorem boolR_of (p : Prop) : ∃ r : Bool, r = true ↔ p := by
  by_cases h : p
  · exact ⟨true, ⟨fun _ => h, fun _ => rfl⟩⟩
  · exact ⟨false, ⟨fun h' => (by cases h'), fun h' => absurd h' h⟩⟩
end Go.Proofs.Ytckcbaegehfkoaa
namespace Go.Proofs.Ytckcbaegehfkoaa
open Go.RowKit Go.Lib

/-- What is known of a slice that came in, beside its cells. -/
def Slw (a : Option Addr) (cap n : Nat) : Prop := n ≤ cap ∧ (a = none → cap = 0)
theorem Sl.w {a : Option Addr} {cap n : Nat} (h : Sl a cap n) : Slw a cap n := ⟨h.1, h.2.1⟩
/-- Numbers as a machine has them. -/
def WfR (LL : List (List Int)) : Prop := ∀ L ∈ LL, ∀ x ∈ L, (Lit.int .i64 x).wf = true
/-- Rows in memory, with what is known of their slices. -/
def LLS (w : World) (a : Option Addr) (LL : List (List Int)) : Prop :=
  0 < LL.length → ∃ g off, a = some ⟨g, off, none⟩ ∧ g < w.heap.size ∧ ∀ k (hk : k < LL.length), ∃ ak ck, w.cell? ⟨g, off + k, none⟩ = some (.slice ak LL[k].length ck) ∧ IAt w ak LL[k] ∧ Slw ak ck LL[k].length
theorem LLS.below {w w' : World} {a : Option Addr} {LL : List (List Int)} (h : LLS w a LL) (hb : Below w.heap.size w w') : LLS w' a LL := fun h0 => by
  obtain ⟨g, off, ha, hg, hc⟩ := h h0
  refine ⟨g, off, ha, Nat.lt_of_lt_of_le hg hb.size, fun k hk => ?_⟩
  obtain ⟨ak, ck, h1, h2, h3⟩ := hc k hk
  exact ⟨ak, ck, (hb.cell (p := ⟨g, off + k, none⟩) hg).trans h1, h2.below hb, h3⟩
theorem LLS.at {w : World} {a : Option Addr} {LL : List (List Int)} (h : LLS w a LL) {k : Nat} (hk : k < LL.length) : ∃ g off ak ck, a = some ⟨g, off, none⟩ ∧ w.cell? ⟨g, off + k, none⟩ = some (.slice ak LL[k].length ck) ∧ IAt w ak LL[k] ∧ Slw ak ck LL[k].length := by
  obtain ⟨g, off, ha, hg, hc⟩ := h (by omega)
  obtain ⟨ak, ck, h1, h2, h3⟩ := hc k hk
  exact ⟨g, off, ak, ck, ha, h1, h2, h3⟩
end Go.Proofs.Ytckcbaegehfkoaa
