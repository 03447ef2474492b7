/-
  A graph in a variable; what the laws of a raw graph do first: a copy of its first five hundred edges.
  Numbers that belong to classes: each number has the least one of its class. No program is named here.
  The document's Sorted: a row of numbers, rising.
  The document's Sorted, walked.
-/
import Derived.Test.YthakjmfjbibbjaaB03
import Derived.Test.YthakjmfjbibbjaaRows
import Derived.BigQuiet
import Derived.Laws.IdiomCopy
import Derived.Deep.DeepCutAuto
import Derived.Laws.CopyOwn
namespace Go.Proofs.Ythakjmfjbibbjaa
open Go.RowKit Go.Lib

/-- A variable holds a graph whose edges lie in memory. -/
structure GC (w : World) (b : Nat) (n : Int) (a : Option Addr) (k cap : Nat) (es : List (Int × Int)) : Prop where
  n0 : w.cell? ⟨b, 0, none⟩ = some (.int .i64 n)
  e0 : w.cell? ⟨b, 1, none⟩ = some (.slice a k cap)
  at_ : EAt w a es
theorem GC.on {w w' : World} {b : Nat} {n : Int} {a : Option Addr} {k cap : Nat} {es : List (Int × Int)} (h : GC w b n a k cap es) (hb : Below w.heap.size w w') : GC w' b n a k cap es :=
  ⟨(hb.cell (block_lt_of_cell h.n0)).trans h.n0, (hb.cell (block_lt_of_cell h.e0)).trans h.e0, h.at_.below hb⟩
theorem GC.cells {w : World} {b : Nat} {n : Int} {a : Option Addr} {k cap : Nat} {es : List (Int × Int)} (h : GC w b n a k cap es) : w.cell? ⟨b, 0, none⟩ = some (.int .i64 n) ∧ w.cell? ⟨b, 1, none⟩ = some (.slice a k cap) := ⟨h.n0, h.e0⟩
theorem hid {p : Prop} (h : p) : Hid p := h
end Go.Proofs.Ythakjmfjbibbjaa
namespace Go.Proofs.Ythakjmfjbibbjaa

/-- Each of the numbers below n has the least one of its class. -/
structure Pt (n : Nat) (f : Nat → Nat) : Prop where
  le : ∀ i, i < n → f i ≤ i
  idem : ∀ i, i < n → f (f i) = f i
theorem pt_new (n : Nat) : Pt n (fun i => i) := ⟨fun _ _ => Nat.le_refl _, fun _ _ => rfl⟩
theorem Pt.lt {n : Nat} {f : Nat → Nat} (h : Pt n f) {i : Nat} (hi : i < n) : f i < n := Nat.lt_of_le_of_lt (h.le i hi) hi
theorem Pt.congr {n : Nat} {f g : Nat → Nat} (h : Pt n f) (e : ∀ i, i < n → f i = g i) : Pt n g :=
  ⟨fun i hi => by rw [← e i hi]; exact h.le i hi, fun i hi => by rw [← e i hi, ← e (f i) (h.lt hi)]; exact h.idem i hi⟩
/-- What a join makes of it. -/
def joinF (f : Nat → Nat) (a b i : Nat) : Nat := if f i = max (f a) (f b) then min (f a) (f b) else f i
theorem Pt.join {n : Nat} {f : Nat → Nat} (h : Pt n f) {a b : Nat} (ha : a < n) (hb : b < n) : Pt n (joinF f a b) := by
  have ia := h.idem a ha
  have ib := h.idem b hb
  refine ⟨fun i hi => ?_, fun i hi => ?_⟩
  · have := h.le i hi
    unfold joinF
    split <;> omega
  · have ii := h.idem i hi
    unfold joinF
    by_cases e : f i = max (f a) (f b)
    · rw [if_pos e]
      have hm : f (min (f a) (f b)) = min (f a) (f b) := by
        rcases Nat.le_total (f a) (f b) with h1 | h1
        · rw [Nat.min_eq_left h1]; exact ia
        · rw [Nat.min_eq_right h1]; exact ib
      rw [hm]
      split <;> rfl
    · rw [if_neg e, ii, if_neg e]
theorem joinF_same (f : Nat → Nat) (a b i k : Nat) : joinF f a b i = joinF f a b k ↔ f i = f k ∨ (f i = f a ∧ f k = f b) ∨ (f i = f b ∧ f k = f a) := by
  unfold joinF
  by_cases e1 : f i = max (f a) (f b)
  · by_cases e2 : f k = max (f a) (f b)
    · rw [if_pos e1, if_pos e2]; omega
    · rw [if_pos e1, if_neg e2]; omega
  · by_cases e2 : f k = max (f a) (f b)
    · rw [if_neg e1, if_pos e2]; omega
    · rw [if_neg e1, if_neg e2]; omega
theorem joinF_one {f : Nat → Nat} {a b : Nat} (h : f a = f b) (i : Nat) : joinF f a b i = f i := by
  unfold joinF
  rw [h, Nat.max_self, Nat.min_self]
  split
  · next e => exact e.symm
  · rfl

/-- Belonging together by pairs: the least relation of that kind. -/
def Cl (P : List (Nat × Nat)) (a b : Nat) : Prop :=
  ∀ R : Nat → Nat → Prop, (∀ x, R x x) → (∀ x y, R x y → R y x) → (∀ x y z, R x y → R y z → R x z) → (∀ e ∈ P, R e.1 e.2) → R a b
theorem Cl.refl (P : List (Nat × Nat)) (a : Nat) : Cl P a a := fun _ h _ _ _ => h a
theorem Cl.symm {P : List (Nat × Nat)} {a b : Nat} (h : Cl P a b) : Cl P b a := fun R r s t p => s _ _ (h R r s t p)
theorem Cl.trans {P : List (Nat × Nat)} {a b c : Nat} (h : Cl P a b) (k : Cl P b c) : Cl P a c := fun R r s t p => t _ _ _ (h R r s t p) (k R r s t p)
theorem Cl.of {P : List (Nat × Nat)} {e : Nat × Nat} (h : e ∈ P) : Cl P e.1 e.2 := fun _ _ _ _ p => p e h
theorem Cl.mono {P Q : List (Nat × Nat)} {a b : Nat} (h : Cl P a b) (hs : ∀ e ∈ P, Cl Q e.1 e.2) : Cl Q a b :=
  h (Cl Q) (Cl.refl Q) (fun _ _ => Cl.symm) (fun _ _ _ => Cl.trans) hs
/-- The classes are those of the pairs. -/
def Tells (n : Nat) (f : Nat → Nat) (P : List (Nat × Nat)) : Prop := ∀ a b, a < n → b < n → (f a = f b ↔ Cl P a b)
def PairsIn (n : Nat) (P : List (Nat × Nat)) : Prop := ∀ e ∈ P, e.1 < n ∧ e.2 < n
theorem cl_nil {a b : Nat} (h : Cl [] a b) : a = b := h (fun x y => x = y) (fun _ => rfl) (fun _ _ h => h.symm) (fun _ _ _ h k => h.trans k) (fun e he => absurd he (by simp))
theorem tells_new (n : Nat) : Tells n (fun i => i) [] := fun a b _ _ => ⟨fun h => by have h' : a = b := h; rw [h']; exact Cl.refl _ _, cl_nil⟩
theorem tells_join {n : Nat} {f : Nat → Nat} {P : List (Nat × Nat)} (h : Tells n f P) (hP : PairsIn n P) {a b : Nat} (ha : a < n) (hb : b < n) : Tells n (joinF f a b) (P ++ [(a, b)]) := by
  have up : ∀ x y, Cl P x y → Cl (P ++ [(a, b)]) x y := fun x y hx => hx.mono (fun e he => Cl.of (List.mem_append_left _ he))
  have ab : Cl (P ++ [(a, b)]) a b := Cl.of (e := (a, b)) (by simp)
  intro i k hi hk
  constructor
  · intro e
    rcases (joinF_same f a b i k).1 e with e | ⟨e1, e2⟩ | ⟨e1, e2⟩
    · exact up _ _ ((h i k hi hk).1 e)
    · exact (up _ _ ((h i a hi ha).1 e1)).trans (ab.trans (up _ _ ((h k b hk hb).1 e2)).symm)
    · exact (up _ _ ((h i b hi hb).1 e1)).trans (ab.symm.trans (up _ _ ((h k a hk ha).1 e2)).symm)
  · intro hc
    have := hc (fun x y => x = y ∨ (x < n ∧ y < n ∧ joinF f a b x = joinF f a b y)) (fun x => Or.inl rfl) ?_ ?_ ?_
    · rcases this with e | ⟨_, _, e⟩
      · rw [e]
      · exact e
    · rintro x y (e | ⟨h1, h2, h3⟩)
      · exact Or.inl e.symm
      · exact Or.inr ⟨h2, h1, h3.symm⟩
    · rintro x y z (e | ⟨h1, h2, h3⟩) (e' | ⟨h1', h2', h3'⟩)
      · exact Or.inl (e.trans e')
      · rw [e]; exact Or.inr ⟨h1', h2', h3'⟩
      · rw [← e']; exact Or.inr ⟨h1, h2, h3⟩
      · exact Or.inr ⟨h1, h2', h3.trans h3'⟩
    · intro e he
      rcases List.mem_append.1 he with he | he
      · have hin := hP e he
        exact Or.inr ⟨hin.1, hin.2, (joinF_same _ _ _ _ _).2 (Or.inl ((h _ _ hin.1 hin.2).2 (Cl.of he)))⟩
      · simp at he
        subst he
        exact Or.inr ⟨ha, hb, (joinF_same _ _ _ _ _).2 (Or.inr (Or.inl ⟨rfl, rfl⟩))⟩
/-- There is one way alone to tell classes by their least numbers. -/
theorem pt_one {n : Nat} {f g : Nat → Nat} (hf : Pt n f) (hg : Pt n g) (h : ∀ a b, a < n → b < n → (f a = f b ↔ g a = g b)) : ∀ i, i < n → f i = g i := fun i hi => by
  have h1 : g (f i) = g i := (h _ _ (hf.lt hi) hi).1 (hf.idem i hi)
  have h2 : f (g i) = f i := (h _ _ (hg.lt hi) hi).2 (hg.idem i hi)
  have h3 := hg.le (f i) (hf.lt hi)
  have h4 := hf.le (g i) (hg.lt hi)
  omega
theorem tells_one {n : Nat} {f g : Nat → Nat} {P Q : List (Nat × Nat)} (hf : Pt n f) (hg : Pt n g) (tf : Tells n f P) (tg : Tells n g Q) (hPQ : ∀ e ∈ P, Cl Q e.1 e.2) (hQP : ∀ e ∈ Q, Cl P e.1 e.2) : ∀ i, i < n → f i = g i :=
  pt_one hf hg (fun a b ha hb => (tf a b ha hb).trans ((Iff.intro (fun h => h.mono hPQ) (fun h => h.mono hQP)).trans (tg a b ha hb).symm))

/-- The least numbers, and each one's class. -/
def repsF (n : Nat) (f : Nat → Nat) : List Nat := (List.range n).filter (fun i => f i == i)
def classF (n : Nat) (f : Nat → Nat) (i : Nat) : List Int := ((List.range n).filter (fun k => f k == i)).map (fun k : Nat => (k : Int))
def classesF (n : Nat) (f : Nat → Nat) : List (List Int) := (repsF n f).map (classF n f)
theorem mem_reps {n : Nat} {f : Nat → Nat} {i : Nat} : i ∈ repsF n f ↔ i < n ∧ f i = i := by simp [repsF]
theorem mem_class {n : Nat} {f : Nat → Nat} {i : Nat} {x : Int} : x ∈ classF n f i ↔ ∃ k : Nat, x = k ∧ k < n ∧ f k = i := by
  unfold classF
  simp only [List.mem_map, List.mem_filter, List.mem_range, beq_iff_eq]
  constructor
  · rintro ⟨k, ⟨h1, h2⟩, rfl⟩; exact ⟨k, rfl, h1, h2⟩
  · rintro ⟨k, rfl, h1, h2⟩; exact ⟨k, ⟨h1, h2⟩, rfl⟩
theorem mem_class_nat {n : Nat} {f : Nat → Nat} {i k : Nat} : ((k : Nat) : Int) ∈ classF n f i ↔ k < n ∧ f k = i := by
  rw [mem_class]
  constructor
  · rintro ⟨k', h, h1, h2⟩; obtain rfl : k = k' := by omega
    exact ⟨h1, h2⟩
  · rintro ⟨h1, h2⟩; exact ⟨k, rfl, h1, h2⟩
theorem classesF_congr {n : Nat} {f g : Nat → Nat} (h : ∀ i, i < n → f i = g i) : classesF n f = classesF n g := by
  unfold classesF
  have h1 : repsF n f = repsF n g := List.filter_congr (fun i hi => by rw [h i (by simpa using hi)])
  rw [h1]
  refine List.map_congr_left (fun i _ => ?_)
  unfold classF
  rw [List.filter_congr (fun k hk => by rw [h k (by simpa using hk)])]
theorem class_rises (n : Nat) (f : Nat → Nat) (i : Nat) : (classF n f i).Pairwise (· < ·) := by
  unfold classF
  rw [List.pairwise_map]
  refine List.Pairwise.imp (fun {a b} (h : a < b) => by omega) ?_
  exact List.Pairwise.filter _ List.pairwise_lt_range
theorem reps_rises (n : Nat) (f : Nat → Nat) : (repsF n f).Pairwise (· < ·) := List.Pairwise.filter _ List.pairwise_lt_range
theorem class_len (n : Nat) (f : Nat → Nat) (i : Nat) : (classF n f i).length ≤ n := by
  unfold classF
  rw [List.length_map]
  exact Nat.le_trans (List.length_filter_le _ _) (by simp)
theorem reps_len (n : Nat) (f : Nat → Nat) : (repsF n f).length ≤ n := Nat.le_trans (List.length_filter_le _ _) (by simp)
/-- The first of a class is its least number. -/
theorem class_head {n : Nat} {f : Nat → Nat} (h : Pt n f) {i : Nat} (hi : i ∈ repsF n f) : ∃ r, classF n f i = (i : Int) :: r := by
  rw [mem_reps] at hi
  have hm : ((i : Nat) : Int) ∈ classF n f i := mem_class_nat.2 hi
  match hc : classF n f i with
  | [] => rw [hc] at hm; simp at hm
  | x :: r =>
    have hr := class_rises n f i
    rw [hc] at hr hm
    rw [List.pairwise_cons] at hr
    have hx : x ∈ classF n f i := by rw [hc]; simp
    obtain ⟨k, rfl, hk, hfk⟩ := mem_class.1 hx
    have := h.le k hk
    rcases List.mem_cons.1 hm with e | hm
    · exact ⟨r, by rw [e]⟩
    · have := hr.1 _ hm
      omega
/-- Rising rows of numbers that have the same numbers are the same. -/
theorem rise_one : ∀ {a b : List Int}, a.Pairwise (· < ·) → b.Pairwise (· < ·) → (∀ e, e ∈ a ↔ e ∈ b) → a = b
  | [], [], _, _, _ => rfl
  | [], y :: b, _, _, h => by have := (h y).2 (by simp); simp at this
  | x :: a, [], _, _, h => by have := (h x).1 (by simp); simp at this
  | x :: a, y :: b, ha, hb, h => by
    rw [List.pairwise_cons] at ha hb
    have hxy : x = y := by
      have h1 := (h x).1 (by simp)
      have h2 := (h y).2 (by simp)
      rcases List.mem_cons.1 h1 with e | h1
      · exact e
      rcases List.mem_cons.1 h2 with e | h2
      · exact e.symm
      have l1 := hb.1 x h1
      have l2 := ha.1 y h2
      omega
    subst hxy
    congr 1
    refine rise_one ha.2 hb.2 (fun e => ⟨fun he => ?_, fun he => ?_⟩)
    · rcases List.mem_cons.1 ((h e).1 (by simp [he])) with e1 | h1
      · subst e1; have := ha.1 e he; omega
      · exact h1
    · rcases List.mem_cons.1 ((h e).2 (by simp [he])) with e1 | h1
      · subst e1; have := hb.1 e he; omega
      · exact h1
/-- A join makes one class fewer. -/
theorem reps_join {n : Nat} {f : Nat → Nat} (h : Pt n f) {a b : Nat} (ha : a < n) (hb : b < n) (hne : f a ≠ f b) : (repsF n f).length = (repsF n (joinF f a b)).length + 1 := by
  have hy : max (f a) (f b) ∈ repsF n f := by
    rw [mem_reps]
    rcases Nat.le_total (f a) (f b) with h1 | h1
    · rw [Nat.max_eq_right h1]; exact ⟨h.lt hb, h.idem b hb⟩
    · rw [Nat.max_eq_left h1]; exact ⟨h.lt ha, h.idem a ha⟩
  have e : repsF n (joinF f a b) = (repsF n f).filter (fun i => !(i == max (f a) (f b))) := by
    unfold repsF
    rw [List.filter_filter]
    refine List.filter_congr (fun i _ => ?_)
    unfold joinF
    by_cases h1 : f i = max (f a) (f b)
    · rw [if_pos h1]
      by_cases h2 : i = max (f a) (f b)
      · have h3 : ¬ min (f a) (f b) = i := by omega
        have h4 : (min (f a) (f b) == i) = false := beq_eq_false_iff_ne.2 h3
        have h5 : (i == max (f a) (f b)) = true := beq_iff_eq.2 h2
        rw [h4, h5]; rfl
      · have h3 : ¬ f i = i := by omega
        have h4 : ¬ min (f a) (f b) = i := fun e => by
          have : f i = i := by
            rw [← e]
            rcases Nat.le_total (f a) (f b) with h5 | h5
            · rw [Nat.min_eq_left h5]; exact h.idem a ha
            · rw [Nat.min_eq_right h5]; exact h.idem b hb
          omega
        rw [beq_eq_false_iff_ne.2 h3, beq_eq_false_iff_ne.2 h4, Bool.and_false]
    · rw [if_neg h1]
      by_cases h2 : i = max (f a) (f b)
      · have h4 : (f i == i) = false := beq_eq_false_iff_ne.2 (by omega)
        rw [h4, Bool.and_false]
      · simp [h2]
  rw [e]
  have hnd : (repsF n f).Nodup := (reps_rises n f).imp (fun h => by omega)
  have := List.length_eq_countP_add_countP (fun i => i == max (f a) (f b)) (l := repsF n f)
  rw [List.countP_eq_length_filter, List.countP_eq_length_filter] at this
  have h1 : ((repsF n f).filter (fun i => i == max (f a) (f b))).length = 1 := by
    rw [← List.countP_eq_length_filter]
    exact Nat.le_antisymm (List.nodup_iff_count.1 hnd _) (List.count_pos_iff.2 hy)
  rw [h1] at this
  rw [this, Nat.add_comm]
  congr 2
  refine List.filter_congr (fun i _ => by cases h : (i == max (f a) (f b)) <;> simp)
end Go.Proofs.Ythakjmfjbibbjaa
namespace Go.Proofs.Ythakjmfjbibbjaa
open Go.RowKit Go.Lib

/-- A number is put into a rising row: behind those that are not greater. -/
def ins (x : Int) : List Int → List Int
  | [] => [x]
  | y :: ys => if y ≤ x then y :: ins x ys else x :: y :: ys
theorem ins_len (x : Int) (ys : List Int) : (ins x ys).length = ys.length + 1 := by
  induction ys with
  | nil => rfl
  | cons y ys ih => unfold ins; split <;> simp [ih]
theorem ins_mem {x z : Int} {ys : List Int} : z ∈ ins x ys ↔ z = x ∨ z ∈ ys := by
  induction ys with
  | nil => simp [ins]
  | cons y ys ih =>
    unfold ins
    split
    · simp [ih]
      constructor
      · rintro (h | h | h)
        · exact Or.inr (Or.inl h)
        · exact Or.inl h
        · exact Or.inr (Or.inr h)
      · rintro (h | h | h)
        · exact Or.inr (Or.inl h)
        · exact Or.inl h
        · exact Or.inr (Or.inr h)
    · simp
def Up (xs : List Int) : Prop := xs.Pairwise (· ≤ ·)
theorem ins_up {x : Int} {ys : List Int} (h : Up ys) : Up (ins x ys) := by
  induction ys with
  | nil => unfold Up ins; simp
  | cons y ys ih =>
    unfold Up at h
    rw [List.pairwise_cons] at h
    unfold ins
    split
    · unfold Up
      rw [List.pairwise_cons]
      refine ⟨fun z hz => ?_, ih h.2⟩
      rcases ins_mem.1 hz with rfl | hz
      · assumption
      · exact h.1 z hz
    · unfold Up
      rw [List.pairwise_cons, List.pairwise_cons]
      refine ⟨fun z hz => ?_, h⟩
      rcases List.mem_cons.1 hz with rfl | hz
      · omega
      · have := h.1 z hz; omega
def srt : List Int → List Int → List Int
  | acc, [] => acc
  | acc, x :: xs => srt (ins x acc) xs
theorem srt_snoc (acc xs : List Int) (x : Int) : srt acc (xs ++ [x]) = ins x (srt acc xs) := by
  induction xs generalizing acc with
  | nil => rfl
  | cons y xs ih => exact ih (ins y acc)
theorem srt_up {acc xs : List Int} (h : Up acc) : Up (srt acc xs) := by
  induction xs generalizing acc with
  | nil => exact h
  | cons y xs ih => exact ih (ins_up h)
theorem srt_mem {acc xs : List Int} {z : Int} : z ∈ srt acc xs ↔ z ∈ acc ∨ z ∈ xs := by
  induction xs generalizing acc with
  | nil => simp [srt]
  | cons y xs ih =>
    show z ∈ srt (ins y acc) xs ↔ _
    rw [ih, ins_mem, List.mem_cons]
    constructor
    · rintro ((h | h) | h)
      · exact Or.inr (Or.inl h)
      · exact Or.inl h
      · exact Or.inr (Or.inr h)
    · rintro (h | h | h)
      · exact Or.inl (Or.inr h)
      · exact Or.inl (Or.inl h)
      · exact Or.inr h
theorem srt_len (acc xs : List Int) : (srt acc xs).length = acc.length + xs.length := by
  induction xs generalizing acc with
  | nil => simp [srt]
  | cons y xs ih =>
    show (srt (ins y acc) xs).length = _
    rw [ih, ins_len, List.length_cons]; omega
/-- Where the number goes. -/
theorem ins_at {x : Int} {ys : List Int} {k : Nat} (hk : k ≤ ys.length) (h1 : ∀ j (h : j < ys.length), j < k → ys[j] ≤ x) (h2 : ∀ j (h : j < ys.length), k ≤ j → x < ys[j]) : ins x ys = ys.take k ++ x :: ys.drop k := by
  induction ys generalizing k with
  | nil =>
    have : k = 0 := by simpa using hk
    subst this; rfl
  | cons y ys ih =>
    cases k with
    | zero =>
      have := h2 0 (by simp) (Nat.le_refl _)
      unfold ins
      simp only [List.getElem_cons_zero] at this
      rw [if_neg (by omega)]
      simp
    | succ k =>
      have := h1 0 (by simp) (by omega)
      simp only [List.getElem_cons_zero] at this
      unfold ins
      rw [if_pos this, ih (k := k) (by simpa using hk) (fun j h hj => h1 (j + 1) (by simpa using h) (by omega)) (fun j h hj => h2 (j + 1) (by simpa using h) (by omega))]
      simp
end Go.Proofs.Ythakjmfjbibbjaa
namespace Go.Proofs.Ythakjmfjbibbjaa
open Go.RowKit Go.Lib

theorem own_emptyI {w : World} (o : Obj) (ho : o = .cells #[] 3 (0, 0)) : (w.alloc o).ownsRow w.heap.size 3 1 (.slice (some ⟨w.heap.size, 0, none⟩) 0 0) 0 [] := by
  subst ho
  exact ⟨rfl, Or.inr ⟨w.heap.size, 0, #[], rfl, Nat.le_refl _, heap_alloc_new _ _, Nat.le_refl _, Nat.zero_le _, rfl, rfl⟩⟩
theorem own_form {w : World} {base : Nat} {e : TypeId} {v : Value} {xs : List Int} (h : w.ownsRow base e 1 v xs.length (xs.map (Value.int .i64))) : ∃ a cap, v = .slice a xs.length cap ∧ IAt w a xs := iat_own h
theorem up_at {xs : List Int} (h : Up xs) {i j : Nat} (hij : i ≤ j) (hj : j < xs.length) : xs[i]'(by omega) ≤ xs[j] := by
  by_cases e : i = j
  · subst e; exact Int.le_refl _
  · exact List.pairwise_iff_getElem.1 h i j (by omega) hj (by omega)

theorem cells_one {w : World} {b : Nat} {x : Value} {T : TypeId} {fr : Nat × Nat} (h : w.heap[b]? = some (.cells #[x] T fr)) : ∀ j v, [x][j]? = some v → w.cell? ((⟨b, 0, none⟩ : Addr).add j) = some v := by
  intro j v hj
  rw [add_at, Nat.zero_add, cell_of_heap h]
  simpa using hj
/-- The cells behind the copy and the store. -/
theorem spl_list {acc : List Int} {x : Int} {m : Nat} {cur : List Value} (hm : m ≤ acc.length) (hl : acc.length + 1 ≤ cur.length) (hc : cur.take (acc.length + 1) = (acc ++ [0]).map (Value.int .i64)) :
    ((splice cur (m + 1) ((acc.drop m).map (Value.int .i64))).set m (.int .i64 x)).take (acc.length + 1) = (acc.take m ++ x :: acc.drop m).map (Value.int .i64) := by
  have hcj : ∀ j (h : j < acc.length), cur[j]? = some (.int .i64 acc[j]) := fun j h => by
    have h1 : (cur.take (acc.length + 1))[j]? = some (.int .i64 acc[j]) := by
      rw [hc, List.getElem?_map, List.getElem?_append_left h, List.getElem?_eq_getElem h]; rfl
    rwa [List.getElem?_take_of_lt (by omega)] at h1
  apply List.ext_getElem?
  intro j
  by_cases hj : j < acc.length + 1
  · rw [List.getElem?_take_of_lt hj, List.getElem?_map]
    unfold splice
    rcases Nat.lt_trichotomy j m with h | h | h
    · rw [List.getElem?_set_ne (by omega), List.getElem?_append_left (by rw [List.length_take]; omega), List.getElem?_take_of_lt (by omega), hcj j (by omega), List.getElem?_append_left (by rw [List.length_take]; omega), List.getElem?_take_of_lt h, List.getElem?_eq_getElem (by omega)]
      rfl
    · subst h
      rw [List.getElem?_set_self (by simp [List.length_append, List.length_take]; omega), List.getElem?_append_right (by rw [List.length_take]; omega)]
      simp [List.length_take, Nat.min_eq_left hm]
    · rw [List.getElem?_set_ne (by omega), List.getElem?_append_right (by rw [List.length_take]; omega), List.getElem?_append_left (by simp [List.length_take]; omega), List.getElem?_map, List.getElem?_append_right (by rw [List.length_take]; omega)]
      have e : j - (List.take m acc).length = (j - (List.take (m + 1) cur).length) + 1 := by rw [List.length_take, List.length_take]; omega
      rw [e, List.getElem?_cons_succ]
  · rw [List.getElem?_take_eq_none (by omega), List.getElem?_eq_none (by simp [List.length_take]; omega)]

set_option maxHeartbeats 4000000 in
set_option maxRecDepth 1000000 in
theorem sorted_any (a : Option Addr) (cap : Nat) (xs : List Int) (w : World) (hN : xs.length ≤ 1000000) (h : IAt w a xs) :
    Calls Try.prog 42 #[.slice a xs.length cap] w fun e w' => ∃ v, e = .returned v ∧ w'.ownsRow w.heap.size 3 1 v (srt [] xs).length ((srt [] xs).map (Value.int .i64)) ∧ Below w.heap.size w w' := by
  obtain ⟨i0, hi, hz0, hz1, hz2⟩ := info_parts Try.info3
  have HI : Hid (IAt w a xs) := h
  obtain ⟨N, hNe⟩ := ex_eq xs.length
  have HN : Hid (N = xs.length) := hNe
  rw [← hNe] at hN ⊢
  clear h hNe
  have HOE : Hid ((w.alloc (.cells #[] 3)).ownsRow w.heap.size 3 1 (.slice (some ⟨w.heap.size, 0, none⟩) 0 0) 0 []) := own_emptyI _ rfl
  have hbE : Below w.heap.size w (w.alloc (.cells #[] 3)) := (Below.refl _ _).alloc (Nat.le_refl _) _
  go_enter Try.func42, Try.ntmps42
  go_wp2
  go_loopg [3, 4] N (fun G v i wr => ∃ k : Nat, k ≤ N ∧ N - k ≤ G ∧ i = .int .i64 k ∧ Hid (wr.ownsRow w.heap.size 3 1 v (srt [] (xs.take k)).length ((srt [] (xs.take k)).map (Value.int .i64))) ∧ Below w.heap.size w wr)
  case atStart => exact ⟨0, Nat.zero_le _, by omega, rfl, HOE, hbE⟩
  case round =>
    obtain ⟨k, hk, hG, rfl, hown, hbr⟩ := hrel
    by_cases hlt : k < N
    · have hkr : k < xs.length := by rw [← HN.out]; exact hlt
      obtain ⟨gl, ol, rfl, hgl, hcl⟩ := HI.out (by omega)
      have dx := (hbr.cell (p := ⟨gl, ol + k, none⟩) hgl).trans (hcl k hkr)
      obtain ⟨x, hx⟩ := ex_eq xs[k]
      rw [← hx] at dx
      have HX : Hid (srt [] (xs.take (k + 1)) = ins x (srt [] (xs.take k))) := by
        show _ = _
        rw [List.take_succ_eq_append_getElem hkr, srt_snoc, hx]
      obtain ⟨acc, hacc⟩ := ex_eq (srt [] (xs.take k))
      have HUP : Hid (Up acc) := by
        show Up acc
        rw [hacc]; exact srt_up (by unfold Up; simp)
      rw [← hacc] at hown HX
      have hlen : acc.length = k := by rw [hacc, srt_len, List.length_take]; simp; omega
      obtain ⟨ao, co, hv, hIa⟩ := own_form hown.out
      rw [hlen] at hv
      have HIA : Hid (IAt wr ao acc) := hIa
      have HOW : Hid (wr.ownsRow w.heap.size 3 1 u3 acc.length (acc.map (Value.int .i64))) := hown
      subst hv
      have HL : Hid (acc.length = k) := hlen
      have q1 : (k : Int) < (N : Int) := by omega
      clear hown hIa hacc hx hcl hlen
      go_wp2
      obtain ⟨W, hW⟩ := ex_eq wr
      subst hW
      go_loopg [5] k (fun G2 at5 wz => ∃ m : Nat, m ≤ k ∧ m ≤ G2 ∧ at5 = .int .i64 m ∧ Hid (∀ j (h : j < acc.length), m ≤ j → x < acc[j]) ∧ ∃ q, wz = W.drewN q)
      case atStart => exact ⟨k, Nat.le_refl _, Nat.le_refl _, rfl, fun j h hj => absurd h (by rw [HL.out]; omega), 0, rfl⟩
      case round =>
        obtain ⟨m, hm, hm2, rfl, hgt, q, hw⟩ := hrel
        subst hw
        have HOWD : Hid ((W.drewN q).drew.ownsRow w.heap.size 3 1 (.slice ao k co) acc.length (acc.map (Value.int .i64))) := HOW.out
        have HOI : Hid (∀ m', m' = m → (∀ j (h : j < acc.length), j < m' → acc[j] ≤ x) → ins x acc = acc.take m' ++ x :: acc.drop m') := fun m' e h => by
          subst e
          exact ins_at (by rw [HL.out]; omega) h hgt.out
        rcases Nat.eq_zero_or_pos m with hm0 | hm0
        · have HIX : Hid (ins x acc = acc.take m ++ x :: acc.drop m) := HOI.out m rfl (fun j _ h => absurd h (by omega))
          have hd : decide ((0 : Int) < (m : Int)) = false := decide_eq_false (by omega)
          have hd2 : ¬ (0 : Int) < (m : Int) := by omega
          have hd3 : decide (0 < m) = false := decide_eq_false (by omega)
          clear HOI hm0
          go_wp2
          go_quiet (fail)
          go_wp2_with (at_builtin; refine wpList_append_own _ rfl _ _ 42 rfl w.heap.size 3 i0 _ 1 8 Try.underlying42 hi hz0 hz1 hz2 rfl (by decide) _ _ _ rfl ((show (W.drewN _).ownsRow w.heap.size 3 1 (.slice ao k co) acc.length (acc.map (Value.int .i64)) from HOW.out).alloc _) _ 1 1 [.int .i64 0] rfl rfl ?c1 ?c2 ?c3 ?c4 ?c5 ?_)
          case c1 => exact cells_one (heap_alloc_new _ _)
          case c2 => intro u hu; simp at hu; subst hu; rfl
          case c3 => rw [HL.out]; unfold maxLen; omega
          case c4 => rw [HL.out]; omega
          case c5 => have := hbr.size; simp; omega
          intro v' w4 hown4 hgrow _
          have hb4 : Below w.heap.size w w4 := Below.grown ((below_drewN hbr _).alloc hbr.size _) hgrow (by have := hbr.size; simp; omega) (fun j hj => (HOW.out.lt j hj).1)
          have HT : Hid (∃ (g cap4 : Nat) (cur : List Value), v' = .slice (some ⟨g, 0, none⟩) (k + 1) cap4 ∧ w.heap.size ≤ g ∧ k + 1 ≤ cap4 ∧ cap4 ≤ maxLen ∧ w4.heap[g]? = some (.cells cur.toArray 3 (0, 0)) ∧ cur.length = cap4 ∧ cur.take (acc.length + 1) = (acc ++ [0]).map (Value.int .i64)) := by
            rcases hown4.2 with ⟨_, h0⟩ | ⟨g, cap4, cur, hv, hge, hg, hc1, hc2, hsz, htk⟩
            · omega
            · refine ⟨g, cap4, cur.toList, by rw [hv, HL.out], hge, by rw [← HL.out]; exact hc1, hc2, by simpa using hg, by simpa using hsz, ?_⟩
              rw [Nat.mul_one] at htk
              rw [htk]; simp
          clear hown4 hgrow
          obtain ⟨g, cap4, cur, rfl, hge, hc1, hc2, hg4, hcl, htk⟩ := HT.out
          have HTK : Hid (cur.take (acc.length + 1) = (acc ++ [0]).map (Value.int .i64)) := htk
          have HG4 : Hid (w4.heap[g]? = some (.cells cur.toArray 3 (0, 0))) := hg4
          clear htk hg4 HT
          have q4 : (k : Int) + 1 ≤ (cap4 : Int) := by omega
          obtain ⟨cs, hcs⟩ := ex_eq ((acc.drop m).map (Value.int .i64))
          have HCS : Hid (cs = (acc.drop m).map (Value.int .i64)) := hcs
          have hcsl : cs.length = k - m := by rw [hcs, List.length_map, List.length_drop, HL.out]
          have HSRC : Hid (∀ j v, cs[j]? = some v → w4.cell? ((⟨g, m, none⟩ : Addr).add j) = some v) := fun j v hj => by
            have hjl : j < cs.length := (List.getElem?_eq_some_iff.1 hj).1
            rw [add_at, cell_of_heap HG4.out]
            rw [HCS.out, List.getElem?_map, List.getElem?_drop] at hj
            have h2 : (cur.take (acc.length + 1))[m + j]? = some v := by
              rw [HTK.out, List.getElem?_map, List.getElem?_append_left (by rw [HL.out]; omega)]; exact hj
            rw [List.getElem?_take_of_lt (by rw [HL.out]; omega)] at h2
            simpa using h2
          have HONE : Hid (∀ v ∈ cs, v.oneCell' = true) := fun v hv => by
            rw [HCS.out] at hv
            simp only [List.mem_map] at hv
            obtain ⟨z, _, rfl⟩ := hv
            rfl
          clear hcs
          have j1 : (0 : Int) ≤ (m : Int) + 1 := by omega
          have j2 : (m : Int) + 1 ≤ (k : Int) + 1 := by omega
          have j3 : (0 : Int) ≤ (m : Int) := by omega
          have j4 : (m : Int) ≤ (k : Int) + 1 := by omega
          have j5 : IntKind.i64.wrap ((m : Int) + 1) = (m : Int) + 1 := by rw [IntKind.wrap_i64]; omega
          have j6 : (k : Int) + 1 ≤ (cap4 : Int) := by omega
          have j7 : (m : Int) ≤ (cap4 : Int) := by omega
          have HSZ : Hid ((Try.prog.info? 3).map (·.size) = some 1) := by
            show (Try.prog.info? 3).map (·.size) = some 1
            rw [hi]; simp [hz1]
          have HNN : Hid (cs.length = Nat.min (k + 1 - m) (k - m)) := by
            show cs.length = Nat.min (k + 1 - m) (k - m)
            rw [hcsl]; exact (Nat.min_eq_right (by omega)).symm
          have HGD : Hid (w4.drew.heap[g]? = some (.cells cur.toArray 3 (0, 0))) := HG4.out
          obtain ⟨AA, hAA⟩ : ∃ AA : Option Addr, (if cap4 = m + 1 then some ⟨g, 0, none⟩ else some ⟨g, m + 1, none⟩) = AA := ⟨_, rfl⟩
          have HPOS : Hid (0 < cs.length → AA = some ⟨g, m + 1, none⟩ ∧ ∃ ad, (some ⟨g, m, none⟩ : Option Addr) = some ad ∧ ∀ j v, cs[j]? = some v → w4.drew.cell? (ad.add j) = some v) := fun h0 => ⟨by rw [← hAA]; exact if_neg (by omega), _, rfl, HSRC.out⟩
          have HFIT : Hid (m + 1 + cs.length ≤ cur.length) := by
            show m + 1 + cs.length ≤ cur.length
            omega
          have HBD : Hid (Below w.heap.size w w4.drew) := hb4.drew
          go_wp2_with fail
          go_region_law (refine step_copy_splice rfl (.tmp 37) (.tmp 40) 42 42 rfl 3 Try.underlying42 HSZ.out AA (some ⟨g, m, none⟩) (k - m) (cap4 - (m + 1)) (k + 1 - m) (cap4 - m) (by simp [Act.eval, Act.put]) (by simp [Act.eval, Act.put]) g (m + 1) cur 3 HGD.out cs HNN.out HPOS.out HFIT.out HONE.out w.heap.size w HBD.out hge ?_; intro w5 HG5 hB5)
          have HC5 := cell_of_heap HG5.out m
          have hC5 : ∃ u, w5.cell? ⟨g, m, none⟩ = some u := by
            have hl5 := length_splice cur (m + 1) cs (by omega)
            rw [HC5]
            exact ⟨_, Array.getElem?_eq_getElem (by simp [hl5]; omega)⟩
          obtain ⟨u, hu⟩ := hC5
          have hf5 := frozen_of_heap HG5.out m
          have dx5 := (hB5.cell (p := ⟨gl, ol + k, none⟩) hgl).trans ((hbr.cell (p := ⟨gl, ol + k, none⟩) hgl).symm.trans dx)
          have HRES : Hid ((w5.setCell ⟨g, m, none⟩ (.int .i64 x)).ownsRow w.heap.size 3 1 (.slice (some ⟨g, 0, none⟩) (k + 1) cap4) (srt [] (xs.take (k + 1))).length ((srt [] (xs.take (k + 1))).map (Value.int .i64))) := by
            have hl5 := length_splice cur (m + 1) cs (by omega)
            have hh := heap_setCell_same w5 g m _ _ (.int .i64 x) HG5.out
            have hlen1 : (srt [] (xs.take (k + 1))).length = k + 1 := by rw [HX.out, ins_len, HL.out]
            refine ⟨by simp, Or.inr ⟨g, cap4, _, by rw [hlen1], hge, hh, by rw [hlen1]; exact hc1, hc2, by simp [hl5, hcl], ?_⟩⟩
            rw [hlen1, Nat.mul_one, HX.out, HIX.out, ← HL.out]
            have := spl_list (x := x) (m := m) (cur := cur) (by rw [HL.out]; omega) (by rw [HL.out]; omega) HTK.out
            rw [← this, HCS.out]
            simp
          have hb6 : Below w.heap.size w (w5.setCell ⟨g, m, none⟩ (.int .i64 x)) := hB5.setCell (p := ⟨g, m, none⟩) hge _
          clear HC5 HG4 HG5 HTK HCS HSRC HONE
          go_wp2
          go_roundg (N - (k + 1))
          case measure => omega
          case rel => exact ⟨k + 1, by omega, Nat.le_refl _, by go_num, HRES, hb6⟩
        · obtain ⟨p, rfl⟩ : ∃ p, m = p + 1 := ⟨m - 1, by omega⟩
          have hpr : p < acc.length := by rw [HL.out]; omega
          obtain ⟨ga, oa, rfl, hga, hca⟩ := HIA.out (by omega)
          have dp := hca p hpr
          obtain ⟨y, hy⟩ := ex_eq acc[p]
          rw [← hy] at dp
          have HY : Hid (y = acc[p]) := hy
          have q2 : (p : Int) < (k : Int) := by omega
          clear hca hy
          by_cases hyx : x < y
          · have HG2 : Hid (∀ j (h : j < acc.length), p ≤ j → x < acc[j]) := fun j h hj => by
              by_cases e : j = p
              · subst e; rw [← HY.out]; exact hyx
              · exact hgt.out j h (by omega)
            clear HOI
            go_wp2
            go_quiet (fail)
            go_wp2
            go_roundg p
            case measure => omega
            case rel => exact ⟨p, by omega, Nat.le_refl _, by go_num, HG2, _, rfl⟩
          · have HIX : Hid (ins x acc = acc.take (p + 1) ++ x :: acc.drop (p + 1)) := HOI.out (p + 1) rfl (fun j h hj => by
              have := up_at HUP.out (i := j) (j := p) (by omega) hpr
              rw [← HY.out] at this
              omega)
            have hyx2 : y ≤ x := by omega
            clear HOI
            go_wp2
            go_quiet (fail)
            go_wp2_with (at_builtin; refine wpList_append_own _ rfl _ _ 42 rfl w.heap.size 3 i0 _ 1 8 Try.underlying42 hi hz0 hz1 hz2 rfl (by decide) _ _ _ rfl ((show (W.drewN _).ownsRow w.heap.size 3 1 (.slice (some ⟨ga, oa, none⟩) k co) acc.length (acc.map (Value.int .i64)) from HOW.out).alloc _) _ 1 1 [.int .i64 0] rfl rfl ?c1 ?c2 ?c3 ?c4 ?c5 ?_)
            case c1 => exact cells_one (heap_alloc_new _ _)
            case c2 => intro u hu; simp at hu; subst hu; rfl
            case c3 => rw [HL.out]; unfold maxLen; omega
            case c4 => rw [HL.out]; omega
            case c5 => have := hbr.size; simp; omega
            intro v' w4 hown4 hgrow _
            have hb4 : Below w.heap.size w w4 := Below.grown ((below_drewN hbr _).alloc hbr.size _) hgrow (by have := hbr.size; simp; omega) (fun j hj => (HOW.out.lt j hj).1)
            have HT : Hid (∃ (g cap4 : Nat) (cur : List Value), v' = .slice (some ⟨g, 0, none⟩) (k + 1) cap4 ∧ w.heap.size ≤ g ∧ k + 1 ≤ cap4 ∧ cap4 ≤ maxLen ∧ w4.heap[g]? = some (.cells cur.toArray 3 (0, 0)) ∧ cur.length = cap4 ∧ cur.take (acc.length + 1) = (acc ++ [0]).map (Value.int .i64)) := by
              rcases hown4.2 with ⟨_, h0⟩ | ⟨g, cap4, cur, hv, hge, hg, hc1, hc2, hsz, htk⟩
              · omega
              · refine ⟨g, cap4, cur.toList, by rw [hv, HL.out], hge, by rw [← HL.out]; exact hc1, hc2, by simpa using hg, by simpa using hsz, ?_⟩
                rw [Nat.mul_one] at htk
                rw [htk]; simp
            clear hown4 hgrow
            obtain ⟨g, cap4, cur, rfl, hge, hc1, hc2, hg4, hcl, htk⟩ := HT.out
            have HTK : Hid (cur.take (acc.length + 1) = (acc ++ [0]).map (Value.int .i64)) := htk
            have HG4 : Hid (w4.heap[g]? = some (.cells cur.toArray 3 (0, 0))) := hg4
            clear htk hg4 HT
            have q4 : (k : Int) + 1 ≤ (cap4 : Int) := by omega
            obtain ⟨cs, hcs⟩ := ex_eq ((acc.drop (p + 1)).map (Value.int .i64))
            have HCS : Hid (cs = (acc.drop (p + 1)).map (Value.int .i64)) := hcs
            have hcsl : cs.length = k - (p + 1) := by rw [hcs, List.length_map, List.length_drop, HL.out]
            have HSRC : Hid (∀ j v, cs[j]? = some v → w4.cell? ((⟨g, (p + 1), none⟩ : Addr).add j) = some v) := fun j v hj => by
              have hjl : j < cs.length := (List.getElem?_eq_some_iff.1 hj).1
              rw [add_at, cell_of_heap HG4.out]
              rw [HCS.out, List.getElem?_map, List.getElem?_drop] at hj
              have h2 : (cur.take (acc.length + 1))[(p + 1) + j]? = some v := by
                rw [HTK.out, List.getElem?_map, List.getElem?_append_left (by rw [HL.out]; omega)]; exact hj
              rw [List.getElem?_take_of_lt (by rw [HL.out]; omega)] at h2
              simpa using h2
            have HONE : Hid (∀ v ∈ cs, v.oneCell' = true) := fun v hv => by
              rw [HCS.out] at hv
              simp only [List.mem_map] at hv
              obtain ⟨z, _, rfl⟩ := hv
              rfl
            clear hcs
            have j1 : (0 : Int) ≤ ((p : Int) + 1) + 1 := by omega
            have j2 : ((p : Int) + 1) + 1 ≤ (k : Int) + 1 := by omega
            have j3 : (0 : Int) ≤ ((p : Int) + 1) := by omega
            have j4 : ((p : Int) + 1) ≤ (k : Int) + 1 := by omega
            have j5 : IntKind.i64.wrap (((p : Int) + 1) + 1) = ((p : Int) + 1) + 1 := by rw [IntKind.wrap_i64]; omega
            have j8 : ((p : Int) + 1 + 1).toNat = p + 1 + 1 := by omega
            have j9 : ((p : Int) + 1).toNat = p + 1 := by omega
            have j10 : ¬ cap4 = p + 1 := by omega
            have j6 : (k : Int) + 1 ≤ (cap4 : Int) := by omega
            have j7 : ((p : Int) + 1) ≤ (cap4 : Int) := by omega
            have HSZ : Hid ((Try.prog.info? 3).map (·.size) = some 1) := by
              show (Try.prog.info? 3).map (·.size) = some 1
              rw [hi]; simp [hz1]
            have HNN : Hid (cs.length = Nat.min (k + 1 - (p + 1)) (k - (p + 1))) := by
              show cs.length = Nat.min (k + 1 - (p + 1)) (k - (p + 1))
              rw [hcsl]; exact (Nat.min_eq_right (by omega)).symm
            have HGD : Hid (w4.drew.heap[g]? = some (.cells cur.toArray 3 (0, 0))) := HG4.out
            obtain ⟨AA, hAA⟩ : ∃ AA : Option Addr, (if cap4 = (p + 1) + 1 then some ⟨g, 0, none⟩ else some ⟨g, (p + 1) + 1, none⟩) = AA := ⟨_, rfl⟩
            have HPOS : Hid (0 < cs.length → AA = some ⟨g, (p + 1) + 1, none⟩ ∧ ∃ ad, (some ⟨g, (p + 1), none⟩ : Option Addr) = some ad ∧ ∀ j v, cs[j]? = some v → w4.drew.cell? (ad.add j) = some v) := fun h0 => ⟨by rw [← hAA]; exact if_neg (by omega), _, rfl, HSRC.out⟩
            have HFIT : Hid ((p + 1) + 1 + cs.length ≤ cur.length) := by
              show (p + 1) + 1 + cs.length ≤ cur.length
              omega
            have HBD : Hid (Below w.heap.size w w4.drew) := hb4.drew
            go_wp2_with fail
            go_region_law (refine step_copy_splice rfl (.tmp 37) (.tmp 40) 42 42 rfl 3 Try.underlying42 HSZ.out AA (some ⟨g, (p + 1), none⟩) (k - (p + 1)) (cap4 - ((p + 1) + 1)) (k + 1 - (p + 1)) (cap4 - (p + 1)) (by simp [Act.eval, Act.put]) (by simp [Act.eval, Act.put]) g ((p + 1) + 1) cur 3 HGD.out cs HNN.out HPOS.out HFIT.out HONE.out w.heap.size w HBD.out hge ?_; intro w5 HG5 hB5)
            have HC5 := cell_of_heap HG5.out (p + 1)
            have hC5 : ∃ u, w5.cell? ⟨g, (p + 1), none⟩ = some u := by
              have hl5 := length_splice cur ((p + 1) + 1) cs (by omega)
              rw [HC5]
              exact ⟨_, Array.getElem?_eq_getElem (by simp [hl5]; omega)⟩
            obtain ⟨u, hu⟩ := hC5
            have hf5 := frozen_of_heap HG5.out (p + 1)
            have dx5 := (hB5.cell (p := ⟨gl, ol + k, none⟩) hgl).trans ((hbr.cell (p := ⟨gl, ol + k, none⟩) hgl).symm.trans dx)
            have HRES : Hid ((w5.setCell ⟨g, (p + 1), none⟩ (.int .i64 x)).ownsRow w.heap.size 3 1 (.slice (some ⟨g, 0, none⟩) (k + 1) cap4) (srt [] (xs.take (k + 1))).length ((srt [] (xs.take (k + 1))).map (Value.int .i64))) := by
              have hl5 := length_splice cur ((p + 1) + 1) cs (by omega)
              have hh := heap_setCell_same w5 g (p + 1) _ _ (.int .i64 x) HG5.out
              have hlen1 : (srt [] (xs.take (k + 1))).length = k + 1 := by rw [HX.out, ins_len, HL.out]
              refine ⟨by simp, Or.inr ⟨g, cap4, _, by rw [hlen1], hge, hh, by rw [hlen1]; exact hc1, hc2, by simp [hl5, hcl], ?_⟩⟩
              rw [hlen1, Nat.mul_one, HX.out, HIX.out, ← HL.out]
              have := spl_list (x := x) (m := (p + 1)) (cur := cur) (by rw [HL.out]; omega) (by rw [HL.out]; omega) HTK.out
              rw [← this, HCS.out]
              simp
            have hb6 : Below w.heap.size w (w5.setCell ⟨g, (p + 1), none⟩ (.int .i64 x)) := hB5.setCell (p := ⟨g, (p + 1), none⟩) hge _
            clear HC5 HG4 HG5 HTK HCS HSRC HONE
            go_wp2
            go_roundg (N - (k + 1))
            case measure => omega
            case rel => exact ⟨k + 1, by omega, Nat.le_refl _, by go_num, HRES, hb6⟩
    · obtain rfl : k = N := by omega
      rw [HN.out, List.take_length] at hown
      go_wp2
      go_ret
      exact ⟨_, rfl, hown.out, hbr⟩
end Go.Proofs.Ythakjmfjbibbjaa
