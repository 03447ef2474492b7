/-
  Numbers that belong to classes: each number has the least one of its class. No program is named here.
  The document's Right, Has: which graphs may be; are two vertices neighbours?
  The document's Sorted: a row of numbers, rising.
-/
import Derived.Test.YtlebimolgienkaaRows
import Derived.Test.YtlebimolgienkaaT02
import Derived.BigQuiet
import Derived.Laws.IdiomCopy
import Derived.Deep.DeepCutAuto
namespace Go.Proofs.Ytlebimolgienkaa

/-- Each of the numbers below n has the least one of its class. -/
structure Pt (n : Nat) (f : Nat → Nat) : Prop where
  le : ∀ i, i < n → f i ≤ i
  idem : ∀ i, i < n → f (f i) = f i
theorem pt_new (n : Nat) : Pt n (fun i => i) := ⟨fun _ _ => Nat.le_refl _, fun _ _ => rfl⟩
theorem Pt.lt {n : Nat} {f : Nat → Nat} (h : Pt n f) {i : Nat} (hi : i < n) : f i < n := Nat.lt_of_le_of_lt (h.le i hi) hi
theorem Pt.congr {n : Nat} {f g : Nat → Nat} (h : Pt n f) (e : ∀ i, i < n → f i = g i) : Pt n g :=
  ⟨fun i hi => by rw [← e i hi]; exact h.le i hi, fun i hi => by rw [← e i hi, ← e (f i) (h.lt hi)]; exact h.idem i hi⟩
/-- What a join makes of it. -/
def joinF (f : Nat → Nat) (a b i : Nat) : Nat := if f i = max (f a) (f b) then min (f a) (f b) else f i
theorem Pt.join {n : Nat} {f : Nat → Nat} (h : Pt n f) {a b : Nat} (ha : a < n) (hb : b < n) : Pt n (joinF f a b) := by
  have ia := h.idem a ha
  have ib := h.idem b hb
  refine ⟨fun i hi => ?_, fun i hi => ?_⟩
  · have := h.le i hi
    unfold joinF
    split <;> omega
  · have ii := h.idem i hi
    unfold joinF
    by_cases e : f i = max (f a) (f b)
    · rw [if_pos e]
      have hm : f (min (f a) (f b)) = min (f a) (f b) := by
        rcases Nat.le_total (f a) (f b) with h1 | h1
        · rw [Nat.min_eq_left h1]; exact ia
        · rw [Nat.min_eq_right h1]; exact ib
      rw [hm]
      split <;> rfl
    · rw [if_neg e, ii, if_neg e]
theorem joinF_same (f : Nat → Nat) (a b i k : Nat) : joinF f a b i = joinF f a b k ↔ f i = f k ∨ (f i = f a ∧ f k = f b) ∨ (f i = f b ∧ f k = f a) := by
  unfold joinF
  by_cases e1 : f i = max (f a) (f b)
  · by_cases e2 : f k = max (f a) (f b)
    · rw [if_pos e1, if_pos e2]; omega
    · rw [if_pos e1, if_neg e2]; omega
  · by_cases e2 : f k = max (f a) (f b)
    · rw [if_neg e1, if_pos e2]; omega
    · rw [if_neg e1, if_neg e2]; omega
theorem joinF_one {f : Nat → Nat} {a b : Nat} (h : f a = f b) (i : Nat) : joinF f a b i = f i := by
  unfold joinF
  rw [h, Nat.max_self, Nat.min_self]
  split
  · next e => exact e.symm
  · rfl

/-- Belonging together by pairs: the least relation of that kind. -/
def Cl (P : List (Nat × Nat)) (a b : Nat) : Prop :=
  ∀ R : Nat → Nat → Prop, (∀ x, R x x) → (∀ x y, R x y → R y x) → (∀ x y z, R x y → R y z → R x z) → (∀ e ∈ P, R e.1 e.2) → R a b
theorem Cl.refl (P : List (Nat × Nat)) (a : Nat) : Cl P a a := fun _ h _ _ _ => h a
theorem Cl.symm {P : List (Nat × Nat)} {a b : Nat} (h : Cl P a b) : Cl P b a := fun R r s t p => s _ _ (h R r s t p)
theorem Cl.trans {P : List (Nat × Nat)} {a b c : Nat} (h : Cl P a b) (k : Cl P b c) : Cl P a c := fun R r s t p => t _ _ _ (h R r s t p) (k R r s t p)
theorem Cl.of {P : List (Nat × Nat)} {e : Nat × Nat} (h : e ∈ P) : Cl P e.1 e.2 := fun _ _ _ _ p => p e h
theorem Cl.mono {P Q : List (Nat × Nat)} {a b : Nat} (h : Cl P a b) (hs : ∀ e ∈ P, Cl Q e.1 e.2) : Cl Q a b :=
  h (Cl Q) (Cl.refl Q) (fun _ _ => Cl.symm) (fun _ _ _ => Cl.trans) hs
/-- The classes are those of the pairs. -/
def Tells (n : Nat) (f : Nat → Nat) (P : List (Nat × Nat)) : Prop := ∀ a b, a < n → b < n → (f a = f b ↔ Cl P a b)
def PairsIn (n : Nat) (P : List (Nat × Nat)) : Prop := ∀ e ∈ P, e.1 < n ∧ e.2 < n
theorem cl_nil {a b : Nat} (h : Cl [] a b) : a = b := h (fun x y => x = y) (fun _ => rfl) (fun _ _ h => h.symm) (fun _ _ _ h k => h.trans k) (fun e he => absurd he (by simp))
theorem tells_new (n : Nat) : Tells n (fun i => i) [] := fun a b _ _ => ⟨fun h => by have h' : a = b := h; rw [h']; exact Cl.refl _ _, cl_nil⟩
theorem tells_join {n : Nat} {f : Nat → Nat} {P : List (Nat × Nat)} (h : Tells n f P) (hP : PairsIn n P) {a b : Nat} (ha : a < n) (hb : b < n) : Tells n (joinF f a b) (P ++ [(a, b)]) := by
  have up : ∀ x y, Cl P x y → Cl (P ++ [(a, b)]) x y := fun x y hx => hx.mono (fun e he => Cl.of (List.mem_append_left _ he))
  have ab : Cl (P ++ [(a, b)]) a b := Cl.of (e := (a, b)) (by simp)
  intro i k hi hk
  constructor
  · intro e
    rcases (joinF_same f a b i k).1 e with e | ⟨e1, e2⟩ | ⟨e1, e2⟩
    · exact up _ _ ((h i k hi hk).1 e)
    · exact (up _ _ ((h i a hi ha).1 e1)).trans (ab.trans (up _ _ ((h k b hk hb).1 e2)).symm)
    · exact (up _ _ ((h i b hi hb).1 e1)).trans (ab.symm.trans (up _ _ ((h k a hk ha).1 e2)).symm)
  · intro hc
    have := hc (fun x y => x = y ∨ (x < n ∧ y < n ∧ joinF f a b x = joinF f a b y)) (fun x => Or.inl rfl) ?_ ?_ ?_
    · rcases this with e | ⟨_, _, e⟩
      · rw [e]
      · exact e
    · rintro x y (e | ⟨h1, h2, h3⟩)
      · exact Or.inl e.symm
      · exact Or.inr ⟨h2, h1, h3.symm⟩
    · rintro x y z (e | ⟨h1, h2, h3⟩) (e' | ⟨h1', h2', h3'⟩)
      · exact Or.inl (e.trans e')
      · rw [e]; exact Or.inr ⟨h1', h2', h3'⟩
      · rw [← e']; exact Or.inr ⟨h1, h2, h3⟩
      · exact Or.inr ⟨h1, h2', h3.trans h3'⟩
    · intro e he
      rcases List.mem_append.1 he with he | he
      · have hin := hP e he
        exact Or.inr ⟨hin.1, hin.2, (joinF_same _ _ _ _ _).2 (Or.inl ((h _ _ hin.1 hin.2).2 (Cl.of he)))⟩
      · simp at he
        subst he
        exact Or.inr ⟨ha, hb, (joinF_same _ _ _ _ _).2 (Or.inr (Or.inl ⟨rfl, rfl⟩))⟩
/-- There is one way alone to tell classes by their least numbers. -/
theorem pt_one {n : Nat} {f g : Nat → Nat} (hf : Pt n f) (hg : Pt n g) (h : ∀ a b, a < n → b < n → (f a = f b ↔ g a = g b)) : ∀ i, i < n → f i = g i := fun i hi => by
  have h1 : g (f i) = g i := (h _ _ (hf.lt hi) hi).1 (hf.idem i hi)
  have h2 : f (g i) = f i := (h _ _ (hg.lt hi) hi).2 (hg.idem i hi)
  have h3 := hg.le (f i) (hf.lt hi)
  have h4 := hf.le (g i) (hg.lt hi)
  omega
theorem tells_one {n : Nat} {f g : Nat → Nat} {P Q : List (Nat × Nat)} (hf : Pt n f) (hg : Pt n g) (tf : Tells n f P) (tg : Tells n g Q) (hPQ : ∀ e ∈ P, Cl Q e.1 e.2) (hQP : ∀ e ∈ Q, Cl P e.1 e.2) : ∀ i, i < n → f i = g i :=
  pt_one hf hg (fun a b ha hb => (tf a b ha hb).trans ((Iff.intro (fun h => h.mono hPQ) (fun h => h.mono hQP)).trans (tg a b ha hb).symm))

/-- The least numbers, and each one's class. -/
def repsF (n : Nat) (f : Nat → Nat) : List Nat := (List.range n).filter (fun i => f i == i)
def classF (n : Nat) (f : Nat → Nat) (i : Nat) : List Int := ((List.range n).filter (fun k => f k == i)).map (fun k : Nat => (k : Int))
def classesF (n : Nat) (f : Nat → Nat) : List (List Int) := (repsF n f).map (classF n f)
theorem mem_reps {n : Nat} {f : Nat → Nat} {i : Nat} : i ∈ repsF n f ↔ i < n ∧ f i = i := by simp [repsF]
theorem reps_rises (n : Nat) (f : Nat → Nat) : (repsF n f).Pairwise (· < ·) := List.Pairwise.filter _ List.pairwise_lt_range
/-- A join makes one class fewer. -/
theorem reps_join {n : Nat} {f : Nat → Nat} (h : Pt n f) {a b : Nat} (ha : a < n) (hb : b < n) (hne : f a ≠ f b) : (repsF n f).length = (repsF n (joinF f a b)).length + 1 := by
  have hy : max (f a) (f b) ∈ repsF n f := by
    rw [mem_reps]
    rcases Nat.le_total (f a) (f b) with h1 | h1
    · rw [Nat.max_eq_right h1]; exact ⟨h.lt hb, h.idem b hb⟩
    · rw [Nat.max_eq_left h1]; exact ⟨h.lt ha, h.idem a ha⟩
  have e : repsF n (joinF f a b) = (repsF n f).filter (fun i => !(i == max (f a) (f b))) := by
    unfold repsF
    rw [List.filter_filter]
    refine List.filter_congr (fun i _ => ?_)
    unfold joinF
    by_cases h1 : f i = max (f a) (f b)
    · rw [if_pos h1]
      by_cases h2 : i = max (f a) (f b)
      · have h3 : ¬ min (f a) (f b) = i := by omega
        have h4 : (min (f a) (f b) == i) = false := beq_eq_false_iff_ne.2 h3
        have h5 : (i == max (f a) (f b)) = true := beq_iff_eq.2 h2
        rw [h4, h5]; rfl
      · have h3 : ¬ f i = i := by omega
        have h4 : ¬ min (f a) (f b) = i := fun e => by
          have : f i = i := by
            rw [← e]
            rcases Nat.le_total (f a) (f b) with h5 | h5
            · rw [Nat.min_eq_left h5]; exact h.idem a ha
            · rw [Nat.min_eq_right h5]; exact h.idem b hb
          omega
        rw [beq_eq_false_iff_ne.2 h3, beq_eq_false_iff_ne.2 h4, Bool.and_false]
    · rw [if_neg h1]
      by_cases h2 : i = max (f a) (f b)
      · have h4 : (f i == i) = false := beq_eq_false_iff_ne.2 (by omega)
        rw [h4, Bool.and_false]
      · simp [h2]
  rw [e]
  have hnd : (repsF n f).Nodup := (reps_rises n f).imp (fun h => by omega)
  have := List.length_eq_countP_add_countP (fun i => i == max (f a) (f b)) (l := repsF n f)
  rw [List.countP_eq_length_filter, List.countP_eq_length_filter] at this
  have h1 : ((repsF n f).filter (fun i => i == max (f a) (f b))).length = 1 := by
    rw [← List.countP_eq_length_filter]
    exact Nat.le_antisymm (List.nodup_iff_count.1 hnd _) (List.count_pos_iff.2 hy)
  rw [h1] at this
  rw [this, Nat.add_comm]
  congr 2
  refine List.filter_congr (fun i _ => by cases h : (i == max (f a) (f b)) <;> simp)
end Go.Proofs.Ytlebimolgienkaa
namespace Go.Proofs.Ytlebimolgienkaa
open Go.RowKit Go.Lib

set_option maxHeartbeats 2000000 in
set_option maxRecDepth 100000 in
theorem rright_any (n : Int) (a : Option Addr) (cap : Nat) (es : List (Int × Int)) (b : Bool) (w : World) (hN : es.length ≤ 1000000) (hE : EAt w a es) (hb : b = true ↔ RightG n es) :
    Calls Try.prog 41 #[.agg #[.int .i64 n, .slice a es.length cap]] w fun e w' => e = .returned (.bool b) ∧ Below w.heap.size w w' := by
  obtain ⟨N, hNe⟩ : ∃ N, N = es.length := ⟨_, rfl⟩
  rw [← hNe] at hN ⊢
  have HN : Hid (N = es.length) := hNe
  have HE : Hid (EAt w a es) := hE
  have HB : Hid (b = true ↔ RightG n es) := hb
  clear hNe hE hb
  by_cases h1 : n < 0
  · obtain rfl : b = false := b_false HB.out (fun h => absurd h.1 (by omega))
    clear HB
    go_enter Try.func41, Try.ntmps41
    go_wp2
    go_ret
    exact ⟨rfl, (Below.refl _ _).alloc (Nat.le_refl _) _⟩
  by_cases h2 : 1000 < n
  · obtain rfl : b = false := b_false HB.out (fun h => absurd h.2.1 (by omega))
    clear HB
    go_enter Try.func41, Try.ntmps41
    go_wp2
    go_ret
    exact ⟨rfl, (Below.refl _ _).alloc (Nat.le_refl _) _⟩
  by_cases h3 : 4000 < N
  · obtain rfl : b = false := b_false HB.out (fun h => absurd h.2.2.1 (by rw [← HN.out]; omega))
    clear HB
    go_enter Try.func41, Try.ntmps41
    go_wp2
    go_ret
    exact ⟨rfl, (Below.refl _ _).alloc (Nat.le_refl _) _⟩
  have h1' : 0 ≤ n := by omega
  have h2' : n ≤ 1000 := by omega
  have h3' : N ≤ 4000 := by omega
  clear h1 h2 h3
  go_enter Try.func41, Try.ntmps41
  go_wp2
  go_loopw [3] (fun i wr => ∃ k : Nat, k ≤ N ∧ i = .int .i64 k ∧ Hid (∀ j, j < k → OkAt n es j) ∧ Below w.heap.size w wr ∧ w.heap.size < wr.heap.size ∧ wr.cell? ⟨w.heap.size, 0, none⟩ = some (.int .i64 n) ∧ wr.cell? ⟨w.heap.size, 1, none⟩ = some (.slice a N cap)) (fun i _ => N - (RowKit.intOf i).toNat)
  case atStart =>
    refine ⟨0, Nat.zero_le _, rfl, fun j hj => absurd hj (by omega), (Below.refl _ _).alloc (Nat.le_refl _) _, by simp, ?_, ?_⟩
    · exact cell_of_heap (heap_alloc_new _ _) 0
    · exact cell_of_heap (heap_alloc_new _ _) 1
  case round =>
    obtain ⟨k, hk, rfl, hok, hbr, hsz, hc0, hc1⟩ := hrel
    have HSZ : Hid (w.heap.size < wr.heap.size) := hsz
    clear hsz
    by_cases hlt : k < N
    · have hkr : k < es.length := by rw [← HN.out]; exact hlt
      obtain ⟨g, off, rfl, hg, hcs⟩ := HE.out.at hkr
      obtain ⟨e1, he1⟩ := ex_eq es[k].1
      obtain ⟨e2, he2⟩ := ex_eq es[k].2
      have d := hcs wr hbr k hkr
      rw [← he1, ← he2] at d
      obtain ⟨d0, d1⟩ := d
      have HES : Hid (e1 = es[k].1 ∧ e2 = es[k].2) := ⟨he1, he2⟩
      have HCS : Hid (∀ j (hj : j < es.length), wr.cell? ⟨g, off + j * 2, none⟩ = some (.int .i64 es[j].1) ∧ wr.cell? ⟨g, off + j * 2 + 1, none⟩ = some (.int .i64 es[j].2)) := hcs wr hbr
      clear hcs he1 he2
      have q1 : (k : Int) < (N : Int) := by omega
      have hbW : Below w.heap.size w (wr.alloc (.cells #[.int .i64 e1, .int .i64 e2] 56)) := hbr.alloc hbr.size _
      have f0 : (wr.alloc (.cells #[.int .i64 e1, .int .i64 e2] 56)).cell? ⟨w.heap.size, 0, none⟩ = some (.int .i64 n) := cell_alloc_old hc0 _
      have f1 : (wr.alloc (.cells #[.int .i64 e1, .int .i64 e2] 56)).cell? ⟨w.heap.size, 1, none⟩ = some (.slice (some ⟨g, off, none⟩) N cap) := cell_alloc_old hc1 _
      by_cases hin : 0 ≤ e1 ∧ e1 < e2 ∧ e2 < n
      · obtain ⟨i1, i2, i3⟩ := hin
        by_cases hk0 : k = 0
        · subst hk0
          rw [Nat.zero_mul, Nat.add_zero] at d0 d1
          go_wp2
          go_quiet (fail)
          go_wp2
          go_roundw
          case rel => exact ⟨1, by omega, by go_num, okAt_next hok.out HES.out ⟨i1, i2, i3⟩ (fun h => absurd h (by omega)), below_drewN hbW _, by have := HSZ.out; simp; omega, by go_simp, by go_simp⟩
          case measure => simp [RowKit.intOf]; omega
        · have hk1 : k - 1 < es.length := by omega
          obtain ⟨p1, hp1⟩ := ex_eq es[k - 1].1
          obtain ⟨p2, hp2⟩ := ex_eq es[k - 1].2
          have c := HCS.out (k - 1) hk1
          rw [← hp1, ← hp2] at c
          obtain ⟨c0, c1⟩ := c
          have g0 : (wr.alloc (.cells #[.int .i64 e1, .int .i64 e2] 56)).cell? ⟨g, off + (k - 1) * 2, none⟩ = some (.int .i64 p1) := cell_alloc_old c0 _
          have g1 : (wr.alloc (.cells #[.int .i64 e1, .int .i64 e2] 56)).cell? ⟨g, off + (k - 1) * 2 + 1, none⟩ = some (.int .i64 p2) := cell_alloc_old c1 _
          have HPS : Hid (p1 = es[k - 1].1 ∧ p2 = es[k - 1].2) := ⟨hp1, hp2⟩
          obtain ⟨m, rfl⟩ : ∃ m, k = m + 1 := ⟨k - 1, by omega⟩
          rw [Nat.add_sub_cancel] at g0 g1
          clear hp1 hp2 c0 c1
          have q0 : (m : Int) < (N : Int) := by omega
          have HLT : Hid (ltE (es[m + 1 - 1]'(by omega)) es[m + 1] = true ↔ (p1 < e1 ∨ (p1 = e1 ∧ p2 < e2))) := by
            show _ ↔ _
            rw [ltE_iff, HPS.out.1, HPS.out.2, HES.out.1, HES.out.2]
          by_cases t1 : e1 < p1
          · obtain rfl : b = false := b_false HB.out (fun h => by
              have := (h.at (m + 1) hkr).2 (by omega)
              rw [HLT.out] at this; omega)
            clear HB
            go_wp2
            go_quiet (fail)
            go_wp2
            go_ret
            exact ⟨rfl, below_drewN hbW _⟩
          by_cases t2 : p1 = e1
          · subst t2
            by_cases t3 : e2 ≤ p2
            · obtain rfl : b = false := b_false HB.out (fun h => by
                have := (h.at (m + 1) hkr).2 (by omega)
                rw [HLT.out] at this; omega)
              clear HB
              go_wp2
              go_quiet (fail)
              go_wp2
              go_ret
              exact ⟨rfl, below_drewN hbW _⟩
            · have t3' : ¬ e2 ≤ p2 := t3
              go_wp2
              go_quiet (fail)
              go_wp2
              go_roundw
              case rel => exact ⟨m + 1 + 1, by omega, by go_num, okAt_next hok.out HES.out ⟨i1, i2, i3⟩ (fun _ => HLT.out.2 (Or.inr ⟨by first | rfl | trivial, by omega⟩)), below_drewN hbW _, by have := HSZ.out; simp; omega, by go_simp, by go_simp⟩
              case measure => simp [RowKit.intOf]; omega
          · have t2' : (p1 == e1) = false := beq_eq_false_iff_ne.2 t2
            have t1' : p1 ≤ e1 := by omega
            have HOK : Hid (p1 < e1) := by
              show p1 < e1
              omega
            have t1d : decide (e1 < p1) = false := decide_eq_false t1
            clear t2
            go_wp2
            go_quiet (fail)
            go_wp2
            go_roundw
            case rel => exact ⟨m + 1 + 1, by omega, by go_num, okAt_next hok.out HES.out ⟨i1, i2, i3⟩ (fun _ => HLT.out.2 (Or.inl HOK.out)), below_drewN hbW _, by have := HSZ.out; simp; omega, by go_simp, by go_simp⟩
            case measure => simp [RowKit.intOf]; omega
      · obtain rfl : b = false := b_false HB.out (fun h => by
          have := (h.at k hkr).1
          rw [← HES.out.1, ← HES.out.2] at this
          exact hin this)
        clear HB
        go_wp2
        all_goals go_ret
        all_goals exact ⟨rfl, hbW⟩
    · obtain rfl : k = N := by omega
      obtain rfl : b = true := HB.out.2 (right_of h1' h2' (by rw [← HN.out]; exact h3') (fun i hi => hok.out i (by rw [HN.out]; exact hi)))
      clear HB
      go_wp2
      go_ret
      exact ⟨rfl, hbr⟩
end Go.Proofs.Ytlebimolgienkaa
namespace Go.Proofs.Ytlebimolgienkaa
open Go.RowKit Go.Lib

/-- A number is put into a rising row: behind those that are not greater. -/
def ins (x : Int) : List Int → List Int
  | [] => [x]
  | y :: ys => if y ≤ x then y :: ins x ys else x :: y :: ys
theorem ins_len (x : Int) (ys : List Int) : (ins x ys).length = ys.length + 1 := by
  induction ys with
  | nil => rfl
  | cons y ys ih => unfold ins; split <;> simp [ih]
theorem ins_mem {x z : Int} {ys : List Int} : z ∈ ins x ys ↔ z = x ∨ z ∈ ys := by
  induction ys with
  | nil => simp [ins]
  | cons y ys ih =>
    unfold ins
    split
    · simp [ih]
      constructor
      · rintro (h | h | h)
        · exact Or.inr (Or.inl h)
        · exact Or.inl h
        · exact Or.inr (Or.inr h)
      · rintro (h | h | h)
        · exact Or.inr (Or.inl h)
        · exact Or.inl h
        · exact Or.inr (Or.inr h)
    · simp
def Up (xs : List Int) : Prop := xs.Pairwise (· ≤ ·)
theorem ins_up {x : Int} {ys : List Int} (h : Up ys) : Up (ins x ys) := by
  induction ys with
  | nil => unfold Up ins; simp
  | cons y ys ih =>
    unfold Up at h
    rw [List.pairwise_cons] at h
    unfold ins
    split
    · unfold Up
      rw [List.pairwise_cons]
      refine ⟨fun z hz => ?_, ih h.2⟩
      rcases ins_mem.1 hz with rfl | hz
      · assumption
      · exact h.1 z hz
    · unfold Up
      rw [List.pairwise_cons, List.pairwise_cons]
      refine ⟨fun z hz => ?_, h⟩
      rcases List.mem_cons.1 hz with rfl | hz
      · omega
      · have := h.1 z hz; omega
def srt : List Int → List Int → List Int
  | acc, [] => acc
  | acc, x :: xs => srt (ins x acc) xs
theorem srt_snoc (acc xs : List Int) (x : Int) : srt acc (xs ++ [x]) = ins x (srt acc xs) := by
  induction xs generalizing acc with
  | nil => rfl
  | cons y xs ih => exact ih (ins y acc)
theorem srt_up {acc xs : List Int} (h : Up acc) : Up (srt acc xs) := by
  induction xs generalizing acc with
  | nil => exact h
  | cons y xs ih => exact ih (ins_up h)
theorem srt_mem {acc xs : List Int} {z : Int} : z ∈ srt acc xs ↔ z ∈ acc ∨ z ∈ xs := by
  induction xs generalizing acc with
  | nil => simp [srt]
  | cons y xs ih =>
    show z ∈ srt (ins y acc) xs ↔ _
    rw [ih, ins_mem, List.mem_cons]
    constructor
    · rintro ((h | h) | h)
      · exact Or.inr (Or.inl h)
      · exact Or.inl h
      · exact Or.inr (Or.inr h)
    · rintro (h | h | h)
      · exact Or.inl (Or.inr h)
      · exact Or.inl (Or.inl h)
      · exact Or.inr h
theorem srt_len (acc xs : List Int) : (srt acc xs).length = acc.length + xs.length := by
  induction xs generalizing acc with
  | nil => simp [srt]
  | cons y xs ih =>
    show (srt (ins y acc) xs).length = _
    rw [ih, ins_len, List.length_cons]; omega
/-- Where the number goes. -/
theorem ins_at {x : Int} {ys : List Int} {k : Nat} (hk : k ≤ ys.length) (h1 : ∀ j (h : j < ys.length), j < k → ys[j] ≤ x) (h2 : ∀ j (h : j < ys.length), k ≤ j → x < ys[j]) : ins x ys = ys.take k ++ x :: ys.drop k := by
  induction ys generalizing k with
  | nil =>
    have : k = 0 := by simpa using hk
    subst this; rfl
  | cons y ys ih =>
    cases k with
    | zero =>
      have := h2 0 (by simp) (Nat.le_refl _)
      unfold ins
      simp only [List.getElem_cons_zero] at this
      rw [if_neg (by omega)]
      simp
    | succ k =>
      have := h1 0 (by simp) (by omega)
      simp only [List.getElem_cons_zero] at this
      unfold ins
      rw [if_pos this, ih (k := k) (by simpa using hk) (fun j h hj => h1 (j + 1) (by simpa using h) (by omega)) (fun j h hj => h2 (j + 1) (by simpa using h) (by omega))]
      simp
end Go.Proofs.Ytlebimolgienkaa
