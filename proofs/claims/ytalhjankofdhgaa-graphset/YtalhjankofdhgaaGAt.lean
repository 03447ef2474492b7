/-
  Rows of edges in memory; the calls of graph that only reckon.
-/
import Derived.Test.YtalhjankofdhgaaGMath
import Derived.WalkKit
import Derived.WalkSpells
import Derived.WalkLawsBesides
import Derived.WalkSmall
import Derived.Lib.OthersKept
import Derived.Laws.Cover4
import Derived.Sort.Grow
namespace Go.Proofs.Ytalhjankofdhgaa
open Go.RowKit Go.Lib

theorem Try.info39 : (Try.prog.info? 39).map (fun i => (i.zero, i.size, i.bytes)) = some (some (.agg #[.int .i64 0, .int .i64 0]), 2, 16) := by kernel_rfl
theorem Try.info3 : (Try.prog.info? 3).map (fun i => (i.zero, i.size, i.bytes)) = some (some (.int .i64 0), 1, 8) := by kernel_rfl

theorem ret_bool {a b : Bool} (h : a = b) : Ending.returned (.bool a) = .returned (.bool b) := by rw [h]
theorem ret_int {k : IntKind} {a b : Int} (h : a = b) : Ending.returned (.int k a) = .returned (.int k b) := by rw [h]
theorem ex_eq {α : Type} (x : α) : ∃ y, y = x := ⟨x, rfl⟩
theorem add_at (b off j : Nat) : (⟨b, off, none⟩ : Addr).add j = ⟨b, off + j, none⟩ := by unfold Addr.add; split <;> simp_all
theorem own_row {w : World} {base : Nat} {e : TypeId} {size : Nat} {v : Value} {n : Nat} {xs : List Value} (h : w.ownsRow base e size v n xs) (hn : 0 < n) :
    ∃ g cap, v = .slice (some ⟨g, 0, none⟩) n cap ∧ base ≤ g ∧ g < w.heap.size ∧ n ≤ cap ∧ ∀ j u, xs[j]? = some u → w.cell? ⟨g, j, none⟩ = some u := by
  have hc := h
  rcases h.2 with ⟨_, h0⟩ | ⟨g, cap, cur, hv, hb, hg, hnc, _⟩
  · omega
  · refine ⟨g, cap, hv, hb, (Array.getElem?_eq_some_iff.1 hg).1, hnc, fun j u hu => ?_⟩
    have := hc.cells (g := g) (by rw [hv]; rfl) j u hu
    rw [add_at, Nat.zero_add] at this
    exact this
theorem own_lower {w : World} {base b : Nat} {e : TypeId} {size : Nat} {v : Value} {n : Nat} {xs : List Value} (h : w.ownsRow base e size v n xs) (hb : b ≤ base) : w.ownsRow b e size v n xs := by
  refine ⟨h.1, ?_⟩
  rcases h.2 with h2 | ⟨g, cap, cur, hv, hg, r⟩
  · exact Or.inl h2
  · exact Or.inr ⟨g, cap, cur, hv, by omega, r⟩
theorem own_below {w w' : World} {base : Nat} {e : TypeId} {size : Nat} {v : Value} {n : Nat} {xs : List Value} (h : w.ownsRow base e size v n xs) (hb : Below w.heap.size w w') : w'.ownsRow base e size v n xs := by
  refine ⟨h.1, ?_⟩
  rcases h.2 with h2 | ⟨g, cap, cur, hv, hg, hgc, r⟩
  · exact Or.inl h2
  · exact Or.inr ⟨g, cap, cur, hv, hg, (hb.block g (Array.getElem?_eq_some_iff.1 hgc).1).trans hgc, r⟩

/-- The cells of a row of edges. -/
def cellsE : List (Int × Int) → List Value
  | [] => []
  | e :: es => .int .i64 e.1 :: .int .i64 e.2 :: cellsE es
theorem cellsE_append (a b : List (Int × Int)) : cellsE (a ++ b) = cellsE a ++ cellsE b := by
  induction a with
  | nil => rfl
  | cons e a ih => simp [cellsE, ih]
theorem cellsE_len (a : List (Int × Int)) : (cellsE a).length = a.length * 2 := by
  induction a with
  | nil => rfl
  | cons e a ih => simp [cellsE, ih]; omega
theorem cellsE_at (es : List (Int × Int)) : ∀ (k : Nat) (h : k < es.length), (cellsE es)[k * 2]? = some (.int .i64 es[k].1) ∧ (cellsE es)[k * 2 + 1]? = some (.int .i64 es[k].2) := by
  induction es with
  | nil => intro k h; simp at h
  | cons r rs ih =>
    intro k h
    cases k with
    | zero => simp [cellsE]
    | succ k =>
      have := ih k (by simpa using h)
      rw [show (k + 1) * 2 = k * 2 + 1 + 1 by omega]
      simp only [cellsE, List.getElem?_cons_succ, List.getElem_cons_succ]
      exact this
theorem cellsE_one (a : List (Int × Int)) : ∀ u ∈ cellsE a, u.oneCell' = true := by
  induction a with
  | nil => simp [cellsE]
  | cons e a ih => intro u hu; simp [cellsE] at hu; rcases hu with rfl | rfl | hu; rfl; rfl; exact ih u hu

/-- A row of edges in memory. -/
def EAt (w : World) (a : Option Addr) (es : List (Int × Int)) : Prop :=
  0 < es.length → ∃ g off, a = some ⟨g, off, none⟩ ∧ g < w.heap.size ∧
    ∀ k (hk : k < es.length), w.cell? ⟨g, off + k * 2, none⟩ = some (.int .i64 es[k].1) ∧ w.cell? ⟨g, off + k * 2 + 1, none⟩ = some (.int .i64 es[k].2)
theorem eat_nil (w : World) (a : Option Addr) : EAt w a [] := fun h => absurd h (by simp)
theorem EAt.below {w w' : World} {a : Option Addr} {es : List (Int × Int)} (h : EAt w a es) (hb : Below w.heap.size w w') : EAt w' a es := by
  intro h0
  obtain ⟨g, off, ha, hg, hc⟩ := h h0
  exact ⟨g, off, ha, Nat.lt_of_lt_of_le hg hb.size, fun k hk => ⟨(hb.cell (p := ⟨g, off + k * 2, none⟩) hg).trans (hc k hk).1, (hb.cell (p := ⟨g, off + k * 2 + 1, none⟩) hg).trans (hc k hk).2⟩⟩
theorem EAt.set {w : World} {a : Option Addr} {es : List (Int × Int)} {p : Addr} (h : EAt w a es) (hne : ∀ g off, 0 < es.length → a = some ⟨g, off, none⟩ → g ≠ p.block) (v : Value) : EAt (w.setCell p v) a es := by
  intro h0
  obtain ⟨g, off, ha, hg, hc⟩ := h h0
  have hn := hne g off h0 ha
  refine ⟨g, off, ha, by simpa using hg, fun k hk => ?_⟩
  rw [World.cell?_setCell_other _ _ _ _ (fun e => hn (congrArg Addr.block e).symm), World.cell?_setCell_other _ _ _ _ (fun e => hn (congrArg Addr.block e).symm)]
  exact hc k hk
theorem EAt.cells {w : World} {g off : Nat} {es : List (Int × Int)} (h : EAt w (some ⟨g, off, none⟩) es) (j : Nat) (u : Value) (hu : (cellsE es)[j]? = some u) : w.cell? ⟨g, off + j, none⟩ = some u := by
  have hj : j < es.length * 2 := by rw [← cellsE_len]; exact (List.getElem?_eq_some_iff.1 hu).1
  obtain ⟨g', off', e, _, hc⟩ := h (by omega)
  simp only [Option.some.injEq, Addr.mk.injEq, and_true] at e
  obtain ⟨rfl, rfl⟩ := e
  have hk := hc (j / 2) (by omega)
  have hk2 := cellsE_at es (j / 2) (by omega)
  rcases Nat.mod_two_eq_zero_or_one j with h0 | h0
  · rw [show j / 2 * 2 = j by omega] at hk hk2
    rw [hk2.1] at hu
    rw [← Option.some.inj hu]
    exact hk.1
  · rw [show j / 2 * 2 + 1 = j by omega] at hk2
    rw [show off + j / 2 * 2 + 1 = off + j by omega] at hk
    rw [hk2.2] at hu
    rw [← Option.some.inj hu]
    exact hk.2
theorem eat_of_cells {w : World} {g off : Nat} {es : List (Int × Int)} (hg : g < w.heap.size) (h : ∀ j u, (cellsE es)[j]? = some u → w.cell? ⟨g, off + j, none⟩ = some u) : EAt w (some ⟨g, off, none⟩) es := fun _ =>
  ⟨g, off, rfl, hg, fun k hk => ⟨h _ _ (cellsE_at es k hk).1, by rw [Nat.add_assoc]; exact h _ _ (cellsE_at es k hk).2⟩⟩
/-- A slice's capacity. -/
def Sl (a : Option Addr) (cap n : Nat) : Prop := n ≤ cap ∧ (a = none → cap = 0) ∧ (a = none ∨ ∃ g off, a = some ⟨g, off, none⟩)
theorem sl_nil : Sl none 0 0 := ⟨Nat.le_refl _, fun _ => rfl, Or.inl rfl⟩
theorem sl_some {g off cap n : Nat} (h : n ≤ cap) : Sl (some ⟨g, off, none⟩) cap n := ⟨h, (fun h => by cases h), Or.inr ⟨g, off, rfl⟩⟩
theorem eat_own {w : World} {base : Nat} {e : TypeId} {v : Value} {es : List (Int × Int)} (h : w.ownsRow base e 2 v es.length (cellsE es)) : ∃ a cap, v = .slice a es.length cap ∧ Sl a cap es.length ∧ EAt w a es := by
  by_cases hn : 0 < es.length
  · obtain ⟨g, cap, hv, hb, hg, hc, hcs⟩ := own_row h hn
    exact ⟨_, cap, hv, sl_some hc, eat_of_cells hg (fun j u hu => by rw [Nat.zero_add]; exact hcs j u hu)⟩
  · rcases h.2 with ⟨hv, h0⟩ | ⟨g, cap, cur, hv, _, _, hc, _⟩
    · exact ⟨none, 0, by rw [hv, h0], by rw [h0]; exact sl_nil, fun h => absurd h hn⟩
    · exact ⟨_, cap, hv, sl_some hc, fun h => absurd h hn⟩

set_option maxHeartbeats 400000 in
theorem isVertex_any (n v : Int) (w : World) : Calls Try.prog 30 #[.int .i64 n, .int .i64 v] w fun e w' => e = .returned (.bool (decide (0 ≤ v ∧ v < n))) ∧ w' = w := by
  go_enter Try.func30, Try.ntmps30
  go_wp2
  all_goals go_ret
  all_goals
    refine ⟨?_, rfl⟩
    refine ret_bool ?_
    first | (simp; omega) | skip

theorem grow_below (w : World) (os : Array Obj) : Below w.heap.size w (Sort.grow w os) := by
  obtain ⟨l, rfl⟩ : ∃ l : List Obj, os = l.toArray := ⟨os.toList, by simp⟩
  have h : ∀ (l : List Obj) (w : World), ∃ w', Sort.grow w l.toArray = w' ∧ Below w.heap.size w w' := by
    intro l
    induction l with
    | nil => intro w; exact ⟨w, Sort.grow_empty w, Below.refl _ _⟩
    | cons o l ih =>
      intro w
      obtain ⟨w', h1, h2⟩ := ih (w.alloc o)
      refine ⟨w', ?_, ?_⟩
      · rw [← h1, Sort.alloc_eq_grow, Sort.grow_grow]
        congr 1
        simp
      · exact ((Below.refl _ w).alloc (Nat.le_refl _) o).trans (h2.mono (by simp))
  obtain ⟨w', h1, h2⟩ := h l w
  rw [h1]
  exact h2

theorem results_cell1 {fn : Func} {p : Tmp} {ty : TypeId} (h : fn.results = #[.cell p ty]) (tmps : Array Value) (P : Program) (w : World) :
    (results fn tmps).run P w = ((asAddr (tmps.getD p undef)).run P w).andThen fun a w₁ => (loadVar ty a).run P w₁ := by
  simp only [results, h]
  simp [Sem.run_bind, Result.andThen]

set_option maxHeartbeats 400000 in
theorem joining_any (a b : Int) (w : World) : Calls Try.prog 31 #[.int .i64 a, .int .i64 b] w fun e w' => e = .returned (.agg #[.int .i64 (min a b), .int .i64 (max a b)]) ∧ ∃ os, w' = Sort.grow w os := by
  go_enter Try.func31, Try.ntmps31
  go_wp2
  all_goals
    refine bodyPost_ret (v := .agg #[.int .i64 (min a b), .int .i64 (max a b)]) ?_ rfl ⟨rfl, _, Sort.alloc_eq_grow _ _⟩
    rw [results_cell1 rfl]
    go_simp
    try omega

set_option maxHeartbeats 400000 in
theorem before_any (x y : Int × Int) (w : World) : Calls Try.prog 34 #[.agg #[.int .i64 x.1, .int .i64 x.2], .agg #[.int .i64 y.1, .int .i64 y.2]] w fun e w' => e = .returned (.bool (ltE x y)) ∧ ∃ os, w' = Sort.grow w os := by
  go_enter Try.func34, Try.ntmps34
  go_wp2
  all_goals go_ret
  all_goals
    refine ⟨ret_bool ?_, _, by rw [Sort.alloc_eq_grow, Sort.alloc_eq_grow, Sort.grow_grow]⟩
    unfold ltE
    first | (simp; omega) | (rw [Bool.eq_iff_iff]; simp; omega)

/-- What the closure of eachOnce says. -/
def cmpE (x y : Int × Int) : Int := if x = y then 0 else if ltE x y = true then -1 else 1
theorem cmpE_lt (x y : Int × Int) : decide (cmpE x y < 0) = ltE x y := by
  unfold cmpE
  by_cases h : x = y
  · rw [if_pos h, h, ltE_irrefl]; rfl
  · rw [if_neg h]
    cases ltE x y <;> simp

theorem cmpE_eq (a b : Int) : cmpE (a, b) (a, b) = 0 := by unfold cmpE; rw [if_pos rfl]
theorem cmpE_ne {x y : Int × Int} (h : x ≠ y) : cmpE x y = if ltE x y = true then -1 else 1 := by unfold cmpE; rw [if_neg h]

set_option maxHeartbeats 400000 in
theorem cmp_one (a b c d : Int) (r : Bool) (k : Int) (w : World) (hk : k = if r = true then -1 else 1) (hc : ∀ W, Calls Try.prog 34 #[.agg #[.int .i64 a, .int .i64 b], .agg #[.int .i64 c, .int .i64 d]] W fun e w' => e = .returned (.bool r) ∧ ∃ os, w' = Sort.grow W os)
    (hne : ¬ (a = c ∧ b = d)) : Calls Try.prog 41 #[.agg #[.int .i64 a, .int .i64 b], .agg #[.int .i64 c, .int .i64 d]] w fun e w' => e = .returned (.int .i64 k) ∧ ∃ os, w' = Sort.grow w os := by
  have HC : Hid (∀ W, Calls Try.prog 34 #[.agg #[.int .i64 a, .int .i64 b], .agg #[.int .i64 c, .int .i64 d]] W fun e w' => e = .returned (.bool r) ∧ ∃ os, w' = Sort.grow W os) := hc
  clear hc
  by_cases h : a = c
  · subst h
    have h2 : (b == d) = false := beq_eq_false_iff_ne.2 (fun e => hne ⟨rfl, e⟩)
    clear hne
    cases r
    all_goals
      simp only [Bool.false_eq_true, if_true, if_false] at hk
      subst hk
      go_enter Try.func41, Try.ntmps41
      go_wp2_with fail
      refine (HC.out _).mono ?_
      rintro e w1 ⟨rfl, os, rfl⟩
      clear HC
      go_wp2
      go_ret
      exact ⟨rfl, _, by rw [Sort.alloc_eq_grow, Sort.alloc_eq_grow, Sort.grow_grow, Sort.grow_grow]⟩
  · have h2 : (a == c) = false := beq_eq_false_iff_ne.2 h
    clear hne h
    cases r
    all_goals
      simp only [Bool.false_eq_true, if_true, if_false] at hk
      subst hk
      go_enter Try.func41, Try.ntmps41
      go_wp2_with fail
      refine (HC.out _).mono ?_
      rintro e w1 ⟨rfl, os, rfl⟩
      clear HC
      go_wp2
      go_ret
      exact ⟨rfl, _, by rw [Sort.alloc_eq_grow, Sort.alloc_eq_grow, Sort.grow_grow, Sort.grow_grow]⟩

set_option maxHeartbeats 400000 in
theorem cmp_same (a b : Int) (w : World) : Calls Try.prog 41 #[.agg #[.int .i64 a, .int .i64 b], .agg #[.int .i64 a, .int .i64 b]] w fun e w' => e = .returned (.int .i64 0) ∧ ∃ os, w' = Sort.grow w os := by
  go_enter Try.func41, Try.ntmps41
  go_wp2
  go_ret
  exact ⟨rfl, _, by rw [Sort.alloc_eq_grow, Sort.alloc_eq_grow, Sort.grow_grow]⟩

theorem cmp_any (x y : Int × Int) (w : World) : Calls Try.prog 41 #[.agg #[.int .i64 x.1, .int .i64 x.2], .agg #[.int .i64 y.1, .int .i64 y.2]] w fun e w' => e = .returned (.int .i64 (cmpE x y)) ∧ ∃ os, w' = Sort.grow w os := by
  by_cases h : x = y
  · subst h
    have := cmp_same x.1 x.2 w
    rwa [← cmpE_eq x.1 x.2] at this
  · exact cmp_one _ _ _ _ (ltE x y) _ w (cmpE_ne h) (fun W => before_any x y W) (fun e => h (Prod.ext e.1 e.2))
end Go.Proofs.Ytalhjankofdhgaa
