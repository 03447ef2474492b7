/-
  graph.Right and the document's Right: which graphs may be.
-/
import Derived.Test.YtalhjankofdhgaaGAt
import Derived.Lib.QuietBelow
import Derived.BigQuiet
namespace Go.Proofs.Ytalhjankofdhgaa
open Go.RowKit Go.Lib

theorem EAt.at {w : World} {a : Option Addr} {es : List (Int × Int)} (h : EAt w a es) {k : Nat} (hk : k < es.length) : ∃ g off, a = some ⟨g, off, none⟩ ∧ g < w.heap.size ∧ ∀ w', Below w.heap.size w w' → ∀ j (hj : j < es.length), w'.cell? ⟨g, off + j * 2, none⟩ = some (.int .i64 es[j].1) ∧ w'.cell? ⟨g, off + j * 2 + 1, none⟩ = some (.int .i64 es[j].2) := by
  obtain ⟨g, off, ha, hg, hc⟩ := h (by omega)
  exact ⟨g, off, ha, hg, fun w' hb j hj => ⟨(hb.cell (p := ⟨g, off + j * 2, none⟩) hg).trans (hc j hj).1, (hb.cell (p := ⟨g, off + j * 2 + 1, none⟩) hg).trans (hc j hj).2⟩⟩

theorem cell_alloc_old {w : World} {a : Addr} {v : Value} (h : w.cell? a = some v) (o : Obj) : (w.alloc o).cell? a = some v := (((Below.refl _ w).alloc (Nat.le_refl _) o).cell (block_lt_of_cell h)).trans h
theorem wrap_small (m : Nat) (h : m ≤ 1000000) : IntKind.i64.wrap (m : Int) = m := by simp [IntKind.wrap, IntKind.bits, IntKind.signed]; omega
theorem b_false {b : Bool} {p : Prop} (h : b = true ↔ p) (hn : ¬ p) : b = false := by
  cases b
  · rfl
  · exact absurd (h.1 rfl) hn
theorem before_below (a b c d : Int) (w : World) : Calls Try.prog 34 #[.agg #[.int .i64 a, .int .i64 b], .agg #[.int .i64 c, .int .i64 d]] w fun e w' => e = .returned (.bool (ltE (a, b) (c, d))) ∧ Below w.heap.size w w' :=
  (before_any (a, b) (c, d) w).mono fun _ _ ⟨h, os, hw⟩ => ⟨h, hw ▸ grow_below w os⟩

theorem okAt_next {n : Int} {es : List (Int × Int)} {k : Nat} {hk : k < es.length} {e1 e2 : Int} (h : ∀ j, j < k → OkAt n es j) (he : e1 = es[k].1 ∧ e2 = es[k].2) (hin : 0 ≤ e1 ∧ e1 < e2 ∧ e2 < n) (hlt : 0 < k → ltE (es[k - 1]'(by omega)) es[k] = true) : ∀ j, j < k + 1 → OkAt n es j := by
  intro j hj
  by_cases h' : j < k
  · exact h j h'
  · obtain rfl : j = k := by omega
    intro _
    rw [he.1, he.2] at hin
    exact ⟨hin, hlt⟩

set_option maxHeartbeats 1000000 in
set_option maxRecDepth 100000 in
theorem right_any (n : Int) (a : Option Addr) (cap : Nat) (es : List (Int × Int)) (b : Bool) (w : World) (hN : es.length ≤ 1000000) (hE : EAt w a es) (hb : b = true ↔ RightG n es) :
    Calls Try.prog 14 #[.agg #[.int .i64 n, .slice a es.length cap]] w fun e w' => e = .returned (.bool b) ∧ Below w.heap.size w w' := by
  obtain ⟨N, hNe⟩ : ∃ N, N = es.length := ⟨_, rfl⟩
  rw [← hNe] at hN ⊢
  have HN : Hid (N = es.length) := hNe
  have HE : Hid (EAt w a es) := hE
  have HB : Hid (b = true ↔ RightG n es) := hb
  clear hNe hE hb
  by_cases h1 : n < 0
  · obtain rfl : b = false := b_false HB.out (fun h => absurd h.1 (by omega))
    clear HB
    go_enter Try.func14, Try.ntmps14
    go_wp2
    go_ret
    exact ⟨rfl, (Below.refl _ _).alloc (Nat.le_refl _) _⟩
  by_cases h2 : 1000 < n
  · obtain rfl : b = false := b_false HB.out (fun h => absurd h.2.1 (by omega))
    clear HB
    go_enter Try.func14, Try.ntmps14
    go_wp2
    go_ret
    exact ⟨rfl, (Below.refl _ _).alloc (Nat.le_refl _) _⟩
  by_cases h3 : 4000 < N
  · obtain rfl : b = false := b_false HB.out (fun h => absurd h.2.2.1 (by rw [← HN.out]; omega))
    clear HB
    go_enter Try.func14, Try.ntmps14
    go_wp2
    go_ret
    exact ⟨rfl, (Below.refl _ _).alloc (Nat.le_refl _) _⟩
  have h1' : 0 ≤ n := by omega
  have h2' : n ≤ 1000 := by omega
  have h3' : N ≤ 4000 := by omega
  clear h1 h2 h3
  go_enter Try.func14, Try.ntmps14
  go_wp2
  go_loopw [22] (fun i wr => ∃ k : Nat, k ≤ N ∧ i = .int .i64 k ∧ Hid (∀ j, j < k → OkAt n es j) ∧ Below w.heap.size w wr ∧ w.heap.size < wr.heap.size ∧ wr.cell? ⟨w.heap.size, 0, none⟩ = some (.int .i64 n) ∧ wr.cell? ⟨w.heap.size, 1, none⟩ = some (.slice a N cap)) (fun i _ => N - (RowKit.intOf i).toNat)
  case atStart =>
    refine ⟨0, Nat.zero_le _, rfl, fun j hj => absurd hj (by omega), (Below.refl _ _).alloc (Nat.le_refl _) _, by simp, ?_, ?_⟩
    · exact cell_of_heap (heap_alloc_new _ _) 0
    · exact cell_of_heap (heap_alloc_new _ _) 1
  case round =>
    obtain ⟨k, hk, rfl, hok, hbr, hsz, hc0, hc1⟩ := hrel
    by_cases hlt : k < N
    · have hkr : k < es.length := by rw [← HN.out]; exact hlt
      obtain ⟨g, off, rfl, hg, hcs⟩ := HE.out.at hkr
      obtain ⟨e1, he1⟩ := ex_eq es[k].1
      obtain ⟨e2, he2⟩ := ex_eq es[k].2
      have d := hcs wr hbr k hkr
      rw [← he1, ← he2] at d
      obtain ⟨d0, d1⟩ := d
      have HES : Hid (e1 = es[k].1 ∧ e2 = es[k].2) := ⟨he1, he2⟩
      have HCS : Hid (∀ j (hj : j < es.length), wr.cell? ⟨g, off + j * 2, none⟩ = some (.int .i64 es[j].1) ∧ wr.cell? ⟨g, off + j * 2 + 1, none⟩ = some (.int .i64 es[j].2)) := hcs wr hbr
      clear hcs he1 he2
      by_cases hin : 0 ≤ e1 ∧ e1 < e2 ∧ e2 < n
      · obtain ⟨i1, i2, i3⟩ := hin
        have hbW : Below w.heap.size w (wr.alloc (.cells #[.int .i64 e1, .int .i64 e2] 39)) := hbr.alloc hbr.size _
        have hnW : (wr.alloc (.cells #[.int .i64 e1, .int .i64 e2] 39)).heap[wr.heap.size]? = some (.cells #[.int .i64 e1, .int .i64 e2] 39) := heap_alloc_new _ _
        have b0 := cell_of_heap hnW 0
        have b1 := cell_of_heap hnW 1
        have f0 : (wr.alloc (.cells #[.int .i64 e1, .int .i64 e2] 39)).cell? ⟨w.heap.size, 0, none⟩ = some (.int .i64 n) := cell_alloc_old hc0 _
        have f1 : (wr.alloc (.cells #[.int .i64 e1, .int .i64 e2] 39)).cell? ⟨w.heap.size, 1, none⟩ = some (.slice (some ⟨g, off, none⟩) N cap) := cell_alloc_old hc1 _
        by_cases hk0 : k = 0
        · subst hk0
          clear b0 b1 f0 f1 hnW
          rw [Nat.zero_mul, Nat.add_zero] at d0 d1
          go_wp2
          go_quiet (fail)
          go_wp2
          go_roundw
          case rel => exact ⟨1, by omega, by go_num, okAt_next hok.out HES.out ⟨i1, i2, i3⟩ (fun h => absurd h (by omega)), below_drewN hbW _, by simp; omega, by go_simp, by go_simp⟩
          case measure => simp [RowKit.intOf]; omega
        · have hk1 : k - 1 < es.length := by omega
          obtain ⟨p1, hp1⟩ := ex_eq es[k - 1].1
          obtain ⟨p2, hp2⟩ := ex_eq es[k - 1].2
          have c := HCS.out (k - 1) hk1
          rw [← hp1, ← hp2] at c
          obtain ⟨c0, c1⟩ := c
          have g0 : (wr.alloc (.cells #[.int .i64 e1, .int .i64 e2] 39)).cell? ⟨g, off + (k - 1) * 2, none⟩ = some (.int .i64 p1) := cell_alloc_old c0 _
          have g1 : (wr.alloc (.cells #[.int .i64 e1, .int .i64 e2] 39)).cell? ⟨g, off + (k - 1) * 2 + 1, none⟩ = some (.int .i64 p2) := cell_alloc_old c1 _
          have HPS : Hid (p1 = es[k - 1].1 ∧ p2 = es[k - 1].2) := ⟨hp1, hp2⟩
          obtain ⟨m, rfl⟩ : ∃ m, k = m + 1 := ⟨k - 1, by omega⟩
          rw [Nat.add_sub_cancel] at g0 g1
          clear hp1 hp2 c0 c1
          obtain ⟨r, hr⟩ := ex_eq (ltE (p1, p2) (e1, e2))
          have HR : Hid (r = ltE (p1, p2) (e1, e2)) := hr
          have HC : ∀ W, Calls Try.prog 34 #[.agg #[.int .i64 p1, .int .i64 p2], .agg #[.int .i64 e1, .int .i64 e2]] W fun e w' => e = .returned (.bool r) ∧ Below W.heap.size W w' := fun W => by rw [hr]; exact before_below p1 p2 e1 e2 W
          clear hr
          have q0 : (m : Int) < (N : Int) := by omega
          go_wp2_with fail
          obtain ⟨W, hW⟩ : ∃ W, W = wr.alloc (.cells #[.int .i64 e1, .int .i64 e2] 39) := ⟨_, rfl⟩
          have hszW : w.heap.size < (wr.alloc (.cells #[.int .i64 e1, .int .i64 e2] 39)).heap.size := by simp; omega
          rw [← hW] at b0 b1 f0 f1 g0 g1 hbW hszW ⊢
          clear hW
          have B0 := fun d os => cell_regrown b0 d os
          have B1 := fun d os => cell_regrown b1 d os
          have F1 := fun d os => cell_regrown f1 d os
          have G0 := fun d os => cell_regrown g0 d os
          have G1 := fun d os => cell_regrown g1 d os
          clear b0 b1 f1 g0 g1
          have wm := wrap_small m (by omega)
          refine wp_region_quiet_below (by kernel_rfl) (by kernel_rfl) ?_
          repeat (quiet_step (exact Calls.regrown_of (HC _)))
          refine wpQuiet_nil ?_
          intro _ hw'
          obtain ⟨⟨dq, osq⟩, hw''⟩ := hw'
          subst hw''
          have hbQ : Below w.heap.size w (Sort.grow (redrawn W dq) osq) := hbW.trans ((below_regrown W dq osq).mono hbW.size)
          have F0 := cell_regrown f0 dq osq
          have F1' := F1 dq osq
          have hszQ := Nat.lt_of_lt_of_le hszW (below_regrown W dq osq).size
          obtain ⟨V, hV⟩ : ∃ V, V = Sort.grow (redrawn W dq) osq := ⟨_, rfl⟩
          rw [← hV] at F0 F1' hbQ hszQ ⊢
          clear B0 B1 F1 G0 G1 hV f0
          cases r with
          | false =>
            obtain rfl : b = false := b_false HB.out (fun h => by
              have := (h.at (m + 1) hkr).2 (by omega)
              simp only [Nat.add_sub_cancel] at this
              obtain ⟨hp1, hp2⟩ := HPS.out
              obtain ⟨he1, he2⟩ := HES.out
              have hr := HR.out
              rw [hp1, hp2, he1, he2] at hr
              simp only [Nat.add_sub_cancel] at hr
              rw [hr.symm] at this
              simp at this)
            clear HB
            go_wp2
            go_ret
            exact ⟨rfl, hbQ⟩
          | true =>
            go_wp2
            go_roundw
            case rel =>
              refine ⟨m + 1 + 1, by omega, by go_num, okAt_next hok.out HES.out ⟨i1, i2, i3⟩ (fun h => ?_), hbQ, hszQ, F0, F1'⟩
              obtain ⟨hp1, hp2⟩ := HPS.out
              obtain ⟨he1, he2⟩ := HES.out
              have hr := HR.out
              rw [hp1, hp2, he1, he2] at hr
              simp only [Nat.add_sub_cancel] at hr ⊢
              exact hr.symm
            case measure => simp [RowKit.intOf]; omega
      · obtain rfl : b = false := b_false HB.out (fun h => by
          have := (h.at k hkr).1
          rw [← HES.out.1, ← HES.out.2] at this
          exact hin this)
        clear HB
        go_wp2
        all_goals go_ret
        all_goals exact ⟨rfl, hbr.alloc hbr.size _⟩
    · obtain rfl : k = N := by omega
      obtain rfl : b = true := HB.out.2 (right_of h1' h2' (by rw [← HN.out]; exact h3') (fun i hi => hok.out i (by rw [HN.out]; exact hi)))
      clear HB
      go_wp2
      go_ret
      exact ⟨rfl, hbr⟩
end Go.Proofs.Ytalhjankofdhgaa
