/-
  The document's Right, Has: which graphs may be; are two vertices neighbours?
-/
import Derived.Test.YtalhjankofdhgaaGNb
import Derived.BigQuiet
namespace Go.Proofs.Ytalhjankofdhgaa
open Go.RowKit Go.Lib

set_option maxHeartbeats 2000000 in
set_option maxRecDepth 100000 in
theorem rright_any (n : Int) (a : Option Addr) (cap : Nat) (es : List (Int × Int)) (b : Bool) (w : World) (hN : es.length ≤ 1000000) (hE : EAt w a es) (hb : b = true ↔ RightG n es) :
    Calls Try.prog 15 #[.agg #[.int .i64 n, .slice a es.length cap]] w fun e w' => e = .returned (.bool b) ∧ Below w.heap.size w w' := by
  obtain ⟨N, hNe⟩ : ∃ N, N = es.length := ⟨_, rfl⟩
  rw [← hNe] at hN ⊢
  have HN : Hid (N = es.length) := hNe
  have HE : Hid (EAt w a es) := hE
  have HB : Hid (b = true ↔ RightG n es) := hb
  clear hNe hE hb
  by_cases h1 : n < 0
  · obtain rfl : b = false := b_false HB.out (fun h => absurd h.1 (by omega))
    clear HB
    go_enter Try.func15, Try.ntmps15
    go_wp2
    go_ret
    exact ⟨rfl, (Below.refl _ _).alloc (Nat.le_refl _) _⟩
  by_cases h2 : 1000 < n
  · obtain rfl : b = false := b_false HB.out (fun h => absurd h.2.1 (by omega))
    clear HB
    go_enter Try.func15, Try.ntmps15
    go_wp2
    go_ret
    exact ⟨rfl, (Below.refl _ _).alloc (Nat.le_refl _) _⟩
  by_cases h3 : 4000 < N
  · obtain rfl : b = false := b_false HB.out (fun h => absurd h.2.2.1 (by rw [← HN.out]; omega))
    clear HB
    go_enter Try.func15, Try.ntmps15
    go_wp2
    go_ret
    exact ⟨rfl, (Below.refl _ _).alloc (Nat.le_refl _) _⟩
  have h1' : 0 ≤ n := by omega
  have h2' : n ≤ 1000 := by omega
  have h3' : N ≤ 4000 := by omega
  clear h1 h2 h3
  go_enter Try.func15, Try.ntmps15
  go_wp2
  go_loopw [3] (fun i wr => ∃ k : Nat, k ≤ N ∧ i = .int .i64 k ∧ Hid (∀ j, j < k → OkAt n es j) ∧ Below w.heap.size w wr ∧ w.heap.size < wr.heap.size ∧ wr.cell? ⟨w.heap.size, 0, none⟩ = some (.int .i64 n) ∧ wr.cell? ⟨w.heap.size, 1, none⟩ = some (.slice a N cap)) (fun i _ => N - (RowKit.intOf i).toNat)
  case atStart =>
    refine ⟨0, Nat.zero_le _, rfl, fun j hj => absurd hj (by omega), (Below.refl _ _).alloc (Nat.le_refl _) _, by simp, ?_, ?_⟩
    · exact cell_of_heap (heap_alloc_new _ _) 0
    · exact cell_of_heap (heap_alloc_new _ _) 1
  case round =>
    obtain ⟨k, hk, rfl, hok, hbr, hsz, hc0, hc1⟩ := hrel
    have HSZ : Hid (w.heap.size < wr.heap.size) := hsz
    clear hsz
    by_cases hlt : k < N
    · have hkr : k < es.length := by rw [← HN.out]; exact hlt
      obtain ⟨g, off, rfl, hg, hcs⟩ := HE.out.at hkr
      obtain ⟨e1, he1⟩ := ex_eq es[k].1
      obtain ⟨e2, he2⟩ := ex_eq es[k].2
      have d := hcs wr hbr k hkr
      rw [← he1, ← he2] at d
      obtain ⟨d0, d1⟩ := d
      have HES : Hid (e1 = es[k].1 ∧ e2 = es[k].2) := ⟨he1, he2⟩
      have HCS : Hid (∀ j (hj : j < es.length), wr.cell? ⟨g, off + j * 2, none⟩ = some (.int .i64 es[j].1) ∧ wr.cell? ⟨g, off + j * 2 + 1, none⟩ = some (.int .i64 es[j].2)) := hcs wr hbr
      clear hcs he1 he2
      have q1 : (k : Int) < (N : Int) := by omega
      have hbW : Below w.heap.size w (wr.alloc (.cells #[.int .i64 e1, .int .i64 e2] 39)) := hbr.alloc hbr.size _
      have f0 : (wr.alloc (.cells #[.int .i64 e1, .int .i64 e2] 39)).cell? ⟨w.heap.size, 0, none⟩ = some (.int .i64 n) := cell_alloc_old hc0 _
      have f1 : (wr.alloc (.cells #[.int .i64 e1, .int .i64 e2] 39)).cell? ⟨w.heap.size, 1, none⟩ = some (.slice (some ⟨g, off, none⟩) N cap) := cell_alloc_old hc1 _
      by_cases hin : 0 ≤ e1 ∧ e1 < e2 ∧ e2 < n
      · obtain ⟨i1, i2, i3⟩ := hin
        by_cases hk0 : k = 0
        · subst hk0
          rw [Nat.zero_mul, Nat.add_zero] at d0 d1
          go_wp2
          go_quiet (fail)
          go_wp2
          go_roundw
          case rel => exact ⟨1, by omega, by go_num, okAt_next hok.out HES.out ⟨i1, i2, i3⟩ (fun h => absurd h (by omega)), below_drewN hbW _, by have := HSZ.out; simp; omega, by go_simp, by go_simp⟩
          case measure => simp [RowKit.intOf]; omega
        · have hk1 : k - 1 < es.length := by omega
          obtain ⟨p1, hp1⟩ := ex_eq es[k - 1].1
          obtain ⟨p2, hp2⟩ := ex_eq es[k - 1].2
          have c := HCS.out (k - 1) hk1
          rw [← hp1, ← hp2] at c
          obtain ⟨c0, c1⟩ := c
          have g0 : (wr.alloc (.cells #[.int .i64 e1, .int .i64 e2] 39)).cell? ⟨g, off + (k - 1) * 2, none⟩ = some (.int .i64 p1) := cell_alloc_old c0 _
          have g1 : (wr.alloc (.cells #[.int .i64 e1, .int .i64 e2] 39)).cell? ⟨g, off + (k - 1) * 2 + 1, none⟩ = some (.int .i64 p2) := cell_alloc_old c1 _
          have HPS : Hid (p1 = es[k - 1].1 ∧ p2 = es[k - 1].2) := ⟨hp1, hp2⟩
          obtain ⟨m, rfl⟩ : ∃ m, k = m + 1 := ⟨k - 1, by omega⟩
          rw [Nat.add_sub_cancel] at g0 g1
          clear hp1 hp2 c0 c1
          have q0 : (m : Int) < (N : Int) := by omega
          have HLT : Hid (ltE (es[m + 1 - 1]'(by omega)) es[m + 1] = true ↔ (p1 < e1 ∨ (p1 = e1 ∧ p2 < e2))) := by
            show _ ↔ _
            rw [ltE_iff, HPS.out.1, HPS.out.2, HES.out.1, HES.out.2]
          by_cases t1 : e1 < p1
          · obtain rfl : b = false := b_false HB.out (fun h => by
              have := (h.at (m + 1) hkr).2 (by omega)
              rw [HLT.out] at this; omega)
            clear HB
            go_wp2
            go_quiet (fail)
            go_wp2
            go_ret
            exact ⟨rfl, below_drewN hbW _⟩
          by_cases t2 : p1 = e1
          · subst t2
            by_cases t3 : e2 ≤ p2
            · obtain rfl : b = false := b_false HB.out (fun h => by
                have := (h.at (m + 1) hkr).2 (by omega)
                rw [HLT.out] at this; omega)
              clear HB
              go_wp2
              go_quiet (fail)
              go_wp2
              go_ret
              exact ⟨rfl, below_drewN hbW _⟩
            · have t3' : ¬ e2 ≤ p2 := t3
              go_wp2
              go_quiet (fail)
              go_wp2
              go_roundw
              case rel => exact ⟨m + 1 + 1, by omega, by go_num, okAt_next hok.out HES.out ⟨i1, i2, i3⟩ (fun _ => HLT.out.2 (Or.inr ⟨by first | rfl | trivial, by omega⟩)), below_drewN hbW _, by have := HSZ.out; simp; omega, by go_simp, by go_simp⟩
              case measure => simp [RowKit.intOf]; omega
          · have t2' : (p1 == e1) = false := beq_eq_false_iff_ne.2 t2
            have t1' : p1 ≤ e1 := by omega
            have HOK : Hid (p1 < e1) := by
              show p1 < e1
              omega
            have t1d : decide (e1 < p1) = false := decide_eq_false t1
            clear t2
            go_wp2
            go_quiet (fail)
            go_wp2
            go_roundw
            case rel => exact ⟨m + 1 + 1, by omega, by go_num, okAt_next hok.out HES.out ⟨i1, i2, i3⟩ (fun _ => HLT.out.2 (Or.inl HOK.out)), below_drewN hbW _, by have := HSZ.out; simp; omega, by go_simp, by go_simp⟩
            case measure => simp [RowKit.intOf]; omega
      · obtain rfl : b = false := b_false HB.out (fun h => by
          have := (h.at k hkr).1
          rw [← HES.out.1, ← HES.out.2] at this
          exact hin this)
        clear HB
        go_wp2
        all_goals go_ret
        all_goals exact ⟨rfl, hbW⟩
    · obtain rfl : k = N := by omega
      obtain rfl : b = true := HB.out.2 (right_of h1' h2' (by rw [← HN.out]; exact h3') (fun i hi => hok.out i (by rw [HN.out]; exact hi)))
      clear HB
      go_wp2
      go_ret
      exact ⟨rfl, hbr⟩
end Go.Proofs.Ytalhjankofdhgaa
