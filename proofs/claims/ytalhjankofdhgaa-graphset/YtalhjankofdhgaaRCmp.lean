/-
  The document's Same, SameEdges, SameGraph: are two rows, two graphs the same?
-/
import Derived.Test.YtalhjankofdhgaaGNear
import Derived.Test.YtalhjankofdhgaaGPlace
namespace Go.Proofs.Ytalhjankofdhgaa
open Go.RowKit Go.Lib

theorem same_upto {α : Type} {xs ys : List α} (hl : xs.length = ys.length) (h : ∀ j (h1 : j < xs.length) (h2 : j < ys.length), xs[j] = ys[j]) : xs = ys := List.ext_getElem hl h

set_option maxHeartbeats 1000000 in
set_option maxRecDepth 100000 in
theorem same_any (a1 a2 : Option Addr) (c1 c2 : Nat) (xs ys : List Int) (r : Bool) (w : World) (hN : xs.length ≤ 1000000) (h1 : IAt w a1 xs) (h2 : IAt w a2 ys) (hr : r = true ↔ xs = ys) :
    Calls Try.prog 18 #[.slice a1 xs.length c1, .slice a2 ys.length c2] w fun e w' => e = .returned (.bool r) ∧ Below w.heap.size w w' := by
  have H1 : Hid (IAt w a1 xs) := h1
  have H2 : Hid (IAt w a2 ys) := h2
  have HR : Hid (r = true ↔ xs = ys) := hr
  obtain ⟨N, hNe⟩ := ex_eq xs.length
  obtain ⟨M, hMe⟩ := ex_eq ys.length
  have HN : Hid (N = xs.length) := hNe
  have HM : Hid (M = ys.length) := hMe
  rw [← hNe] at hN ⊢
  rw [← hMe]
  clear h1 h2 hr hNe hMe
  by_cases hl : N = M
  · subst hl
    go_enter Try.func18, Try.ntmps18
    go_wp2
    go_loopw [5] (fun i wr => ∃ k : Nat, k ≤ N ∧ i = .int .i64 k ∧ Hid (∀ j (h1 : j < xs.length) (h2 : j < ys.length), j < k → xs[j] = ys[j]) ∧ Below w.heap.size w wr) (fun i _ => N - (RowKit.intOf i).toNat)
    case atStart => exact ⟨0, Nat.zero_le _, rfl, fun j _ _ h => absurd h (by omega), Below.refl _ _⟩
    case round =>
      obtain ⟨k, hk, rfl, heq, hbr⟩ := hrel
      by_cases hlt : k < N
      · have k1 : k < xs.length := by rw [← HN.out]; exact hlt
        have k2 : k < ys.length := by rw [← HM.out]; exact hlt
        obtain ⟨g1, o1, rfl, hg1, hc1⟩ := H1.out (by omega)
        obtain ⟨g2, o2, rfl, hg2, hc2⟩ := H2.out (by omega)
        have d1 := (hbr.cell (p := ⟨g1, o1 + k, none⟩) hg1).trans (hc1 k k1)
        have d2 := (hbr.cell (p := ⟨g2, o2 + k, none⟩) hg2).trans (hc2 k k2)
        obtain ⟨x, hx⟩ := ex_eq xs[k]
        obtain ⟨y, hy⟩ := ex_eq ys[k]
        rw [← hx] at d1
        rw [← hy] at d2
        have HXY : Hid (x = xs[k] ∧ y = ys[k]) := ⟨hx, hy⟩
        have q1 : (k : Int) < (N : Int) := by omega
        clear hc1 hc2 hx hy
        by_cases hxy : x = y
        · subst hxy
          have HEQ : Hid (∀ j (h1 : j < xs.length) (h2 : j < ys.length), j < k + 1 → xs[j] = ys[j]) := fun j h1 h2 hj => by
            by_cases e : j < k
            · exact heq.out j h1 h2 e
            · obtain rfl : j = k := by omega
              rw [← HXY.out.1, ← HXY.out.2]
          go_wp2
          go_quiet (fail)
          go_wp2
          go_roundw
          case rel => exact ⟨k + 1, by omega, by go_num, HEQ, below_drewN hbr _⟩
          case measure => simp [RowKit.intOf]; omega
        · obtain rfl : r = false := b_false HR.out (fun e => hxy (by rw [HXY.out.1, HXY.out.2]; simp only [e]))
          have hq : (x == y) = false := beq_eq_false_iff_ne.2 hxy
          clear hxy HR
          go_wp2
          go_quiet (fail)
          go_wp2
          go_ret
          exact ⟨rfl, below_drewN hbr _⟩
      · obtain rfl : k = N := by omega
        obtain rfl : r = true := HR.out.2 (same_upto (by rw [← HN.out, ← HM.out]) (fun j h1 h2 => heq.out j h1 h2 (by rw [HN.out]; exact h1)))
        clear HR
        go_wp2
        go_ret
        exact ⟨rfl, hbr⟩
  · obtain rfl : r = false := b_false HR.out (fun e => hl (by rw [HN.out, HM.out, e]))
    have hq : ((N : Int) == (M : Int)) = false := beq_eq_false_iff_ne.2 (by omega)
    clear HR hl
    go_enter Try.func18, Try.ntmps18
    go_wp2
    go_ret
    exact ⟨rfl, Below.refl _ _⟩

set_option maxHeartbeats 1000000 in
set_option maxRecDepth 100000 in
theorem sameEdges_any (a1 a2 : Option Addr) (c1 c2 : Nat) (xs ys : List (Int × Int)) (r : Bool) (w : World) (hN : xs.length ≤ 1000000) (h1 : EAt w a1 xs) (h2 : EAt w a2 ys) (hr : r = true ↔ xs = ys) :
    Calls Try.prog 28 #[.slice a1 xs.length c1, .slice a2 ys.length c2] w fun e w' => e = .returned (.bool r) ∧ Below w.heap.size w w' := by
  have H1 : Hid (EAt w a1 xs) := h1
  have H2 : Hid (EAt w a2 ys) := h2
  have HR : Hid (r = true ↔ xs = ys) := hr
  obtain ⟨N, hNe⟩ := ex_eq xs.length
  obtain ⟨M, hMe⟩ := ex_eq ys.length
  have HN : Hid (N = xs.length) := hNe
  have HM : Hid (M = ys.length) := hMe
  rw [← hNe] at hN ⊢
  rw [← hMe]
  clear h1 h2 hr hNe hMe
  by_cases hl : N = M
  · subst hl
    go_enter Try.func28, Try.ntmps28
    go_wp2
    go_loopw [5] (fun i wr => ∃ k : Nat, k ≤ N ∧ i = .int .i64 k ∧ Hid (∀ j (h1 : j < xs.length) (h2 : j < ys.length), j < k → xs[j] = ys[j]) ∧ Below w.heap.size w wr) (fun i _ => N - (RowKit.intOf i).toNat)
    case atStart => exact ⟨0, Nat.zero_le _, rfl, fun j _ _ h => absurd h (by omega), Below.refl _ _⟩
    case round =>
      obtain ⟨k, hk, rfl, heq, hbr⟩ := hrel
      by_cases hlt : k < N
      · have k1 : k < xs.length := by rw [← HN.out]; exact hlt
        have k2 : k < ys.length := by rw [← HM.out]; exact hlt
        obtain ⟨g1, o1, rfl, hg1, hc1⟩ := H1.out.at k1
        obtain ⟨g2, o2, rfl, hg2, hc2⟩ := H2.out.at k2
        obtain ⟨d1, d2⟩ := hc1 wr hbr k k1
        obtain ⟨f1, f2⟩ := hc2 wr hbr k k2
        have hso := same_or' xs[k] ys[k]
        obtain ⟨x1, hx1⟩ := ex_eq xs[k].1
        obtain ⟨x2, hx2⟩ := ex_eq xs[k].2
        obtain ⟨y1, hy1⟩ := ex_eq ys[k].1
        obtain ⟨y2, hy2⟩ := ex_eq ys[k].2
        rw [← hx1] at d1
        rw [← hx2] at d2
        rw [← hy1] at f1
        rw [← hy2] at f2
        rw [← hx1, ← hx2, ← hy1, ← hy2] at hso
        have HXY : Hid (x1 = xs[k].1 ∧ x2 = xs[k].2 ∧ y1 = ys[k].1 ∧ y2 = ys[k].2) := ⟨hx1, hx2, hy1, hy2⟩
        have q1 : (k : Int) < (N : Int) := by omega
        clear hc1 hc2 hx1 hx2 hy1 hy2
        have HNO : (x1 ≠ y1 ∨ x2 ≠ y2) → Hid (r = false) := fun h => b_false HR.out (fun e => by
          obtain ⟨h1, h2, h3, h4⟩ := HXY.out
          subst e
          rcases h with h | h
          · exact h (h1.trans h3.symm)
          · exact h (h2.trans h4.symm))
        rcases hso with ⟨e1, e2⟩ | ⟨e1, e2⟩ | e1
        · subst e1 e2
          have HEQ : Hid (∀ j (h1 : j < xs.length) (h2 : j < ys.length), j < k + 1 → xs[j] = ys[j]) := fun j h1 h2 hj => by
            by_cases e : j < k
            · exact heq.out j h1 h2 e
            · obtain rfl : j = k := by omega
              obtain ⟨h1, h2, h3, h4⟩ := HXY.out
              exact Prod.ext (h1.symm.trans h3) (h2.symm.trans h4)
          go_wp2
          go_quiet (fail)
          go_wp2
          go_roundw
          case rel => exact ⟨k + 1, by omega, by go_num, HEQ, below_drewN hbr _⟩
          case measure => simp [RowKit.intOf]; omega
        · obtain rfl := (HNO (Or.inr (beq_eq_false_iff_ne.1 e2))).out
          subst e1
          clear HR HNO
          go_wp2
          go_quiet (fail)
          go_wp2
          go_ret
          exact ⟨rfl, below_drewN hbr _⟩
        · obtain rfl := (HNO (Or.inl (beq_eq_false_iff_ne.1 e1))).out
          clear HR HNO
          go_wp2
          go_quiet (fail)
          go_wp2
          go_ret
          exact ⟨rfl, below_drewN hbr _⟩
      · obtain rfl : k = N := by omega
        obtain rfl : r = true := HR.out.2 (same_upto (by rw [← HN.out, ← HM.out]) (fun j h1 h2 => heq.out j h1 h2 (by rw [HN.out]; exact h1)))
        clear HR
        go_wp2
        go_ret
        exact ⟨rfl, hbr⟩
  · obtain rfl : r = false := b_false HR.out (fun e => hl (by rw [HN.out, HM.out, e]))
    have hq : ((N : Int) == (M : Int)) = false := beq_eq_false_iff_ne.2 (by omega)
    clear HR hl
    go_enter Try.func28, Try.ntmps28
    go_wp2
    go_ret
    exact ⟨rfl, Below.refl _ _⟩

set_option maxHeartbeats 1000000 in
theorem sameGraph_any (n m : Int) (a1 a2 : Option Addr) (c1 c2 : Nat) (xs ys : List (Int × Int)) (r : Bool) (w : World) (hN : xs.length ≤ 1000000) (h1 : EAt w a1 xs) (h2 : EAt w a2 ys) (hr : r = true ↔ (n = m ∧ xs = ys)) :
    Calls Try.prog 13 #[.agg #[.int .i64 n, .slice a1 xs.length c1], .agg #[.int .i64 m, .slice a2 ys.length c2]] w fun e w' => e = .returned (.bool r) ∧ Below w.heap.size w w' := by
  by_cases hnm : n = m
  · subst hnm
    have hr' : r = true ↔ xs = ys := by rw [hr]; simp
    have HS : Hid (∀ W, EAt W a1 xs → EAt W a2 ys → Calls Try.prog 28 #[.slice a1 xs.length c1, .slice a2 ys.length c2] W fun e w' => e = .returned (.bool r) ∧ Below W.heap.size W w') := fun W e1 e2 => sameEdges_any a1 a2 c1 c2 xs ys r W hN e1 e2 hr'
    have H1 : Hid (EAt w a1 xs) := h1
    have H2 : Hid (EAt w a2 ys) := h2
    obtain ⟨N, hNe⟩ := ex_eq xs.length
    obtain ⟨M, hMe⟩ := ex_eq ys.length
    rw [← hNe, ← hMe] at HS
    rw [← hNe, ← hMe]
    clear h1 h2 hr hr' hNe hMe
    go_enter Try.func13, Try.ntmps13
    go_wp2_with fail
    have hb : Below w.heap.size w ((w.alloc (.cells #[.int .i64 n, .slice a1 N c1] 25)).alloc (.cells #[.int .i64 n, .slice a2 M c2] 25)) := ((Below.refl _ _).alloc (Nat.le_refl _) _).alloc (by simp) _
    refine (HS.out _ (H1.out.below hb) (H2.out.below hb)).mono ?_
    rintro e w1 ⟨rfl, hb1⟩
    go_wp2
    go_ret
    exact ⟨rfl, hb.trans (hb1.mono hb.size)⟩
  · obtain rfl : r = false := b_false hr (fun h => hnm h.1)
    have hq : (n == m) = false := beq_eq_false_iff_ne.2 hnm
    clear hr h1 h2 hnm
    go_enter Try.func13, Try.ntmps13
    go_wp2
    go_ret
    exact ⟨rfl, ((Below.refl _ _).alloc (Nat.le_refl _) _).alloc (by simp) _⟩
end Go.Proofs.Ytalhjankofdhgaa
