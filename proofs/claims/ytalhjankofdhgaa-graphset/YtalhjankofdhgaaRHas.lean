/-
  The document's Has, In: are two vertices neighbours; does a number stand in a row?
-/
import Derived.Test.YtalhjankofdhgaaRRight
import Derived.Test.YtalhjankofdhgaaGNear
namespace Go.Proofs.Ytalhjankofdhgaa
open Go.RowKit Go.Lib

def HasE (es : List (Int × Int)) (x y : Int) (k : Nat) : Prop := ∃ j, ∃ h : j < es.length, j < k ∧ ((es[j].1 = x ∧ es[j].2 = y) ∨ (es[j].1 = y ∧ es[j].2 = x))
theorem hasE_all {es : List (Int × Int)} {x y : Int} : HasE es x y es.length ↔ (x, y) ∈ es ∨ (y, x) ∈ es := by
  constructor
  · rintro ⟨j, h, _, ⟨h1, h2⟩ | ⟨h1, h2⟩⟩
    · left; rw [← h1, ← h2]; exact List.getElem_mem _
    · right; rw [← h1, ← h2]; exact List.getElem_mem _
  · rintro (h | h)
    · obtain ⟨j, hj, e⟩ := List.getElem_of_mem h
      exact ⟨j, hj, hj, Or.inl (by rw [e]; exact ⟨rfl, rfl⟩)⟩
    · obtain ⟨j, hj, e⟩ := List.getElem_of_mem h
      exact ⟨j, hj, hj, Or.inr (by rw [e]; exact ⟨rfl, rfl⟩)⟩

set_option maxHeartbeats 2000000 in
set_option maxRecDepth 100000 in
theorem rhas_any (n : Int) (a : Option Addr) (cap : Nat) (es : List (Int × Int)) (x y : Int) (b r : Bool) (w : World) (hN : es.length ≤ 1000000) (hE : EAt w a es) (hb : b = true ↔ RightG n es) (hr : r = true ↔ (RightG n es ∧ ((x, y) ∈ es ∨ (y, x) ∈ es))) :
    Calls Try.prog 17 #[.agg #[.int .i64 n, .slice a es.length cap], .int .i64 x, .int .i64 y] w fun e w' => e = .returned (.bool r) ∧ Below w.heap.size w w' := by
  obtain ⟨N, hNe⟩ : ∃ N, N = es.length := ⟨_, rfl⟩
  have HRI : Hid (∀ W, EAt W a es → Calls Try.prog 15 #[.agg #[.int .i64 n, .slice a N cap]] W fun e w' => e = .returned (.bool b) ∧ Below W.heap.size W w') := fun W h => by rw [hNe]; exact rright_any n a cap es b W hN h hb
  rw [← hNe] at hN ⊢
  have HN : Hid (N = es.length) := hNe
  have HE : Hid (EAt w a es) := hE
  have HB : Hid (b = true ↔ RightG n es) := hb
  have HR : Hid (r = true ↔ (RightG n es ∧ ((x, y) ∈ es ∨ (y, x) ∈ es))) := hr
  clear hNe hE hb hr
  have hbA : Below w.heap.size w (w.alloc (.cells #[.int .i64 n, .slice a N cap] 25)) := (Below.refl _ _).alloc (Nat.le_refl _) _
  have HOA : Hid ((w.alloc (.cells #[.int .i64 n, .slice a N cap] 25)).heap[w.heap.size]? = some (.cells #[.int .i64 n, .slice a N cap] 25)) := heap_alloc_new _ _
  have hsA : (w.alloc (.cells #[.int .i64 n, .slice a N cap] 25)).heap.size = w.heap.size + 1 := by simp
  go_enter Try.func17, Try.ntmps17
  go_wp2_with fail
  refine (HRI.out _ (HE.out.below hbA)).mono ?_
  rintro e w1 ⟨rfl, hb1⟩
  rw [hsA] at hb1
  have hbw : Below w.heap.size w w1 := hbA.trans (hb1.mono (by omega))
  have o1 := (hb1.block w.heap.size (by omega)).trans HOA.out
  have HE1 : Hid (EAt w1 a es) := HE.out.below hbw
  have hs1 := hb1.size
  rw [hsA] at hs1
  have c1 : w1.cell? ⟨w.heap.size, 1, none⟩ = some (.slice a N cap) := cell_of_heap o1 1
  clear hb1 hbA hsA HRI HOA o1
  cases b with
  | false =>
    obtain rfl : r = false := b_false HR.out (fun h => absurd (HB.out.2 h.1) (by simp))
    clear HR HB
    go_wp2
    go_ret
    exact ⟨rfl, hbw⟩
  | true =>
    have HRG : Hid (RightG n es) := HB.out.1 rfl
    have HR2 : Hid (r = true ↔ HasE es x y es.length) := by
      show r = true ↔ _
      rw [HR.out, hasE_all]
      exact ⟨fun h => h.2, fun h => ⟨HRG.out, h⟩⟩
    clear HR HB
    go_wp2
    go_loopw [7] (fun i wr => ∃ k : Nat, k ≤ N ∧ i = .int .i64 k ∧ Hid (¬ HasE es x y k) ∧ wr = w1) (fun i _ => N - (RowKit.intOf i).toNat)
    case atStart => exact ⟨0, Nat.zero_le _, rfl, fun ⟨j, _, h, _⟩ => absurd h (by omega), rfl⟩
    case round =>
      obtain ⟨k, hk, rfl, hno, hw⟩ := hrel
      subst hw
      by_cases hlt : k < N
      · have hkr : k < es.length := by rw [← HN.out]; exact hlt
        obtain ⟨g, off, rfl, hg, hcs⟩ := HE1.out (by omega)
        obtain ⟨d0, d1⟩ := hcs k hkr
        obtain ⟨e1, he1⟩ := ex_eq es[k].1
        obtain ⟨e2, he2⟩ := ex_eq es[k].2
        rw [← he1] at d0
        rw [← he2] at d1
        have HES : Hid (e1 = es[k].1 ∧ e2 = es[k].2) := ⟨he1, he2⟩
        have q1 : (k : Int) < (N : Int) := by omega
        clear hcs he1 he2
        by_cases hy : (e1 = x ∧ e2 = y) ∨ (e1 = y ∧ e2 = x)
        · obtain rfl : r = true := HR2.out.2 ⟨k, hkr, hkr, by rw [← HES.out.1, ← HES.out.2]; exact hy⟩
          clear HR2
          go_wp2
          all_goals (first | (go_ret; exact ⟨rfl, hbw⟩) | skip)
          all_goals (exfalso; simp_all)
        · have HNX : Hid (¬ HasE es x y (k + 1)) := fun ⟨j, hj, hlt, h⟩ => by
            by_cases e : j < k
            · exact hno.out ⟨j, hj, e, h⟩
            · obtain rfl : j = k := by omega
              rw [← HES.out.1, ← HES.out.2] at h
              exact hy h
          have hyb : ((e1 == x && e2 == y) || (e1 == y && e2 == x)) = false := by
            rw [Bool.eq_false_iff]
            intro h
            simp only [Bool.or_eq_true, Bool.and_eq_true, beq_iff_eq] at h
            exact hy h
          cases h1 : (e1 == x) <;> cases h2 : (e2 == y) <;> cases h3 : (e1 == y) <;> cases h4 : (e2 == x)
          all_goals rw [h1, h2, h3, h4] at hyb
          all_goals first | (simp at hyb; done) | skip
          all_goals
            clear hy hyb
            go_wp2
            go_roundw
            case rel => exact ⟨k + 1, by omega, by go_num, HNX, by first | rfl | trivial⟩
            case measure => simp [RowKit.intOf]; omega
      · obtain rfl : k = N := by omega
        obtain rfl : r = false := b_false HR2.out (fun h => hno.out (by rw [HN.out]; exact h))
        clear HR2
        go_wp2
        go_ret
        exact ⟨rfl, hbw⟩

set_option maxHeartbeats 1000000 in
theorem in_any (a : Option Addr) (cap : Nat) (xs : List Int) (x : Int) (w : World) (hN : xs.length ≤ 1000000) (h : IAt w a xs) :
    Calls Try.prog 29 #[.slice a xs.length cap, .int .i64 x] w fun e w' => e = .returned (.bool (decide (x ∈ xs))) ∧ w' = w := by
  have H1 : Hid (IAt w a xs) := h
  obtain ⟨r, hr⟩ := ex_eq (decide (x ∈ xs))
  have HR : Hid (r = true ↔ x ∈ xs) := by
    show r = true ↔ x ∈ xs
    rw [hr, decide_eq_true_eq]
  rw [← hr]
  obtain ⟨N, hNe⟩ := ex_eq xs.length
  have HN : Hid (N = xs.length) := hNe
  rw [← hNe] at hN ⊢
  clear h hr hNe
  go_enter Try.func29, Try.ntmps29
  go_wp2
  go_loopw [5] (fun i wr => ∃ k : Nat, k ≤ N ∧ i = .int .i64 k ∧ Hid (x ∉ xs.take k) ∧ wr = w) (fun i _ => N - (RowKit.intOf i).toNat)
  case atStart => exact ⟨0, Nat.zero_le _, rfl, (by simp : x ∉ xs.take 0), rfl⟩
  case round =>
    obtain ⟨k, hk, rfl, hno, hw⟩ := hrel
    subst hw
    by_cases hlt : k < N
    · have hkr : k < xs.length := by rw [← HN.out]; exact hlt
      obtain ⟨g, off, rfl, hg, hc⟩ := H1.out (by omega)
      have d := hc k hkr
      obtain ⟨y, hy⟩ := ex_eq xs[k]
      rw [← hy] at d
      have HY : Hid (y = xs[k]) := hy
      have q1 : (k : Int) < (N : Int) := by omega
      clear hc hy
      by_cases hyx : y = x
      · obtain rfl : r = true := HR.out.2 (by rw [← hyx, HY.out]; exact List.getElem_mem _)
        subst hyx
        clear HR
        go_wp2
        go_ret
        exact ⟨rfl, rfl⟩
      · have hq : (y == x) = false := beq_eq_false_iff_ne.2 hyx
        have HNX : Hid (x ∉ xs.take (k + 1)) := by
          show x ∉ xs.take (k + 1)
          rw [List.take_succ_eq_append_getElem hkr, List.mem_append]
          rintro (h | h)
          · exact hno.out h
          · simp at h; exact hyx (by rw [HY.out]; exact h.symm)
        clear hyx
        go_wp2
        go_roundw
        case rel => exact ⟨k + 1, by omega, by go_num, HNX, by first | rfl | trivial⟩
        case measure => simp [RowKit.intOf]; omega
    · obtain rfl : k = N := by omega
      obtain rfl : r = false := b_false HR.out (fun h => hno.out (by rw [HN.out, List.take_length]; exact h))
      clear HR
      go_wp2
      go_ret
      exact ⟨rfl, rfl⟩
end Go.Proofs.Ytalhjankofdhgaa
