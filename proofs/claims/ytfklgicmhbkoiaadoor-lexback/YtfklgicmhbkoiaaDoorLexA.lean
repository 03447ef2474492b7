/-
  lex.passedOver, lex.place, lex.whatGoesOn and its closures, lex.behind: what each answers.
-/
import Derived.Test.YtfklgicmhbkoiaaDoorLx
import Derived.WalkSmall
namespace Go.Proofs.YtfklgicmhbkoiaaDoor
open Go.RowKit Go.Lib

set_option maxHeartbeats 400000 in
theorem passedOver_any (r : Nat) (w : World) : Calls Tryd.prog 19 #[.int .i32 r] w fun e w' => e = .returned (.bool (passed r)) ∧ w' = w := by
  by_cases h : r = 35
  · subst h
    go_enter Tryd.func19, Tryd.ntmps19
    go_wp2
    go_ret
    exact ⟨rfl, rfl⟩
  · have e35 : ((r : Int) == 35) = false := beq_eq_false_iff_ne.2 (by omega)
    by_cases hk : kin r = 1
    · have HP : Hid (passed r = true) := by show passed r = true; unfold passed; simp [hk]
      have hk1 : (kin r == 1) = true := by rw [hk]; rfl
      clear hk h
      go_enter Tryd.func19, Tryd.ntmps19
      go_wp2_with (go_at_call 29; refine (kind_any _ _).mono ?_; rintro e w' ⟨rfl, rfl⟩)
      go_ret
      exact ⟨ret_bool HP.out.symm, rfl⟩
    · have HP : Hid (passed r = false) := by show passed r = false; unfold passed; simp [hk, h]
      have hk1 : (kin r == 1) = false := beq_eq_false_iff_ne.2 hk
      clear hk h
      go_enter Tryd.func19, Tryd.ntmps19
      go_wp2_with (go_at_call 29; refine (kind_any _ _).mono ?_; rintro e w' ⟨rfl, rfl⟩)
      go_ret
      exact ⟨ret_bool HP.out.symm, rfl⟩

set_option maxHeartbeats 400000 in
theorem place_any (s : ByteArray) (a : Option Addr) (cap : Nat) (rs : List Nat) (k : Nat) (w : World) (hk : k ≤ rs.length) (hn : rs.length ≤ 1000000) (hs : s.size = (flat rs).length) (hr : RunesAt w a rs) :
    Calls Tryd.prog 21 #[.string s, .slice a rs.length cap, .int .i64 k] w fun e w' => e = .returned (.int .i64 (posR rs k : Nat)) ∧ w' = w := by
  by_cases hlt : k < rs.length
  · obtain ⟨g, rfl, hg, hc⟩ := hr (by omega)
    have c0 := (hc k hlt).1
    obtain ⟨p, hp⟩ : ∃ p, p = (flat (rs.take k)).length := ⟨_, rfl⟩
    rw [← hp] at c0
    have HP : Hid (p = posR rs k) := hp
    obtain ⟨N, hN⟩ : ∃ N, N = rs.length := ⟨_, rfl⟩
    rw [← hN] at hlt hn ⊢
    clear hp hc hN hr hs hk
    have e1 : ((k : Int) == (N : Int)) = false := beq_eq_false_iff_ne.2 (by omega)
    go_enter Tryd.func21, Tryd.ntmps21
    go_wp2
    go_ret
    exact ⟨ret_int (congrArg Int.ofNat HP.out), rfl⟩
  · obtain rfl : k = rs.length := by omega
    have HP : Hid (s.size = posR rs rs.length) := by show s.size = _; rw [hs, posR_end]
    clear hr hs
    go_enter Tryd.func21, Tryd.ntmps21
    go_wp2
    go_ret
    exact ⟨ret_int (congrArg Int.ofNat HP.out), rfl⟩

set_option maxHeartbeats 400000 in
theorem goesA (k : Int) (w : World) : Calls Tryd.prog 35 #[.int .i64 k] w fun e w' => e = .returned (.bool (!(k == 2))) ∧ w' = w := by
  go_enter Tryd.func35, Tryd.ntmps35
  go_wp2
  all_goals go_ret
  all_goals exact ⟨rfl, rfl⟩

set_option maxHeartbeats 400000 in
theorem goesB (k f : Int) (b : Nat) (w : World) (hc : w.cell? ⟨b, 0, none⟩ = some (.int .i64 f)) : Calls Tryd.prog 36 #[.int .i64 k, .pointer (some ⟨b, 0, none⟩)] w fun e w' => e = .returned (.bool (k == 3 || k == f)) ∧ w' = w := by
  cases h3 : (k == 3)
  all_goals cases hf : (k == f)
  all_goals
    go_enter Tryd.func36, Tryd.ntmps36
    go_wp2
    go_ret
    exact ⟨rfl, rfl⟩

set_option maxHeartbeats 400000 in
theorem goesC (k : Int) (w : World) : Calls Tryd.prog 37 #[.int .i64 k] w fun e w' => e = .returned (.bool false) ∧ w' = w := by
  go_enter Tryd.func37, Tryd.ntmps37
  go_wp2
  go_ret
  exact ⟨rfl, rfl⟩


set_option maxHeartbeats 400000 in
theorem what_A (w : World) : Calls Tryd.prog 28 #[.int .i32 35] w fun e w' => e = .returned (.func (.func 35) #[] #[]) ∧ w' = w.alloc (.cells #[.int .i64 5] 3) := by
  have hk : kin 35 = 5 := by decide
  go_enter Tryd.func28, Tryd.ntmps28
  go_wp2_with (go_at_call 29; refine (kind_any _ _).mono ?_; rintro e w' ⟨rfl, rfl⟩)
  go_ret
  exact ⟨rfl, rfl⟩

set_option maxHeartbeats 400000 in
theorem what_B (r : Nat) (f : Int) (w : World) (h35 : ((r : Int) == 35) = false) (hk : kin r = f) (hf : f = 3 ∨ f = 4) : Calls Tryd.prog 28 #[.int .i32 r] w fun e w' => e = .returned (.func (.func 36) #[] #[.pointer (some ⟨w.heap.size, 0, none⟩)]) ∧ w' = w.alloc (.cells #[.int .i64 f] 3) := by
  rcases hf with rfl | rfl
  all_goals
    go_enter Tryd.func28, Tryd.ntmps28
    go_wp2_with (go_at_call 29; refine (kind_any _ _).mono ?_; rintro e w' ⟨rfl, rfl⟩)
    go_ret
    exact ⟨rfl, rfl⟩

set_option maxHeartbeats 400000 in
theorem what_C (r : Nat) (w : World) (h35 : ((r : Int) == 35) = false) (hk3 : (kin r == 3) = false) (hk4 : (kin r == 4) = false) : Calls Tryd.prog 28 #[.int .i32 r] w fun e w' => e = .returned (.func (.func 37) #[] #[]) ∧ w' = w.alloc (.cells #[.int .i64 (kin r)] 3) := by
  go_enter Tryd.func28, Tryd.ntmps28
  go_wp2_with (go_at_call 29; refine (kind_any _ _).mono ?_; rintro e w' ⟨rfl, rfl⟩)
  go_ret
  exact ⟨rfl, rfl⟩

theorem more_lt {r : Nat} : ∀ {l : List Nat} {j : Nat} (_ : j < (more r l).length) (h2 : j < l.length), goes r (kin l[j]) = true
  | [], j, h, h2 => by simp at h2
  | x :: l, j, h, h2 => by
    unfold more at h
    rw [List.takeWhile_cons] at h
    by_cases hx : goes r (kin x) = true
    · rw [if_pos hx] at h
      cases j with
      | zero => exact hx
      | succ j => exact more_lt (r := r) (l := l) (j := j) (by simpa [more] using h) (by simpa using h2)
    · rw [if_neg hx] at h; simp at h
theorem more_end {r : Nat} : ∀ {l : List Nat} (h : (more r l).length < l.length), goes r (kin l[(more r l).length]) = false
  | [], h => by simp at h
  | x :: l, h => by
    by_cases hx : goes r (kin x) = true
    · have e : more r (x :: l) = x :: more r l := by unfold more; rw [List.takeWhile_cons, if_pos hx]
      simp only [e, List.length_cons, List.getElem_cons_succ] at h ⊢
      exact more_end (by omega)
    · have e : more r (x :: l) = [] := by unfold more; rw [List.takeWhile_cons, if_neg hx]
      simp only [e, List.length_nil, List.getElem_cons_zero]
      simpa using hx

end Go.Proofs.YtfklgicmhbkoiaaDoor
