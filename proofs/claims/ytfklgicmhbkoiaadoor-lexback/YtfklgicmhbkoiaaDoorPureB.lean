/-
  The document's Kind, and strings.HasPrefix at the three bytes of U+FFFD: what each answers.
-/
import Derived.Test.YtfklgicmhbkoiaaDoorPure
import Derived.Test.YtfklgicmhbkoiaaDoorRuns
namespace Go.Proofs.YtfklgicmhbkoiaaDoor
open Go.RowKit

set_option maxHeartbeats 1000000 in
theorem refKind_no (r : Int) (w : World) (h0 : -2147483648 ≤ r) (h1 : r ≤ 2147483647) (h : r < 0 ∨ 1114111 < r ∨ (55296 ≤ r ∧ r < 57344)) : Calls Tryd.prog 32 #[.int .i32 r] w fun e w' => e = .returned (.int .i64 (kin r)) ∧ w' = w := by
  have hz : wid r = 0 := by have := wid_facts r; omega
  have hk : Hid (kin r = 0) := by have := kin_facts r; show kin r = 0; omega
  clear h
  go_enter Tryd.func32, Tryd.ntmps32
  go_wp2_with (go_at_call 43; refine (refWidth_any _ _ (by omega) (by omega)).mono ?_; rintro e w' ⟨rfl, rfl⟩)
  go_ret
  exact ⟨ret_int hk.out.symm, rfl⟩

set_option maxHeartbeats 1000000 in
theorem refKind_one (r : Int) (w : World) (h : r = 32 ∨ r = 9 ∨ r = 10 ∨ r = 95) : Calls Tryd.prog 32 #[.int .i32 r] w fun e w' => e = .returned (.int .i64 (kin r)) ∧ w' = w := by
  have hz : 1 ≤ wid r := by have := wid_facts r; omega
  have hk : Hid ((r = 32 → kin r = 1) ∧ (r = 9 → kin r = 1) ∧ (r = 10 → kin r = 2) ∧ (r = 95 → kin r = 4)) := by
    have := kin_facts r
    exact ⟨by omega, by omega, by omega, by omega⟩
  rcases h with rfl | rfl | rfl | rfl
  all_goals
    go_enter Tryd.func32, Tryd.ntmps32
    go_wp2_with (go_at_call 43; refine (refWidth_any _ _ (by omega) (by omega)).mono ?_; rintro e w' ⟨rfl, rfl⟩)
    go_ret
  · exact ⟨ret_int (hk.out.1 trivial).symm, rfl⟩
  · exact ⟨ret_int (hk.out.2.1 trivial).symm, rfl⟩
  · exact ⟨ret_int (hk.out.2.2.1 trivial).symm, rfl⟩
  · exact ⟨ret_int (hk.out.2.2.2 trivial).symm, rfl⟩

set_option maxHeartbeats 4000000 in
theorem refKind_two (r v : Int) (w : World) (e32 : (r == 32) = false) (e9 : (r == 9) = false) (e10 : (r == 10) = false) (e95 : (r == 95) = false) (hz : 1 ≤ wid r) (hv : Hid (kin r = v))
    (h : (48 ≤ r ∧ r ≤ 57 ∧ v = 3) ∨ (65 ≤ r ∧ r ≤ 90 ∧ v = 4) ∨ (97 ≤ r ∧ r ≤ 122 ∧ v = 4) ∨ (128 ≤ r ∧ r ≤ 1114111 ∧ v = 4) ∨ (33 ≤ r ∧ r ≤ 47 ∧ v = 5) ∨ (58 ≤ r ∧ r ≤ 64 ∧ v = 5) ∨ (91 ≤ r ∧ r ≤ 96 ∧ v = 5) ∨ (123 ≤ r ∧ r ≤ 126 ∧ v = 5) ∨ (127 ≤ r ∧ r ≤ 127 ∧ v = 0) ∨ (0 ≤ r ∧ r ≤ 31 ∧ v = 0)) :
    Calls Tryd.prog 32 #[.int .i32 r] w fun e w' => e = .returned (.int .i64 (kin r)) ∧ w' = w := by
  rcases h with ⟨ha, hb, rfl⟩ | ⟨ha, hb, rfl⟩ | ⟨ha, hb, rfl⟩ | ⟨ha, hb, rfl⟩ | ⟨ha, hb, rfl⟩ | ⟨ha, hb, rfl⟩ | ⟨ha, hb, rfl⟩ | ⟨ha, hb, rfl⟩ | ⟨ha, hb, rfl⟩ | ⟨ha, hb, rfl⟩
  all_goals
    go_enter Tryd.func32, Tryd.ntmps32
    go_wp2_with (go_at_call 43; refine (refWidth_any _ _ (by omega) (by omega)).mono ?_; rintro e w' ⟨rfl, rfl⟩)
    go_ret
    exact ⟨ret_int hv.out.symm, rfl⟩

theorem kin_two (r : Int) (h : ¬ (r < 0 ∨ 1114111 < r ∨ (55296 ≤ r ∧ r < 57344))) (g : ¬ (r = 32 ∨ r = 9 ∨ r = 10 ∨ r = 95)) :
    (48 ≤ r ∧ r ≤ 57 ∧ kin r = 3) ∨ (65 ≤ r ∧ r ≤ 90 ∧ kin r = 4) ∨ (97 ≤ r ∧ r ≤ 122 ∧ kin r = 4) ∨ (128 ≤ r ∧ r ≤ 1114111 ∧ kin r = 4) ∨ (33 ≤ r ∧ r ≤ 47 ∧ kin r = 5) ∨ (58 ≤ r ∧ r ≤ 64 ∧ kin r = 5) ∨ (91 ≤ r ∧ r ≤ 96 ∧ kin r = 5) ∨ (123 ≤ r ∧ r ≤ 126 ∧ kin r = 5) ∨ (127 ≤ r ∧ r ≤ 127 ∧ kin r = 0) ∨ (0 ≤ r ∧ r ≤ 31 ∧ kin r = 0) := by
  obtain ⟨_, _, _, a4, a5, a6, a7, a8⟩ := kin_facts r
  have hR : (48 ≤ r ∧ r ≤ 57) ∨ (65 ≤ r ∧ r ≤ 90) ∨ (97 ≤ r ∧ r ≤ 122) ∨ (128 ≤ r ∧ r ≤ 1114111) ∨ (33 ≤ r ∧ r ≤ 47) ∨ (58 ≤ r ∧ r ≤ 64) ∨ (91 ≤ r ∧ r ≤ 96) ∨ (123 ≤ r ∧ r ≤ 126) ∨ (127 ≤ r ∧ r ≤ 127) ∨ (0 ≤ r ∧ r ≤ 31) := by omega
  rcases hR with ⟨u, v⟩ | ⟨u, v⟩ | ⟨u, v⟩ | ⟨u, v⟩ | ⟨u, v⟩ | ⟨u, v⟩ | ⟨u, v⟩ | ⟨u, v⟩ | ⟨u, v⟩ | ⟨u, v⟩
  · exact Or.inl ⟨u, v, a4 ⟨u, v⟩⟩
  · exact Or.inr (Or.inl ⟨u, v, a5 (by omega)⟩)
  · exact Or.inr (Or.inr (Or.inl ⟨u, v, a5 (by omega)⟩))
  · exact Or.inr (Or.inr (Or.inr (Or.inl ⟨u, v, a5 (by omega)⟩)))
  · exact Or.inr (Or.inr (Or.inr (Or.inr (Or.inl ⟨u, v, a6 (by omega)⟩))))
  · exact Or.inr (Or.inr (Or.inr (Or.inr (Or.inr (Or.inl ⟨u, v, a6 (by omega)⟩)))))
  · exact Or.inr (Or.inr (Or.inr (Or.inr (Or.inr (Or.inr (Or.inl ⟨u, v, a6 (by omega)⟩))))))
  · exact Or.inr (Or.inr (Or.inr (Or.inr (Or.inr (Or.inr (Or.inr (Or.inl ⟨u, v, a6 (by omega)⟩)))))))
  · exact Or.inr (Or.inr (Or.inr (Or.inr (Or.inr (Or.inr (Or.inr (Or.inr (Or.inl ⟨u, v, a8 (by omega)⟩))))))))
  · exact Or.inr (Or.inr (Or.inr (Or.inr (Or.inr (Or.inr (Or.inr (Or.inr (Or.inr ⟨u, v, a7 (by omega)⟩))))))))

theorem refKind_any (r : Int) (w : World) (h0 : -2147483648 ≤ r) (h1 : r ≤ 2147483647) : Calls Tryd.prog 32 #[.int .i32 r] w fun e w' => e = .returned (.int .i64 (kin r)) ∧ w' = w := by
  by_cases h : r < 0 ∨ 1114111 < r ∨ (55296 ≤ r ∧ r < 57344)
  · exact refKind_no r w h0 h1 h
  · by_cases g : r = 32 ∨ r = 9 ∨ r = 10 ∨ r = 95
    · exact refKind_one r w g
    · have hz : 1 ≤ wid r := by have := wid_facts r; omega
      have k1 := kin_two r h g
      exact refKind_two r (kin r) w (beq_eq_false_iff_ne.2 (by omega)) (beq_eq_false_iff_ne.2 (by omega)) (beq_eq_false_iff_ne.2 (by omega)) (beq_eq_false_iff_ne.2 (by omega)) hz rfl k1

set_option maxHeartbeats 1000000 in
theorem hasPreLite_any (s : ByteArray) (w : World) (hs : s.size ≤ maxLen) : Calls Tryd.prog 34 #[.string s, .string ⟨#[239, 191, 189]⟩] w fun e w' => e = .returned (.bool (ffB s)) ∧ w' = w := by
  unfold maxLen at hs
  go_enter Tryd.func34, Tryd.ntmps34
  go_wp2
  all_goals go_ret
  all_goals refine ⟨ret_bool ?_, rfl⟩
  · unfold ffB hasFF
    have e : (s.extract 0 3).toList = s.data.toList.take 3 := by
      rw [ByteArray.toList_eq]
      simp [ByteArray.data_extract]
    rw [e, Bool.eq_iff_iff]
    simp
  · unfold ffB hasFF
    symm
    rw [decide_eq_false_iff_not]
    intro hx
    have := congrArg List.length hx
    have e : s.data.toList.length = s.size := Array.length_toList
    rw [List.length_take, e] at this
    simp at this
    omega
set_option maxHeartbeats 1000000 in
theorem hasPre_any (s : ByteArray) (w : World) (hs : s.size ≤ maxLen) : Calls Tryd.prog 27 #[.string s, .string ⟨#[239, 191, 189]⟩] w fun e w' => e = .returned (.bool (ffB s)) ∧ w' = w := by
  go_enter Tryd.func27, Tryd.ntmps27
  go_wp2_with (go_at_call 34; refine (hasPreLite_any _ _ hs).mono ?_; rintro e w' ⟨rfl, rfl⟩)
  go_ret
  exact ⟨rfl, rfl⟩

end Go.Proofs.YtfklgicmhbkoiaaDoor
