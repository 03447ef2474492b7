/-
  The calls that only reckon with one number: Width, Kind, mayBe, isDigit, isLetter, and the document's Width and Kind: what each answers, for every number.
-/
import Derived.Test.YtfklgicmhbkoiaaDoorRows
import Derived.WalkKit
import Derived.WalkSpells
import Derived.WalkLawsBesides
import Derived.Test.YtfklgicmhbkoiaaDoorUtf
namespace Go.Proofs.YtfklgicmhbkoiaaDoor
open Go.RowKit

theorem ret_int {k : IntKind} {a b : Int} (h : a = b) : Ending.returned (.int k a) = .returned (.int k b) := by rw [h]
theorem ret_bool {a b : Bool} (h : a = b) : Ending.returned (.bool a) = .returned (.bool b) := by rw [h]

def okI (r : Int) : Bool := decide ((0 ≤ r ∧ r < 55296) ∨ (57343 < r ∧ r ≤ 1114111))
def wid (r : Int) : Int := if okI r = true then (if r < 128 then 1 else if r < 2048 then 2 else if r < 65536 then 3 else 4) else 0
def kin (r : Int) : Int :=
  if okI r = true then (if r = 32 ∨ r = 9 then 1 else if r = 10 then 2 else if 48 ≤ r ∧ r ≤ 57 then 3 else if (65 ≤ r ∧ r ≤ 90) ∨ (97 ≤ r ∧ r ≤ 122) ∨ r = 95 ∨ 128 ≤ r then 4 else if 33 ≤ r ∧ r ≤ 126 then 5 else 0) else 0

set_option maxHeartbeats 400000 in
theorem mayBe_any (r : Int) (w : World) : Calls Tryd.prog 38 #[.int .i32 r] w fun e w' => e = .returned (.bool (okI r)) ∧ w' = w := by
  go_enter Tryd.func38, Tryd.ntmps38
  go_wp2
  all_goals go_ret
  all_goals refine ⟨ret_bool ?_, rfl⟩
  all_goals (unfold okI; rw [Bool.eq_iff_iff]; simp; omega)

theorem ok_yes {r : Int} (h : okI r = true) : (0 ≤ r ∧ r < 55296) ∨ (57343 < r ∧ r ≤ 1114111) := of_decide_eq_true h
theorem ok_not {r : Int} (h : okI r = false) : ¬ ((0 ≤ r ∧ r < 55296) ∨ (57343 < r ∧ r ≤ 1114111)) := of_decide_eq_false h
theorem wid_facts (r : Int) : ((0 ≤ r ∧ r < 128) → wid r = 1) ∧ ((128 ≤ r ∧ r < 2048) → wid r = 2) ∧ ((2048 ≤ r ∧ r < 55296) → wid r = 3) ∧ ((57344 ≤ r ∧ r < 65536) → wid r = 3) ∧
    ((65536 ≤ r ∧ r ≤ 1114111) → wid r = 4) ∧ ((r < 0 ∨ (55296 ≤ r ∧ r ≤ 57343) ∨ 1114111 < r) → wid r = 0) := by
  unfold wid
  cases hk : okI r with
  | false => have := ok_not hk; rw [if_neg (by simp)]; omega
  | true => have := ok_yes hk; rw [if_pos rfl]; repeat' split <;> omega
theorem kin_facts (r : Int) : ((r < 0 ∨ (55296 ≤ r ∧ r ≤ 57343) ∨ 1114111 < r) → kin r = 0) ∧ ((r = 32 ∨ r = 9) → kin r = 1) ∧ (r = 10 → kin r = 2) ∧ ((48 ≤ r ∧ r ≤ 57) → kin r = 3) ∧
    (((65 ≤ r ∧ r ≤ 90) ∨ (97 ≤ r ∧ r ≤ 122) ∨ r = 95 ∨ (128 ≤ r ∧ r < 55296) ∨ (57344 ≤ r ∧ r ≤ 1114111)) → kin r = 4) ∧
    ((33 ≤ r ∧ r ≤ 126 ∧ ¬ (48 ≤ r ∧ r ≤ 57) ∧ ¬ (65 ≤ r ∧ r ≤ 90) ∧ ¬ (97 ≤ r ∧ r ≤ 122) ∧ ¬ r = 95) → kin r = 5) ∧
    ((0 ≤ r ∧ r < 32 ∧ ¬ r = 9 ∧ ¬ r = 10) → kin r = 0) ∧ (r = 127 → kin r = 0) := by
  unfold kin
  cases hk : okI r with
  | false => have := ok_not hk; rw [if_neg (by simp)]; omega
  | true => have := ok_yes hk; rw [if_pos rfl]; repeat' split <;> omega
theorem ok_facts (r : Int) : (okI r = true → ((0 ≤ r ∧ r < 55296) ∨ (57343 < r ∧ r ≤ 1114111))) ∧ (okI r = false → ¬ ((0 ≤ r ∧ r < 55296) ∨ (57343 < r ∧ r ≤ 1114111))) := ⟨ok_yes, ok_not⟩

set_option maxHeartbeats 400000 in
theorem isDigit_any (r : Int) (w : World) : Calls Tryd.prog 39 #[.int .i32 r] w fun e w' => e = .returned (.bool (decide (48 ≤ r ∧ r ≤ 57))) ∧ w' = w := by
  go_enter Tryd.func39, Tryd.ntmps39
  go_wp2
  all_goals go_ret
  all_goals refine ⟨ret_bool ?_, rfl⟩
  all_goals (rw [Bool.eq_iff_iff]; simp; try omega)

def lettr (r : Int) : Bool := decide ((65 ≤ r ∧ r ≤ 90) ∨ (97 ≤ r ∧ r ≤ 122) ∨ r = 95 ∨ 128 ≤ r)
set_option maxHeartbeats 400000 in
theorem isLetter_any (r : Int) (w : World) : Calls Tryd.prog 40 #[.int .i32 r] w fun e w' => e = .returned (.bool (lettr r)) ∧ w' = w := by
  go_enter Tryd.func40, Tryd.ntmps40
  go_wp2
  all_goals go_ret
  all_goals refine ⟨ret_bool ?_, rfl⟩
  all_goals (unfold lettr; rw [Bool.eq_iff_iff]; simp; try omega)

set_option maxHeartbeats 1000000 in
theorem kind_any (r : Int) (w : World) : Calls Tryd.prog 29 #[.int .i32 r] w fun e w' => e = .returned (.int .i64 (kin r)) ∧ w' = w := by
  cases hk : okI r
  all_goals cases hl : lettr r
  all_goals
    go_enter Tryd.func29, Tryd.ntmps29
    go_wp2_with (first | (go_at_call 38; refine (mayBe_any _ _).mono ?_; rintro e w' ⟨rfl, rfl⟩) | (go_at_call 39; refine (isDigit_any _ _).mono ?_; rintro e w' ⟨rfl, rfl⟩) | (go_at_call 40; refine (isLetter_any _ _).mono ?_; rintro e w' ⟨rfl, rfl⟩))
  all_goals go_ret
  all_goals refine ⟨ret_int ?_, rfl⟩
  all_goals
    try simp only [beq_iff_eq, beq_eq_false_iff_ne, ne_eq] at *
    have k1 := kin_facts r
    first | have k2 := ok_not hk | have k2 := ok_yes hk
    first | have k3 := of_decide_eq_true hl | have k3 := of_decide_eq_false hl
    omega

set_option maxHeartbeats 1000000 in
theorem refWidth_any (r : Int) (w : World) (h0 : -2147483648 ≤ r) (h1 : r ≤ 2147483647) : Calls Tryd.prog 43 #[.int .i32 r] w fun e w' => e = .returned (.int .i64 (wid r)) ∧ w' = w := by
  by_cases c1 : r < 0
  · go_enter Tryd.func43, Tryd.ntmps43
    go_wp2
    go_ret
    refine ⟨ret_int ?_, rfl⟩
    have := wid_facts r
    omega
  by_cases c2 : 1114111 < r
  · go_enter Tryd.func43, Tryd.ntmps43
    go_wp2
    go_ret
    refine ⟨ret_int ?_, rfl⟩
    have := wid_facts r
    omega
  by_cases c3 : r < 55296
  · go_enter Tryd.func43, Tryd.ntmps43
    go_wp2
    all_goals go_ret
    all_goals refine ⟨ret_int ?_, rfl⟩
    all_goals (have := wid_facts r; omega)
  · by_cases c4 : r < 57344
    · go_enter Tryd.func43, Tryd.ntmps43
      go_wp2
      all_goals go_ret
      all_goals refine ⟨ret_int ?_, rfl⟩
      all_goals (have := wid_facts r; omega)
    · go_enter Tryd.func43, Tryd.ntmps43
      go_wp2
      all_goals go_ret
      all_goals refine ⟨ret_int ?_, rfl⟩
      all_goals (have := wid_facts r; omega)

end Go.Proofs.YtfklgicmhbkoiaaDoor
