/-
  runes.Encode: what it answers, for every row of numbers: the bytes of all of them, or ErrText.
-/
import Derived.Test.YtpkppjeiinolaaaDec
import Derived.Laws.Cover4
namespace Go.Proofs.Ytpkppjeiinolaaa
open Go.RowKit Go.Lib

theorem add_at (b off j : Nat) : (⟨b, off, none⟩ : Addr).add j = ⟨b, off + j, none⟩ := by unfold Addr.add; split <;> simp_all

def encAns (ns : List Int) : Value := if ns.all okI = true then .tuple #[.string (runesBytes ns), .int .i64 0] else .tuple #[.string ⟨#[]⟩, .int .i64 2]
theorem encAns_ok {ns : List Int} (h : ∀ j, j < ns.length → okI (ns.getD j 0) = true) : encAns ns = .tuple #[.string (runesBytes ns), .int .i64 0] := by
  unfold encAns; rw [if_pos]
  rw [List.all_eq_true]
  intro x hx
  obtain ⟨j, hj, rfl⟩ := List.getElem_of_mem hx
  have := h j hj
  simpa [List.getD, hj] using this
theorem encAns_bad {ns : List Int} {j : Nat} (hj : j < ns.length) (h : okI (ns.getD j 0) = false) : encAns ns = .tuple #[.string ⟨#[]⟩, .int .i64 2] := by
  unfold encAns; rw [if_neg]
  rw [List.all_eq_true]
  intro hx
  have := hx ns[j] (List.getElem_mem hj)
  simp [List.getD, hj] at h
  rw [h] at this
  cases this

set_option maxHeartbeats 400000 in
theorem encode_row (b off len cap : Nat) (ns : List Int) (w : World) (hl : ns.length = len) (hs : len ≤ 1000000) (hcell : ∀ j, j < len → w.cell? ⟨b, off + j, none⟩ = some (.int .i32 (ns.getD j 0))) :
    Calls Try.prog 14 #[.slice (some ⟨b, off, none⟩) len cap] w fun e w' => e = .returned (encAns ns) ∧ w' = w := by
  have hcv : ∀ c, (convert 32 9 (.slice (some ⟨b, off, none⟩) len c)).run Try.prog w = .ok (.string (runesBytes ns)) w := fun c => by
    have := run_convert_runes (P := Try.prog) w 32 9 21 ⟨b, off, none⟩ len c ns (by omega) Try.underlying32 Try.underlying21 Try.underlying9 (fun j hj => by rw [add_at]; exact hcell j (by omega))
    rwa [List.take_of_length_le (by omega)] at this
  have HL : Hid (ns.length = len) := hl
  clear hl
  go_enter Try.func14, Try.ntmps14
  go_wp2
  go_loop [8] (fun i => ∃ k : Nat, k ≤ len ∧ i = .int .i64 k ∧ ∀ j, j < k → okI (ns.getD j 0) = true) (fun i => len - (intOf i).toNat)
  case atStart => exact ⟨0, Nat.zero_le _, rfl, fun j hj => by omega⟩
  case round =>
    obtain ⟨k, hk, rfl, hall⟩ := hrel
    have HA : Hid (∀ j, j < k → okI (ns.getD j 0) = true) := hall
    clear hall
    by_cases hlt : k < len
    · have hc := hcell k hlt
      obtain ⟨r, hr⟩ : ∃ r, r = ns.getD k 0 := ⟨_, rfl⟩
      rw [← hr] at hc
      have HR : Hid (r = ns.getD k 0) := hr
      clear hr hcell hcv
      cases ho : okI r with
      | false =>
        go_wp2_with (go_at_call 22; refine (mayBe_any _ _).mono ?_; rintro e w' ⟨rfl, rfl⟩)
        go_ret2
        exact ⟨by rw [encAns_bad (j := k) (by rw [HL.out]; exact hlt) (by rw [← HR.out]; exact ho)]; rfl, rfl⟩
      | true =>
        go_wp2_with (go_at_call 22; refine (mayBe_any _ _).mono ?_; rintro e w' ⟨rfl, rfl⟩)
        go_round
        case rel =>
          refine ⟨k + 1, by omega, by go_num, fun j hj => ?_⟩
          by_cases hjk : j = k
          · rw [hjk, ← HR.out]; exact ho
          · exact HA.out j (by omega)
        case measure => simp [intOf]; omega
    · have hkl : k = len := by omega
      subst hkl
      clear hcell
      go_wp2
      go_ret2
      exact ⟨by rw [encAns_ok (fun j hj => HA.out j (by rw [← HL.out]; exact hj))]; rfl, rfl⟩

set_option maxHeartbeats 400000 in
theorem encode_nil (w : World) : Calls Try.prog 14 #[.slice none 0 0] w fun e w' => e = .returned (encAns []) ∧ w' = w := by
  have hcv : (convert 32 9 (.slice none 0 0)).run Try.prog w = .ok (.string .empty) w := run_convert_runes_nil w 32 9 21 0 0 Try.underlying32 Try.underlying21 Try.underlying9
  go_enter Try.func14, Try.ntmps14
  go_wp2
  go_loop [8] (fun i => i = .int .i64 0) (fun _ => 0)
  case atStart => rfl
  case round =>
    subst hrel
    go_wp2
    go_ret2
    exact ⟨rfl, rfl⟩

end Go.Proofs.Ytpkppjeiinolaaa
