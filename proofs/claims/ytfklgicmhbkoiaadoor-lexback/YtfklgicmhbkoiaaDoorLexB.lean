/-
  lex.behind: which rune is the first one that does not belong to what begins with a rune.
-/
import Derived.Test.YtfklgicmhbkoiaaDoorLexA
namespace Go.Proofs.YtfklgicmhbkoiaaDoor
open Go.RowKit Go.Lib

/-- What a round of the loop sees: the rune behind those that were taken, and whether it is taken, too. -/
theorem behind_step {rs : List Nat} {k j : Nat} (hk : k < rs.length) (hj : j ≤ (more rs[k] (rs.drop (k + 1))).length) (hlt : k + 1 + j < rs.length) :
    (j < (more rs[k] (rs.drop (k + 1))).length ∧ goes rs[k] (kin rs[k + 1 + j]) = true) ∨ (j = (more rs[k] (rs.drop (k + 1))).length ∧ goes rs[k] (kin rs[k + 1 + j]) = false) := by
  have e : ∀ h2 : j < (rs.drop (k + 1)).length, (rs.drop (k + 1))[j] = rs[k + 1 + j] := fun h2 => List.getElem_drop
  have h2 : j < (rs.drop (k + 1)).length := by rw [List.length_drop]; omega
  rcases Nat.lt_or_ge j (more rs[k] (rs.drop (k + 1))).length with h | h
  · left; refine ⟨h, ?_⟩
    have := more_lt h h2
    rwa [e h2] at this
  · right
    have hjm : (more rs[k] (rs.drop (k + 1))).length = j := by omega
    refine ⟨by omega, ?_⟩
    have := more_end (r := rs[k]) (l := rs.drop (k + 1)) (by rw [hjm]; exact h2)
    simp only [hjm] at this
    rwa [e h2] at this

set_option maxHeartbeats 1000000 in
set_option maxRecDepth 100000 in
theorem behind_A (a : Option Addr) (cap : Nat) (rs : List Nat) (k : Nat) (w : World) (hk : k < rs.length) (hn : rs.length ≤ 1000000) (hr : RunesAt w a rs) (h35 : rs[k] = 35) :
    Calls Tryd.prog 18 #[.slice a rs.length cap, .int .i64 k] w fun e w' => e = .returned (.int .i64 (toK rs k hk : Nat)) ∧ Below w.heap.size w w' := by
  obtain ⟨g, rfl, hg, hc⟩ := hr (by omega)
  have c1 := (hc k hk).2
  have HC : Hid (∀ j (hj : j < rs.length), w.cell? ⟨g, j * 2 + 1, none⟩ = some (.int .i32 (rs[j] : Nat))) := fun j hj => (hc j hj).2
  have HS := fun j => behind_step (j := j) hk
  have HG : Hid (∀ x, goes rs[k] x = !(x == 2)) := by show ∀ x, _; intro x; unfold goes; rw [h35, if_pos rfl]
  have HS' : Hid (∀ j, j ≤ (more rs[k] (rs.drop (k + 1))).length → ∀ hlt : k + 1 + j < rs.length, (j < (more rs[k] (rs.drop (k + 1))).length ∧ goes rs[k] (kin rs[k + 1 + j]) = true) ∨ (j = (more rs[k] (rs.drop (k + 1))).length ∧ goes rs[k] (kin rs[k + 1 + j]) = false)) := HS
  obtain ⟨m, hm⟩ : ∃ m, m = (more rs[k] (rs.drop (k + 1))).length := ⟨_, rfl⟩
  have hT : Hid (toK rs k hk = k + 1 + m) := by show _ = _; unfold toK; rw [hm]
  have hkm : k + 1 + m ≤ rs.length := by have := (toK_le hk).2; rw [hT.out] at this; exact this
  rw [← hm] at HS'
  obtain ⟨r, hrr⟩ : ∃ r, r = rs[k] := ⟨_, rfl⟩
  rw [← hrr] at c1 HG HS' h35
  have HR : Hid (r = rs[k]) := hrr
  obtain ⟨N, hN⟩ : ∃ N, N = rs.length := ⟨_, rfl⟩
  have HN : Hid (N = rs.length) := hN
  rw [← hN] at hn hkm ⊢
  have hk2 : k < N := by omega
  clear hrr hm hN hc HS hr
  have HR2 : Hid (r = rs[k]) := HR
  clear HR
  subst h35
  go_enter Tryd.func18, Tryd.ntmps18
  go_wp2_with (go_at_call 28; refine (what_A _).mono ?_; rintro e w' ⟨rfl, rfl⟩)
  go_loop [1] (fun i => ∃ j : Nat, j ≤ m ∧ i = .int .i64 (k + 1 + j : Nat)) (fun i => N - (intOf i).toNat)
  case atStart => exact ⟨0, Nat.zero_le _, by go_num⟩
  case round =>
    obtain ⟨j, hj, rfl⟩ := hrel
    obtain ⟨q, hq⟩ : ∃ q, q = k + 1 + j := ⟨_, rfl⟩
    rw [← hq]
    have HQ : Hid (q = k + 1 + j) := hq
    clear hq
    by_cases hlt : q < N
    · have hlt2 : k + 1 + j < rs.length := by rw [← HN.out, ← HQ.out]; exact hlt
      have c2 := HC.out (k + 1 + j) hlt2
      have st := HS'.out j hj hlt2
      rw [HG.out] at st
      obtain ⟨x, hx⟩ : ∃ x, x = rs[k + 1 + j] := ⟨_, rfl⟩
      rw [← hx] at c2
      try rw [← hx] at st
      rw [← HQ.out] at c2
      skip
      clear hx hlt2
      rcases st with ⟨hjm, hgo⟩ | ⟨hjm, hgo⟩
      · go_wp2_with (first | (go_at_call 29; refine (kind_any _ _).mono ?_; rintro e w' ⟨rfl, rfl⟩) | (go_at_call 35; refine (goesA _ _).mono ?_; rintro e w' ⟨rfl, rfl⟩; rw [hgo]))
        go_round
        case rel => exact ⟨j + 1, by omega, by rw [HQ.out]; go_num⟩
        case measure => simp [intOf]; omega
      · have hqm : Hid (q = toK rs k hk) := by show q = _; rw [hT.out, HQ.out, hjm]
        clear hjm
        go_wp2_with (first | (go_at_call 29; refine (kind_any _ _).mono ?_; rintro e w' ⟨rfl, rfl⟩) | (go_at_call 35; refine (goesA _ _).mono ?_; rintro e w' ⟨rfl, rfl⟩; rw [hgo]))
        go_ret
        exact ⟨ret_int (congrArg Int.ofNat hqm.out), (Below.refl _ _).alloc (Nat.le_refl _) _⟩
    · have hqm : Hid (q = toK rs k hk) := by show q = _; have := HQ.out; rw [hT.out]; omega
      go_wp2
      go_ret
      exact ⟨ret_int (congrArg Int.ofNat hqm.out), (Below.refl _ _).alloc (Nat.le_refl _) _⟩

set_option maxHeartbeats 1000000 in
set_option maxRecDepth 100000 in
theorem behind_B (a : Option Addr) (cap : Nat) (rs : List Nat) (k : Nat) (w : World) (hk : k < rs.length) (hn : rs.length ≤ 1000000) (hr : RunesAt w a rs) (h35 : ((rs[k] : Nat) : Int) ≠ 35) (hf : kin rs[k] = 3 ∨ kin rs[k] = 4) :
    Calls Tryd.prog 18 #[.slice a rs.length cap, .int .i64 k] w fun e w' => e = .returned (.int .i64 (toK rs k hk : Nat)) ∧ Below w.heap.size w w' := by
  obtain ⟨g, rfl, hg, hc⟩ := hr (by omega)
  have c1 := (hc k hk).2
  have HC : Hid (∀ j (hj : j < rs.length), w.cell? ⟨g, j * 2 + 1, none⟩ = some (.int .i32 (rs[j] : Nat))) := fun j hj => (hc j hj).2
  have HS := fun j => behind_step (j := j) hk
  have HG : Hid (∀ x, goes rs[k] x = (x == 3 || x == kin rs[k])) := by show ∀ x, _; intro x; unfold goes; rw [if_neg (by omega), if_pos hf]
  have HS' : Hid (∀ j, j ≤ (more rs[k] (rs.drop (k + 1))).length → ∀ hlt : k + 1 + j < rs.length, (j < (more rs[k] (rs.drop (k + 1))).length ∧ goes rs[k] (kin rs[k + 1 + j]) = true) ∨ (j = (more rs[k] (rs.drop (k + 1))).length ∧ goes rs[k] (kin rs[k + 1 + j]) = false)) := HS
  obtain ⟨m, hm⟩ : ∃ m, m = (more rs[k] (rs.drop (k + 1))).length := ⟨_, rfl⟩
  have hT : Hid (toK rs k hk = k + 1 + m) := by show _ = _; unfold toK; rw [hm]
  have hkm : k + 1 + m ≤ rs.length := by have := (toK_le hk).2; rw [hT.out] at this; exact this
  rw [← hm] at HS'
  obtain ⟨r, hrr⟩ : ∃ r, r = rs[k] := ⟨_, rfl⟩
  rw [← hrr] at c1 HG HS' h35 hf
  have HR : Hid (r = rs[k]) := hrr
  obtain ⟨N, hN⟩ : ∃ N, N = rs.length := ⟨_, rfl⟩
  have HN : Hid (N = rs.length) := hN
  rw [← hN] at hn hkm ⊢
  have hk2 : k < N := by omega
  clear hrr hm hN hc HS hr
  have e35 : ((r : Int) == 35) = false := beq_eq_false_iff_ne.2 h35
  go_enter Tryd.func18, Tryd.ntmps18
  go_wp2_with (go_at_call 28; refine (what_B r (kin r) _ e35 rfl hf).mono ?_; rintro e w' ⟨rfl, rfl⟩)
  go_loop [1] (fun i => ∃ j : Nat, j ≤ m ∧ i = .int .i64 (k + 1 + j : Nat)) (fun i => N - (intOf i).toNat)
  case atStart => exact ⟨0, Nat.zero_le _, by go_num⟩
  case round =>
    obtain ⟨j, hj, rfl⟩ := hrel
    obtain ⟨q, hq⟩ : ∃ q, q = k + 1 + j := ⟨_, rfl⟩
    rw [← hq]
    have HQ : Hid (q = k + 1 + j) := hq
    clear hq
    by_cases hlt : q < N
    · have hlt2 : k + 1 + j < rs.length := by rw [← HN.out, ← HQ.out]; exact hlt
      have c2 := HC.out (k + 1 + j) hlt2
      have st := HS'.out j hj hlt2
      rw [HG.out] at st
      obtain ⟨x, hx⟩ : ∃ x, x = rs[k + 1 + j] := ⟨_, rfl⟩
      rw [← hx] at c2
      try rw [← hx] at st
      rw [← HQ.out] at c2
      have cw : (w.alloc (.cells #[.int .i64 (kin r)] 3)).cell? ⟨w.heap.size, 0, none⟩ = some (.int .i64 (kin r)) := by simp
      clear hx hlt2
      rcases st with ⟨hjm, hgo⟩ | ⟨hjm, hgo⟩
      · go_wp2_with (first | (go_at_call 29; refine (kind_any _ _).mono ?_; rintro e w' ⟨rfl, rfl⟩) | (go_at_call 36; refine (goesB _ (kin r) _ _ cw).mono ?_; rintro e w' ⟨rfl, rfl⟩; rw [hgo]))
        go_round
        case rel => exact ⟨j + 1, by omega, by rw [HQ.out]; go_num⟩
        case measure => simp [intOf]; omega
      · have hqm : Hid (q = toK rs k hk) := by show q = _; rw [hT.out, HQ.out, hjm]
        clear hjm
        go_wp2_with (first | (go_at_call 29; refine (kind_any _ _).mono ?_; rintro e w' ⟨rfl, rfl⟩) | (go_at_call 36; refine (goesB _ (kin r) _ _ cw).mono ?_; rintro e w' ⟨rfl, rfl⟩; rw [hgo]))
        go_ret
        exact ⟨ret_int (congrArg Int.ofNat hqm.out), (Below.refl _ _).alloc (Nat.le_refl _) _⟩
    · have hqm : Hid (q = toK rs k hk) := by show q = _; have := HQ.out; rw [hT.out]; omega
      go_wp2
      go_ret
      exact ⟨ret_int (congrArg Int.ofNat hqm.out), (Below.refl _ _).alloc (Nat.le_refl _) _⟩

set_option maxHeartbeats 1000000 in
set_option maxRecDepth 100000 in
theorem behind_C (a : Option Addr) (cap : Nat) (rs : List Nat) (k : Nat) (w : World) (hk : k < rs.length) (hn : rs.length ≤ 1000000) (hr : RunesAt w a rs) (h35 : ((rs[k] : Nat) : Int) ≠ 35) (h3 : kin rs[k] ≠ 3) (h4 : kin rs[k] ≠ 4) :
    Calls Tryd.prog 18 #[.slice a rs.length cap, .int .i64 k] w fun e w' => e = .returned (.int .i64 (toK rs k hk : Nat)) ∧ Below w.heap.size w w' := by
  obtain ⟨g, rfl, hg, hc⟩ := hr (by omega)
  have c1 := (hc k hk).2
  have HC : Hid (∀ j (hj : j < rs.length), w.cell? ⟨g, j * 2 + 1, none⟩ = some (.int .i32 (rs[j] : Nat))) := fun j hj => (hc j hj).2
  have HS := fun j => behind_step (j := j) hk
  have HG : Hid (∀ x, goes rs[k] x = false) := by show ∀ x, _; intro x; unfold goes; rw [if_neg (by omega), if_neg (by omega)]
  have HS' : Hid (∀ j, j ≤ (more rs[k] (rs.drop (k + 1))).length → ∀ hlt : k + 1 + j < rs.length, (j < (more rs[k] (rs.drop (k + 1))).length ∧ goes rs[k] (kin rs[k + 1 + j]) = true) ∨ (j = (more rs[k] (rs.drop (k + 1))).length ∧ goes rs[k] (kin rs[k + 1 + j]) = false)) := HS
  obtain ⟨m, hm⟩ : ∃ m, m = (more rs[k] (rs.drop (k + 1))).length := ⟨_, rfl⟩
  have hT : Hid (toK rs k hk = k + 1 + m) := by show _ = _; unfold toK; rw [hm]
  have hkm : k + 1 + m ≤ rs.length := by have := (toK_le hk).2; rw [hT.out] at this; exact this
  rw [← hm] at HS'
  obtain ⟨r, hrr⟩ : ∃ r, r = rs[k] := ⟨_, rfl⟩
  rw [← hrr] at c1 HG HS' h35 h3 h4
  have HR : Hid (r = rs[k]) := hrr
  obtain ⟨N, hN⟩ : ∃ N, N = rs.length := ⟨_, rfl⟩
  have HN : Hid (N = rs.length) := hN
  rw [← hN] at hn hkm ⊢
  have hk2 : k < N := by omega
  clear hrr hm hN hc HS hr
  have e35 : ((r : Int) == 35) = false := beq_eq_false_iff_ne.2 h35
  have e3 : (kin r == 3) = false := beq_eq_false_iff_ne.2 h3
  have e4 : (kin r == 4) = false := beq_eq_false_iff_ne.2 h4
  go_enter Tryd.func18, Tryd.ntmps18
  go_wp2_with (go_at_call 28; refine (what_C r _ e35 e3 e4).mono ?_; rintro e w' ⟨rfl, rfl⟩)
  go_loop [1] (fun i => ∃ j : Nat, j ≤ m ∧ i = .int .i64 (k + 1 + j : Nat)) (fun i => N - (intOf i).toNat)
  case atStart => exact ⟨0, Nat.zero_le _, by go_num⟩
  case round =>
    obtain ⟨j, hj, rfl⟩ := hrel
    obtain ⟨q, hq⟩ : ∃ q, q = k + 1 + j := ⟨_, rfl⟩
    rw [← hq]
    have HQ : Hid (q = k + 1 + j) := hq
    clear hq
    by_cases hlt : q < N
    · have hlt2 : k + 1 + j < rs.length := by rw [← HN.out, ← HQ.out]; exact hlt
      have c2 := HC.out (k + 1 + j) hlt2
      have st := HS'.out j hj hlt2
      rw [HG.out] at st
      obtain ⟨x, hx⟩ : ∃ x, x = rs[k + 1 + j] := ⟨_, rfl⟩
      rw [← hx] at c2
      try rw [← hx] at st
      rw [← HQ.out] at c2
      skip
      clear hx hlt2
      rcases st with ⟨_, hgo⟩ | ⟨hjm, hgo⟩
      · cases hgo
      · have hqm : Hid (q = toK rs k hk) := by show q = _; rw [hT.out, HQ.out, hjm]
        clear hjm hgo
        go_wp2_with (first | (go_at_call 29; refine (kind_any _ _).mono ?_; rintro e w' ⟨rfl, rfl⟩) | (go_at_call 37; refine (goesC _ _).mono ?_; rintro e w' ⟨rfl, rfl⟩))
        go_ret
        exact ⟨ret_int (congrArg Int.ofNat hqm.out), (Below.refl _ _).alloc (Nat.le_refl _) _⟩
    · have hqm : Hid (q = toK rs k hk) := by show q = _; have := HQ.out; rw [hT.out]; omega
      go_wp2
      go_ret
      exact ⟨ret_int (congrArg Int.ofNat hqm.out), (Below.refl _ _).alloc (Nat.le_refl _) _⟩

theorem behind_any (a : Option Addr) (cap : Nat) (rs : List Nat) (k : Nat) (w : World) (hk : k < rs.length) (hn : rs.length ≤ 1000000) (hr : RunesAt w a rs) :
    Calls Tryd.prog 18 #[.slice a rs.length cap, .int .i64 k] w fun e w' => e = .returned (.int .i64 (toK rs k hk : Nat)) ∧ Below w.heap.size w w' := by
  by_cases h35 : rs[k] = 35
  · exact behind_A a cap rs k w hk hn hr h35
  · by_cases hf : kin rs[k] = 3 ∨ kin rs[k] = 4
    · exact behind_B a cap rs k w hk hn hr (by omega) hf
    · exact behind_C a cap rs k w hk hn hr (by omega) (by omega) (by omega)

end Go.Proofs.YtfklgicmhbkoiaaDoor
