/-
  carcanetlaw01.RunesCut answers true for every text and place, and writes nothing that was there.
-/
import Derived.Test.YtpkppjeiinolaaaJoin
import Derived.Test.YtpkppjeiinolaaaCutFacts
namespace Go.Proofs.Ytpkppjeiinolaaa
open Go.RowKit Go.Lib

theorem and_low (n : Int) : bits .and .i64 n 65535 = n % 65536 := by
  have hm : (BitVec.ofInt 64 65535).toNat = 2 ^ 16 - 1 := by decide
  have e : (BitVec.ofInt 64 n &&& BitVec.ofInt 64 65535).toNat = (n % ((2 ^ 64 : Nat) : Int)).toNat % 2 ^ 16 := by
    rw [BitVec.toNat_and, BitVec.toNat_ofInt, hm, Nat.and_two_pow_sub_one_eq_mod]
  show IntKind.i64.wrap ((BitVec.ofInt 64 n &&& BitVec.ofInt 64 65535).toNat : Nat) = n % 65536
  rw [e, IntKind.wrap_i64]
  omega
theorem place_of (n : Int) (m : Nat) : ∃ q : Nat, (bits .and .i64 n 65535).tmod ((m : Int) + 1) = (q : Int) ∧ q ≤ m := by
  rw [and_low]
  have h0 : 0 ≤ n % 65536 := by omega
  obtain ⟨a, ha⟩ := Int.eq_ofNat_of_zero_le h0
  rw [ha]
  refine ⟨a % (m + 1), ?_, ?_⟩
  · rw [Int.tmod_eq_emod_of_nonneg (by omega)]
    have := Int.natCast_emod a (m + 1)
    rw [Int.natCast_add] at this
    exact this.symm
  · have := Nat.mod_lt a (show 0 < m + 1 by omega)
    omega

/-- A row that the call owns: its value. -/
theorem own_len {w : World} {base : Nat} {e : TypeId} {size : Nat} {v : Value} {n : Nat} {xs : List Value} (h : w.ownsRow base e size v n xs) : ∃ a cap, v = .slice a n cap := by
  rcases h.2 with ⟨hv, h0⟩ | ⟨g, cap, cur, hv, _⟩
  · exact ⟨none, 0, by rw [hv, h0]⟩
  · exact ⟨_, cap, hv⟩

/-- Where the loop stops. -/
theorem stop_at {rs : List Nat} {q k : Nat} (hk : k ≤ rs.length) (hall : ∀ j, j < k → posR rs j ≤ q) (hst : ¬ (k < rs.length ∧ posR rs k ≤ q)) (hq : q < (flat rs).length) :
    1 ≤ k ∧ k - 1 < rs.length ∧ posR rs (k - 1) ≤ q ∧ q < posR rs (k - 1 + 1) := by
  have h0 : 1 ≤ k := by
    apply Classical.byContradiction
    intro hc
    obtain rfl : k = 0 := by omega
    rw [posR_zero] at hst
    have : rs.length = 0 := by omega
    have e : rs = [] := List.eq_nil_of_length_eq_zero this
    rw [e] at hq
    simp [flat] at hq
  refine ⟨h0, by omega, hall _ (by omega), ?_⟩
  rw [show k - 1 + 1 = k by omega]
  by_cases hkl : k < rs.length
  · omega
  · obtain rfl : k = rs.length := by omega
    rw [posR_end]
    exact hq

set_option maxHeartbeats 2000000 in
set_option maxRecDepth 100000 in
theorem cut_law (s : ByteArray) (n : Int) (w : World) (hs : s.size ≤ maxLen) : Calls Try.prog 8 #[.string s, .int .i64 n] w fun e w' => e = .returned (.bool true) ∧ Below w.heap.size w w' := by
  unfold maxLen at hs
  go_enter Try.func8, Try.ntmps8
  go_wp2_with fail
  refine (shown_any _).mono ?_
  rintro e w1 ⟨rfl, hb⟩
  go_upto_region 2 with fail
  go_cut [0] (fun v wx => ∃ s1 : ByteArray, v = .string s1 ∧ s1.size ≤ 1000 ∧ wx = w1)
  case first =>
    go_wp2
    all_goals go_meet
    case rel => exact ⟨_, rfl, cut_size _ _, rfl⟩
    case rel => exact ⟨s, rfl, by omega, rfl⟩
  case rest =>
  obtain ⟨s1, rfl, hs1, rfl⟩ := hcut
  obtain ⟨wc1, hwc1⟩ : ∃ x, x = wc := ⟨_, rfl⟩
  rw [← hwc1] at hb ⊢
  clear hwc1 hs
  go_upto_region 3 with fail
  go_cut [1] (fun v wx => ∃ q : Nat, v = .int .i64 q ∧ q ≤ s1.size ∧ wx = wc1)
  case first =>
    obtain ⟨q, hq, hq1⟩ := place_of n s1.size
    go_wp2
    go_meet
    case rel => exact ⟨q, rfl, hq1, rfl⟩
  case rest =>
  obtain ⟨q, rfl, hq, rfl⟩ := hcut
  obtain ⟨rs, r1, hl1, ho1, hn1⟩ := runs_of _ s1.data.toList (Nat.le_refl _)
  by_cases hr1 : r1 = []
  · subst hr1
    rw [List.append_nil] at hl1
    have hlen : (flat rs).length = s1.size := by have h2 := congrArg List.length hl1; rw [size_data] at h2; exact h2.symm
    have hf1 := flat_len rs
    rw [hlen] at hf1
    have HL : Hid (s1.data.toList = flat rs) := hl1
    have HO : Hid (∀ r ∈ rs, okR r) := ho1
    have HLEN : Hid ((flat rs).length = s1.size) := hlen
    clear hl1 ho1 hn1 hlen
    go_wp2_with fail
    refine (decode_ok s1 rs _ (by omega) HO.out HL.out).mono ?_
    rintro e w2 ⟨v1, rfl, hown1, hb2⟩
    obtain ⟨a1, c1, rfl, hc1⟩ := own_runes hown1
    have HC : Hid (0 < rs.length → _) := hc1
    clear hown1 hc1
    obtain ⟨N, hN⟩ : ∃ N, N = rs.length := ⟨_, rfl⟩
    rw [← hN] at hf1 ⊢
    have HN : Hid (N = rs.length) := hN
    clear hN
    go_wp2_with fail
    go_loop [9, 10, 11] (fun f m i => ∃ k : Nat, k ≤ N ∧ i = .int .i64 k ∧ f = .int .i64 (posR rs (k - 1)) ∧ m = .int .i64 (k - 1 : Nat) ∧ ∀ j, j < k → posR rs j ≤ q) (fun _ _ i => N - (intOf i).toNat)
    case atStart => exact ⟨0, Nat.zero_le _, rfl, by simp [posR, flat], rfl, fun j hj => by omega⟩
    case round =>
      obtain ⟨k, hk, rfl, rfl, rfl, hall⟩ := hrel
      have HA : Hid (∀ j, j < k → posR rs j ≤ q) := hall
      clear hall
      by_cases hst : k < rs.length ∧ posR rs k ≤ q
      · obtain ⟨hkr, hpq⟩ := hst
        have hlt : k < N := by rw [HN.out]; exact hkr
        obtain ⟨g, rfl, _, hg, hcs⟩ := HC.out (by omega)
        obtain ⟨d0, _⟩ := hcs k hkr
        rw [show (flat (rs.take k)).length = posR rs k from rfl] at d0
        obtain ⟨p, hp⟩ : ∃ p, p = posR rs k := ⟨_, rfl⟩
        rw [← hp] at d0 hpq
        have HP : Hid (p = posR rs k) := hp
        clear hp hcs
        go_wp2
        go_round
        case rel =>
          refine ⟨k + 1, by omega, by go_num, by rw [HP.out]; rfl, by go_num, fun j hj => ?_⟩
          by_cases hjk : j = k
          · rw [hjk, ← HP.out]; exact hpq
          · exact HA.out j (by omega)
        case measure => simp [intOf]; omega
      · have hstop : ¬ k < N ∨ (k < N ∧ ∃ g p : Nat, a1 = some ⟨g, 0, none⟩ ∧ w2.cell? ⟨g, k * 2, none⟩ = some (.int .i64 p) ∧ q < p) := by
          by_cases hkN : k < N
          · refine Or.inr ⟨hkN, ?_⟩
            have hkr : k < rs.length := by rw [← HN.out]; exact hkN
            obtain ⟨g, hg1, _, hg, hcs⟩ := HC.out (by omega)
            exact ⟨g, posR rs k, hg1, (hcs k hkr).1, by omega⟩
          · exact Or.inl hkN
        have hex : q < s1.size → _ := fun hqs => stop_at (by rw [← HN.out]; exact hk) HA.out hst (by rw [HLEN.out]; exact hqs)
        by_cases hqs : q < s1.size
        · obtain ⟨h1, h2, h3, h4⟩ := hex hqs
          obtain ⟨m, rfl⟩ : ∃ m, k = m + 1 := ⟨k - 1, by omega⟩
          clear hex hst
          rw [Nat.add_sub_cancel] at h2 h3 h4 ⊢
          obtain ⟨p1, hp1⟩ : ∃ p1, p1 = posR rs m := ⟨_, rfl⟩
          rw [← hp1] at h3 ⊢
          have HP1 : Hid (p1 = posR rs m) := hp1
          have H2 : Hid (m < rs.length) := h2
          have H4 : Hid (q < posR rs (m + 1)) := h4
          have hne : ((q : Int) == (s1.size : Int)) = false := beq_eq_false_iff_ne.2 (by omega)
          have szA := cut_size s1 q
          have szB := extract_small s1 q (by omega)
          have szB2 : (s1.extract q s1.size).size ≤ 1000000 := by rw [ByteArray.size_extract]; omega
          clear hp1 h1 h2 h4 szB
          by_cases hpq : p1 = q
          · subst hpq
            have hd := cut_at HL.out HP1.out.symm
            have hlA : (rs.take m).length = m := by rw [List.length_take]; have := H2.out; omega
            have hlB : (rs.drop m).length = N - m := by rw [List.length_drop, ← HN.out]
            have hoA : ∀ r ∈ rs.take m, okR r := fun r hr => HO.out r (List.mem_of_mem_take hr)
            have hoB : ∀ r ∈ rs.drop m, okR r := fun r hr => HO.out r (List.mem_of_mem_drop hr)
            have HD : Hid ((s1.extract 0 p1).data.toList = flat (rs.take m) ∧ (s1.extract p1 s1.size).data.toList = flat (rs.drop m)) := hd
            have HLA : Hid ((rs.take m).length = m) := hlA
            have HLB : Hid ((rs.drop m).length = N - m) := hlB
            have HOA : Hid (∀ r ∈ rs.take m, okR r) := hoA
            have HOB : Hid (∀ r ∈ rs.drop m, okR r) := hoB
            have hmN : m ≤ N := by have := H2.out; have := HN.out; omega
            have hsub : (((N - m : Nat) : Int) == (N : Int) - (m : Int)) = true := beq_iff_eq.2 (by omega)
            clear hd hlA hlB hoA hoB
            rcases hstop with hkN | ⟨hkN, g, p, rfl, hcell, hqp⟩
            all_goals
              go_wp2_with fail
              refine (decode_ok _ (rs.take m) _ (by omega) HOA.out HD.out.1).mono ?_
              rintro e w3 ⟨v3, rfl, hown3, hb3⟩
              rw [HLA.out] at hown3
              obtain ⟨a3, c3, rfl⟩ := own_len hown3
              clear hown3
              go_wp2_with fail
              refine (decode_ok _ (rs.drop m) _ szB2 HOB.out HD.out.2).mono ?_
              rintro e w4 ⟨v4, rfl, hown4, hb4⟩
              rw [HLB.out] at hown4
              obtain ⟨a4, c4, rfl⟩ := own_len hown4
              clear hown4
              go_wp2
              go_ret
              exact ⟨rfl, hb.trans ((hb2.trans ((hb3.trans (hb4.mono hb3.size)).mono hb2.size)).mono hb.size)⟩
          · have hlt1 : p1 < q := by omega
            obtain ⟨pa, tb, k1, k2, k3, k4, k5, k6⟩ := cut_in HO.out HL.out H2.out (by rw [← HP1.out]; exact hlt1) H4.out
            have hoA : ∀ r ∈ rs.take m, okR r := fun r hr => HO.out r (List.mem_of_mem_take hr)
            have HOA : Hid (∀ r ∈ rs.take m, okR r) := hoA
            have K1 : Hid (pa ≠ []) := k1
            have K2 : Hid (NoRune pa) := k2
            have K3 : Hid ((s1.extract 0 q).data.toList = flat (rs.take m) ++ pa) := k3
            have K4 : Hid (tb ≠ []) := k4
            have K5 : Hid (NoRune tb) := k5
            have K6 : Hid ((s1.extract q s1.size).data.toList = flat [] ++ tb) := k6
            have HPL : Hid ((flat (rs.take m)).length = p1) := HP1.out.symm
            clear k1 k2 k3 k4 k5 k6 hoA
            rcases hstop with hkN | ⟨hkN, g, p, rfl, hcell, hqp⟩
            all_goals
              go_wp2_with fail
              refine (decode_bad _ (rs.take m) pa _ (by omega) HOA.out K3.out K2.out K1.out).mono ?_
              rintro e w3 ⟨rfl, hb3⟩
              rw [HPL.out]
              go_wp2_with fail
              refine (decode_bad _ [] tb _ szB2 (by simp) K6.out K5.out K4.out).mono ?_
              rintro e w4 ⟨rfl, hb4⟩
              go_wp2
              go_ret
              exact ⟨rfl, hb.trans ((hb2.trans ((hb3.trans (hb4.mono hb3.size)).mono hb2.size)).mono hb.size)⟩
        · obtain rfl : q = s1.size := by omega
          clear hex hst
          rcases hstop with hkN | ⟨hkN, g, p, rfl, hcell, hqp⟩
          all_goals
            go_wp2_with fail
            refine (decode_ok _ rs _ (by omega) HO.out HL.out).mono ?_
            rintro e w3 ⟨v3, rfl, hown3, hb3⟩
            rw [← HN.out] at hown3
            obtain ⟨a3, c3, rfl⟩ := own_len hown3
            clear hown3
            go_wp2_with fail
            refine (decode_ok .empty [] _ (by decide) (by simp) rfl).mono ?_
            rintro e w4 ⟨v4, rfl, hown4, hb4⟩
            obtain ⟨a4, c4, rfl⟩ := own_len hown4
            clear hown4
            go_wp2
            go_ret
            exact ⟨rfl, hb.trans ((hb2.trans ((hb3.trans (hb4.mono hb3.size)).mono hb2.size)).mono hb.size)⟩
  · have HL1 : Hid (s1.data.toList = flat rs ++ r1) := hl1
    have HO1 : Hid (∀ r ∈ rs, okR r) := ho1
    have HN1 : Hid (NoRune r1) := hn1
    have HR1 : Hid (¬ r1 = []) := hr1
    clear hl1 ho1 hn1 hr1
    go_wp2_with fail
    refine (decode_bad s1 rs r1 _ (by omega) HO1.out HL1.out HN1.out HR1.out).mono ?_
    rintro e w2 ⟨rfl, hb2⟩
    go_wp2
    go_ret
    exact ⟨rfl, hb.trans (hb2.mono hb.size)⟩

end Go.Proofs.Ytpkppjeiinolaaa
