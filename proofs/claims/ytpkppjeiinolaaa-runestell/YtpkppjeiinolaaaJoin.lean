/-
  carcanetlaw01.RunesJoin answers true for every two texts, and writes nothing that was there.
-/
import Derived.Test.YtpkppjeiinolaaaForth
namespace Go.Proofs.Ytpkppjeiinolaaa
open Go.RowKit Go.Lib

theorem data_join (s t : ByteArray) : (s ++ t).data.toList = s.data.toList ++ t.data.toList := by
  rw [ByteArray.data_append, Array.toList_append]
theorem size_join (s t : ByteArray) : (s ++ t).size = s.size + t.size := ByteArray.size_append

/-- The cells of two rows of runes, one behind the other. -/
theorem join_left {a b : List Nat} {k : Nat} (h : k < a.length) : (flat ((a ++ b).take k)).length = (flat (a.take k)).length ∧ ∀ h2 : k < (a ++ b).length, (a ++ b)[k] = a[k] := by
  refine ⟨?_, fun h2 => List.getElem_append_left h⟩
  rw [List.take_append_of_le_length (by omega)]
theorem join_right {a b : List Nat} {k : Nat} (h : a.length ≤ k) : (flat ((a ++ b).take k)).length = (flat a).length + (flat (b.take (k - a.length))).length ∧ ∀ (h2 : k < (a ++ b).length) (h3 : k - a.length < b.length), (a ++ b)[k] = b[k - a.length] := by
  refine ⟨?_, fun h2 h3 => List.getElem_append_right h⟩
  rw [List.take_append, List.take_of_length_le h, flat_append, List.length_append]

theorem flat_take (rs : List Nat) (j : Nat) : (flat (rs.take j)).length ≤ (flat rs).length := by
  have h := congrArg flat (List.take_append_drop j rs)
  rw [flat_append] at h
  have h2 := congrArg List.length h
  rw [List.length_append] at h2
  omega

set_option maxHeartbeats 2000000 in
set_option maxRecDepth 100000 in
theorem join_law (s t : ByteArray) (w : World) (hs : s.size ≤ maxLen) (ht : t.size ≤ maxLen) : Calls Try.prog 9 #[.string s, .string t] w fun e w' => e = .returned (.bool true) ∧ Below w.heap.size w w' := by
  unfold maxLen at hs ht
  go_enter Try.func9, Try.ntmps9
  go_wp2_with fail
  refine (shown_any _).mono ?_
  rintro e w1 ⟨rfl, hb⟩
  go_upto_region 2 with fail
  go_cut [0] (fun v wx => ∃ s1 : ByteArray, v = .string s1 ∧ s1.size ≤ 1000 ∧ wx = w1)
  case first =>
    go_wp2
    all_goals go_meet
    case rel => exact ⟨_, rfl, cut_size _ _, rfl⟩
    case rel => exact ⟨s, rfl, by omega, rfl⟩
  case rest =>
  obtain ⟨s1, rfl, hs1, rfl⟩ := hcut
  obtain ⟨wc1, hwc1⟩ : ∃ x, x = wc := ⟨_, rfl⟩
  rw [← hwc1] at hb ⊢
  clear hwc1
  go_upto_region 3 with fail
  go_cut [1] (fun v wx => ∃ t1 : ByteArray, v = .string t1 ∧ t1.size ≤ 1000 ∧ wx = wc1)
  case first =>
    go_wp2
    all_goals go_meet
    case rel => exact ⟨_, rfl, cut_size _ _, rfl⟩
    case rel => exact ⟨t, rfl, by omega, rfl⟩
  case rest =>
  obtain ⟨t1, rfl, ht1, rfl⟩ := hcut
  obtain ⟨rs, r1, hl1, ho1, hn1⟩ := runs_of _ s1.data.toList (Nat.le_refl _)
  obtain ⟨rt, r2, hl2, ho2, hn2⟩ := runs_of _ t1.data.toList (Nat.le_refl _)
  clear hs ht
  by_cases hr1 : r1 = []
  · subst hr1
    rw [List.append_nil] at hl1
    have HL1 : Hid (s1.data.toList = flat rs) := hl1
    have HO1 : Hid (∀ r ∈ rs, okR r) := ho1
    have HOA : Hid (∀ r ∈ rs ++ rt, okR r) := fun r hr => (List.mem_append.1 hr).elim (ho1 r) (ho2 r)
    by_cases hr2 : r2 = []
    · subst hr2
      rw [List.append_nil] at hl2
      have HL2 : Hid (t1.data.toList = flat rt) := hl2
      have HO2 : Hid (∀ r ∈ rt, okR r) := ho2
      have HLA : Hid ((s1 ++ t1).data.toList = flat (rs ++ rt)) := by show (s1 ++ t1).data.toList = flat (rs ++ rt); rw [data_join, hl1, hl2, flat_append]
      have hlen1 : (flat rs).length = s1.size := by have h2 := congrArg List.length hl1; rw [size_data] at h2; exact h2.symm
      have hlen2 : (flat rt).length = t1.size := by have h2 := congrArg List.length hl2; rw [size_data] at h2; exact h2.symm
      have hf1 := flat_len rs
      have hf2 := flat_len rt
      clear hl1 hl2 ho1 ho2 hn1 hn2
      go_wp2_with fail
      refine (decode_ok s1 rs _ (by omega) HO1.out HL1.out).mono ?_
      rintro e w2 ⟨v1, rfl, hown1, hb2⟩
      obtain ⟨a1, c1, rfl, hc1⟩ := own_runes hown1
      clear hown1
      go_wp2_with fail
      refine (decode_ok t1 rt _ (by omega) HO2.out HL2.out).mono ?_
      rintro e w3 ⟨v2, rfl, hown2, hb3⟩
      obtain ⟨a2, c2, rfl, hc2⟩ := own_runes hown2
      clear hown2
      go_wp2_with fail
      refine (decode_ok (s1 ++ t1) (rs ++ rt) _ (by rw [size_join]; omega) HOA.out HLA.out).mono ?_
      rintro e w4 ⟨v3, rfl, hown3, hb4⟩
      obtain ⟨a3, c3, rfl, hc3⟩ := own_runes hown3
      clear hown3
      have hN : (rs ++ rt).length = rs.length + rt.length := List.length_append
      have HC1 : Hid (0 < rs.length → _) := hc1
      have HC2 : Hid (0 < rt.length → _) := hc2
      have HC3 : Hid (0 < (rs ++ rt).length → _) := hc3
      clear hc1 hc2 hc3
      rw [hN]
      have HNN : Hid ((rs ++ rt).length = rs.length + rt.length) := hN
      obtain ⟨n1, e1⟩ : ∃ n1, n1 = rs.length := ⟨_, rfl⟩
      obtain ⟨n2, e2⟩ : ∃ n2, n2 = rt.length := ⟨_, rfl⟩
      rw [← e1] at hf1 ⊢
      rw [← e2] at hf2 ⊢
      have E1 : Hid (n1 = rs.length) := e1
      have E2 : Hid (n2 = rt.length) := e2
      have HLEN : Hid ((flat rs).length = s1.size) := hlen1
      have HLEN2 : Hid ((flat rt).length = t1.size) := hlen2
      rw [hlen1] at hf1
      rw [hlen2] at hf2
      clear e1 e2 hN hlen1 hlen2 HL1 HL2 HO1 HO2 HOA HLA
      have hq : ((n1 : Int) + (n2 : Int) != (n1 : Int) + (n2 : Int)) = false := by simp
      go_wp2_with fail
      go_loopw [15] (fun i wr => ∃ k : Nat, k ≤ n1 + n2 ∧ i = .int .i64 k ∧ Below w4.heap.size w4 wr) (fun i _ => n1 + n2 - (intOf i).toNat)
      case atStart => exact ⟨0, Nat.zero_le _, rfl, Below.refl _ _⟩
      case round =>
        obtain ⟨k, hk, rfl, hb5⟩ := hrel
        have hbw3 : Below w3.heap.size w3 wr := hb4.trans (hb5.mono hb4.size)
        have hbw2 : Below w2.heap.size w2 wr := hb3.trans (hbw3.mono hb3.size)
        by_cases hlt : k < n1 + n2
        · obtain ⟨g3, rfl, _, hg3, hcs3⟩ := HC3.out (by rw [HNN.out, ← E1.out, ← E2.out]; omega)
          have hka : k < (rs ++ rt).length := by rw [HNN.out, ← E1.out, ← E2.out]; omega
          obtain ⟨p0, p1⟩ := hcs3 k hka
          have d0 := (hb5.cell (p := ⟨g3, k * 2, none⟩) hg3).trans p0
          have d1 := (hb5.cell (p := ⟨g3, k * 2 + 1, none⟩) hg3).trans p1
          clear p0 p1 hcs3
          by_cases hk1 : k < n1
          · have hkr : k < rs.length := by rw [← E1.out]; exact hk1
            obtain ⟨g1, rfl, _, hg1, hcs1⟩ := HC1.out (by omega)
            obtain ⟨p0, p1⟩ := hcs1 k hkr
            have f0 := (hbw2.cell (p := ⟨g1, k * 2, none⟩) hg1).trans p0
            have f1 := (hbw2.cell (p := ⟨g1, k * 2 + 1, none⟩) hg1).trans p1
            clear p0 p1 hcs1
            rw [(join_left hkr).1] at d0
            rw [(join_left hkr).2 hka] at d1
            obtain ⟨r, hr⟩ : ∃ r, r = rs[k] := ⟨_, rfl⟩
            obtain ⟨p, hp⟩ : ∃ p, p = (flat (rs.take k)).length := ⟨_, rfl⟩
            rw [← hr] at d1 f1
            rw [← hp] at d0 f0
            clear hr hp hkr hka
            have q1 : (k : Int) < (n1 : Int) := by omega
            have q2 : (k : Int) < (n1 : Int) + (n2 : Int) := by omega
            have q3 : decide ((n1 : Int) ≤ (k : Int)) = false := by simp; omega
            have q4 : decide (n1 ≤ k) = false := by simp; omega
            go_wp2
            go_quiet (fail)
            go_wp2
            go_roundw
            case rel => exact ⟨k + 1, by omega, by go_num, below_drewN hb5 _⟩
            case measure => simp [intOf]; omega
          · obtain ⟨j, rfl⟩ : ∃ j, k = n1 + j := ⟨k - n1, by omega⟩
            have hjr : j < rt.length := by rw [← E2.out]; omega
            have hjl : rs.length ≤ n1 + j := by rw [← E1.out]; omega
            have hjs : n1 + j - rs.length = j := by rw [← E1.out]; omega
            obtain ⟨g2, rfl, _, hg2, hcs2⟩ := HC2.out (by omega)
            obtain ⟨p0, p1⟩ := hcs2 j hjr
            have f0 := (hbw3.cell (p := ⟨g2, j * 2, none⟩) hg2).trans p0
            have f1 := (hbw3.cell (p := ⟨g2, j * 2 + 1, none⟩) hg2).trans p1
            clear p0 p1 hcs2
            have jr := join_right (a := rs) (b := rt) hjl
            rw [jr.1, HLEN.out, hjs] at d0
            rw [jr.2 hka (by omega)] at d1
            have hge : rt[n1 + j - rs.length]'(by omega) = rt[j] := by simp only [hjs]
            rw [hge] at d1
            obtain ⟨r, hr⟩ : ∃ r, r = rt[j] := ⟨_, rfl⟩
            obtain ⟨p, hp⟩ : ∃ p, p = (flat (rt.take j)).length := ⟨_, rfl⟩
            rw [← hr] at d1 f1
            rw [← hp] at d0 f0
            have hpb : p ≤ 1000 := by
              have h1 := hp
              have h2 := HLEN2.out
              have h3 := flat_take rt j
              omega
            clear hr hp hjr hjl hjs hka hge jr
            have q1 : (n1 : Int) + (j : Int) < (n1 : Int) + (n2 : Int) := by omega
            have q2 : decide ((n1 : Int) + (j : Int) < (n1 : Int)) = false := by simp; omega
            have q3 : decide (n1 + j < n1) = false := by simp
            have q4 : decide ((n1 : Int) ≤ (n1 : Int) + (j : Int)) = true := by simp; omega
            have q5 : (n1 : Int) + (j : Int) - (n1 : Int) = (j : Int) := by omega
            have q6 : (j : Int) < (n2 : Int) := by omega
            have q7 : ((s1.size : Int) + (p : Int) != (p : Int) + (s1.size : Int)) = false := by rw [Int.add_comm]; simp
            go_wp2
            go_quiet (fail)
            go_wp2
            go_roundw
            case rel => exact ⟨n1 + j + 1, by omega, by go_num, below_drewN hb5 _⟩
            case measure => simp [intOf]; omega
        · go_wp2
          go_ret
          exact ⟨rfl, hb.trans ((hb2.trans (hbw2.mono hb2.size)).mono hb.size)⟩
    · have hlA : (s1 ++ t1).data.toList = flat (rs ++ rt) ++ r2 := by rw [data_join, hl1, hl2, flat_append, List.append_assoc]
      have HLA : Hid ((s1 ++ t1).data.toList = flat (rs ++ rt) ++ r2) := hlA
      have hlen1 : (flat rs).length = s1.size := by have h2 := congrArg List.length hl1; rw [size_data] at h2; exact h2.symm
      have hlen2 : (flat rt).length ≤ t1.size := by have h2 := congrArg List.length hl2; rw [size_data, List.length_append] at h2; omega
      have HL2 : Hid (t1.data.toList = flat rt ++ r2) := hl2
      have HO2 : Hid (∀ r ∈ rt, okR r) := ho2
      have HN2 : Hid (NoRune r2) := hn2
      have HR2 : Hid (¬ r2 = []) := hr2
      clear hlA hl1 hl2 ho1 ho2 hn1 hn2 hr2
      go_wp2_with fail
      refine (decode_ok s1 rs _ (by omega) HO1.out HL1.out).mono ?_
      rintro e w2 ⟨v1, rfl, hown1, hb2⟩
      clear hown1
      go_wp2_with fail
      refine (decode_bad t1 rt r2 _ (by omega) HO2.out HL2.out HN2.out HR2.out).mono ?_
      rintro e w3 ⟨rfl, hb3⟩
      go_wp2_with fail
      refine (decode_bad (s1 ++ t1) (rs ++ rt) r2 _ (by rw [size_join]; omega) HOA.out HLA.out HN2.out HR2.out).mono ?_
      rintro e w4 ⟨rfl, hb4⟩
      rw [flat_append, List.length_append, hlen1]
      clear HLA HL1 HL2 HO1 HOA HO2 HN2 HR2 hlen1
      obtain ⟨p, hp⟩ : ∃ p, p = (flat rt).length := ⟨_, rfl⟩
      rw [← hp] at hlen2 ⊢
      clear hp
      go_wp2
      go_ret
      exact ⟨rfl, hb.trans ((hb2.trans ((hb3.trans (hb4.mono hb3.size)).mono hb2.size)).mono hb.size)⟩
  · have HL1 : Hid (s1.data.toList = flat rs ++ r1) := hl1
    have HO1 : Hid (∀ r ∈ rs, okR r) := ho1
    have HL2 : Hid (t1.data.toList = flat rt ++ r2) := hl2
    have HO2 : Hid (∀ r ∈ rt, okR r) := ho2
    have HN1 : Hid (NoRune r1) := hn1
    have HN2 : Hid (NoRune r2) := hn2
    have HR1 : Hid (¬ r1 = []) := hr1
    clear hl1 hl2 ho1 ho2 hn1 hn2 hr1
    go_wp2_with fail
    refine (decode_bad s1 rs r1 _ (by omega) HO1.out HL1.out HN1.out HR1.out).mono ?_
    rintro e w2 ⟨rfl, hb2⟩
    go_wp2_with fail
    refine (decode_calls t1 rt r2 _ (by omega) HO2.out HL2.out HN2.out).mono ?_
    rintro e w3 ⟨hb3, hx⟩
    rcases hx with ⟨_, v, rfl, _⟩ | ⟨_, rfl⟩
    all_goals
      go_wp2
      go_ret
      exact ⟨rfl, hb.trans ((hb2.trans (hb3.mono hb2.size)).mono hb.size)⟩

end Go.Proofs.Ytpkppjeiinolaaa
