/-
  The document's One: what it answers, for every text.
-/
import Derived.Test.YtfklgicmhbkoiaaDoorOneFacts
namespace Go.Proofs.YtfklgicmhbkoiaaDoor
open Go.RowKit Go.Lib

theorem byt_at (s : ByteArray) (k : Nat) (h : k < s.size) : byt s.data.toList k = (s[k]'h).toNat := by
  unfold byt
  rw [List.getD_eq_getElem?_getD, List.getElem?_eq_getElem (by rw [size_data]; exact h)]
  rfl


set_option maxHeartbeats 1000000 in
set_option maxRecDepth 100000 in
theorem one_lead2 (s : ByteArray) (w : World) (hs : s.size ≤ 1000000) (c : Nat) (hp : 0 < s.size) (hc0 : (s[0]'hp).toNat = c) (HC : Hid (c = byt s.data.toList 0)) (hne : s.toList.isEmpty = false) (hlo : 192 ≤ c) (hhi : c < 224) :
    Calls Tryd.prog 26 #[.string s] w fun e w' => (∃ v n : Nat, e = .returned (.tuple #[.int .i64 v, .int .i64 n]) ∧ OneOf s.data.toList v n) ∧ w' = w := by
  have HLd : Hid (Lead 2 192 128 (byt s.data.toList 0)) := by rw [← HC.out]; exact Or.inl ⟨rfl, rfl, rfl, hlo, hhi⟩
  obtain ⟨v0, hv0⟩ : ∃ v0 : Nat, (c : Int) - 192 = v0 := ⟨c - 192, by omega⟩
  have HV0 : Hid (v0 = byt s.data.toList 0 - 192) := by show v0 = _; rw [← HC.out]; omega
  have b1 : decide ((192 : Int) ≤ (c : Int)) = true := by simp; omega
  have b2 : decide ((c : Int) < 224) = true := by simp; omega
  have hv31 : v0 ≤ 31 := by omega
  by_cases hsz : s.size < 2
  · go_enter Tryd.func26, Tryd.ntmps26
    go_wp2
    go_ret2
    exact ⟨⟨0, 0, rfl, lead_no HLd.out (fun hx => by have := hx.1; rw [size_data] at this; omega)⟩, rfl⟩
  · go_enter Tryd.func26, Tryd.ntmps26
    go_wp2
    go_loop [7, 8] (fun v i => ∃ k : Nat, 1 ≤ k ∧ k ≤ 2 ∧ i = .int .i64 k ∧ v = .int .i64 (acc s.data.toList v0 (k - 1)) ∧ conts s.data.toList k) (fun _ i => 2 - (intOf i).toNat)
    case atStart => exact ⟨1, Nat.le_refl _, by omega, rfl, rfl, fun j j1 j2 => by omega⟩
    case round =>
      obtain ⟨k, hk1, hk, rfl, rfl, hct⟩ := hrel
      obtain ⟨m, rfl⟩ : ∃ m, k = m + 1 := ⟨k - 1, by omega⟩
      rw [Nat.add_sub_cancel]
      have hle := acc_le s.data.toList v0 hv31 m (by omega) hct
      have HCT : Hid (conts s.data.toList (m + 1)) := hct
      obtain ⟨A, hA⟩ : ∃ A, A = acc s.data.toList v0 m := ⟨_, rfl⟩
      rw [← hA] at hle ⊢
      have HA : Hid (A = acc s.data.toList v0 m) := hA
      clear hct hA
      by_cases hlt : m + 1 < 2
      · have hk2 : m + 1 < s.size := by omega
        obtain ⟨d, hd⟩ : ∃ d, d = byt s.data.toList (m + 1) := ⟨_, rfl⟩
        have hd0 : (s[m + 1]'hk2).toNat = d := by rw [hd, byt_at s (m + 1) hk2]
        have HD : Hid (d = byt s.data.toList (m + 1)) := hd
        have hdb : d < 256 := by rw [← hd0]; exact (s[m + 1]'hk2).toNat_lt
        clear hd
        by_cases hd1 : d < 128
        · go_wp2
          go_ret2
          exact ⟨⟨0, 0, rfl, lead_no HLd.out (fun hx => by have := hx.2.1 (m + 1) (by omega) (by omega); rw [← HD.out] at this; omega)⟩, rfl⟩
        · by_cases hd2 : 192 ≤ d
          · go_wp2
            go_ret2
            exact ⟨⟨0, 0, rfl, lead_no HLd.out (fun hx => by have := hx.2.1 (m + 1) (by omega) (by omega); rw [← HD.out] at this; omega)⟩, rfl⟩
          · go_wp2
            go_round
            case rel =>
              refine ⟨m + 1 + 1, by omega, by omega, by go_num, ?_, ?_⟩
              · have e : acc s.data.toList v0 (m + 1) = A * 64 + (d - 128) := by rw [HA.out, HD.out]; rfl
                rw [Nat.add_sub_cancel, e]
                go_num
              · intro j j1 j2
                by_cases hj : j = m + 1
                · rw [hj, ← HD.out]; omega
                · exact HCT.out j j1 (by omega)
            case measure => simp [intOf]; omega
      · obtain rfl : m = 2 - 1 := by omega
        have hacc : acc s.data.toList (byt s.data.toList 0 - 192) (2 - 1) = A := by rw [HA.out, HV0.out]
        have HACC : Hid (acc s.data.toList (byt s.data.toList 0 - 192) (2 - 1) = A) := hacc
        clear hacc
        by_cases g1 : A < 128
        · go_wp2
          go_ret2
          exact ⟨⟨0, 0, rfl, lead_no HLd.out (fun hx => by have := hx.2.2.1; rw [HACC.out] at this; omega)⟩, rfl⟩
        by_cases g2 : 1114111 < A
        · go_wp2
          go_ret2
          exact ⟨⟨0, 0, rfl, lead_no HLd.out (fun hx => by have := hx.2.2.2; rw [HACC.out] at this; unfold okR at this; omega)⟩, rfl⟩
        by_cases g3 : A < 55296
        · go_wp2
          go_ret2
          refine ⟨⟨A, 2, rfl, ?_⟩, rfl⟩
          have hy := lead_yes HLd.out (by rw [size_data]; omega) HCT.out (by rw [HACC.out]; omega) (by rw [HACC.out]; exact Or.inl g3)
          rw [HACC.out] at hy
          exact hy
        by_cases g4 : A < 57344
        · go_wp2
          go_ret2
          exact ⟨⟨0, 0, rfl, lead_no HLd.out (fun hx => by have := hx.2.2.2; rw [HACC.out] at this; unfold okR at this; omega)⟩, rfl⟩
        · go_wp2
          go_ret2
          refine ⟨⟨A, 2, rfl, ?_⟩, rfl⟩
          have hy := lead_yes HLd.out (by rw [size_data]; omega) HCT.out (by rw [HACC.out]; omega) (by rw [HACC.out]; exact Or.inr ⟨by omega, by omega⟩)
          rw [HACC.out] at hy
          exact hy

set_option maxHeartbeats 1000000 in
set_option maxRecDepth 100000 in
theorem one_lead3 (s : ByteArray) (w : World) (hs : s.size ≤ 1000000) (c : Nat) (hp : 0 < s.size) (hc0 : (s[0]'hp).toNat = c) (HC : Hid (c = byt s.data.toList 0)) (hne : s.toList.isEmpty = false) (hlo : 224 ≤ c) (hhi : c < 240) :
    Calls Tryd.prog 26 #[.string s] w fun e w' => (∃ v n : Nat, e = .returned (.tuple #[.int .i64 v, .int .i64 n]) ∧ OneOf s.data.toList v n) ∧ w' = w := by
  have HLd : Hid (Lead 3 224 2048 (byt s.data.toList 0)) := by rw [← HC.out]; exact Or.inr (Or.inl ⟨rfl, rfl, rfl, hlo, hhi⟩)
  obtain ⟨v0, hv0⟩ : ∃ v0 : Nat, (c : Int) - 224 = v0 := ⟨c - 224, by omega⟩
  have HV0 : Hid (v0 = byt s.data.toList 0 - 224) := by show v0 = _; rw [← HC.out]; omega
  have b1 : decide ((224 : Int) ≤ (c : Int)) = true := by simp; omega
  have b2 : decide ((c : Int) < 240) = true := by simp; omega
  have hv31 : v0 ≤ 31 := by omega
  by_cases hsz : s.size < 3
  · go_enter Tryd.func26, Tryd.ntmps26
    go_wp2
    go_ret2
    exact ⟨⟨0, 0, rfl, lead_no HLd.out (fun hx => by have := hx.1; rw [size_data] at this; omega)⟩, rfl⟩
  · go_enter Tryd.func26, Tryd.ntmps26
    go_wp2
    go_loop [7, 8] (fun v i => ∃ k : Nat, 1 ≤ k ∧ k ≤ 3 ∧ i = .int .i64 k ∧ v = .int .i64 (acc s.data.toList v0 (k - 1)) ∧ conts s.data.toList k) (fun _ i => 3 - (intOf i).toNat)
    case atStart => exact ⟨1, Nat.le_refl _, by omega, rfl, rfl, fun j j1 j2 => by omega⟩
    case round =>
      obtain ⟨k, hk1, hk, rfl, rfl, hct⟩ := hrel
      obtain ⟨m, rfl⟩ : ∃ m, k = m + 1 := ⟨k - 1, by omega⟩
      rw [Nat.add_sub_cancel]
      have hle := acc_le s.data.toList v0 hv31 m (by omega) hct
      have HCT : Hid (conts s.data.toList (m + 1)) := hct
      obtain ⟨A, hA⟩ : ∃ A, A = acc s.data.toList v0 m := ⟨_, rfl⟩
      rw [← hA] at hle ⊢
      have HA : Hid (A = acc s.data.toList v0 m) := hA
      clear hct hA
      by_cases hlt : m + 1 < 3
      · have hk2 : m + 1 < s.size := by omega
        obtain ⟨d, hd⟩ : ∃ d, d = byt s.data.toList (m + 1) := ⟨_, rfl⟩
        have hd0 : (s[m + 1]'hk2).toNat = d := by rw [hd, byt_at s (m + 1) hk2]
        have HD : Hid (d = byt s.data.toList (m + 1)) := hd
        have hdb : d < 256 := by rw [← hd0]; exact (s[m + 1]'hk2).toNat_lt
        clear hd
        by_cases hd1 : d < 128
        · go_wp2
          go_ret2
          exact ⟨⟨0, 0, rfl, lead_no HLd.out (fun hx => by have := hx.2.1 (m + 1) (by omega) (by omega); rw [← HD.out] at this; omega)⟩, rfl⟩
        · by_cases hd2 : 192 ≤ d
          · go_wp2
            go_ret2
            exact ⟨⟨0, 0, rfl, lead_no HLd.out (fun hx => by have := hx.2.1 (m + 1) (by omega) (by omega); rw [← HD.out] at this; omega)⟩, rfl⟩
          · go_wp2
            go_round
            case rel =>
              refine ⟨m + 1 + 1, by omega, by omega, by go_num, ?_, ?_⟩
              · have e : acc s.data.toList v0 (m + 1) = A * 64 + (d - 128) := by rw [HA.out, HD.out]; rfl
                rw [Nat.add_sub_cancel, e]
                go_num
              · intro j j1 j2
                by_cases hj : j = m + 1
                · rw [hj, ← HD.out]; omega
                · exact HCT.out j j1 (by omega)
            case measure => simp [intOf]; omega
      · obtain rfl : m = 3 - 1 := by omega
        have hacc : acc s.data.toList (byt s.data.toList 0 - 224) (3 - 1) = A := by rw [HA.out, HV0.out]
        have HACC : Hid (acc s.data.toList (byt s.data.toList 0 - 224) (3 - 1) = A) := hacc
        clear hacc
        by_cases g1 : A < 2048
        · go_wp2
          go_ret2
          exact ⟨⟨0, 0, rfl, lead_no HLd.out (fun hx => by have := hx.2.2.1; rw [HACC.out] at this; omega)⟩, rfl⟩
        by_cases g2 : 1114111 < A
        · go_wp2
          go_ret2
          exact ⟨⟨0, 0, rfl, lead_no HLd.out (fun hx => by have := hx.2.2.2; rw [HACC.out] at this; unfold okR at this; omega)⟩, rfl⟩
        by_cases g3 : A < 55296
        · go_wp2
          go_ret2
          refine ⟨⟨A, 3, rfl, ?_⟩, rfl⟩
          have hy := lead_yes HLd.out (by rw [size_data]; omega) HCT.out (by rw [HACC.out]; omega) (by rw [HACC.out]; exact Or.inl g3)
          rw [HACC.out] at hy
          exact hy
        by_cases g4 : A < 57344
        · go_wp2
          go_ret2
          exact ⟨⟨0, 0, rfl, lead_no HLd.out (fun hx => by have := hx.2.2.2; rw [HACC.out] at this; unfold okR at this; omega)⟩, rfl⟩
        · go_wp2
          go_ret2
          refine ⟨⟨A, 3, rfl, ?_⟩, rfl⟩
          have hy := lead_yes HLd.out (by rw [size_data]; omega) HCT.out (by rw [HACC.out]; omega) (by rw [HACC.out]; exact Or.inr ⟨by omega, by omega⟩)
          rw [HACC.out] at hy
          exact hy

set_option maxHeartbeats 1000000 in
set_option maxRecDepth 100000 in
theorem one_lead4 (s : ByteArray) (w : World) (hs : s.size ≤ 1000000) (c : Nat) (hp : 0 < s.size) (hc0 : (s[0]'hp).toNat = c) (HC : Hid (c = byt s.data.toList 0)) (hne : s.toList.isEmpty = false) (hlo : 240 ≤ c) (hhi : c < 248) :
    Calls Tryd.prog 26 #[.string s] w fun e w' => (∃ v n : Nat, e = .returned (.tuple #[.int .i64 v, .int .i64 n]) ∧ OneOf s.data.toList v n) ∧ w' = w := by
  have HLd : Hid (Lead 4 240 65536 (byt s.data.toList 0)) := by rw [← HC.out]; exact Or.inr (Or.inr ⟨rfl, rfl, rfl, hlo, hhi⟩)
  obtain ⟨v0, hv0⟩ : ∃ v0 : Nat, (c : Int) - 240 = v0 := ⟨c - 240, by omega⟩
  have HV0 : Hid (v0 = byt s.data.toList 0 - 240) := by show v0 = _; rw [← HC.out]; omega
  have b1 : decide ((240 : Int) ≤ (c : Int)) = true := by simp; omega
  have b2 : decide ((c : Int) < 248) = true := by simp; omega
  have hv31 : v0 ≤ 31 := by omega
  by_cases hsz : s.size < 4
  · go_enter Tryd.func26, Tryd.ntmps26
    go_wp2
    go_ret2
    exact ⟨⟨0, 0, rfl, lead_no HLd.out (fun hx => by have := hx.1; rw [size_data] at this; omega)⟩, rfl⟩
  · go_enter Tryd.func26, Tryd.ntmps26
    go_wp2
    go_loop [7, 8] (fun v i => ∃ k : Nat, 1 ≤ k ∧ k ≤ 4 ∧ i = .int .i64 k ∧ v = .int .i64 (acc s.data.toList v0 (k - 1)) ∧ conts s.data.toList k) (fun _ i => 4 - (intOf i).toNat)
    case atStart => exact ⟨1, Nat.le_refl _, by omega, rfl, rfl, fun j j1 j2 => by omega⟩
    case round =>
      obtain ⟨k, hk1, hk, rfl, rfl, hct⟩ := hrel
      obtain ⟨m, rfl⟩ : ∃ m, k = m + 1 := ⟨k - 1, by omega⟩
      rw [Nat.add_sub_cancel]
      have hle := acc_le s.data.toList v0 hv31 m (by omega) hct
      have HCT : Hid (conts s.data.toList (m + 1)) := hct
      obtain ⟨A, hA⟩ : ∃ A, A = acc s.data.toList v0 m := ⟨_, rfl⟩
      rw [← hA] at hle ⊢
      have HA : Hid (A = acc s.data.toList v0 m) := hA
      clear hct hA
      by_cases hlt : m + 1 < 4
      · have hk2 : m + 1 < s.size := by omega
        obtain ⟨d, hd⟩ : ∃ d, d = byt s.data.toList (m + 1) := ⟨_, rfl⟩
        have hd0 : (s[m + 1]'hk2).toNat = d := by rw [hd, byt_at s (m + 1) hk2]
        have HD : Hid (d = byt s.data.toList (m + 1)) := hd
        have hdb : d < 256 := by rw [← hd0]; exact (s[m + 1]'hk2).toNat_lt
        clear hd
        by_cases hd1 : d < 128
        · go_wp2
          go_ret2
          exact ⟨⟨0, 0, rfl, lead_no HLd.out (fun hx => by have := hx.2.1 (m + 1) (by omega) (by omega); rw [← HD.out] at this; omega)⟩, rfl⟩
        · by_cases hd2 : 192 ≤ d
          · go_wp2
            go_ret2
            exact ⟨⟨0, 0, rfl, lead_no HLd.out (fun hx => by have := hx.2.1 (m + 1) (by omega) (by omega); rw [← HD.out] at this; omega)⟩, rfl⟩
          · go_wp2
            go_round
            case rel =>
              refine ⟨m + 1 + 1, by omega, by omega, by go_num, ?_, ?_⟩
              · have e : acc s.data.toList v0 (m + 1) = A * 64 + (d - 128) := by rw [HA.out, HD.out]; rfl
                rw [Nat.add_sub_cancel, e]
                go_num
              · intro j j1 j2
                by_cases hj : j = m + 1
                · rw [hj, ← HD.out]; omega
                · exact HCT.out j j1 (by omega)
            case measure => simp [intOf]; omega
      · obtain rfl : m = 4 - 1 := by omega
        have hacc : acc s.data.toList (byt s.data.toList 0 - 240) (4 - 1) = A := by rw [HA.out, HV0.out]
        have HACC : Hid (acc s.data.toList (byt s.data.toList 0 - 240) (4 - 1) = A) := hacc
        clear hacc
        by_cases g1 : A < 65536
        · go_wp2
          go_ret2
          exact ⟨⟨0, 0, rfl, lead_no HLd.out (fun hx => by have := hx.2.2.1; rw [HACC.out] at this; omega)⟩, rfl⟩
        by_cases g2 : 1114111 < A
        · go_wp2
          go_ret2
          exact ⟨⟨0, 0, rfl, lead_no HLd.out (fun hx => by have := hx.2.2.2; rw [HACC.out] at this; unfold okR at this; omega)⟩, rfl⟩
        · have g3 : ¬ A < 55296 := by omega
          have g4 : ¬ A < 57344 := by omega
          go_wp2
          go_ret2
          refine ⟨⟨A, 4, rfl, ?_⟩, rfl⟩
          have hy := lead_yes HLd.out (by rw [size_data]; omega) HCT.out (by rw [HACC.out]; omega) (by rw [HACC.out]; exact Or.inr ⟨by omega, by omega⟩)
          rw [HACC.out] at hy
          exact hy

set_option maxHeartbeats 1000000 in
set_option maxRecDepth 100000 in
theorem one_any (s : ByteArray) (w : World) (hs : s.size ≤ 1000000) : Calls Tryd.prog 26 #[.string s] w fun e w' => (∃ v n : Nat, e = .returned (.tuple #[.int .i64 v, .int .i64 n]) ∧ OneOf s.data.toList v n) ∧ w' = w := by
  by_cases h0 : s.size = 0
  · have e : s = ⟨#[]⟩ := bytes_ext (List.eq_nil_of_length_eq_zero (by rw [size_data]; exact h0))
    subst e
    go_enter Tryd.func26, Tryd.ntmps26
    go_wp2
    go_ret2
    exact ⟨⟨0, 0, rfl, one_empty⟩, rfl⟩
  · have hp : 0 < s.size := by omega
    obtain ⟨c, hc⟩ : ∃ c, c = byt s.data.toList 0 := ⟨_, rfl⟩
    have hc0 : (s[0]'hp).toNat = c := by rw [hc, byt_at s 0 hp]
    have hcb : c < 256 := by rw [← hc0]; exact (s[0]'hp).toNat_lt
    have HC : Hid (c = byt s.data.toList 0) := hc
    have hne : s.toList.isEmpty = false := by rw [ByteArray.toList_eq]; cases hx : s.data.toList with
      | nil => have := size_data s; rw [hx] at this; simp at this; omega
      | cons a b => rfl
    clear hc h0
    by_cases h1 : c < 128
    · go_enter Tryd.func26, Tryd.ntmps26
      go_wp2
      go_ret2
      refine ⟨⟨c, 1, rfl, ?_⟩, rfl⟩
      have := one_ascii (l := s.data.toList) (by rw [size_data]; exact hp) (by rw [← HC.out]; exact h1)
      rw [← HC.out] at this
      exact this
    by_cases h2 : c < 192
    · go_enter Tryd.func26, Tryd.ntmps26
      go_wp2
      go_ret2
      exact ⟨⟨0, 0, rfl, no_lead (by rw [← HC.out]; omega)⟩, rfl⟩
    by_cases h3 : c < 224
    · exact one_lead2 s w hs c hp hc0 HC hne (by omega) h3
    by_cases h4 : c < 240
    · exact one_lead3 s w hs c hp hc0 HC hne (by omega) h4
    by_cases h5 : c < 248
    · exact one_lead4 s w hs c hp hc0 HC hne (by omega) h5
    · go_enter Tryd.func26, Tryd.ntmps26
      go_wp2
      go_ret2
      exact ⟨⟨0, 0, rfl, no_lead (by rw [← HC.out]; omega)⟩, rfl⟩

end Go.Proofs.YtfklgicmhbkoiaaDoor
