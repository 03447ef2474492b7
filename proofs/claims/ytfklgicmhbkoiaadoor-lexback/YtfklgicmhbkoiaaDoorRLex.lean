/-
  The document's Lex: what it answers, for every text: the same tokens, or the same error.
-/
import Derived.Test.YtfklgicmhbkoiaaDoorRLexB
namespace Go.Proofs.YtfklgicmhbkoiaaDoor
open Go.RowKit Go.Lib

theorem Tryd.info55 : (Tryd.prog.info? 55).map (fun i => (i.zero, i.size, i.bytes)) = some (some (.agg #[.int .i64 0, .int .i64 0, .string { data := #[] }, .int .i64 0]), 4, 40) := by kernel_rfl
theorem cell_four_new (w : World) (x y z u : Value) (t : TypeId) : ∀ j v, [x, y, z, u][j]? = some v → (w.alloc (.cells #[x, y, z, u] t)).cell? ((⟨w.heap.size, 0, none⟩ : Addr).add j) = some v := cell_four_block (heap_alloc_new w _)
theorem own_snoc {w : World} {base : Nat} {e : TypeId} {v : Value} {ts : List Tk} {t : Tk} {x : ByteArray} (h : w.ownsRow base e 4 v (ts.length + 1) (cellsT ts ++ [.int .i64 t.kind, .int .i64 t.pos, .string x, .int .i64 t.num])) (hx : t.text = x.data.toList) : w.ownsRow base e 4 v (ts ++ [t]).length (cellsT (ts ++ [t])) := by
  rw [cellsT_snoc, List.length_append, hx, mk_text]
  exact h

set_option maxHeartbeats 8000000 in
set_option maxRecDepth 100000 in
theorem rlex_ok (s : ByteArray) (rs : List Nat) (w : World) (hs : s.size ≤ 1000000) (hok : ∀ r ∈ rs, okR r) (hl : s.data.toList = flat rs) :
    Calls Tryd.prog 12 #[.string s] w fun e w' => Below w.heap.size w w' ∧ ∃ ts er, LexT 0 rs ts er ∧
      ((er = (0, 0) ∧ ∃ v, e = .returned (.tuple #[v, .int .i64 0, .int .i64 0]) ∧ w'.ownsRow w.heap.size 55 4 v ts.length (cellsT ts)) ∨
       (er.2 ≠ 0 ∧ e = .returned (.tuple #[.slice none 0 0, .int .i64 er.1, .int .i64 er.2]))) := by
  obtain ⟨i0, hi, hz0, hz1, hz2⟩ := info_parts Tryd.info55
  have hN : rs.length ≤ 1000000 := by
    have h1 := flat_len rs
    have h2 := size_data s
    rw [hl] at h2
    omega
  have HL : Hid (s.data.toList = flat rs) := hl
  have HO : Hid (∀ r ∈ rs, okR r) := hok
  have HEND : Hid (posR rs rs.length = s.size) := by show _ = _; rw [posR_end, ← hl, size_data]
  clear hl hok
  go_enter Tryd.func12, Tryd.ntmps12
  go_wp2_with fail
  refine (refDecode_ok s rs _ hs HO.out HL.out).mono ?_
  rintro e w1 ⟨v0, rfl, _, hb1⟩
  obtain ⟨N, hNe⟩ : ∃ N, N = rs.length := ⟨_, rfl⟩
  rw [← hNe] at hN
  have HN : Hid (N = rs.length) := hNe
  clear hNe
  go_wp2
  go_loopw [8, 9] (fun v i wr => ∃ (k : Nat) (ts : List Tk), k ≤ N ∧ i = .int .i64 (posR rs k : Nat) ∧ wr.ownsRow w1.heap.size 55 4 v ts.length (cellsT ts) ∧ Hid (Upto rs k ts) ∧ ts.length ≤ k ∧ Below w1.heap.size w1 wr) (fun _ i _ => s.size - (RowKit.intOf i).toNat)
  case atStart => exact ⟨0, [], Nat.zero_le _, rfl, World.ownsRow_nil _ _ _ _, upto_zero rs, Nat.zero_le _, Below.refl _ _⟩
  case round =>
    obtain ⟨k, ts, hk, rfl, hown, hup, htk, hbel⟩ := hrel
    have hsz := hbel.size
    by_cases hlt : k < N
    · have hkr : k < rs.length := by rw [← HN.out]; exact hlt
      obtain ⟨hp1, hp2, hp3⟩ := posR_lt HL.out hkr
      have hrk := rkind_at s rs k wr hs HO.out HL.out hkr
      obtain ⟨p, hpp, hp, HKB⟩ : ∃ p, ∃ h : p < s.size, p = posR rs k ∧ ((rs[k] < 128 ∧ s[p].toNat = rs[k]) ∨ (128 ≤ rs[k] ∧ 192 ≤ s[p].toNat)) := ⟨posR rs k, hp1, rfl, byte_rune HL.out HO.out hkr hp1⟩
      have hle := toK_le hkr
      have hq0 : posR rs (k + 1) ≤ posR rs (toK rs k hkr) ∧ posR rs (toK rs k hkr) ≤ s.size := by
        rw [posR_toK hkr, hp2, flat_cons, List.length_append]
        refine ⟨by omega, ?_⟩
        have h1 : posR rs (toK rs k hkr) ≤ (flat rs).length := flat_take rs _
        rw [posR_toK hkr, flat_cons, List.length_append] at h1
        have h2 := size_data s
        rw [HL.out] at h2
        omega
      have hen := enc_pos rs[k]
      have HKR : Hid (AtK s rs ts k rs[k] (posR rs k) (posR rs (toK rs k hkr))) := ⟨hkr, rfl, rfl, rfl⟩
      by_cases h35 : rs[k] = 35
      · -- a remark
        obtain ⟨hA, hE⟩ := remark_bytes HL.out HO.out hkr h35
        have hst := st_hash hkr hup.out h35
        have hb35 : ((s[p].toNat : Int) == 35) = true := by
          rcases HKB with ⟨_, h⟩ | ⟨h, _⟩
          · rw [h, h35]; rfl
          · omega
        obtain ⟨K, hK⟩ : ∃ K, K = toK rs k hkr := ⟨_, rfl⟩
        rw [← hK] at hst hA hE hq0 hle
        have HST : Hid (Upto rs K ts) := hst
        obtain ⟨q, hq⟩ : ∃ q, q = posR rs K := ⟨_, rfl⟩
        have HQ : Hid (q = posR rs K) := hq
        simp only [← hq] at hA hE hq0
        rw [hp2] at hA hq0 hp3
        simp only [← hp] at hA hq0 hp1 hp3 hrk ⊢
        obtain ⟨en, he⟩ : ∃ en, en = (enc rs[k]).length := ⟨_, rfl⟩
        rw [← he] at hA hq0 hp3 hrk hen
        have HA : Hid (∀ j (hj : j < s.size), p + en ≤ j → j < q → s[j].toNat ≠ 10) := hA
        have HE : Hid (∀ hj : q < s.size, s[q].toNat = 10) := hE
        have HRK : Hid (Calls Tryd.prog 22 #[.string s, .int .i64 p] wr fun e w' => e = .returned (.tuple #[.int .i64 (kin rs[k]), .int .i64 en]) ∧ w' = wr) := hrk
        have hKN : K ≤ N := by rw [HN.out]; exact hle.2
        have hkK := hle.1
        clear hA hE hst hK hq hp he hrk h35 HKB hup HKR hle hp2
        go_wp2_with fail
        refine HRK.out.mono ?_
        rintro e w2 ⟨rfl, rfl⟩
        go_wp2
        go_loop [12] (fun v => ∃ j : Nat, p + en ≤ j ∧ j ≤ q ∧ v = .int .i64 j) (fun v => q - (RowKit.intOf v).toNat)
        case atStart => exact ⟨p + en, Nat.le_refl _, hq0.1, by go_num⟩
        case round =>
          obtain ⟨j, hj1, hj2, rfl⟩ := hrel
          by_cases hjq : j < q
          · have hjs : j < s.size := by omega
            have b1 : ((s[j].toNat : Int) == 10) = false := beq_eq_false_iff_ne.2 (by have := HA.out j hjs hj1 hjq; omega)
            go_wp2
            go_round
            case rel => exact ⟨j + 1, by omega, by omega, by go_num⟩
            case measure => simp [RowKit.intOf]; omega
          · obtain rfl : j = q := by omega
            by_cases hjs : j < s.size
            · have b1 : ((s[j].toNat : Int) == 10) = true := by rw [HE.out hjs]; rfl
              go_wp2
              go_roundw
              case rel => exact ⟨K, ts, hKN, by rw [HQ.out], hown, HST, by omega, hbel⟩
              case measure => simp [RowKit.intOf]; omega
            · go_wp2
              go_roundw
              case rel => exact ⟨K, ts, hKN, by rw [HQ.out], hown, HST, by omega, hbel⟩
              case measure => simp [RowKit.intOf]; omega
      have hb35 : ((s[p].toNat : Int) == 35) = false := beq_eq_false_iff_ne.2 (by
        rcases HKB with ⟨_, h⟩ | ⟨_, h⟩
        · rw [h]; omega
        · omega)
      have hkr6 := kin_range (rs[k] : Nat)
      obtain ⟨en, he⟩ : ∃ en, en = (enc rs[k]).length := ⟨_, rfl⟩
      have hlh := HL.out
      have hoh := HO.out
      clear HKB HKR
      rcases (show kin rs[k] = 2 ∨ kin rs[k] = 5 ∨ kin rs[k] = 1 ∨ kin rs[k] = 0 ∨ kin rs[k] = 3 ∨ kin rs[k] = 4 by omega) with h2 | h5 | h1 | h0 | h3 | h4
      · have hst := st_line hkr hup.out h35 h2
        have HP2 : Hid (posR rs (k + 1) = p + en) := by show _ = _; rw [hp2, hp, he]
        simp only [← hp] at hst hp1 hrk ⊢
        simp only [← he] at hrk hen
        skip
        have HST : Hid (Upto rs (k + 1) (ts ++ [⟨4, p, [], 0⟩])) := hst
        rw [h2] at hrk
        have HRK : Hid (Calls Tryd.prog 22 #[.string s, .int .i64 p] wr fun e w' => e = .returned (.tuple #[.int .i64 2, .int .i64 en]) ∧ w' = wr) := hrk
        have hp3' : p + en ≤ s.size := by rw [HP2.out] at hp3; exact hp3
        clear hst hp he hrk hup hle hp2 hq0 h35 hkr hp3 hlh hoh hkr6 h2
        go_wp2_with fail
        refine HRK.out.mono ?_
        rintro e w2 ⟨rfl, rfl⟩
        go_wp2_with (at_builtin; refine wpList_append_own _ rfl _ _ 27 rfl w1.heap.size 55 i0 _ 4 40 Tryd.underlying27 hi hz0 hz1 hz2 rfl (by decide) _ _ _ rfl (hown.alloc _) _ 1 1 [.int .i64 4, .int .i64 p, .string { data := #[] }, .int .i64 0] rfl rfl ?b1 ?b2 ?b3 ?b4 ?b5 ?_)
        try (case b1 => exact cell_four_new _ _ _ _ _ _)
        try (case b2 => first | exact ⟨rfl, rfl, rfl, rfl⟩ | rfl | (intro u hu; simp at hu; rcases hu with rfl | rfl | rfl | rfl <;> rfl))
        try (case b3 => unfold maxLen; omega)
        try (case b4 => omega)
        try (case b5 => first | omega | (simp; omega))
        intro v' w4 hown4 hgrow _
        have hb4 : Below w1.heap.size w1 w4 := Below.grown (hbel.alloc hsz _) hgrow (by simp; omega) (fun j hj => (hown.lt j hj).1)
        have HOW : Hid (w4.ownsRow w1.heap.size 55 4 v' (ts ++ [(⟨4, p, [], 0⟩ : Tk)]).length (cellsT (ts ++ [(⟨4, p, [], 0⟩ : Tk)]))) := own_snoc (t := (⟨4, p, [], 0⟩ : Tk)) hown4 rfl
        clear hgrow hown4 hown hi hz0 hz1 hz2
        go_wp2
        go_roundw
        case rel => exact ⟨k + 1, ts ++ [(⟨4, p, [], 0⟩ : Tk)], by omega, by rw [HP2.out]; try go_num, HOW.out, HST, by rw [List.length_append]; show ts.length + 1 ≤ _; omega, hb4⟩
        case measure => simp [RowKit.intOf]; omega
      · have hst := st_sign hlh hkr hup.out h35 h5
        have HP2 : Hid (posR rs (k + 1) = p + en) := by show _ = _; rw [hp2, hp, he]
        simp only [← hp] at hst hp1 hrk ⊢
        simp only [← he] at hrk hen
        rw [HP2.out] at hst
        have HST : Hid (Upto rs (k + 1) (ts ++ [⟨3, p, (s.extract p (p + en)).data.toList, 0⟩])) := hst
        rw [h5] at hrk
        have HRK : Hid (Calls Tryd.prog 22 #[.string s, .int .i64 p] wr fun e w' => e = .returned (.tuple #[.int .i64 5, .int .i64 en]) ∧ w' = wr) := hrk
        have hp3' : p + en ≤ s.size := by rw [HP2.out] at hp3; exact hp3
        clear hst hp he hrk hup hle hp2 hq0 h35 hkr hp3 hlh hoh hkr6 h5
        go_wp2_with fail
        refine HRK.out.mono ?_
        rintro e w2 ⟨rfl, rfl⟩
        go_wp2_with (at_builtin; refine wpList_append_own _ rfl _ _ 27 rfl w1.heap.size 55 i0 _ 4 40 Tryd.underlying27 hi hz0 hz1 hz2 rfl (by decide) _ _ _ rfl (hown.alloc _) _ 1 1 [.int .i64 3, .int .i64 p, .string (s.extract p (p + en)), .int .i64 0] rfl rfl ?c1 ?c2 ?c3 ?c4 ?c5 ?_)
        try (case c1 => exact cell_four_new _ _ _ _ _ _)
        try (case c2 => first | exact ⟨rfl, rfl, rfl, rfl⟩ | rfl | (intro u hu; simp at hu; rcases hu with rfl | rfl | rfl | rfl <;> rfl))
        try (case c3 => unfold maxLen; omega)
        try (case c4 => omega)
        try (case c5 => first | omega | (simp; omega))
        intro v' w4 hown4 hgrow _
        have hb4 : Below w1.heap.size w1 w4 := Below.grown (hbel.alloc hsz _) hgrow (by simp; omega) (fun j hj => (hown.lt j hj).1)
        have HOW : Hid (w4.ownsRow w1.heap.size 55 4 v' (ts ++ [(⟨3, p, (s.extract p (p + en)).data.toList, 0⟩ : Tk)]).length (cellsT (ts ++ [(⟨3, p, (s.extract p (p + en)).data.toList, 0⟩ : Tk)]))) := own_snoc (t := (⟨3, p, (s.extract p (p + en)).data.toList, 0⟩ : Tk)) hown4 rfl
        clear hgrow hown4 hown hi hz0 hz1 hz2
        go_wp2
        go_roundw
        case rel => exact ⟨k + 1, ts ++ [(⟨3, p, (s.extract p (p + en)).data.toList, 0⟩ : Tk)], by omega, by rw [HP2.out]; try go_num, HOW.out, HST, by rw [List.length_append]; show ts.length + 1 ≤ _; omega, hb4⟩
        case measure => simp [RowKit.intOf]; omega
      · have hst := st_blank hkr hup.out h35 h1
        have HP2 : Hid (posR rs (k + 1) = p + en) := by show _ = _; rw [hp2, hp, he]
        simp only [← hp] at hst hp1 hrk ⊢
        simp only [← he] at hrk hen
        skip
        have HST : Hid (Upto rs (k + 1) ts) := hst
        rw [h1] at hrk
        have HRK : Hid (Calls Tryd.prog 22 #[.string s, .int .i64 p] wr fun e w' => e = .returned (.tuple #[.int .i64 1, .int .i64 en]) ∧ w' = wr) := hrk
        have hp3' : p + en ≤ s.size := by rw [HP2.out] at hp3; exact hp3
        clear hst hp he hrk hup hle hp2 hq0 h35 hkr hp3 hlh hoh hkr6 h1
        go_wp2_with fail
        refine HRK.out.mono ?_
        rintro e w2 ⟨rfl, rfl⟩
        go_wp2
        go_roundw
        case rel => exact ⟨k + 1, ts, by omega, by rw [HP2.out]; try go_num, hown, HST, by omega, hbel⟩
        case measure => simp [RowKit.intOf]; omega
      · have hst := st_none hkr hup.out h35 h0
        have HP2 : Hid (posR rs (k + 1) = p + en) := by show _ = _; rw [hp2, hp, he]
        simp only [← hp] at hst hp1 hrk ⊢
        simp only [← he] at hrk hen
        skip
        have HST : Hid (LexT 0 rs ts (p, 3)) := hst
        rw [h0] at hrk
        have HRK : Hid (Calls Tryd.prog 22 #[.string s, .int .i64 p] wr fun e w' => e = .returned (.tuple #[.int .i64 0, .int .i64 en]) ∧ w' = wr) := hrk
        have hp3' : p + en ≤ s.size := by rw [HP2.out] at hp3; exact hp3
        clear hst hp he hrk hup hle hp2 hq0 h35 hkr hp3 hlh hoh hkr6 h0
        go_wp2_with fail
        refine HRK.out.mono ?_
        rintro e w2 ⟨rfl, rfl⟩
        go_wp2
        go_ret3
        exact ⟨hb1.trans (hbel.mono hb1.size), ts, (p, 3), HST.out, Or.inr ⟨by simp, rfl⟩⟩
      · have hst := st_digit hlh hkr hup.out h3
        have hdb := digit_bytes hlh hoh hkr h3
        have htd := txt_dig hkr h3
        have hbt : ∀ j (hj : j < s.size), posR rs k ≤ j → j < posR rs (toK rs k hkr) → s[j] = (txt rs k hkr).getD (j - posR rs k) 0 := fun j hj a b => (byte_txt hlh hkr a b hj).1
        have htl := txt_len hkr
        obtain ⟨T, hT⟩ : ∃ T, T = txt rs k hkr := ⟨_, rfl⟩
        obtain ⟨K, hK⟩ : ∃ K, K = toK rs k hkr := ⟨_, rfl⟩
        simp only [← hT, ← hK] at hst hdb htd hbt htl hq0 hle
        obtain ⟨q, hq⟩ : ∃ q, q = posR rs K := ⟨_, rfl⟩
        rw [hp2] at hq0
        simp only [← hp, ← hq] at hst hdb hbt htl hq0 hp1 hrk ⊢
        simp only [← he] at hrk hen hq0
        have HP2 : Hid (posR rs K = q) := hq.symm
        have HYES : Hid (q - p ≤ 9 → Upto rs K (ts ++ [⟨2, p, (s.extract p q).data.toList, digits T⟩])) := hst.1
        have HNO : Hid (9 < q - p → LexT 0 rs ts (p, 4)) := hst.2
        have HA : Hid (∀ j (hj : j < s.size), p ≤ j → j < q → 48 ≤ s[j].toNat ∧ s[j].toNat ≤ 57) := hdb.1
        have HE : Hid (∀ hj : q < s.size, ¬ (48 ≤ s[q].toNat ∧ s[q].toNat ≤ 57)) := hdb.2
        have HBT : Hid (∀ j (hj : j < s.size), p ≤ j → j < q → s[j] = T.getD (j - p) 0) := hbt
        have HTD : Hid (∀ b ∈ T, isDig b) := htd.2
        have HTL : Hid (T.length = q - p) := htl
        rw [h3] at hrk
        have HRK : Hid (Calls Tryd.prog 22 #[.string s, .int .i64 p] wr fun e w' => e = .returned (.tuple #[.int .i64 3, .int .i64 en]) ∧ w' = wr) := hrk
        have hKN : K ≤ N := by rw [HN.out]; exact hle.2
        have hkK := hle.1
        clear hst hdb hbt htd htl hp he hrk hup hle hp2 h35 hkr hp3 hlh hoh hkr6 h3 hT hK hq
        go_wp2_with fail
        refine HRK.out.mono ?_
        rintro e w2 ⟨rfl, rfl⟩
        go_wp2
        go_loop [12] (fun v => ∃ j : Nat, p + en ≤ j ∧ j ≤ q ∧ v = .int .i64 j) (fun v => q - (RowKit.intOf v).toNat)
        case atStart => exact ⟨p + en, Nat.le_refl _, hq0.1, by go_num⟩
        case round =>
          obtain ⟨j, hj1, hj2, rfl⟩ := hrel
          by_cases hjq : j < q
          · have hjs : j < s.size := by omega
            have hby := HA.out j hjs (by omega) hjq
            have b1 : decide ((48 : Int) ≤ (s[j].toNat : Int)) = true := decide_eq_true (by omega)
            have b2 : decide ((s[j].toNat : Int) ≤ (57 : Int)) = true := decide_eq_true (by omega)
            go_wp2
            go_round
            case rel => exact ⟨j + 1, by omega, by omega, by go_num⟩
            case measure => simp [RowKit.intOf]; omega
          · obtain rfl : j = q := by omega
            clear hjq
            by_cases hjs : j < s.size
            · have hby := HE.out hjs
              by_cases h48 : 48 ≤ s[j].toNat
              · have b1 : decide ((48 : Int) ≤ (s[j].toNat : Int)) = true := decide_eq_true (by omega)
                have b2 : decide ((s[j].toNat : Int) ≤ (57 : Int)) = false := decide_eq_false (by omega)
                clear hby h48
                clear HA HE
                by_cases h9 : 9 < j - p
                · have HLX : Hid (LexT 0 rs ts (p, 4)) := HNO.out h9
                  have b9 : (9 : Int) < (j : Int) - (p : Int) := by omega
                  clear HYES HNO
                  go_wp2
                  go_ret3
                  first | exact ⟨hb1.trans (hbel.mono hb1.size), ts, (p, 4), HLX.out, Or.inr ⟨by simp, rfl⟩⟩ | exact ⟨hb1.trans (hbel.mono hb1.size), ts, p, 4, HLX.out, Or.inr ⟨by simp, rfl⟩⟩
                · have HST : Hid (Upto rs K (ts ++ [⟨2, p, (s.extract p j).data.toList, digits T⟩])) := HYES.out (by omega)
                  have b9 : ¬ (9 : Int) < (j : Int) - (p : Int) := by omega
                  clear HYES HNO
                  go_wp2
                  go_loop [13, 14] (fun v i => ∃ x : Nat, p ≤ x ∧ x ≤ j ∧ i = .int .i64 x ∧ v = .int .i64 (digits (T.take (x - p)) : Nat)) (fun _ i => j - (RowKit.intOf i).toNat)
                  case atStart => exact ⟨p, Nat.le_refl _, by omega, rfl, by rw [Nat.sub_self]; rfl⟩
                  case round =>
                    obtain ⟨x, hx1, hx2, rfl, rfl⟩ := hrel
                    by_cases hxq : x < j
                    · have hxs : x < s.size := by omega
                      have hd1 : digits (T.take (x - p)) < 1000000000 := by
                        have h1 := digits_lt HTD.out (x - p) (by rw [HTL.out]; omega)
                        have h2 : 10 ^ (x - p) ≤ 10 ^ 9 := Nat.pow_le_pow_right (by omega) (by omega)
                        omega
                      have HD2 : Hid ((digits (T.take (x + 1 - p)) : Int) = (digits (T.take (x - p)) : Int) * 10 + (s[x].toNat : Int) - 48) := by
                        show _ = _
                        have h1 : x + 1 - p = x - p + 1 := by omega
                        have h2 := HBT.out x hxs hx1 hxq
                        have h3 : x - p < T.length := by rw [HTL.out]; omega
                        have h4 : 48 ≤ s[x].toNat := by
                          rw [h2, List.getD_eq_getElem?_getD, List.getElem?_eq_getElem h3]
                          exact (HTD.out _ (List.getElem_mem h3)).1
                        rw [h1, digits_take h3, ← h2]
                        omega
                      have hby : s[x].toNat < 256 := UInt8.toNat_lt s[x]
                      obtain ⟨dv, hdv⟩ : ∃ dv, dv = digits (T.take (x - p)) := ⟨_, rfl⟩
                      rw [← hdv] at hd1 HD2 ⊢
                      clear hdv
                      go_wp2
                      go_round
                      case rel => exact ⟨x + 1, by omega, by omega, by go_num, by rw [HD2.out]⟩
                      case measure => simp [RowKit.intOf]; omega
                    · obtain rfl : x = j := by omega
                      have HDT : Hid (T.take (x - p) = T) := by show _ = _; rw [← HTL.out, List.take_length]
                      rw [HDT.out]
                      clear hxq
                      go_wp2_with (at_builtin; refine wpList_append_own _ rfl _ _ 27 rfl w1.heap.size 55 i0 _ 4 40 Tryd.underlying27 hi hz0 hz1 hz2 rfl (by decide) _ _ _ rfl (hown.alloc _) _ 1 1 [.int .i64 2, .int .i64 p, .string (s.extract p x), .int .i64 (digits T : Nat)] rfl rfl ?d1 ?d2 ?d3 ?d4 ?d5 ?_)
                      try (case d1 => exact cell_four_new _ _ _ _ _ _)
                      try (case d2 => first | exact ⟨rfl, rfl, rfl, rfl⟩ | rfl | (intro u hu; simp at hu; rcases hu with rfl | rfl | rfl | rfl <;> rfl))
                      try (case d3 => unfold maxLen; omega)
                      try (case d4 => omega)
                      try (case d5 => first | omega | (simp; omega))
                      intro v' w4 hown4 hgrow _
                      have hb4 : Below w1.heap.size w1 w4 := Below.grown (hbel.alloc hsz _) hgrow (by simp; omega) (fun j hj => (hown.lt j hj).1)
                      have HOW : Hid (w4.ownsRow w1.heap.size 55 4 v' (ts ++ [(⟨2, p, (s.extract p x).data.toList, digits T⟩ : Tk)]).length (cellsT (ts ++ [(⟨2, p, (s.extract p x).data.toList, digits T⟩ : Tk)]))) := own_snoc (t := (⟨2, p, (s.extract p x).data.toList, digits T⟩ : Tk)) hown4 rfl
                      clear hgrow hown4 hown hi hz0 hz1 hz2
                      go_wp2
                      go_roundw
                      case rel => exact ⟨K, ts ++ [(⟨2, p, (s.extract p x).data.toList, digits T⟩ : Tk)], hKN, by rw [HP2.out]; try go_num, HOW.out, HST, by rw [List.length_append]; show ts.length + 1 ≤ _; omega, hb4⟩
                      case measure => simp [RowKit.intOf]; omega
              · have b1 : decide ((48 : Int) ≤ (s[j].toNat : Int)) = false := decide_eq_false (by omega)
                clear hby h48
                clear HA HE
                by_cases h9 : 9 < j - p
                · have HLX : Hid (LexT 0 rs ts (p, 4)) := HNO.out h9
                  have b9 : (9 : Int) < (j : Int) - (p : Int) := by omega
                  clear HYES HNO
                  go_wp2
                  go_ret3
                  first | exact ⟨hb1.trans (hbel.mono hb1.size), ts, (p, 4), HLX.out, Or.inr ⟨by simp, rfl⟩⟩ | exact ⟨hb1.trans (hbel.mono hb1.size), ts, p, 4, HLX.out, Or.inr ⟨by simp, rfl⟩⟩
                · have HST : Hid (Upto rs K (ts ++ [⟨2, p, (s.extract p j).data.toList, digits T⟩])) := HYES.out (by omega)
                  have b9 : ¬ (9 : Int) < (j : Int) - (p : Int) := by omega
                  clear HYES HNO
                  go_wp2
                  go_loop [13, 14] (fun v i => ∃ x : Nat, p ≤ x ∧ x ≤ j ∧ i = .int .i64 x ∧ v = .int .i64 (digits (T.take (x - p)) : Nat)) (fun _ i => j - (RowKit.intOf i).toNat)
                  case atStart => exact ⟨p, Nat.le_refl _, by omega, rfl, by rw [Nat.sub_self]; rfl⟩
                  case round =>
                    obtain ⟨x, hx1, hx2, rfl, rfl⟩ := hrel
                    by_cases hxq : x < j
                    · have hxs : x < s.size := by omega
                      have hd1 : digits (T.take (x - p)) < 1000000000 := by
                        have h1 := digits_lt HTD.out (x - p) (by rw [HTL.out]; omega)
                        have h2 : 10 ^ (x - p) ≤ 10 ^ 9 := Nat.pow_le_pow_right (by omega) (by omega)
                        omega
                      have HD2 : Hid ((digits (T.take (x + 1 - p)) : Int) = (digits (T.take (x - p)) : Int) * 10 + (s[x].toNat : Int) - 48) := by
                        show _ = _
                        have h1 : x + 1 - p = x - p + 1 := by omega
                        have h2 := HBT.out x hxs hx1 hxq
                        have h3 : x - p < T.length := by rw [HTL.out]; omega
                        have h4 : 48 ≤ s[x].toNat := by
                          rw [h2, List.getD_eq_getElem?_getD, List.getElem?_eq_getElem h3]
                          exact (HTD.out _ (List.getElem_mem h3)).1
                        rw [h1, digits_take h3, ← h2]
                        omega
                      have hby : s[x].toNat < 256 := UInt8.toNat_lt s[x]
                      obtain ⟨dv, hdv⟩ : ∃ dv, dv = digits (T.take (x - p)) := ⟨_, rfl⟩
                      rw [← hdv] at hd1 HD2 ⊢
                      clear hdv
                      go_wp2
                      go_round
                      case rel => exact ⟨x + 1, by omega, by omega, by go_num, by rw [HD2.out]⟩
                      case measure => simp [RowKit.intOf]; omega
                    · obtain rfl : x = j := by omega
                      have HDT : Hid (T.take (x - p) = T) := by show _ = _; rw [← HTL.out, List.take_length]
                      rw [HDT.out]
                      clear hxq
                      go_wp2_with (at_builtin; refine wpList_append_own _ rfl _ _ 27 rfl w1.heap.size 55 i0 _ 4 40 Tryd.underlying27 hi hz0 hz1 hz2 rfl (by decide) _ _ _ rfl (hown.alloc _) _ 1 1 [.int .i64 2, .int .i64 p, .string (s.extract p x), .int .i64 (digits T : Nat)] rfl rfl ?e1 ?e2 ?e3 ?e4 ?e5 ?_)
                      try (case e1 => exact cell_four_new _ _ _ _ _ _)
                      try (case e2 => first | exact ⟨rfl, rfl, rfl, rfl⟩ | rfl | (intro u hu; simp at hu; rcases hu with rfl | rfl | rfl | rfl <;> rfl))
                      try (case e3 => unfold maxLen; omega)
                      try (case e4 => omega)
                      try (case e5 => first | omega | (simp; omega))
                      intro v' w4 hown4 hgrow _
                      have hb4 : Below w1.heap.size w1 w4 := Below.grown (hbel.alloc hsz _) hgrow (by simp; omega) (fun j hj => (hown.lt j hj).1)
                      have HOW : Hid (w4.ownsRow w1.heap.size 55 4 v' (ts ++ [(⟨2, p, (s.extract p x).data.toList, digits T⟩ : Tk)]).length (cellsT (ts ++ [(⟨2, p, (s.extract p x).data.toList, digits T⟩ : Tk)]))) := own_snoc (t := (⟨2, p, (s.extract p x).data.toList, digits T⟩ : Tk)) hown4 rfl
                      clear hgrow hown4 hown hi hz0 hz1 hz2
                      go_wp2
                      go_roundw
                      case rel => exact ⟨K, ts ++ [(⟨2, p, (s.extract p x).data.toList, digits T⟩ : Tk)], hKN, by rw [HP2.out]; try go_num, HOW.out, HST, by rw [List.length_append]; show ts.length + 1 ≤ _; omega, hb4⟩
                      case measure => simp [RowKit.intOf]; omega
            · skip
              clear HA HE
              by_cases h9 : 9 < j - p
              · have HLX : Hid (LexT 0 rs ts (p, 4)) := HNO.out h9
                have b9 : (9 : Int) < (j : Int) - (p : Int) := by omega
                clear HYES HNO
                go_wp2
                go_ret3
                first | exact ⟨hb1.trans (hbel.mono hb1.size), ts, (p, 4), HLX.out, Or.inr ⟨by simp, rfl⟩⟩ | exact ⟨hb1.trans (hbel.mono hb1.size), ts, p, 4, HLX.out, Or.inr ⟨by simp, rfl⟩⟩
              · have HST : Hid (Upto rs K (ts ++ [⟨2, p, (s.extract p j).data.toList, digits T⟩])) := HYES.out (by omega)
                have b9 : ¬ (9 : Int) < (j : Int) - (p : Int) := by omega
                clear HYES HNO
                go_wp2
                go_loop [13, 14] (fun v i => ∃ x : Nat, p ≤ x ∧ x ≤ j ∧ i = .int .i64 x ∧ v = .int .i64 (digits (T.take (x - p)) : Nat)) (fun _ i => j - (RowKit.intOf i).toNat)
                case atStart => exact ⟨p, Nat.le_refl _, by omega, rfl, by rw [Nat.sub_self]; rfl⟩
                case round =>
                  obtain ⟨x, hx1, hx2, rfl, rfl⟩ := hrel
                  by_cases hxq : x < j
                  · have hxs : x < s.size := by omega
                    have hd1 : digits (T.take (x - p)) < 1000000000 := by
                      have h1 := digits_lt HTD.out (x - p) (by rw [HTL.out]; omega)
                      have h2 : 10 ^ (x - p) ≤ 10 ^ 9 := Nat.pow_le_pow_right (by omega) (by omega)
                      omega
                    have HD2 : Hid ((digits (T.take (x + 1 - p)) : Int) = (digits (T.take (x - p)) : Int) * 10 + (s[x].toNat : Int) - 48) := by
                      show _ = _
                      have h1 : x + 1 - p = x - p + 1 := by omega
                      have h2 := HBT.out x hxs hx1 hxq
                      have h3 : x - p < T.length := by rw [HTL.out]; omega
                      have h4 : 48 ≤ s[x].toNat := by
                        rw [h2, List.getD_eq_getElem?_getD, List.getElem?_eq_getElem h3]
                        exact (HTD.out _ (List.getElem_mem h3)).1
                      rw [h1, digits_take h3, ← h2]
                      omega
                    have hby : s[x].toNat < 256 := UInt8.toNat_lt s[x]
                    obtain ⟨dv, hdv⟩ : ∃ dv, dv = digits (T.take (x - p)) := ⟨_, rfl⟩
                    rw [← hdv] at hd1 HD2 ⊢
                    clear hdv
                    go_wp2
                    go_round
                    case rel => exact ⟨x + 1, by omega, by omega, by go_num, by rw [HD2.out]⟩
                    case measure => simp [RowKit.intOf]; omega
                  · obtain rfl : x = j := by omega
                    have HDT : Hid (T.take (x - p) = T) := by show _ = _; rw [← HTL.out, List.take_length]
                    rw [HDT.out]
                    clear hxq
                    go_wp2_with (at_builtin; refine wpList_append_own _ rfl _ _ 27 rfl w1.heap.size 55 i0 _ 4 40 Tryd.underlying27 hi hz0 hz1 hz2 rfl (by decide) _ _ _ rfl (hown.alloc _) _ 1 1 [.int .i64 2, .int .i64 p, .string (s.extract p x), .int .i64 (digits T : Nat)] rfl rfl ?f1 ?f2 ?f3 ?f4 ?f5 ?_)
                    try (case f1 => exact cell_four_new _ _ _ _ _ _)
                    try (case f2 => first | exact ⟨rfl, rfl, rfl, rfl⟩ | rfl | (intro u hu; simp at hu; rcases hu with rfl | rfl | rfl | rfl <;> rfl))
                    try (case f3 => unfold maxLen; omega)
                    try (case f4 => omega)
                    try (case f5 => first | omega | (simp; omega))
                    intro v' w4 hown4 hgrow _
                    have hb4 : Below w1.heap.size w1 w4 := Below.grown (hbel.alloc hsz _) hgrow (by simp; omega) (fun j hj => (hown.lt j hj).1)
                    have HOW : Hid (w4.ownsRow w1.heap.size 55 4 v' (ts ++ [(⟨2, p, (s.extract p x).data.toList, digits T⟩ : Tk)]).length (cellsT (ts ++ [(⟨2, p, (s.extract p x).data.toList, digits T⟩ : Tk)]))) := own_snoc (t := (⟨2, p, (s.extract p x).data.toList, digits T⟩ : Tk)) hown4 rfl
                    clear hgrow hown4 hown hi hz0 hz1 hz2
                    go_wp2
                    go_roundw
                    case rel => exact ⟨K, ts ++ [(⟨2, p, (s.extract p x).data.toList, digits T⟩ : Tk)], hKN, by rw [HP2.out]; try go_num, HOW.out, HST, by rw [List.length_append]; show ts.length + 1 ≤ _; omega, hb4⟩
                    case measure => simp [RowKit.intOf]; omega
      · have hst := st_word hlh hkr hup.out h35 h4
        have hbs := word_step hkr h35 h4
        have hKm := toK_is hkr
        obtain ⟨m, hm⟩ : ∃ m, m = (more rs[k] (rs.drop (k + 1))).length := ⟨_, Eq.refl _⟩
        rw [← hm] at hbs hKm
        obtain ⟨K, hK⟩ : ∃ K, K = toK rs k hkr := ⟨_, rfl⟩
        simp only [← hK] at hst hq0 hle hKm
        obtain ⟨q, hq⟩ : ∃ q, q = posR rs K := ⟨_, rfl⟩
        have HP1 : Hid (posR rs (k + 1) = p + en) := by show _ = _; rw [hp2, hp, he]
        rw [hp2] at hq0
        simp only [← hp, ← hq] at hst hq0 hp1 hrk ⊢
        simp only [← he] at hrk hen hq0
        have HP2 : Hid (posR rs K = q) := hq.symm
        have HYES : Hid (q - p ≤ 32 → Upto rs K (ts ++ [⟨1, p, (s.extract p q).data.toList, 0⟩])) := hst.1
        have HNO : Hid (32 < q - p → LexT 0 rs ts (p, 5)) := hst.2
        have HBS : Hid (∀ j, j ≤ m → ∀ hlt : k + 1 + j < rs.length, (j < m ∧ (kin rs[k + 1 + j] = 3 ∨ kin rs[k + 1 + j] = 4)) ∨ (j = m ∧ kin rs[k + 1 + j] ≠ 3 ∧ kin rs[k + 1 + j] ≠ 4)) := hbs
        have HKM : Hid (K = k + 1 + m) := hKm
        rw [h4] at hrk
        have HRK : Hid (Calls Tryd.prog 22 #[.string s, .int .i64 p] wr fun e w' => e = .returned (.tuple #[.int .i64 4, .int .i64 en]) ∧ w' = wr) := hrk
        have hKN : K ≤ N := by rw [HN.out]; exact hle.2
        have hkK := hle.1
        have hkm : k + 1 + m ≤ N := by rw [← hKm]; exact hKN
        have HRA : Hid (∀ j (hj : j < rs.length), Calls Tryd.prog 22 #[.string s, .int .i64 (posR rs j : Nat)] wr fun e w' => e = .returned (.tuple #[.int .i64 (kin rs[j]), .int .i64 ((enc rs[j]).length : Nat)]) ∧ w' = wr) := fun j hj => rkind_at s rs j wr hs hoh hlh hj
        clear hst hbs hp he hrk hup hle hp2 h35 hkr hp3 hoh hkr6 h4 hK hq hm hKm hlh
        go_wp2_with fail
        refine HRK.out.mono ?_
        rintro e w2 ⟨rfl, rfl⟩
        go_wp2
        go_loop [12] (fun v => ∃ j : Nat, j ≤ m ∧ v = .int .i64 (posR rs (k + 1 + j) : Nat)) (fun v => s.size - (RowKit.intOf v).toNat)
        case atStart => exact ⟨0, Nat.zero_le _, by rw [Nat.add_zero, HP1.out]; go_num⟩
        case round =>
          obtain ⟨j, hj, rfl⟩ := hrel
          by_cases hjN : k + 1 + j < N
          · have hjr : k + 1 + j < rs.length := by rw [← HN.out]; exact hjN
            obtain ⟨f1, f2, f3⟩ := posR_lt HL.out hjr
            have st := HBS.out j hj hjr
            have hkj := HRA.out (k + 1 + j) hjr
            have hej := enc_pos rs[k + 1 + j]
            obtain ⟨kx, hkx⟩ := ex_eq (kin rs[k + 1 + j])
            obtain ⟨ex, hex⟩ : ∃ ex, ex = (enc rs[k + 1 + j]).length := ⟨_, rfl⟩
            rw [← hkx] at st hkj
            rw [← hex] at hkj f2 hej
            have HF2 : Hid (posR rs (k + 1 + j + 1) = posR rs (k + 1 + j) + ex) := f2
            rw [f2] at f3
            have HPQ : Hid (j = m → posR rs (k + 1 + j) = q) := by show j = m → _; intro h; rw [h, ← HKM.out]; exact HP2.out
            obtain ⟨pj, hpj⟩ : ∃ pj, pj = posR rs (k + 1 + j) := ⟨_, rfl⟩
            rw [← hpj] at hkj f1 f3 HF2 HPQ ⊢
            have HKJ : Hid (Calls Tryd.prog 22 #[.string s, .int .i64 pj] w2 fun e w' => e = .returned (.tuple #[.int .i64 kx, .int .i64 ex]) ∧ w' = w2) := hkj
            clear hkx hex f2 hpj hkj
            rcases st with ⟨hjm, hk34⟩ | ⟨hjm, hn3, hn4⟩
            · rcases hk34 with rfl | rfl
              all_goals
                go_wp2_with fail
                refine HKJ.out.mono ?_
                rintro e w3 ⟨rfl, rfl⟩
                go_wp2
                go_round
                case rel => exact ⟨j + 1, by omega, by rw [← Nat.add_assoc, HF2.out]; go_num⟩
                case measure => simp [RowKit.intOf]; omega
            · have b3 : (kx != 3) = true := bne_iff_ne.2 hn3
              have b4 : (kx != 4) = true := bne_iff_ne.2 hn4
              obtain rfl : pj = q := HPQ.out hjm
              have m3 : ¬ kx = 3 := hn3
              have m4 : ¬ kx = 4 := hn4
              clear hn3 hn4 HPQ HF2
              go_wp2_with fail
              refine HKJ.out.mono ?_
              rintro e w3 ⟨rfl, rfl⟩
              by_cases h9 : 32 < pj - p
              · have HLX : Hid (LexT 0 rs ts (p, 5)) := HNO.out h9
                have b9 : (32 : Int) < (pj : Int) - (p : Int) := by omega
                clear HYES HNO
                go_wp2
                go_ret3
                first | exact ⟨hb1.trans (hbel.mono hb1.size), ts, (p, 5), HLX.out, Or.inr ⟨by simp, rfl⟩⟩ | exact ⟨hb1.trans (hbel.mono hb1.size), ts, p, 5, HLX.out, Or.inr ⟨by simp, rfl⟩⟩
              · have HST : Hid (Upto rs K (ts ++ [⟨1, p, (s.extract p pj).data.toList, 0⟩])) := HYES.out (by omega)
                have b9 : ¬ (32 : Int) < (pj : Int) - (p : Int) := by omega
                clear HYES HNO
                go_wp2_with (at_builtin; refine wpList_append_own _ rfl _ _ 27 rfl w1.heap.size 55 i0 _ 4 40 Tryd.underlying27 hi hz0 hz1 hz2 rfl (by decide) _ _ _ rfl (hown.alloc _) _ 1 1 [.int .i64 1, .int .i64 p, .string (s.extract p pj), .int .i64 0] rfl rfl ?g1 ?g2 ?g3 ?g4 ?g5 ?_)
                try (case g1 => exact cell_four_new _ _ _ _ _ _)
                try (case g2 => first | exact ⟨rfl, rfl, rfl, rfl⟩ | rfl | (intro u hu; simp at hu; rcases hu with rfl | rfl | rfl | rfl <;> rfl))
                try (case g3 => unfold maxLen; omega)
                try (case g4 => omega)
                try (case g5 => first | omega | (simp; omega))
                intro v' w4 hown4 hgrow _
                have hb4 : Below w1.heap.size w1 w4 := Below.grown (hbel.alloc hsz _) hgrow (by simp; omega) (fun j hj => (hown.lt j hj).1)
                have HOW : Hid (w4.ownsRow w1.heap.size 55 4 v' (ts ++ [(⟨1, p, (s.extract p pj).data.toList, 0⟩ : Tk)]).length (cellsT (ts ++ [(⟨1, p, (s.extract p pj).data.toList, 0⟩ : Tk)]))) := own_snoc (t := (⟨1, p, (s.extract p pj).data.toList, 0⟩ : Tk)) hown4 rfl
                clear hgrow hown4 hown hi hz0 hz1 hz2
                go_wp2
                go_roundw
                case rel => exact ⟨K, ts ++ [(⟨1, p, (s.extract p pj).data.toList, 0⟩ : Tk)], hKN, by rw [HP2.out]; try go_num, HOW.out, HST, by rw [List.length_append]; show ts.length + 1 ≤ _; omega, hb4⟩
                case measure => simp [RowKit.intOf]; omega
          · have hqs : posR rs (k + 1 + j) = s.size ∧ j = m := by
              have h1 : k + 1 + j = N := by omega
              refine ⟨?_, by omega⟩
              rw [h1, HN.out]
              exact HEND.out
            have hq2 : q = s.size := by rw [← HP2.out, HKM.out, ← hqs.2]; exact hqs.1
            rw [hqs.1]
            clear hqs
            subst hq2
            by_cases h9 : 32 < s.size - p
            · have HLX : Hid (LexT 0 rs ts (p, 5)) := HNO.out h9
              have b9 : (32 : Int) < (s.size : Int) - (p : Int) := by omega
              clear HYES HNO
              go_wp2
              go_ret3
              first | exact ⟨hb1.trans (hbel.mono hb1.size), ts, (p, 5), HLX.out, Or.inr ⟨by simp, rfl⟩⟩ | exact ⟨hb1.trans (hbel.mono hb1.size), ts, p, 5, HLX.out, Or.inr ⟨by simp, rfl⟩⟩
            · have HST : Hid (Upto rs K (ts ++ [⟨1, p, (s.extract p s.size).data.toList, 0⟩])) := HYES.out (by omega)
              have b9 : ¬ (32 : Int) < (s.size : Int) - (p : Int) := by omega
              clear HYES HNO
              go_wp2_with (at_builtin; refine wpList_append_own _ rfl _ _ 27 rfl w1.heap.size 55 i0 _ 4 40 Tryd.underlying27 hi hz0 hz1 hz2 rfl (by decide) _ _ _ rfl (hown.alloc _) _ 1 1 [.int .i64 1, .int .i64 p, .string (s.extract p s.size), .int .i64 0] rfl rfl ?h1 ?h2 ?h3 ?h4 ?h5 ?_)
              try (case h1 => exact cell_four_new _ _ _ _ _ _)
              try (case h2 => first | exact ⟨rfl, rfl, rfl, rfl⟩ | rfl | (intro u hu; simp at hu; rcases hu with rfl | rfl | rfl | rfl <;> rfl))
              try (case h3 => unfold maxLen; omega)
              try (case h4 => omega)
              try (case h5 => first | omega | (simp; omega))
              intro v' w4 hown4 hgrow _
              have hb4 : Below w1.heap.size w1 w4 := Below.grown (hbel.alloc hsz _) hgrow (by simp; omega) (fun j hj => (hown.lt j hj).1)
              have HOW : Hid (w4.ownsRow w1.heap.size 55 4 v' (ts ++ [(⟨1, p, (s.extract p s.size).data.toList, 0⟩ : Tk)]).length (cellsT (ts ++ [(⟨1, p, (s.extract p s.size).data.toList, 0⟩ : Tk)]))) := own_snoc (t := (⟨1, p, (s.extract p s.size).data.toList, 0⟩ : Tk)) hown4 rfl
              clear hgrow hown4 hown hi hz0 hz1 hz2
              go_wp2
              go_roundw
              case rel => exact ⟨K, ts ++ [(⟨1, p, (s.extract p s.size).data.toList, 0⟩ : Tk)], hKN, by rw [HP2.out]; try go_num, HOW.out, HST, by rw [List.length_append]; show ts.length + 1 ≤ _; omega, hb4⟩
              case measure => simp [RowKit.intOf]; omega
    · obtain rfl : k = N := by omega
      have HU : Hid (Upto rs rs.length ts) := by rw [← HN.out]; exact hup
      have hpe : posR rs k = s.size := by rw [HN.out]; exact HEND.out
      rw [hpe]
      clear hup hpe
      go_wp2
      go_ret3
      refine ⟨hb1.trans (hbel.mono hb1.size), ts, (0, 0), upto_end HU.out, Or.inl ⟨rfl, _, rfl, own_lower hown hb1.size⟩⟩
end Go.Proofs.YtfklgicmhbkoiaaDoor
