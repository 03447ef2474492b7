/-
  carcanetlaw02.LexRemark answers true for every two texts, and writes nothing that was there.
-/
import Derived.Test.YtfklgicmhbkoiaaDoorLexCall
import Derived.Test.YtfklgicmhbkoiaaDoorRefDec
import Derived.Deep.DeepCutAuto
namespace Go.Proofs.YtfklgicmhbkoiaaDoor
open Go.RowKit Go.Lib

theorem kin_two_is {r : Nat} (h : kin r = 2) : r = 10 := by
  unfold kin at h
  repeat' split at h
  all_goals omega
theorem remark_tail {rc : List Nat} (h : ∀ x ∈ rc, kin x ≠ 2) : Tail (35 :: rc) := by
  have hm : more 35 rc = rc := by
    have hg : ∀ x ∈ rc, goes 35 (kin x) = true := by
      intro x hx
      have := h x hx
      unfold goes
      rw [if_pos rfl]
      simpa using this
    unfold more
    clear h
    induction rc with
    | nil => rfl
    | cons x t ih => rw [List.takeWhile_cons, if_pos (hg x (by simp)), ih (fun y hy => hg y (by simp [hy]))]
  refine ⟨fun x hx => ?_, fun x t hx => ?_, fun q => ?_⟩
  · rcases List.mem_cons.1 hx with rfl | hx
    · rw [kin_hash]; decide
    · exact h x hx
  · cases hx
    rw [kin_hash]; decide
  · refine LexT.skip q 35 rc _ _ (by decide) ?_
    rw [hm, List.drop_length]
    exact LexT.nil _
theorem no_line {c : ByteArray} {rc : List Nat} (hl : c.data.toList = flat rc) (h : ∀ j (hj : j < c.size), c[j].toNat ≠ 10) : ∀ x ∈ rc, kin x ≠ 2 := by
  intro x hx hk
  have hx10 := kin_two_is hk
  subst hx10
  have hm : (10 : UInt8) ∈ flat rc := by
    unfold flat
    refine List.mem_flatten.2 ⟨enc 10, List.mem_map.2 ⟨10, hx, rfl⟩, ?_⟩
    rw [enc1 (by omega)]
    simp
  rw [← hl] at hm
  obtain ⟨j, hj, he⟩ := List.getElem_of_mem hm
  have hj2 : j < c.size := by rw [← size_data]; exact hj
  have : c[j] = 10 := by
    rw [← he]; rfl
  exact h j hj2 (by rw [this]; rfl)

set_option maxHeartbeats 2000000 in
set_option maxRecDepth 100000 in
theorem remark_law (s t : ByteArray) (w : World) (hs : s.size ≤ maxLen) (ht : t.size ≤ maxLen) : Calls Tryd.prog 7 #[.string s, .string t] w fun e w' => e = .returned (.bool true) ∧ Below w.heap.size w w' := by
  unfold maxLen at hs ht
  go_enter Tryd.func7, Tryd.ntmps7
  go_wp2_with fail
  refine (shown_any _).mono ?_
  rintro e w1 ⟨rfl, hb⟩
  go_upto_region 2 with fail
  go_cut [0] (fun v wx => ∃ s1 : ByteArray, v = .string s1 ∧ s1.size ≤ 1000 ∧ wx = w1)
  case first =>
    go_wp2
    all_goals go_meet
    case rel => exact ⟨_, rfl, by rw [ByteArray.size_extract]; omega, rfl⟩
  case rest =>
  obtain ⟨s1, rfl, hs1, rfl⟩ := hcut
  obtain ⟨wc1, hwc1⟩ : ∃ x, x = wc := ⟨_, rfl⟩
  rw [← hwc1] at hb ⊢
  clear hwc1
  go_upto_region 3 with fail
  go_cut [1] (fun v wx => ∃ t1 : ByteArray, v = .string t1 ∧ t1.size ≤ 1000 ∧ wx = wc1)
  case first =>
    go_wp2
    all_goals go_meet
    case rel => exact ⟨_, rfl, by rw [ByteArray.size_extract]; omega, rfl⟩
  case rest =>
  obtain ⟨c, rfl, hc1, rfl⟩ := hcut
  clear hs ht
  obtain ⟨rc, rest, hl, hok, hn⟩ := runs_of _ c.data.toList (Nat.le_refl _)
  have hd : ∀ W, Calls Tryd.prog 16 #[.string c] W fun e w' => (∃ v p, ∃ m : Nat, (m = 2 ∨ (m = 0 ∧ rest = [])) ∧ e = .returned (.tuple #[v, .int .i64 p, .int .i64 m])) ∧ Below W.heap.size W w' := by
    intro W
    refine (refDecode_calls c rc rest W (by omega) hok hl hn).mono ?_
    rintro e w' ⟨hb, ⟨hr, v, rfl, _⟩ | ⟨hr, rfl⟩⟩
    · exact ⟨⟨_, _, 0, Or.inr ⟨rfl, hr⟩, rfl⟩, hb⟩
    · exact ⟨⟨_, _, 2, Or.inl rfl, rfl⟩, hb⟩
  have HD : Hid (∀ W, Calls Tryd.prog 16 #[.string c] W fun e w' => (∃ v p, ∃ m : Nat, (m = 2 ∨ (m = 0 ∧ rest = [])) ∧ e = .returned (.tuple #[v, .int .i64 p, .int .i64 m])) ∧ Below W.heap.size W w') := hd
  have HL : Hid (c.data.toList = flat rc ++ rest) := hl
  have HO : Hid (∀ r ∈ rc, okR r) := hok
  clear hd hl hok hn
  go_wp2_with fail
  refine (HD.out _).mono ?_
  rintro e w2 ⟨⟨v0, p0, m0, hm0, rfl⟩, hb2⟩
  have HM0 : Hid (m0 = 2 ∨ (m0 = 0 ∧ rest = [])) := hm0
  clear hm0 HD
  go_wp2
  go_loop [8, 9] (fun v i => ∃ k m : Nat, k ≤ c.size ∧ i = .int .i64 k ∧ v = .int .i64 m ∧ Hid (m = 2 ∨ (m = m0 ∧ ∀ j (_ : j < k) (hj : j < c.size), c[j].toNat ≠ 10))) (fun _ i => c.size - (RowKit.intOf i).toNat)
  case atStart => exact ⟨0, m0, Nat.zero_le _, rfl, rfl, Or.inr ⟨rfl, fun j hj => by omega⟩⟩
  case round =>
    obtain ⟨k, m, hk, rfl, rfl, hm⟩ := hrel
    by_cases hlt : k < c.size
    · go_wp2
      · go_round
        case rel => exact ⟨k + 1, 2, by omega, by go_num, rfl, Or.inl rfl⟩
        case measure => simp [RowKit.intOf]; omega
      · rename_i hne
        have HNE : Hid (c[k].toNat ≠ 10) := by
          show c[k].toNat ≠ 10
          have := beq_eq_false_iff_ne.1 hne
          omega
        clear hne
        go_round
        case rel =>
          refine ⟨k + 1, m, by omega, by go_num, rfl, ?_⟩
          rcases hm.out with h | ⟨h, hall⟩
          · exact Or.inl h
          · refine Or.inr ⟨h, fun j hj hjc => ?_⟩
            rcases Nat.lt_or_ge j k with hjk | hjk
            · exact hall j hjk hjc
            · obtain rfl : j = k := by omega
              exact HNE.out
        case measure => simp [RowKit.intOf]; omega
    · obtain rfl : k = c.size := by omega
      clear hlt hk
      by_cases hz : m = 0
      · subst hz
        have hres : rest = [] ∧ ∀ x ∈ rc, kin x ≠ 2 := by
          rcases hm.out with h | ⟨h, hall⟩
          · omega
          · rcases HM0.out with h2 | ⟨_, hr⟩
            · omega
            · refine ⟨hr, ?_⟩
              have hl := HL.out
              rw [hr, List.append_nil] at hl
              exact no_line hl (fun j hj => hall j hj hj)
        obtain ⟨rfl, hkin⟩ := hres
        have hl2 : c.data.toList = flat rc := by have := HL.out; rwa [List.append_nil] at this
        have hok := HO.out
        have htl := remark_tail hkin
        have hjs : (s1 ++ ⟨#[35]⟩ ++ c).size ≤ 1000000 := by rw [size_join, size_join]; show s1.size + 1 + c.size ≤ _; omega
        have hjl : ∀ rs, s1.data.toList = flat rs → (s1 ++ ⟨#[35]⟩ ++ c).data.toList = flat (rs ++ 35 :: rc) := by
          intro rs hl1
          rw [data_join, data_join, hl1, hl2, flat_append, flat_cons, List.append_assoc]
          have h1 : enc 35 = [35] := by rw [enc1 (by omega)]; rfl
          rw [h1]
        have hjo : ∀ rs, (∀ r ∈ rs, okR r) → ∀ r ∈ rs ++ 35 :: rc, okR r := by
          intro rs h r hr
          rcases List.mem_append.1 hr with hr | hr
          · exact h r hr
          · rcases List.mem_cons.1 hr with rfl | hr
            · exact Or.inl (by omega)
            · exact hok r hr
        clear hm HM0 HL HO hkin
        rcases lex_cases s1 (by omega) with ⟨rs, ts, ho, hl, hx⟩ | ⟨rs, ts, p, er, ho, hl, hx, he, he2, hp, he5, hcs⟩ | ⟨p, hp, _, hcs⟩
        · have hL : ts.length ≤ 1000 := by have := hx.len; have := flat_len rs; have := size_data s1; rw [hl] at this; omega
          have HX1 : Hid (∀ W, Calls Tryd.prog 11 #[.string s1] W fun e w' => ∃ a cap, e = .returned (.tuple #[.slice a ts.length cap, .int .i64 0, .int .i64 0]) ∧ TksAt w' a ts ∧ Below W.heap.size W w') := fun W => lex_toks s1 rs ts W (by omega) ho hl hx
          have HX2 : Hid (∀ W, Calls Tryd.prog 11 #[.string (s1 ++ ⟨#[35]⟩ ++ c)] W fun e w' => ∃ a cap, e = .returned (.tuple #[.slice a ts.length cap, .int .i64 0, .int .i64 0]) ∧ TksAt w' a ts ∧ Below W.heap.size W w') := fun W => lex_toks _ _ ts W hjs (hjo rs ho) (hjl rs hl) (hx.tail htl)
          clear hx ho hl hjl hjo htl hok hl2
          obtain ⟨n1, e1⟩ : ∃ n1, n1 = ts.length := ⟨_, rfl⟩
          rw [← e1] at HX1 HX2 hL
          have E1 : Hid (n1 = ts.length) := e1
          clear e1
          go_wp2_with fail
          refine (HX1.out _).mono ?_
          rintro e w3 ⟨a1, c1, rfl, ht1, hb3⟩
          have T1 : Hid (TksAt w3 a1 ts) := ht1
          clear ht1
          go_wp2_with fail
          refine (HX2.out _).mono ?_
          rintro e w4 ⟨a2, c2, rfl, ht2, hb4⟩
          have T2 : Hid (TksAt w4 a2 ts) := ht2
          have T1' : Hid (TksAt w4 a1 ts) := T1.out.below hb4
          have hbw : Below w.heap.size w w4 := hb.trans ((hb2.trans ((hb3.trans (hb4.mono hb3.size)).mono hb2.size)).mono hb.size)
          clear ht2 hb2 hb3 hb4 T1 HX1 HX2
          go_wp2
          go_loopw [16] (fun i wr => ∃ j : Nat, j ≤ n1 ∧ i = .int .i64 j ∧ Below w4.heap.size w4 wr) (fun i _ => n1 - (RowKit.intOf i).toNat)
          case atStart => exact ⟨0, Nat.zero_le _, rfl, Below.refl _ _⟩
          case round =>
            obtain ⟨j, hj, rfl, hbr⟩ := hrel
            by_cases hlt : j < n1
            · have hjr : j < ts.length := by rw [← E1.out]; exact hlt
              obtain ⟨g1, rfl, hg1, hc1⟩ := T1'.out (by omega)
              obtain ⟨g2, rfl, hg2, hc2⟩ := T2.out (by omega)
              have d := hc1 j hjr
              have f := hc2 j hjr
              obtain ⟨x, hx⟩ : ∃ x, x = ts[j] := ⟨_, rfl⟩
              rw [← hx] at d f
              obtain ⟨d0, d1, d2, d3⟩ := d
              obtain ⟨f0, f1, f2, f3⟩ := f
              have d0' := (hbr.cell (p := ⟨g1, j * 4, none⟩) hg1).trans d0
              have d1' := (hbr.cell (p := ⟨g1, j * 4 + 1, none⟩) hg1).trans d1
              have d2' := (hbr.cell (p := ⟨g1, j * 4 + 2, none⟩) hg1).trans d2
              have d3' := (hbr.cell (p := ⟨g1, j * 4 + 3, none⟩) hg1).trans d3
              have f0' := (hbr.cell (p := ⟨g2, j * 4, none⟩) hg2).trans f0
              have f1' := (hbr.cell (p := ⟨g2, j * 4 + 1, none⟩) hg2).trans f1
              have f2' := (hbr.cell (p := ⟨g2, j * 4 + 2, none⟩) hg2).trans f2
              have f3' := (hbr.cell (p := ⟨g2, j * 4 + 3, none⟩) hg2).trans f3
              clear hx hjr hc1 hc2 d0 d1 d2 d3 f0 f1 f2 f3
              have q1 : (j : Int) < (n1 : Int) := by omega
              go_wp2
              go_quiet (fail)
              go_wp2
              go_roundw
              case rel => exact ⟨j + 1, by omega, by go_num, below_drewN hbr _⟩
              case measure => simp [RowKit.intOf]; omega
            · go_wp2
              go_ret
              exact ⟨rfl, hbw.trans (hbr.mono hbw.size)⟩
        · have HCS : Hid (∀ W, Calls Tryd.prog 11 #[.string s1] W fun e w' => e = .returned (.tuple #[.slice none 0 0, .int .i64 p, .int .i64 er]) ∧ Below W.heap.size W w') := hcs
          have HX2 : Hid (∀ W, Calls Tryd.prog 11 #[.string (s1 ++ ⟨#[35]⟩ ++ c)] W fun e w' => e = .returned (.tuple #[.slice none 0 0, .int .i64 p, .int .i64 er]) ∧ Below W.heap.size W w') := fun W => lex_errs _ _ ts p er W hjs (hjo rs ho) (hjl rs hl) (hx.tail htl) he
          have z1 : ((er : Int) == 0) = false := beq_eq_false_iff_ne.2 (by omega)
          have z2 : ((er : Int) == 2) = false := beq_eq_false_iff_ne.2 (by omega)
          clear hx ho hl hjl hjo htl hok hl2 hcs
          go_wp2_with fail
          refine (HCS.out _).mono ?_
          rintro e w3 ⟨rfl, hb3⟩
          go_wp2_with fail
          refine (HX2.out _).mono ?_
          rintro e w4 ⟨rfl, hb4⟩
          go_wp2
          go_ret
          exact ⟨ret_bool (show ((er : Int) != 0) = true by simp [bne, z1]), hb.trans ((hb2.trans ((hb3.trans (hb4.mono hb3.size)).mono hb2.size)).mono hb.size)⟩
        · have HCS : Hid (∀ W, Calls Tryd.prog 11 #[.string s1] W fun e w' => e = .returned (.tuple #[.slice none 0 0, .int .i64 p, .int .i64 2]) ∧ Below W.heap.size W w') := hcs
          clear hjl hjo htl hok hl2 hcs
          go_wp2_with fail
          refine (HCS.out _).mono ?_
          rintro e w3 ⟨rfl, hb3⟩
          go_wp2_with fail
          refine (lex_gen _ _ hjs).mono ?_
          rintro e w4 ⟨⟨v, p3, er3, _, rfl⟩, hb4⟩
          go_wp2
          go_ret
          exact ⟨rfl, hb.trans ((hb2.trans ((hb3.trans (hb4.mono hb3.size)).mono hb2.size)).mono hb.size)⟩
      · have z1 : ((m : Int) == 0) = false := beq_eq_false_iff_ne.2 (by omega)
        clear hm HM0 HL HO
        go_wp2
        go_ret
        exact ⟨rfl, hb.trans (hb2.mono hb.size)⟩

end Go.Proofs.YtfklgicmhbkoiaaDoor
