/-
  carcanetlaw02.LexLines answers true for every two texts, and writes nothing that was there.
-/
import Derived.Test.YtfklgicmhbkoiaaDoorLexCall
import Derived.Deep.DeepCutAuto
namespace Go.Proofs.YtfklgicmhbkoiaaDoor
open Go.RowKit Go.Lib

theorem map_shift_at {tt : List Tk} {d j : Nat} (h : j < tt.length) (h2 : j < (tt.map (shiftT d)).length) : (tt.map (shiftT d))[j] = shiftT d tt[j] := List.getElem_map _

/-- The cells of the tokens of two lines, in memory. -/
theorem lines_at {w : World} {a : Option Addr} {ts tt : List Tk} {d : Nat} {E : Tk} (h : TksAt w a (ts ++ E :: tt.map (shiftT d))) :
    ∃ g, a = some ⟨g, 0, none⟩ ∧ g < w.heap.size ∧
      (∀ k (hk : k < ts.length), w.cell? ⟨g, k * 4, none⟩ = some (.int .i64 (ts[k].kind : Nat)) ∧ w.cell? ⟨g, k * 4 + 1, none⟩ = some (.int .i64 (ts[k].pos : Nat)) ∧ w.cell? ⟨g, k * 4 + 2, none⟩ = some (.string ⟨ts[k].text.toArray⟩) ∧ w.cell? ⟨g, k * 4 + 3, none⟩ = some (.int .i64 (ts[k].num : Nat))) ∧
      (w.cell? ⟨g, ts.length * 4, none⟩ = some (.int .i64 (E.kind : Nat)) ∧ w.cell? ⟨g, ts.length * 4 + 1, none⟩ = some (.int .i64 (E.pos : Nat)) ∧ w.cell? ⟨g, ts.length * 4 + 2, none⟩ = some (.string ⟨E.text.toArray⟩) ∧ w.cell? ⟨g, ts.length * 4 + 3, none⟩ = some (.int .i64 (E.num : Nat))) ∧
      (∀ j (hj : j < tt.length), w.cell? ⟨g, (ts.length + 1 + j) * 4, none⟩ = some (.int .i64 (tt[j].kind : Nat)) ∧ w.cell? ⟨g, (ts.length + 1 + j) * 4 + 1, none⟩ = some (.int .i64 (tt[j].pos + d : Nat)) ∧ w.cell? ⟨g, (ts.length + 1 + j) * 4 + 2, none⟩ = some (.string ⟨tt[j].text.toArray⟩) ∧ w.cell? ⟨g, (ts.length + 1 + j) * 4 + 3, none⟩ = some (.int .i64 (tt[j].num : Nat))) := by
  obtain ⟨g, ha, hg, hc⟩ := h (by simp; omega)
  refine ⟨g, ha, hg, fun k hk => ?_, ?_, fun j hj => ?_⟩
  · have := hc k (by simp; omega)
    rw [List.getElem_append_left hk] at this
    exact this
  · have := hc ts.length (by simp)
    rw [List.getElem_append_right (Nat.le_refl _)] at this
    simpa using this
  · have := hc (ts.length + 1 + j) (by simp; omega)
    rw [List.getElem_append_right (by omega)] at this
    have e : ts.length + 1 + j - ts.length = j + 1 := by omega
    simp only [e, List.getElem_cons_succ] at this
    rw [map_shift_at hj] at this
    exact this

set_option maxHeartbeats 2000000 in
set_option maxRecDepth 100000 in
theorem lines_law (s t : ByteArray) (w : World) (hs : s.size ≤ maxLen) (ht : t.size ≤ maxLen) : Calls Tryd.prog 8 #[.string s, .string t] w fun e w' => e = .returned (.bool true) ∧ Below w.heap.size w w' := by
  unfold maxLen at hs ht
  go_enter Tryd.func8, Tryd.ntmps8
  go_wp2_with fail
  refine (shown_any _).mono ?_
  rintro e w1 ⟨rfl, hb⟩
  go_upto_region 2 with fail
  go_cut [0] (fun v wx => ∃ s1 : ByteArray, v = .string s1 ∧ s1.size ≤ 1000 ∧ wx = w1)
  case first =>
    go_wp2
    all_goals go_meet
    case rel => exact ⟨_, rfl, by rw [ByteArray.size_extract]; omega, rfl⟩
  case rest =>
  obtain ⟨s1, rfl, hs1, rfl⟩ := hcut
  obtain ⟨wc1, hwc1⟩ : ∃ x, x = wc := ⟨_, rfl⟩
  rw [← hwc1] at hb ⊢
  clear hwc1
  go_upto_region 3 with fail
  go_cut [1] (fun v wx => ∃ t1 : ByteArray, v = .string t1 ∧ t1.size ≤ 1000 ∧ wx = wc1)
  case first =>
    go_wp2
    all_goals go_meet
    case rel => exact ⟨_, rfl, by rw [ByteArray.size_extract]; omega, rfl⟩
  case rest =>
  obtain ⟨t1, rfl, ht1, rfl⟩ := hcut
  clear hs ht
  have gen : ∀ (x : ByteArray) (W : World), x.size ≤ 1000 → Calls Tryd.prog 11 #[.string x] W fun e w' => (∃ v p, ∃ er : Nat, er ≤ 5 ∧ e = .returned (.tuple #[v, .int .i64 p, .int .i64 er])) ∧ Below W.heap.size W w' := by
    intro x W hx
    rcases lex_cases x (by omega) with ⟨rs, ts, h1, h2, h3⟩ | ⟨rs, ts, p, er, _, _, _, _, _, _, h5, h⟩ | ⟨p, _, _, h⟩
    · refine (lex_toks x rs ts W (by omega) h1 h2 h3).mono ?_
      rintro e w' ⟨a, cap, rfl, _, hb⟩
      exact ⟨⟨_, _, 0, by omega, rfl⟩, hb⟩
    · refine (h W).mono ?_
      rintro e w' ⟨rfl, hb⟩
      exact ⟨⟨_, _, er, h5, rfl⟩, hb⟩
    · refine (h W).mono ?_
      rintro e w' ⟨rfl, hb⟩
      exact ⟨⟨_, _, 2, by omega, rfl⟩, hb⟩
  have bad : ∀ (x : ByteArray), x.size ≤ 1000 → (∃ rs ts, (∀ r ∈ rs, okR r) ∧ x.data.toList = flat rs ∧ LexT 0 rs ts (0, 0)) ∨ (∃ p er : Nat, 0 < er ∧ ∀ W, Calls Tryd.prog 11 #[.string x] W fun e w' => e = .returned (.tuple #[.slice none 0 0, .int .i64 p, .int .i64 er]) ∧ Below W.heap.size W w') := by
    intro x hx
    rcases lex_cases x (by omega) with h | ⟨rs, ts, p, er, _, _, _, h0, _, _, h5, h⟩ | ⟨p, _, _, h⟩
    · exact Or.inl h
    · exact Or.inr ⟨p, er, by omega, h⟩
    · exact Or.inr ⟨p, 2, by omega, h⟩
  have GEN : Hid (∀ (x : ByteArray) (W : World), x.size ≤ 1000 → Calls Tryd.prog 11 #[.string x] W fun e w' => (∃ v p, ∃ er : Nat, er ≤ 5 ∧ e = .returned (.tuple #[v, .int .i64 p, .int .i64 er])) ∧ Below W.heap.size W w') := gen
  clear gen
  rcases bad s1 hs1 with ⟨rs, ts, ho1, hl1, hx1⟩ | ⟨p, er, he, hcs⟩
  · rcases bad t1 ht1 with ⟨rt, tt, ho2, hl2, hx2⟩ | ⟨p, er, he, hct⟩
    · have hn1 : (flat rs).length = s1.size := by rw [← hl1, size_data]
      have hn2 : (flat rt).length = t1.size := by rw [← hl2, size_data]
      have hL1 : ts.length ≤ 1000 := by have := hx1.len; have := flat_len rs; omega
      have hL2 : tt.length ≤ 1000 := by have := hx2.len; have := flat_len rt; omega
      have hpos := hx2.pos
      have HPOS : Hid (∀ x ∈ tt, x.pos ≤ 1000) := fun x hx => by have := hpos x hx; omega
      clear hpos
      have hxa := tokens_lines hx1 hx2
      rw [hn1] at hxa
      have HX1 : Hid (∀ W, Calls Tryd.prog 11 #[.string s1] W fun e w' => ∃ a cap, e = .returned (.tuple #[.slice a ts.length cap, .int .i64 0, .int .i64 0]) ∧ TksAt w' a ts ∧ Below W.heap.size W w') := fun W => lex_toks s1 rs ts W (by omega) ho1 hl1 hx1
      have HX2 : Hid (∀ W, Calls Tryd.prog 11 #[.string t1] W fun e w' => ∃ a cap, e = .returned (.tuple #[.slice a tt.length cap, .int .i64 0, .int .i64 0]) ∧ TksAt w' a tt ∧ Below W.heap.size W w') := fun W => lex_toks t1 rt tt W (by omega) ho2 hl2 hx2
      have hlj : (s1 ++ ⟨#[10]⟩ ++ t1).data.toList = flat (rs ++ 10 :: rt) := by
        rw [data_join, data_join, hl1, hl2, flat_append, flat_cons, List.append_assoc]
        have h1 : enc 10 = [10] := by rw [enc1 (by omega)]; rfl
        rw [h1]
      have hoj : ∀ r ∈ rs ++ 10 :: rt, okR r := by
        intro r hr
        rcases List.mem_append.1 hr with h | h
        · exact ho1 r h
        · rcases List.mem_cons.1 h with rfl | h
          · exact Or.inl (by omega)
          · exact ho2 r h
      have HX3 : Hid (∀ W, Calls Tryd.prog 11 #[.string (s1 ++ ⟨#[10]⟩ ++ t1)] W fun e w' => ∃ a cap, e = .returned (.tuple #[.slice a (ts.length + 1 + tt.length : Nat) cap, .int .i64 0, .int .i64 0]) ∧ TksAt w' a (ts ++ ⟨4, s1.size, [], 0⟩ :: tt.map (shiftT (s1.size + 1))) ∧ Below W.heap.size W w') := by
        show ∀ W, _
        intro W
        have := lex_toks (s1 ++ ⟨#[10]⟩ ++ t1) (rs ++ 10 :: rt) _ W (by rw [size_join, size_join]; show s1.size + 1 + t1.size ≤ _; omega) hoj hlj hxa
        have e : (ts ++ (⟨4, s1.size, [], 0⟩ : Tk) :: tt.map (shiftT (s1.size + 1))).length = ts.length + 1 + tt.length := by simp; omega
        rw [e] at this
        exact this
      clear bad ho1 hl1 hx1 ho2 hl2 hx2 hxa hlj hoj hn1 hn2
      obtain ⟨n1, e1⟩ : ∃ n1, n1 = ts.length := ⟨_, rfl⟩
      obtain ⟨n2, e2⟩ : ∃ n2, n2 = tt.length := ⟨_, rfl⟩
      rw [← e1] at HX1 HX3 hL1
      rw [← e2] at HX2 HX3 hL2
      have E1 : Hid (n1 = ts.length) := e1
      have E2 : Hid (n2 = tt.length) := e2
      clear e1 e2
      go_wp2_with fail
      refine (HX1.out _).mono ?_
      rintro e w2 ⟨a1, c1, rfl, ht1', hb2⟩
      have T1 : Hid (TksAt w2 a1 ts) := ht1'
      clear ht1'
      go_wp2_with fail
      refine (HX2.out _).mono ?_
      rintro e w3 ⟨a2, c2, rfl, ht2', hb3⟩
      have T2 : Hid (TksAt w3 a2 tt) := ht2'
      clear ht2'
      go_wp2_with fail
      refine (HX3.out _).mono ?_
      rintro e w4 ⟨a3, c3, rfl, ht3', hb4⟩
      obtain ⟨g, rfl, hg, hA, hE, hB⟩ := lines_at ht3'
      rw [← E1.out] at hE
      have HA : Hid (∀ k (hk : k < ts.length), w4.cell? ⟨g, k * 4, none⟩ = some (.int .i64 (ts[k].kind : Nat)) ∧ w4.cell? ⟨g, k * 4 + 1, none⟩ = some (.int .i64 (ts[k].pos : Nat)) ∧ w4.cell? ⟨g, k * 4 + 2, none⟩ = some (.string ⟨ts[k].text.toArray⟩) ∧ w4.cell? ⟨g, k * 4 + 3, none⟩ = some (.int .i64 (ts[k].num : Nat))) := hA
      rw [← E1.out] at hB
      have HB : Hid (∀ j (hj : j < tt.length), w4.cell? ⟨g, (n1 + 1 + j) * 4, none⟩ = some (.int .i64 (tt[j].kind : Nat)) ∧ w4.cell? ⟨g, (n1 + 1 + j) * 4 + 1, none⟩ = some (.int .i64 (tt[j].pos + (s1.size + 1) : Nat)) ∧ w4.cell? ⟨g, (n1 + 1 + j) * 4 + 2, none⟩ = some (.string ⟨tt[j].text.toArray⟩) ∧ w4.cell? ⟨g, (n1 + 1 + j) * 4 + 3, none⟩ = some (.int .i64 (tt[j].num : Nat))) := hB
      obtain ⟨z0, z1, z2, z3⟩ := hE
      have T1' : Hid (TksAt w4 a1 ts) := (T1.out.below hb3).below hb4
      have T2' : Hid (TksAt w4 a2 tt) := T2.out.below hb4
      have hbw : Below w.heap.size w w4 := hb.trans ((hb2.trans ((hb3.trans (hb4.mono hb3.size)).mono hb2.size)).mono hb.size)
      clear hA hB ht3' hb2 hb3 hb4 T1 T2 HX1 HX2 HX3 GEN
      have hq : (((n1 + 1 + n2 : Nat) : Int) != (n1 : Int) + 1 + (n2 : Int)) = false := by simp
      go_wp2
      go_loopw [15] (fun i wr => ∃ k : Nat, k ≤ n1 ∧ i = .int .i64 k ∧ Below w4.heap.size w4 wr) (fun i _ => n1 - (RowKit.intOf i).toNat)
      case atStart => exact ⟨0, Nat.zero_le _, rfl, Below.refl _ _⟩
      case round =>
        obtain ⟨k, hk, rfl, hbr⟩ := hrel
        by_cases hlt : k < n1
        · have hkr : k < ts.length := by rw [← E1.out]; exact hlt
          obtain ⟨g1, rfl, hg1, hc1⟩ := T1'.out (by omega)
          have d := hc1 k hkr
          have f := HA.out k hkr
          obtain ⟨x, hx⟩ : ∃ x, x = ts[k] := ⟨_, rfl⟩
          rw [← hx] at d f
          obtain ⟨d0, d1, d2, d3⟩ := d
          obtain ⟨f0, f1, f2, f3⟩ := f
          have d0' := (hbr.cell (p := ⟨g1, k * 4, none⟩) hg1).trans d0
          have d1' := (hbr.cell (p := ⟨g1, k * 4 + 1, none⟩) hg1).trans d1
          have d2' := (hbr.cell (p := ⟨g1, k * 4 + 2, none⟩) hg1).trans d2
          have d3' := (hbr.cell (p := ⟨g1, k * 4 + 3, none⟩) hg1).trans d3
          have f0' := (hbr.cell (p := ⟨g, k * 4, none⟩) hg).trans f0
          have f1' := (hbr.cell (p := ⟨g, k * 4 + 1, none⟩) hg).trans f1
          have f2' := (hbr.cell (p := ⟨g, k * 4 + 2, none⟩) hg).trans f2
          have f3' := (hbr.cell (p := ⟨g, k * 4 + 3, none⟩) hg).trans f3
          clear hx hkr hc1 d0 d1 d2 d3 f0 f1 f2 f3 z0 z1 z2 z3
          have q1 : (k : Int) < (n1 : Int) := by omega
          have q2 : (k : Int) < ((n1 + 1 + n2 : Nat) : Int) := by omega
          go_wp2
          go_quiet (fail)
          go_wp2
          go_roundw
          case rel => exact ⟨k + 1, by omega, by go_num, below_drewN hbr _⟩
          case measure => simp [RowKit.intOf]; omega
        · clear z0 z1 z2 z3
          go_wp2
          go_loopw [16] (fun i wr2 => ∃ k : Nat, k ≤ n2 ∧ i = .int .i64 k ∧ Below w4.heap.size w4 wr2) (fun i _ => n2 - (RowKit.intOf i).toNat)
          case atStart => exact ⟨0, Nat.zero_le _, rfl, hbr⟩
          case round =>
            clear hlt hk hbr
            obtain ⟨k, hk, rfl, hbr⟩ := hrel
            by_cases hlt : k < n2
            · have hkr : k < tt.length := by rw [← E2.out]; exact hlt
              obtain ⟨g2, rfl, hg2, hc2⟩ := T2'.out (by omega)
              have d := hc2 k hkr
              have f := HB.out k hkr
              have hps := HPOS.out tt[k] (List.getElem_mem hkr)
              obtain ⟨x, hx⟩ : ∃ x, x = tt[k] := ⟨_, rfl⟩
              rw [← hx] at d f hps
              obtain ⟨d0, d1, d2, d3⟩ := d
              obtain ⟨f0, f1, f2, f3⟩ := f
              have ep : ((x.pos + (s1.size + 1) : Nat) : Int) = (x.pos : Int) + (s1.size : Int) + 1 := by omega
              rw [ep] at f1
              have d0' := (hbr.cell (p := ⟨g2, k * 4, none⟩) hg2).trans d0
              have d1' := (hbr.cell (p := ⟨g2, k * 4 + 1, none⟩) hg2).trans d1
              have d2' := (hbr.cell (p := ⟨g2, k * 4 + 2, none⟩) hg2).trans d2
              have d3' := (hbr.cell (p := ⟨g2, k * 4 + 3, none⟩) hg2).trans d3
              have hbo : ∀ o, Below w4.heap.size w4 (wr.alloc o) := fun o => hbr.alloc hbr.size o
              have f0' : ∀ o, (wr.alloc o).cell? ⟨g, (n1 + 1 + k) * 4, none⟩ = _ := fun o => ((hbo o).cell (p := ⟨g, (n1 + 1 + k) * 4, none⟩) hg).trans f0
              have f1' : ∀ o, (wr.alloc o).cell? ⟨g, (n1 + 1 + k) * 4 + 1, none⟩ = _ := fun o => ((hbo o).cell (p := ⟨g, (n1 + 1 + k) * 4 + 1, none⟩) hg).trans f1
              have f2' : ∀ o, (wr.alloc o).cell? ⟨g, (n1 + 1 + k) * 4 + 2, none⟩ = _ := fun o => ((hbo o).cell (p := ⟨g, (n1 + 1 + k) * 4 + 2, none⟩) hg).trans f2
              have f3' : ∀ o, (wr.alloc o).cell? ⟨g, (n1 + 1 + k) * 4 + 3, none⟩ = _ := fun o => ((hbo o).cell (p := ⟨g, (n1 + 1 + k) * 4 + 3, none⟩) hg).trans f3
              have HBO : Hid (∀ o, Below w4.heap.size w4 (wr.alloc o)) := hbo
              clear hx hkr hc2 d0 d1 d2 d3 f0 f1 f2 f3 ep hbo
              have q1 : (k : Int) < (n2 : Int) := by omega
              have q2 : (n1 : Int) + 1 + (k : Int) < ((n1 + 1 + n2 : Nat) : Int) := by omega
              go_wp2
              go_quiet (fail)
              go_wp2
              go_roundw
              case rel => exact ⟨k + 1, by omega, by go_num, below_drewN (HBO.out _) _⟩
              case measure => simp [RowKit.intOf]; omega
            · go_wp2
              go_ret
              exact ⟨rfl, hbw.trans (hbr.mono hbw.size)⟩
    · have HCT : Hid (∀ W, Calls Tryd.prog 11 #[.string t1] W fun e w' => e = .returned (.tuple #[.slice none 0 0, .int .i64 p, .int .i64 er]) ∧ Below W.heap.size W w') := hct
      have HX : Hid (∀ W, Calls Tryd.prog 11 #[.string s1] W fun e w' => ∃ a cap, e = .returned (.tuple #[.slice a ts.length cap, .int .i64 0, .int .i64 0]) ∧ TksAt w' a ts ∧ Below W.heap.size W w') := fun W => lex_toks s1 rs ts W (by omega) ho1 hl1 hx1
      have he2 : ((er : Int) == 0) = false := beq_eq_false_iff_ne.2 (by omega)
      clear hct ho1 hl1 hx1 bad
      go_wp2_with fail
      refine (HX.out _).mono ?_
      rintro e w2 ⟨a, cap, rfl, _, hb2⟩
      go_wp2_with fail
      refine (HCT.out _).mono ?_
      rintro e w3 ⟨rfl, hb3⟩
      go_wp2
      go_ret
      exact ⟨rfl, hb.trans ((hb2.trans (hb3.mono hb2.size)).mono hb.size)⟩
  · have HCS : Hid (∀ W, Calls Tryd.prog 11 #[.string s1] W fun e w' => e = .returned (.tuple #[.slice none 0 0, .int .i64 p, .int .i64 er]) ∧ Below W.heap.size W w') := hcs
    have he2 : ((er : Int) == 0) = false := beq_eq_false_iff_ne.2 (by omega)
    clear hcs bad
    go_wp2_with fail
    refine (HCS.out _).mono ?_
    rintro e w2 ⟨rfl, hb2⟩
    go_wp2_with fail
    refine (GEN.out t1 _ ht1).mono ?_
    rintro e w3 ⟨⟨v, p3, er3, _, rfl⟩, hb3⟩
    go_wp2
    go_ret
    exact ⟨rfl, hb.trans ((hb2.trans (hb3.mono hb2.size)).mono hb.size)⟩
end Go.Proofs.YtfklgicmhbkoiaaDoor
