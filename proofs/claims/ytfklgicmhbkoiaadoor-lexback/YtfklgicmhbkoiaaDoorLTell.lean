/-
  carcanetlaw02.LexTells answers true for every text, and writes nothing that was there.
-/
import Derived.Test.YtfklgicmhbkoiaaDoorRLex
import Derived.Deep.DeepCutAuto
namespace Go.Proofs.YtfklgicmhbkoiaaDoor
open Go.RowKit Go.Lib

set_option maxHeartbeats 400000 in
theorem rlex_bad (s : ByteArray) (rs : List Nat) (rest : List UInt8) (w : World) (hs : s.size ≤ 1000000) (hok : ∀ r ∈ rs, okR r) (hl : s.data.toList = flat rs ++ rest) (hn : NoRune rest) (hr : rest ≠ []) :
    Calls Tryd.prog 12 #[.string s] w fun e w' => e = .returned (.tuple #[.slice none 0 0, .int .i64 (flat rs).length, .int .i64 2]) ∧ Below w.heap.size w w' := by
  have hd := refDecode_bad s rs rest w hs hok hl hn hr
  obtain ⟨n, hn2⟩ : ∃ n, n = (flat rs).length := ⟨_, rfl⟩
  rw [← hn2] at hd ⊢
  clear hn hr hok hl hn2
  go_enter Tryd.func12, Tryd.ntmps12
  go_wp2_with fail
  refine hd.mono ?_
  clear hd
  rintro e w1 ⟨rfl, hb1⟩
  go_wp2
  go_ret3
  exact ⟨rfl, hb1⟩
theorem rlex_toks (s : ByteArray) (rs : List Nat) (ts : List Tk) (w : World) (hs : s.size ≤ 1000000) (hok : ∀ r ∈ rs, okR r) (hl : s.data.toList = flat rs) (hx : LexT 0 rs ts (0, 0)) :
    Calls Tryd.prog 12 #[.string s] w fun e w' => ∃ a cap, e = .returned (.tuple #[.slice a ts.length cap, .int .i64 0, .int .i64 0]) ∧ TksAt w' a ts ∧ Below w.heap.size w w' := by
  refine (rlex_ok s rs w hs hok hl).mono ?_
  rintro e w' ⟨hb, ts', er, hx', h | h⟩
  · obtain ⟨rfl, rfl⟩ := hx.one hx'
    obtain ⟨_, v, rfl, hown⟩ := h
    obtain ⟨a, cap, rfl, ht⟩ := tksAt_own hown
    exact ⟨a, cap, rfl, ht, hb⟩
  · obtain ⟨rfl, rfl⟩ := hx.one hx'
    exact absurd rfl h.1
theorem rlex_errs (s : ByteArray) (rs : List Nat) (ts : List Tk) (p er : Nat) (w : World) (hs : s.size ≤ 1000000) (hok : ∀ r ∈ rs, okR r) (hl : s.data.toList = flat rs) (hx : LexT 0 rs ts (p, er)) (he : er ≠ 0) :
    Calls Tryd.prog 12 #[.string s] w fun e w' => e = .returned (.tuple #[.slice none 0 0, .int .i64 p, .int .i64 er]) ∧ Below w.heap.size w w' := by
  refine (rlex_ok s rs w hs hok hl).mono ?_
  rintro e w' ⟨hb, ts', er', hx', h | h⟩
  · obtain ⟨rfl, rfl⟩ := hx.one hx'
    obtain ⟨h0, _⟩ := h
    simp only [Prod.mk.injEq] at h0
    exact absurd h0.2 he
  · obtain ⟨rfl, rfl⟩ := hx.one hx'
    exact ⟨h.2, hb⟩

set_option maxHeartbeats 1000000 in
theorem lsame_any (a1 a2 : Option Addr) (c1 c2 : Nat) (ts : List Tk) (w : World) (hn : ts.length ≤ 1000000) (h1 : TksAt w a1 ts) (h2 : TksAt w a2 ts) :
    Calls Tryd.prog 13 #[.slice a1 ts.length c1, .slice a2 ts.length c2] w fun e w' => e = .returned (.bool true) ∧ Below w.heap.size w w' := by
  have H1 : Hid (TksAt w a1 ts) := h1
  have H2 : Hid (TksAt w a2 ts) := h2
  obtain ⟨N, hN⟩ : ∃ N, N = ts.length := ⟨_, rfl⟩
  rw [← hN] at hn ⊢
  have HN : Hid (N = ts.length) := hN
  clear h1 h2 hN
  go_enter Tryd.func13, Tryd.ntmps13
  go_wp2
  go_loopw [5] (fun i wr => ∃ k : Nat, k ≤ N ∧ i = .int .i64 k ∧ Below w.heap.size w wr) (fun i _ => N - (RowKit.intOf i).toNat)
  case atStart => exact ⟨0, Nat.zero_le _, rfl, Below.refl _ _⟩
  case round =>
    obtain ⟨j, hj, rfl, hbr⟩ := hrel
    by_cases hlt : j < N
    · have hjr : j < ts.length := by rw [← HN.out]; exact hlt
      obtain ⟨g1, rfl, hg1, hc1⟩ := H1.out (by omega)
      obtain ⟨g2, rfl, hg2, hc2⟩ := H2.out (by omega)
      have d := hc1 j hjr
      have f := hc2 j hjr
      obtain ⟨x, hx⟩ : ∃ x, x = ts[j] := ⟨_, rfl⟩
      rw [← hx] at d f
      obtain ⟨d0, d1, d2, d3⟩ := d
      obtain ⟨f0, f1, f2, f3⟩ := f
      have d0' := (hbr.cell (p := ⟨g1, j * 4, none⟩) hg1).trans d0
      have d1' := (hbr.cell (p := ⟨g1, j * 4 + 1, none⟩) hg1).trans d1
      have d2' := (hbr.cell (p := ⟨g1, j * 4 + 2, none⟩) hg1).trans d2
      have d3' := (hbr.cell (p := ⟨g1, j * 4 + 3, none⟩) hg1).trans d3
      have f0' := (hbr.cell (p := ⟨g2, j * 4, none⟩) hg2).trans f0
      have f1' := (hbr.cell (p := ⟨g2, j * 4 + 1, none⟩) hg2).trans f1
      have f2' := (hbr.cell (p := ⟨g2, j * 4 + 2, none⟩) hg2).trans f2
      have f3' := (hbr.cell (p := ⟨g2, j * 4 + 3, none⟩) hg2).trans f3
      clear hx hjr hc1 hc2 d0 d1 d2 d3 f0 f1 f2 f3
      have q1 : (j : Int) < (N : Int) := by omega
      go_wp2
      go_quiet (fail)
      go_wp2
      go_roundw
      case rel => exact ⟨j + 1, by omega, by go_num, below_drewN hbr _⟩
      case measure => simp [RowKit.intOf]; omega
    · go_wp2
      go_ret
      exact ⟨rfl, hbr⟩

set_option maxHeartbeats 2000000 in
set_option maxRecDepth 100000 in
theorem ltell_law (s : ByteArray) (w : World) (hs : s.size ≤ maxLen) : Calls Tryd.prog 3 #[.string s] w fun e w' => e = .returned (.bool true) ∧ Below w.heap.size w w' := by
  unfold maxLen at hs
  go_enter Tryd.func3, Tryd.ntmps3
  go_wp2_with fail
  refine (shown_any _).mono ?_
  rintro e w1 ⟨rfl, hb⟩
  go_upto_region 2 with fail
  go_cut [0] (fun v wx => ∃ s1 : ByteArray, v = .string s1 ∧ s1.size ≤ 2000 ∧ wx = w1)
  case first =>
    go_wp2
    all_goals go_meet
    case rel => exact ⟨_, rfl, by rw [ByteArray.size_extract]; omega, rfl⟩
  case rest =>
  obtain ⟨s1, rfl, hs1, rfl⟩ := hcut
  clear hs
  have err : (∃ rs ts, (∀ r ∈ rs, okR r) ∧ s1.data.toList = flat rs ∧ LexT 0 rs ts (0, 0)) ∨ (∃ p er : Nat, (∀ W, Calls Tryd.prog 11 #[.string s1] W fun e w' => e = .returned (.tuple #[.slice none 0 0, .int .i64 p, .int .i64 er]) ∧ Below W.heap.size W w') ∧ (∀ W, Calls Tryd.prog 12 #[.string s1] W fun e w' => e = .returned (.tuple #[.slice none 0 0, .int .i64 p, .int .i64 er]) ∧ Below W.heap.size W w')) := by
    rcases lex_cases s1 (by omega) with h | ⟨rs, ts, p, er, ho, hl, hx, h0, _, _, h5, h⟩ | ⟨p, _, ⟨rs, rest, ho, hl, hn, hr, hp⟩, h⟩
    · exact Or.inl h
    · exact Or.inr ⟨p, er, h, fun W => rlex_errs s1 rs ts p er W (by omega) ho hl hx h0⟩
    · refine Or.inr ⟨p, 2, h, fun W => ?_⟩
      rw [hp]
      exact rlex_bad s1 rs rest W (by omega) ho hl hn hr
  rcases err with ⟨rs, ts, ho, hl, hx⟩ | ⟨p, er, hcs, hrs⟩
  · have hL : ts.length ≤ 1000000 := by have := hx.len; have := flat_len rs; have := size_data s1; rw [hl] at this; omega
    have HX1 : Hid (∀ W, Calls Tryd.prog 11 #[.string s1] W fun e w' => ∃ a cap, e = .returned (.tuple #[.slice a ts.length cap, .int .i64 0, .int .i64 0]) ∧ TksAt w' a ts ∧ Below W.heap.size W w') := fun W => lex_toks s1 rs ts W (by omega) ho hl hx
    have HX2 : Hid (∀ W, Calls Tryd.prog 12 #[.string s1] W fun e w' => ∃ a cap, e = .returned (.tuple #[.slice a ts.length cap, .int .i64 0, .int .i64 0]) ∧ TksAt w' a ts ∧ Below W.heap.size W w') := fun W => rlex_toks s1 rs ts W (by omega) ho hl hx
    clear hx ho hl
    go_wp2_with fail
    refine (HX1.out _).mono ?_
    rintro e w2 ⟨a1, c1, rfl, ht1, hb2⟩
    have T1 : Hid (TksAt w2 a1 ts) := ht1
    clear ht1
    go_wp2_with fail
    refine (HX2.out _).mono ?_
    rintro e w3 ⟨a2, c2, rfl, ht2, hb3⟩
    have T2 : Hid (TksAt w3 a2 ts) := ht2
    have T1' : Hid (TksAt w3 a1 ts) := T1.out.below hb3
    clear ht2
    go_wp2_with fail
    refine (lsame_any a1 a2 c1 c2 ts _ hL T1'.out T2.out).mono ?_
    rintro e w4 ⟨rfl, hb4⟩
    go_wp2
    go_ret
    exact ⟨rfl, hb.trans ((hb2.trans ((hb3.trans (hb4.mono hb3.size)).mono hb2.size)).mono hb.size)⟩
  · have HX1 : Hid (∀ W, Calls Tryd.prog 11 #[.string s1] W fun e w' => e = .returned (.tuple #[.slice none 0 0, .int .i64 p, .int .i64 er]) ∧ Below W.heap.size W w') := hcs
    have HX2 : Hid (∀ W, Calls Tryd.prog 12 #[.string s1] W fun e w' => e = .returned (.tuple #[.slice none 0 0, .int .i64 p, .int .i64 er]) ∧ Below W.heap.size W w') := hrs
    clear hcs hrs
    go_wp2_with fail
    refine (HX1.out _).mono ?_
    rintro e w2 ⟨rfl, hb2⟩
    go_wp2_with fail
    refine (HX2.out _).mono ?_
    rintro e w3 ⟨rfl, hb3⟩
    go_wp2_with fail
    refine (lsame_any none none 0 0 [] _ (by simp) (fun h => absurd h (by simp)) (fun h => absurd h (by simp))).mono ?_
    rintro e w4 ⟨rfl, hb4⟩
    go_wp2
    go_ret
    exact ⟨rfl, hb.trans ((hb2.trans ((hb3.trans (hb4.mono hb3.size)).mono hb2.size)).mono hb.size)⟩

end Go.Proofs.YtfklgicmhbkoiaaDoor
