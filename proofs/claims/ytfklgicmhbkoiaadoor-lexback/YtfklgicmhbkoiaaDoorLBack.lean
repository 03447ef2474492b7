/-
  carcanetlaw02.LexBack answers true for every text, and writes nothing that was there.
-/
import Derived.Test.YtfklgicmhbkoiaaDoorLTell
import Derived.Test.YtfklgicmhbkoiaaDoorRText
import Derived.Test.YtfklgicmhbkoiaaDoorBackP
namespace Go.Proofs.YtfklgicmhbkoiaaDoor
open Go.RowKit Go.Lib

/-- A text that has tokens: those tokens as a text, and what is read of it. -/
theorem back_facts {s : ByteArray} {rs : List Nat} {ts : List Tk} (hs : s.size ≤ 2000) (ho : ∀ r ∈ rs, okR r) (hl : s.data.toList = flat rs) (hx : LexT 0 rs ts (0, 0)) :
    ∃ (PT : ByteArray) (tt : List Tk) (n : Nat), PT.size ≤ 1000000 ∧ ts.length = n ∧ tt.length = n ∧ n ≤ 2000 ∧
      (∀ (i : Nat) (h1 : i < ts.length) (h2 : i < tt.length), tt[i].kind = ts[i].kind ∧ tt[i].text = ts[i].text ∧ tt[i].num = ts[i].num) ∧
      (∀ W, Calls Tryd.prog 11 #[.string s] W fun e w' => ∃ a cap, e = .returned (.tuple #[.slice a n cap, .int .i64 0, .int .i64 0]) ∧ TksAt w' a ts ∧ Below W.heap.size W w') ∧
      (∀ W, Calls Tryd.prog 12 #[.string s] W fun e w' => ∃ a cap, e = .returned (.tuple #[.slice a n cap, .int .i64 0, .int .i64 0]) ∧ TksAt w' a ts ∧ Below W.heap.size W w') ∧
      (∀ W, Calls Tryd.prog 11 #[.string PT] W fun e w' => ∃ a cap, e = .returned (.tuple #[.slice a n cap, .int .i64 0, .int .i64 0]) ∧ TksAt w' a tt ∧ Below W.heap.size W w') ∧
      (∀ W a cap, TksAt W a ts → Calls Tryd.prog 14 #[.slice a n cap] W fun e w' => e = .returned (.string PT) ∧ Below W.heap.size W w') ∧
      (∀ W a cap, TksAt W a tt → Calls Tryd.prog 14 #[.slice a n cap] W fun e w' => e = .returned (.string PT) ∧ Below W.heap.size W w') ∧
      (∀ W a cap, TksAt W a ts → Calls Tryd.prog 15 #[.slice a n cap] W fun e w' => e = .returned (.string PT) ∧ w' = W) := by
  have hL : ts.length ≤ 2000 := by have := hx.len; have := flat_len rs; have := size_data s; rw [hl] at this; omega
  have hg := hx.good ho
  obtain ⟨rt, tt, ho', hf, hx', hst, _⟩ := relex ts false 0 hg
  obtain ⟨hlen, hsame⟩ := same_at hst
  have hg' := hx'.good ho'
  have hpp : pieces false tt = pieces false ts := by rw [← pieces_strip tt, hst, pieces_strip]
  have h32 : ∀ t ∈ ts, t.text.length ≤ 32 := fun t ht => (hg t ht).short
  have h32' : ∀ t ∈ tt, t.text.length ≤ 32 := fun t ht => (hg' t ht).short
  have hpl := pieces_len ts false h32
  have hPs : (⟨(pieces false ts).toArray⟩ : ByteArray).size ≤ 1000000 := by show (pieces false ts).toArray.size ≤ _; rw [List.size_toArray]; omega
  refine ⟨⟨(pieces false ts).toArray⟩, tt, ts.length, hPs, rfl, hlen, hL, fun i h1 h2 => ?_, fun W => lex_toks s rs ts W (by omega) ho hl hx, fun W => rlex_toks s rs ts W (by omega) ho hl hx, fun W => ?_, fun W a cap h => text_any a cap ts W (by omega) h32 h, fun W a cap h => ?_, fun W a cap h => rtext_any a cap ts W (by omega) h32 h⟩
  · exact hsame i h2 h1
  · have := lex_toks ⟨(pieces false ts).toArray⟩ rt tt W hPs ho' (by rw [hf]) hx'
    rw [hlen] at this
    exact this
  · have := text_any a cap tt W (by omega) h32' h
    rw [hlen, hpp] at this
    exact this

set_option maxHeartbeats 4000000 in
set_option maxRecDepth 100000 in
theorem lback_law (s : ByteArray) (w : World) (hs : s.size ≤ maxLen) : Calls Tryd.prog 4 #[.string s] w fun e w' => e = .returned (.bool true) ∧ Below w.heap.size w w' := by
  unfold maxLen at hs
  go_enter Tryd.func4, Tryd.ntmps4
  go_wp2_with fail
  refine (shown_any _).mono ?_
  rintro e w1 ⟨rfl, hb⟩
  go_upto_region 2 with fail
  go_cut [0] (fun v wx => ∃ s1 : ByteArray, v = .string s1 ∧ s1.size ≤ 2000 ∧ wx = w1)
  case first =>
    go_wp2
    all_goals go_meet
    case rel => exact ⟨_, rfl, by rw [ByteArray.size_extract]; omega, rfl⟩
  case rest =>
  obtain ⟨s1, rfl, hs1, rfl⟩ := hcut
  clear hs
  have err : (∃ rs ts, (∀ r ∈ rs, okR r) ∧ s1.data.toList = flat rs ∧ LexT 0 rs ts (0, 0)) ∨ (∃ p er : Nat, 0 < er ∧ ∀ W, Calls Tryd.prog 11 #[.string s1] W fun e w' => e = .returned (.tuple #[.slice none 0 0, .int .i64 p, .int .i64 er]) ∧ Below W.heap.size W w') := by
    rcases lex_cases s1 (by omega) with h | ⟨rs, ts, p, er, _, _, _, h0, _, _, h5, h⟩ | ⟨p, _, _, h⟩
    · exact Or.inl h
    · exact Or.inr ⟨p, er, by omega, h⟩
    · exact Or.inr ⟨p, 2, by omega, h⟩
  rcases err with ⟨rs, ts, ho, hl, hx⟩ | ⟨p, er, he, hcs⟩
  · obtain ⟨PT, tt, n, hP, hn1, hn2, hn3, hsm, f1, f2, f3, f4, f5, f6⟩ := back_facts hs1 ho hl hx
    have HSM : Hid (∀ (i : Nat) (h1 : i < ts.length) (h2 : i < tt.length), tt[i].kind = ts[i].kind ∧ tt[i].text = ts[i].text ∧ tt[i].num = ts[i].num) := hsm
    have F1 : Hid (∀ W, Calls Tryd.prog 11 #[.string s1] W fun e w' => ∃ a cap, e = .returned (.tuple #[.slice a n cap, .int .i64 0, .int .i64 0]) ∧ TksAt w' a ts ∧ Below W.heap.size W w') := f1
    have F2 : Hid (∀ W, Calls Tryd.prog 12 #[.string s1] W fun e w' => ∃ a cap, e = .returned (.tuple #[.slice a n cap, .int .i64 0, .int .i64 0]) ∧ TksAt w' a ts ∧ Below W.heap.size W w') := f2
    have F3 : Hid (∀ W, Calls Tryd.prog 11 #[.string PT] W fun e w' => ∃ a cap, e = .returned (.tuple #[.slice a n cap, .int .i64 0, .int .i64 0]) ∧ TksAt w' a tt ∧ Below W.heap.size W w') := f3
    have F4 : Hid (∀ W a cap, TksAt W a ts → Calls Tryd.prog 14 #[.slice a n cap] W fun e w' => e = .returned (.string PT) ∧ Below W.heap.size W w') := f4
    have F5 : Hid (∀ W a cap, TksAt W a tt → Calls Tryd.prog 14 #[.slice a n cap] W fun e w' => e = .returned (.string PT) ∧ Below W.heap.size W w') := f5
    have F6 : Hid (∀ W a cap, TksAt W a ts → Calls Tryd.prog 15 #[.slice a n cap] W fun e w' => e = .returned (.string PT) ∧ w' = W) := f6
    have E1 : Hid (ts.length = n) := hn1
    have E2 : Hid (tt.length = n) := hn2
    clear hx ho hl hsm f1 f2 f3 f4 f5 f6 hn1 hn2
    go_wp2_with fail
    refine (F1.out _).mono ?_
    rintro e w2 ⟨a1, c1, rfl, ht1, hb2⟩
    have T1 : Hid (TksAt w2 a1 ts) := ht1
    clear ht1
    go_wp2_with fail
    refine (F4.out _ _ _ T1.out).mono ?_
    rintro e w3 ⟨rfl, hb3⟩
    go_wp2_with fail
    refine (F3.out _).mono ?_
    rintro e w4 ⟨a2, c2, rfl, ht2, hb4⟩
    have T2 : Hid (TksAt w4 a2 tt) := ht2
    have T1' : Hid (TksAt w4 a1 ts) := (T1.out.below hb3).below hb4
    have hbw : Below w.heap.size w w4 := hb.trans ((hb2.trans ((hb3.trans (hb4.mono hb3.size)).mono hb2.size)).mono hb.size)
    clear ht2 hb2 hb3 hb4 T1
    go_wp2
    go_loopw [11] (fun i wr => ∃ k : Nat, k ≤ n ∧ i = .int .i64 k ∧ Below w4.heap.size w4 wr) (fun i _ => n - (RowKit.intOf i).toNat)
    case atStart => exact ⟨0, Nat.zero_le _, rfl, Below.refl _ _⟩
    case round =>
      obtain ⟨j, hj, rfl, hbr⟩ := hrel
      by_cases hlt : j < n
      · have hjr : j < ts.length := by rw [E1.out]; exact hlt
        have hjt : j < tt.length := by rw [E2.out]; exact hlt
        obtain ⟨g1, rfl, hg1, hc1⟩ := T1'.out (by omega)
        obtain ⟨g2, rfl, hg2, hc2⟩ := T2.out (by omega)
        obtain ⟨d0, d1, d2, d3⟩ := hc1 j hjr
        obtain ⟨f0, f1, f2, f3⟩ := hc2 j hjt
        obtain ⟨m1, m2, m3⟩ := HSM.out j hjr hjt
        clear d1 f1
        rw [m1] at f0
        rw [m2] at f2
        rw [m3] at f3
        obtain ⟨x, hx⟩ : ∃ x, x = ts[j] := ⟨_, rfl⟩
        rw [← hx] at d0 d2 d3 f0 f2 f3
        have d0' := (hbr.cell (p := ⟨g1, j * 4, none⟩) hg1).trans d0
        have d2' := (hbr.cell (p := ⟨g1, j * 4 + 2, none⟩) hg1).trans d2
        have d3' := (hbr.cell (p := ⟨g1, j * 4 + 3, none⟩) hg1).trans d3
        have f0' := (hbr.cell (p := ⟨g2, j * 4, none⟩) hg2).trans f0
        have f2' := (hbr.cell (p := ⟨g2, j * 4 + 2, none⟩) hg2).trans f2
        have f3' := (hbr.cell (p := ⟨g2, j * 4 + 3, none⟩) hg2).trans f3
        clear hx hjr hjt hc1 hc2 d0 d2 d3 f0 f2 f3 m1 m2 m3
        obtain ⟨xt, hxt⟩ : ∃ xt : ByteArray, xt = ⟨x.text.toArray⟩ := ⟨_, rfl⟩
        rw [← hxt] at d2' f2'
        clear hxt
        have q1 : (j : Int) < (n : Int) := by omega
        have z1 : ((x.kind : Int) != (x.kind : Int)) = false := by simp
        have z2 : ((x.num : Int) != (x.num : Int)) = false := by simp
        go_wp2
        go_quiet (fail)
        go_wp2
        go_roundw
        case rel => exact ⟨j + 1, by omega, by go_num, below_drewN hbr _⟩
        case measure => simp [RowKit.intOf]; omega
      · go_wp2_with fail
        refine (F2.out _).mono ?_
        rintro e w5 ⟨a3, c3, rfl, ht3, hb5⟩
        have T3 : Hid (TksAt w5 a3 ts) := ht3
        have T2' : Hid (TksAt w5 a2 tt) := (T2.out.below hbr).below hb5
        clear ht3
        go_wp2_with fail
        refine (F5.out _ _ _ T2'.out).mono ?_
        rintro e w6 ⟨rfl, hb6⟩
        have T3' : Hid (TksAt w6 a3 ts) := T3.out.below hb6
        go_wp2_with fail
        refine (F6.out _ _ _ T3'.out).mono ?_
        rintro e w7 ⟨rfl, rfl⟩
        go_wp2
        go_ret
        exact ⟨rfl, hbw.trans ((hbr.trans ((hb5.trans (hb6.mono hb5.size)).mono hbr.size)).mono hbw.size)⟩
  · have HCS : Hid (∀ W, Calls Tryd.prog 11 #[.string s1] W fun e w' => e = .returned (.tuple #[.slice none 0 0, .int .i64 p, .int .i64 er]) ∧ Below W.heap.size W w') := hcs
    have he2 : ((er : Int) == 0) = false := beq_eq_false_iff_ne.2 (by omega)
    clear hcs
    go_wp2_with fail
    refine (HCS.out _).mono ?_
    rintro e w2 ⟨rfl, hb2⟩
    go_wp2
    go_ret
    exact ⟨rfl, hb.trans (hb2.mono hb.size)⟩

end Go.Proofs.YtfklgicmhbkoiaaDoor
