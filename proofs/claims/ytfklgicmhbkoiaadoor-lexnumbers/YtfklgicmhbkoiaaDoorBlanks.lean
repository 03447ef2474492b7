/-
  carcanetlaw02.LexBlanks answers true for every text and number, and writes nothing that was there.
-/
import Derived.Test.YtfklgicmhbkoiaaDoorLexCall
import Derived.Deep.DeepCutAuto
namespace Go.Proofs.YtfklgicmhbkoiaaDoor
open Go.RowKit Go.Lib

theorem and_low (n : Int) : bits .and .i64 n 65535 = n % 65536 := by
  have hm : (BitVec.ofInt 64 65535).toNat = 2 ^ 16 - 1 := by decide
  have e : (BitVec.ofInt 64 n &&& BitVec.ofInt 64 65535).toNat = (n % ((2 ^ 64 : Nat) : Int)).toNat % 2 ^ 16 := by
    rw [BitVec.toNat_and, BitVec.toNat_ofInt, hm, Nat.and_two_pow_sub_one_eq_mod]
  show IntKind.i64.wrap ((BitVec.ofInt 64 n &&& BitVec.ofInt 64 65535).toNat : Nat) = n % 65536
  rw [e, IntKind.wrap_i64]
  omega
theorem low_of (n : Int) (m : Nat) : ∃ q : Nat, (bits .and .i64 n 65535).tmod ((m : Int) + 1) = (q : Int) ∧ q ≤ m := by
  rw [and_low]
  have h0 : 0 ≤ n % 65536 := by omega
  obtain ⟨a, ha⟩ := Int.eq_ofNat_of_zero_le h0
  rw [ha]
  refine ⟨a % (m + 1), ?_, ?_⟩
  · rw [Int.tmod_eq_emod_of_nonneg (by omega)]
    have := Int.natCast_emod a (m + 1)
    rw [Int.natCast_add] at this
    exact this.symm
  · have := Nat.mod_lt a (show 0 < m + 1 by omega)
    omega

/-- A text of k blanks. -/
def Blanked (k : Nat) (B : ByteArray) : Prop := ∃ bl : List Nat, bl.length = k ∧ (∀ x ∈ bl, x = 32 ∨ x = 9) ∧ B.data.toList = flat bl ∧ B.size = k
theorem blanked_zero : Blanked 0 ⟨#[]⟩ := ⟨[], rfl, by simp, rfl, rfl⟩
theorem blanked_snoc {k : Nat} {B : ByteArray} (h : Blanked k B) {c : UInt8} (hc : c = 32 ∨ c = 9) : Blanked (k + 1) (B ++ ⟨#[c]⟩) := by
  obtain ⟨bl, h1, h2, h3, h4⟩ := h
  refine ⟨bl ++ [c.toNat], by simp [h1], ?_, ?_, ?_⟩
  · intro x hx
    rcases List.mem_append.1 hx with hx | hx
    · exact h2 x hx
    · simp at hx
      rcases hc with rfl | rfl
      · left; rw [hx]; rfl
      · right; rw [hx]; rfl
  · rw [data_join, h3, flat_append]
    congr 1
    rcases hc with rfl | rfl
    · show [(32 : UInt8)] = flat [32]
      simp [flat, enc1]
    · show [(9 : UInt8)] = flat [9]
      simp [flat, enc1]
  · rw [size_join, h4]; rfl
theorem blank_ok {bl : List Nat} (h : ∀ x ∈ bl, x = 32 ∨ x = 9) : ∀ r ∈ bl, okR r := fun r hr => Or.inl (by have := h r hr; omega)
theorem tokens_blanks {rs bl : List Nat} {ts : List Tk} {e : Nat × Nat} (hb : ∀ x ∈ bl, x = 32 ∨ x = 9) (h : LexT 0 rs ts e) : LexT 0 (bl ++ rs ++ bl) (ts.map (shiftT bl.length)) (shiftE bl.length e) :=
  LexT.tail (blank_tail hb) (LexT.head bl 0 hb (h.shift bl.length))

set_option maxHeartbeats 2000000 in
set_option maxRecDepth 100000 in
theorem blanks_law (s : ByteArray) (n0 : Int) (w : World) (hs : s.size ≤ maxLen) : Calls Tryd.prog 6 #[.string s, .int .i64 n0] w fun e w' => e = .returned (.bool true) ∧ Below w.heap.size w w' := by
  unfold maxLen at hs
  obtain ⟨n, hn0, hn⟩ := low_of n0 30
  have hn1 : Hid ((bits .and .i64 n0 65535).tmod 31 = (n : Int)) := hn0
  clear hn0
  go_enter Tryd.func6, Tryd.ntmps6
  go_wp2_with fail
  refine (shown_any _).mono ?_
  rintro e w1 ⟨rfl, hb⟩
  go_upto_region 2 with fail
  go_cut [0] (fun v wx => ∃ s1 : ByteArray, v = .string s1 ∧ s1.size ≤ 1000 ∧ wx = w1)
  case first =>
    go_wp2
    all_goals go_meet
    case rel => exact ⟨_, rfl, by rw [ByteArray.size_extract]; omega, rfl⟩
  case rest =>
  obtain ⟨s1, rfl, hs1, rfl⟩ := hcut
  clear hs
  go_upto_region 4 with fail
  rw [hn1.out]
  clear hn1
  go_wp2
  go_loop [6, 7] (fun v i => ∃ (k : Nat) (B : ByteArray), k ≤ n ∧ i = .int .i64 k ∧ v = .string B ∧ B.size = k ∧ Hid (Blanked k B)) (fun _ i => n - (RowKit.intOf i).toNat)
  case atStart => exact ⟨0, ⟨#[]⟩, Nat.zero_le _, rfl, rfl, rfl, blanked_zero⟩
  case round =>
    obtain ⟨k, B, hk, rfl, rfl, hBk, hbl⟩ := hrel
    by_cases hlt : k < n
    · go_wp2
      · go_round
        case rel => exact ⟨k + 1, _, by omega, by go_num, rfl, by rw [size_join, hBk]; rfl, blanked_snoc hbl.out (c := 9) (Or.inr rfl)⟩
        case measure => simp [RowKit.intOf]; omega
      · go_round
        case rel => exact ⟨k + 1, _, by omega, by go_num, rfl, by rw [size_join, hBk]; rfl, blanked_snoc hbl.out (c := 32) (Or.inl rfl)⟩
        case measure => simp [RowKit.intOf]; omega
    · obtain rfl : k = n := by omega
      obtain ⟨bl, hb1, hb2, hb3, hb4⟩ := hbl.out
      clear hlt hk
      have hjs : (B ++ s1 ++ B).size ≤ 1000000 := by rw [size_join, size_join]; omega
      rcases lex_cases s1 (by omega) with ⟨rs, ts, ho, hl, hx⟩ | ⟨rs, ts, p, er, ho, hl, hx, he, he2, hp, he5, hcs⟩ | ⟨p, hp, _, hcs⟩
      · have hxa := tokens_blanks hb2 hx
        rw [hb1] at hxa
        have hL : ts.length ≤ 1000 := by have := hx.len; have := flat_len rs; have := size_data s1; rw [hl] at this; omega
        have hpos := hx.pos
        have HPOS : Hid (∀ x ∈ ts, x.pos ≤ 1000) := fun x hx => by have := hpos x hx; have := size_data s1; rw [hl] at this; omega
        have HX1 : Hid (∀ W, Calls Tryd.prog 11 #[.string s1] W fun e w' => ∃ a cap, e = .returned (.tuple #[.slice a ts.length cap, .int .i64 0, .int .i64 0]) ∧ TksAt w' a ts ∧ Below W.heap.size W w') := fun W => lex_toks s1 rs ts W (by omega) ho hl hx
        have HX2 : Hid (∀ W, Calls Tryd.prog 11 #[.string (B ++ s1 ++ B)] W fun e w' => ∃ a cap, e = .returned (.tuple #[.slice a ts.length cap, .int .i64 0, .int .i64 0]) ∧ TksAt w' a (ts.map (shiftT k)) ∧ Below W.heap.size W w') := by
          show ∀ W, _
          intro W
          have := lex_toks (B ++ s1 ++ B) (bl ++ rs ++ bl) _ W hjs (fun r hr => by
            rcases List.mem_append.1 hr with hr | hr
            · rcases List.mem_append.1 hr with hr | hr
              · exact blank_ok hb2 r hr
              · exact ho r hr
            · exact blank_ok hb2 r hr) (by rw [data_join, data_join, hb3, hl, flat_append, flat_append]) hxa
          rw [List.length_map] at this
          exact this
        clear hx hxa hpos ho hl hb1 hb2 hb3 hb4 hbl
        obtain ⟨n1, e1⟩ : ∃ n1, n1 = ts.length := ⟨_, rfl⟩
        rw [← e1] at HX1 HX2 hL
        have E1 : Hid (n1 = ts.length) := e1
        clear e1
        go_wp2_with fail
        refine (HX1.out _).mono ?_
        rintro e w2 ⟨a1, c1, rfl, ht1, hb2⟩
        have T1 : Hid (TksAt w2 a1 ts) := ht1
        clear ht1
        go_wp2_with fail
        refine (HX2.out _).mono ?_
        rintro e w3 ⟨a2, c2, rfl, ht2, hb3⟩
        have T2 : Hid (TksAt w3 a2 (ts.map (shiftT k))) := ht2
        have T1' : Hid (TksAt w3 a1 ts) := T1.out.below hb3
        have hbw : Below w.heap.size w w3 := hb.trans ((hb2.trans (hb3.mono hb2.size)).mono hb.size)
        clear ht2 hb2 hb3 T1 HX1 HX2
        go_wp2
        go_loopw [14] (fun i wr => ∃ j : Nat, j ≤ n1 ∧ i = .int .i64 j ∧ Below w3.heap.size w3 wr) (fun i _ => n1 - (RowKit.intOf i).toNat)
        case atStart => exact ⟨0, Nat.zero_le _, rfl, Below.refl _ _⟩
        case round =>
          obtain ⟨j, hj, rfl, hbr⟩ := hrel
          by_cases hlt : j < n1
          · have hjr : j < ts.length := by rw [← E1.out]; exact hlt
            have hjm : j < (ts.map (shiftT k)).length := by rw [List.length_map]; exact hjr
            obtain ⟨g1, rfl, hg1, hc1⟩ := T1'.out (by omega)
            obtain ⟨g2, rfl, hg2, hc2⟩ := T2.out (by omega)
            have d := hc1 j hjr
            have f := hc2 j hjm
            have hps := HPOS.out ts[j] (List.getElem_mem hjr)
            rw [List.getElem_map] at f
            obtain ⟨x, hx⟩ : ∃ x, x = ts[j] := ⟨_, rfl⟩
            rw [← hx] at d f hps
            obtain ⟨d0, d1, d2, d3⟩ := d
            obtain ⟨f0, f1, f2, f3⟩ := f
            have ep : ((shiftT k x).pos : Int) = (x.pos : Int) + (k : Int) := by show ((x.pos + k : Nat) : Int) = _; omega
            rw [ep] at f1
            have f0 : w3.cell? ⟨g2, j * 4, none⟩ = some (.int .i64 (x.kind : Nat)) := f0
            have f2 : w3.cell? ⟨g2, j * 4 + 2, none⟩ = some (.string ⟨x.text.toArray⟩) := f2
            have f3 : w3.cell? ⟨g2, j * 4 + 3, none⟩ = some (.int .i64 (x.num : Nat)) := f3
            have d0' := (hbr.cell (p := ⟨g1, j * 4, none⟩) hg1).trans d0
            have d1' := (hbr.cell (p := ⟨g1, j * 4 + 1, none⟩) hg1).trans d1
            have d2' := (hbr.cell (p := ⟨g1, j * 4 + 2, none⟩) hg1).trans d2
            have d3' := (hbr.cell (p := ⟨g1, j * 4 + 3, none⟩) hg1).trans d3
            have hbo : ∀ o, Below w3.heap.size w3 (wr.alloc o) := fun o => hbr.alloc hbr.size o
            have f0' : ∀ o, (wr.alloc o).cell? ⟨g2, j * 4, none⟩ = _ := fun o => ((hbo o).cell (p := ⟨g2, j * 4, none⟩) hg2).trans f0
            have f1' : ∀ o, (wr.alloc o).cell? ⟨g2, j * 4 + 1, none⟩ = _ := fun o => ((hbo o).cell (p := ⟨g2, j * 4 + 1, none⟩) hg2).trans f1
            have f2' : ∀ o, (wr.alloc o).cell? ⟨g2, j * 4 + 2, none⟩ = _ := fun o => ((hbo o).cell (p := ⟨g2, j * 4 + 2, none⟩) hg2).trans f2
            have f3' : ∀ o, (wr.alloc o).cell? ⟨g2, j * 4 + 3, none⟩ = _ := fun o => ((hbo o).cell (p := ⟨g2, j * 4 + 3, none⟩) hg2).trans f3
            have HBO : Hid (∀ o, Below w3.heap.size w3 (wr.alloc o)) := hbo
            clear hx hjr hjm hc1 hc2 d0 d1 d2 d3 f0 f1 f2 f3 ep hbo
            have q1 : (j : Int) < (n1 : Int) := by omega
            go_wp2
            go_quiet (fail)
            go_wp2
            go_roundw
            case rel => exact ⟨j + 1, by omega, by go_num, below_drewN (HBO.out _) _⟩
            case measure => simp [RowKit.intOf]; omega
          · go_wp2
            go_ret
            exact ⟨rfl, hbw.trans (hbr.mono hbw.size)⟩
      · have hxa := tokens_blanks hb2 hx
        rw [hb1] at hxa
        have hse : shiftE k (p, er) = (p + k, er) := by unfold shiftE; rw [if_neg he]
        rw [hse] at hxa
        have HCS : Hid (∀ W, Calls Tryd.prog 11 #[.string s1] W fun e w' => e = .returned (.tuple #[.slice none 0 0, .int .i64 p, .int .i64 er]) ∧ Below W.heap.size W w') := hcs
        have HX2 : Hid (∀ W, Calls Tryd.prog 11 #[.string (B ++ s1 ++ B)] W fun e w' => e = .returned (.tuple #[.slice none 0 0, .int .i64 (p + k : Nat), .int .i64 er]) ∧ Below W.heap.size W w') := by
          show ∀ W, _
          intro W
          exact lex_errs (B ++ s1 ++ B) (bl ++ rs ++ bl) _ (p + k) er W hjs (fun r hr => by
            rcases List.mem_append.1 hr with hr | hr
            · rcases List.mem_append.1 hr with hr | hr
              · exact blank_ok hb2 r hr
              · exact ho r hr
            · exact blank_ok hb2 r hr) (by rw [data_join, data_join, hb3, hl, flat_append, flat_append]) hxa he
        have z1 : ((er : Int) == 0) = false := beq_eq_false_iff_ne.2 (by omega)
        have z2 : ((er : Int) == 2) = false := beq_eq_false_iff_ne.2 (by omega)
        have z3 : (((p + k : Nat) : Int) == (p : Int) + (k : Int)) = true := by simp
        clear hx hxa ho hl hb1 hb2 hb3 hb4 hbl hcs hse
        go_wp2_with fail
        refine (HCS.out _).mono ?_
        rintro e w2 ⟨rfl, hb2⟩
        go_wp2_with fail
        refine (HX2.out _).mono ?_
        rintro e w3 ⟨rfl, hb3⟩
        go_wp2
        go_ret
        exact ⟨rfl, hb.trans ((hb2.trans (hb3.mono hb2.size)).mono hb.size)⟩
      · have HCS : Hid (∀ W, Calls Tryd.prog 11 #[.string s1] W fun e w' => e = .returned (.tuple #[.slice none 0 0, .int .i64 p, .int .i64 2]) ∧ Below W.heap.size W w') := hcs
        clear hcs hb1 hb2 hb3 hb4 hbl
        go_wp2_with fail
        refine (HCS.out _).mono ?_
        rintro e w2 ⟨rfl, hb2⟩
        go_wp2_with fail
        refine (lex_gen _ _ hjs).mono ?_
        rintro e w3 ⟨⟨v, p3, er3, _, rfl⟩, hb3⟩
        go_wp2
        go_ret
        exact ⟨rfl, hb.trans ((hb2.trans (hb3.mono hb2.size)).mono hb.size)⟩

end Go.Proofs.YtfklgicmhbkoiaaDoor
