/-
  carcanetlaw02.LexPlaces answers true for every text, and writes nothing that was there.
-/
import Derived.Test.YtfklgicmhbkoiaaDoorPlacesP
import Derived.Deep.DeepCutAuto
namespace Go.Proofs.YtfklgicmhbkoiaaDoor
open Go.RowKit Go.Lib

/-- What the walk is told of the token at hand. -/
theorem stands_told {s : ByteArray} {B : Nat} {t : Tk} (h : Stands s.data.toList B t) : ∃ (kd ps nm : Nat) (tx : ByteArray), kd = t.kind ∧ ps = t.pos ∧ nm = t.num ∧ tx = ⟨t.text.toArray⟩ ∧ B ≤ ps ∧ ∃ hps : ps < s.size, 
    tx.size ≤ s.size - ps ∧ tx.size ≤ 32 ∧ s.extract ps (ps + tx.size) = tx ∧
    ((kd = 4 ∧ s[ps].toNat = 10 ∧ tx = ⟨#[]⟩ ∧ nm = 0) ∨ (kd = 1 ∧ s[ps].toNat ≠ 10 ∧ 0 < tx.size ∧ nm = 0) ∨ (kd = 2 ∧ s[ps].toNat ≠ 10 ∧ 0 < tx.size) ∨ (kd = 3 ∧ s[ps].toNat ≠ 10 ∧ tx.size = 1 ∧ nm = 0)) := by
  have hin : t.pos < s.size := by rw [← size_data]; exact h.inside
  have hget : (s.data.toList.getD t.pos 0).toNat = (s[t.pos]'hin).toNat := by
    rw [List.getD_eq_getElem?_getD, List.getElem?_eq_getElem (by rw [size_data]; exact hin)]
    rfl
  have hsz : (⟨t.text.toArray⟩ : ByteArray).size = t.text.length := List.size_toArray
  have hl := h.line
  rw [hget] at hl
  have hne : t.kind ≠ 4 → 0 < t.text.length := by
    intro hk
    rcases Nat.eq_zero_or_pos t.text.length with h0 | h0
    · exact absurd (h.empty.2 (List.eq_nil_of_length_eq_zero h0)) hk
    · exact h0
  refine ⟨t.kind, t.pos, t.num, ⟨t.text.toArray⟩, rfl, rfl, rfl, rfl, h.ahead, hin, ?_, by rw [hsz]; exact h.short, ?_, ?_⟩
  · rw [hsz, ← size_data]; exact h.len
  · apply bytes_ext
    rw [extract_mid, hsz, Nat.add_sub_cancel_left]
    exact h.text
  · have k1 := h.kind1
    have k4 := h.kind4
    by_cases hk4 : t.kind = 4
    · exact Or.inl ⟨hk4, hl.1 hk4, by rw [h.empty.1 hk4], h.num (by omega)⟩
    have hn10 : (s[t.pos]'hin).toNat ≠ 10 := fun h10 => hk4 (hl.2 h10)
    have hpos := hne hk4
    rcases (show t.kind = 1 ∨ t.kind = 2 ∨ t.kind = 3 by omega) with hk | hk | hk
    · exact Or.inr (Or.inl ⟨hk, hn10, by rw [hsz]; exact hpos, h.num (by omega)⟩)
    · exact Or.inr (Or.inr (Or.inl ⟨hk, hn10, by rw [hsz]; exact hpos⟩))
    · exact Or.inr (Or.inr (Or.inr ⟨hk, hn10, by rw [hsz]; exact h.sign hk, h.num (by omega)⟩))
theorem not_empty {s : ByteArray} (h : 0 < s.size) : s.toList.isEmpty = false := by
  rw [ByteArray.toList_eq, List.isEmpty_eq_false_iff]
  intro h0
  have := congrArg List.length h0
  rw [size_data, List.length_nil] at this
  omega

set_option maxHeartbeats 4000000 in
set_option maxRecDepth 100000 in
theorem places_law (s : ByteArray) (w : World) (hs : s.size ≤ maxLen) : Calls Tryd.prog 5 #[.string s] w fun e w' => e = .returned (.bool true) ∧ Below w.heap.size w w' := by
  unfold maxLen at hs
  go_enter Tryd.func5, Tryd.ntmps5
  go_wp2_with fail
  refine (shown_any _).mono ?_
  rintro e w1 ⟨rfl, hb⟩
  go_upto_region 2 with fail
  go_cut [0] (fun v wx => ∃ s1 : ByteArray, v = .string s1 ∧ s1.size ≤ 2000 ∧ wx = w1)
  case first =>
    go_wp2
    all_goals go_meet
    case rel => exact ⟨_, rfl, by rw [ByteArray.size_extract]; omega, rfl⟩
  case rest =>
  obtain ⟨s1, rfl, hs1, rfl⟩ := hcut
  clear hs
  have err : (∃ rs ts, (∀ r ∈ rs, okR r) ∧ s1.data.toList = flat rs ∧ LexT 0 rs ts (0, 0)) ∨ (∃ p er : Nat, 0 < er ∧ ∀ W, Calls Tryd.prog 11 #[.string s1] W fun e w' => e = .returned (.tuple #[.slice none 0 0, .int .i64 p, .int .i64 er]) ∧ Below W.heap.size W w') := by
    rcases lex_cases s1 (by omega) with h | ⟨rs, ts, p, er, _, _, _, h0, _, _, h5, h⟩ | ⟨p, _, _, h⟩
    · exact Or.inl h
    · exact Or.inr ⟨p, er, by omega, h⟩
    · exact Or.inr ⟨p, 2, by omega, h⟩
  rcases err with ⟨rs, ts, ho, hl, hx⟩ | ⟨p, er, he, hcs⟩
  · have hL : ts.length ≤ 2000 := by have := hx.len; have := flat_len rs; have := size_data s1; rw [hl] at this; omega
    have hst := hx.stand [] rfl ho
    rw [List.nil_append, ← hl] at hst
    have HST : Hid (∀ k (hk : k < ts.length), Stands s1.data.toList (behindK ts k) ts[k]) := fun k hk => stands_at hst k hk
    have HX1 : Hid (∀ W, Calls Tryd.prog 11 #[.string s1] W fun e w' => ∃ a cap, e = .returned (.tuple #[.slice a ts.length cap, .int .i64 0, .int .i64 0]) ∧ TksAt w' a ts ∧ Below W.heap.size W w') := fun W => lex_toks s1 rs ts W (by omega) ho hl hx
    clear hx ho hl hst
    obtain ⟨n1, e1⟩ : ∃ n1, n1 = ts.length := ⟨_, rfl⟩
    rw [← e1] at HX1 hL
    have E1 : Hid (n1 = ts.length) := e1
    clear e1
    go_wp2_with fail
    refine (HX1.out _).mono ?_
    rintro e w2 ⟨a1, c1, rfl, ht1, hb2⟩
    have T1 : Hid (TksAt w2 a1 ts) := ht1
    have hbw : Below w.heap.size w w2 := hb.trans (hb2.mono hb.size)
    clear ht1 hb2 HX1
    go_wp2
    go_loopw [7, 8] (fun v i wr => ∃ k : Nat, k ≤ n1 ∧ i = .int .i64 k ∧ v = .int .i64 (behindK ts k : Nat) ∧ Below w2.heap.size w2 wr) (fun _ i _ => n1 - (RowKit.intOf i).toNat)
    case atStart => exact ⟨0, Nat.zero_le _, rfl, rfl, Below.refl _ _⟩
    case round =>
      obtain ⟨k, hk, rfl, rfl, hbr⟩ := hrel
      by_cases hlt : k < n1
      · have hkr : k < ts.length := by rw [← E1.out]; exact hlt
        obtain ⟨g1, rfl, hg1, hc1⟩ := T1.out (by omega)
        obtain ⟨d0, d1, d2, d3⟩ := hc1 k hkr
        have hst := HST.out k hkr
        have HBK : Hid (behindK ts (k + 1) = ts[k].pos + max 1 ts[k].text.length) := behindK_succ hkr
        obtain ⟨B, hB⟩ : ∃ B, B = behindK ts k := ⟨_, rfl⟩
        rw [← hB] at hst ⊢
        obtain ⟨kd, ps, nm, tx, e1, e2, e3, e4, hBp, hps, ht1, ht2, ht3, hcase⟩ := stands_told hst
        have htl : ts[k].text.length = tx.size := by rw [e4]; exact List.size_toArray.symm
        rw [← e2, htl] at HBK
        rw [← e1] at d0
        rw [← e2] at d1
        rw [← e4] at d2
        rw [← e3] at d3
        have d0' := (hbr.cell (p := ⟨g1, k * 4, none⟩) hg1).trans d0
        have d1' := (hbr.cell (p := ⟨g1, k * 4 + 1, none⟩) hg1).trans d1
        have d2' := (hbr.cell (p := ⟨g1, k * 4 + 2, none⟩) hg1).trans d2
        have d3' := (hbr.cell (p := ⟨g1, k * 4 + 3, none⟩) hg1).trans d3
        have HBO : Hid (∀ o, Below w2.heap.size w2 (wr.alloc o)) := fun o => hbr.alloc hbr.size o
        clear d0 d1 d2 d3 hc1 hst hB e1 e2 e3 e4 htl hkr
        have p1 : decide ((ps : Int) < (B : Int)) = false := decide_eq_false (by omega)
        have p1n : decide (ps < B) = false := decide_eq_false (by omega)
        have p2 : decide ((s1.size : Int) ≤ (ps : Int)) = false := decide_eq_false (by omega)
        have p2n : decide (s1.size ≤ ps) = false := decide_eq_false (by omega)
        have p3 : (ps : Int) < (s1.size : Int) := by omega
        have p4 : decide ((s1.size : Int) - (ps : Int) < (tx.size : Int)) = false := decide_eq_false (by omega)
        have p5 : decide ((32 : Int) < (tx.size : Int)) = false := decide_eq_false (by omega)
        have p5n : decide (32 < tx.size) = false := decide_eq_false (by omega)
        have p6 : (ps : Int) + (tx.size : Int) ≤ (s1.size : Int) := by omega
        rcases hcase with ⟨rfl, h10, htx, rfl⟩ | ⟨rfl, h10, h0, rfl⟩ | ⟨rfl, h10, h0⟩ | ⟨rfl, h10, h0, rfl⟩
        · have b1 : ((s1[ps].toNat : Int) == 10) = true := by rw [h10]; rfl
          have b2 : tx.toList.isEmpty = true := by rw [htx, ByteArray.toList_eq]; rfl
          have b3 : tx.size = 0 := by rw [htx]; rfl
          have HB3 : Hid (tx.size = 0) := b3
          clear h10 htx b3
          go_wp2
          go_quiet (fail)
          go_wp2
          go_quiet (fail)
          go_wp2
          go_roundw
          case rel => exact ⟨k + 1, by omega, by go_num, congrArg (Value.int .i64) (by rw [HBK.out]; first | omega | (simp; omega)), below_drewN (HBO.out _) _⟩
          case measure => simp [RowKit.intOf]; omega
        · have b1 : ((s1[ps].toNat : Int) == 10) = false := beq_eq_false_iff_ne.2 (by omega)
          have b2 := not_empty (s := tx) (by omega)
          clear h10
          go_wp2
          go_quiet (fail)
          go_wp2
          go_quiet (fail)
          go_wp2
          go_roundw
          case rel => exact ⟨k + 1, by omega, by go_num, congrArg (Value.int .i64) (by rw [HBK.out]; first | omega | (simp; omega)), below_drewN (HBO.out _) _⟩
          case measure => simp [RowKit.intOf]; omega
        · have b1 : ((s1[ps].toNat : Int) == 10) = false := beq_eq_false_iff_ne.2 (by omega)
          have b2 := not_empty (s := tx) (by omega)
          clear h10
          go_wp2
          go_quiet (fail)
          go_wp2
          go_quiet (fail)
          go_wp2
          go_roundw
          case rel => exact ⟨k + 1, by omega, by go_num, congrArg (Value.int .i64) (by rw [HBK.out]; first | omega | (simp; omega)), below_drewN (HBO.out _) _⟩
          case measure => simp [RowKit.intOf]; omega
        · have b1 : ((s1[ps].toNat : Int) == 10) = false := beq_eq_false_iff_ne.2 (by omega)
          have b2 := not_empty (s := tx) (by omega)
          have b4 : ((tx.size : Int) == 1) = true := by rw [h0]; rfl
          have b5 : (tx.size == 1) = true := by rw [h0]; rfl
          have b6 : ((tx.size : Int) != 1) = false := by rw [h0]; rfl
          have b7 : (tx.size != 1) = false := by rw [h0]; rfl
          clear h10 h0
          go_wp2
          go_quiet (fail)
          go_wp2
          go_quiet (fail)
          go_wp2
          go_roundw
          case rel => exact ⟨k + 1, by omega, by go_num, congrArg (Value.int .i64) (by rw [HBK.out]; first | omega | (simp; omega)), below_drewN (HBO.out _) _⟩
          case measure => simp [RowKit.intOf]; omega
      · go_wp2
        go_ret
        exact ⟨rfl, hbw.trans (hbr.mono hbw.size)⟩
  · have HCS : Hid (∀ W, Calls Tryd.prog 11 #[.string s1] W fun e w' => e = .returned (.tuple #[.slice none 0 0, .int .i64 p, .int .i64 er]) ∧ Below W.heap.size W w') := hcs
    have he2 : ((er : Int) == 0) = false := beq_eq_false_iff_ne.2 (by omega)
    clear hcs
    go_wp2_with fail
    refine (HCS.out _).mono ?_
    rintro e w2 ⟨rfl, hb2⟩
    go_wp2
    go_ret
    exact ⟨rfl, hb.trans (hb2.mono hb.size)⟩

end Go.Proofs.YtfklgicmhbkoiaaDoor
