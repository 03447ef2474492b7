/-
  The document's Text: what it answers, for every row of tokens: the same text.
-/
import Derived.Test.YtfklgicmhbkoiaaDoorLexCall
namespace Go.Proofs.YtfklgicmhbkoiaaDoor
open Go.RowKit Go.Lib

/-- The text so far. -/
def SoFar (ts : List Tk) (k : Nat) (S : ByteArray) : Prop := S.data.toList = textK ts k
theorem soFar_add {ts : List Tk} {k : Nat} {S x : ByteArray} (h : SoFar ts k S) {l : List UInt8} (hs : textK ts (k + 1) = textK ts k ++ l) (hx : x.data.toList = l) : SoFar ts (k + 1) (S ++ x) := by
  unfold SoFar at *
  rw [data_join, h, hs, hx]

set_option maxHeartbeats 2000000 in
set_option maxRecDepth 100000 in
theorem rtext_any (a : Option Addr) (cap : Nat) (ts : List Tk) (w : World) (hn : ts.length ≤ 1000000) (h32 : ∀ t ∈ ts, t.text.length ≤ 32) (hr : TksAt w a ts) :
    Calls Tryd.prog 15 #[.slice a ts.length cap] w fun e w' => e = .returned (.string ⟨(pieces false ts).toArray⟩) ∧ w' = w := by
  have HT : Hid (TksAt w a ts) := hr
  have H32 : Hid (∀ t ∈ ts, t.text.length ≤ 32) := h32
  obtain ⟨N, hN⟩ : ∃ N, N = ts.length := ⟨_, rfl⟩
  have HN : Hid (N = ts.length) := hN
  rw [← hN] at hn ⊢
  clear hr h32 hN
  go_enter Tryd.func15, Tryd.ntmps15
  go_wp2
  go_loop [3, 4] (fun v i => ∃ (k : Nat) (S : ByteArray), k ≤ N ∧ i = .int .i64 k ∧ v = .string S ∧ S.size ≤ 33000000 ∧ Hid (SoFar ts k S)) (fun _ i => N - (RowKit.intOf i).toNat)
  case atStart => exact ⟨0, ⟨#[]⟩, Nat.zero_le _, rfl, rfl, by decide, rfl⟩
  case round =>
    obtain ⟨k, S, hk, rfl, rfl, hSz, hso⟩ := hrel
    have HSZ : Hid (∀ j x, j ≤ ts.length → SoFar ts j x → x.size ≤ 33000000) := by
      show ∀ j x, _
      intro j x hj hx
      have h1 := pieces_len (ts.take j) false (fun t ht => H32.out t (List.mem_of_mem_take ht))
      unfold SoFar textK at hx
      have h2 := size_data x
      rw [hx] at h2
      rw [List.length_take] at h1
      have := HN.out
      omega
    by_cases hlt : k < N
    · have hkr : k < ts.length := by rw [← HN.out]; exact hlt
      obtain ⟨g, rfl, hg, hc⟩ := HT.out (by omega)
      obtain ⟨c0, c1, c2, c3⟩ := hc k hkr
      have HST : Hid (textK ts (k + 1) = textK ts k ++ piece (aheadK ts k) ts[k]) := textK_step hkr
      have htl := H32.out ts[k] (List.getElem_mem hkr)
      obtain ⟨t, ht⟩ : ∃ t, t = ts[k] := ⟨_, rfl⟩
      rw [← ht] at c0 c1 c2 c3 HST htl
      have HPV : Hid (0 < k → ∃ kd : Nat, w.cell? ⟨g, (k - 1) * 4, none⟩ = some (.int .i64 kd) ∧ aheadK ts k = !decide (kd = 4)) := by
        show 0 < k → _
        intro h0
        have h1 : k - 1 < ts.length := by omega
        refine ⟨ts[k - 1].kind, (hc (k - 1) h1).1, ?_⟩
        have := aheadK_succ h1
        rw [show k - 1 + 1 = k by omega] at this
        exact this
      have HA0 : Hid (k = 0 → aheadK ts k = false) := fun h => by rw [h]; rfl
      have HK1 : Hid (k + 1 ≤ ts.length) := hkr
      have htx : (⟨t.text.toArray⟩ : ByteArray).size ≤ 32 := by show t.text.toArray.size ≤ 32; rw [List.size_toArray]; exact htl
      have HTX : Hid ((⟨t.text.toArray⟩ : ByteArray).data.toList = t.text) := by show _ = _; simp
      clear hc ht hkr c1 c3
      obtain ⟨tx, htx2⟩ : ∃ tx : ByteArray, tx = ⟨t.text.toArray⟩ := ⟨_, rfl⟩
      rw [← htx2] at c2 htx HTX
      clear htx2
      by_cases h4 : t.kind = 4
      · have HP : Hid (SoFar ts (k + 1) (S ++ ⟨#[10]⟩)) := soFar_add hso.out (by rw [HST.out]; unfold piece; rw [if_pos h4]) rfl
        have HZ := HSZ.out (k + 1) _ HK1.out HP.out
        rw [h4] at c0
        clear h4
        by_cases h0 : 0 < k
        · go_wp2
          go_round
          case rel => exact ⟨k + 1, _, by omega, by go_num, rfl, HZ, HP⟩
          case measure => simp [RowKit.intOf]; omega
        · obtain rfl : k = 0 := by omega
          go_wp2
          go_round
          case rel => exact ⟨0 + 1, _, by omega, by go_num, rfl, HZ, HP⟩
          case measure => simp [RowKit.intOf]; omega
      · have e4 : ((t.kind : Int) == 4) = false := beq_eq_false_iff_ne.2 (by omega)
        have HPI : Hid (∀ b, piece b t = (if b = true then [32] else []) ++ t.text) := by show ∀ b, _; intro b; unfold piece; rw [if_neg h4]
        have m4 : ((t.kind : Int) != 4) = true := bne_iff_ne.2 (by omega)
        have p4 : ¬ ((t.kind : Int) = 4) := by omega
        have q4 : ¬ t.kind = 4 := h4
        clear h4
        by_cases h0 : 0 < k
        · obtain ⟨kd, hkd, hah⟩ := HPV.out h0
          by_cases hk4 : kd = 4
          · subst hk4
            have HP : Hid (SoFar ts (k + 1) (S ++ tx)) := soFar_add (l := t.text) hso.out (by rw [HST.out, HPI.out, hah]; simp) HTX.out
            have HZ := HSZ.out (k + 1) _ HK1.out HP.out
            clear hah
            go_wp2
            go_round
            case rel => exact ⟨k + 1, _, by omega, by go_num, rfl, HZ, HP⟩
            case measure => simp [RowKit.intOf]; omega
          · have ek : ((kd : Int) == 4) = false := beq_eq_false_iff_ne.2 (by omega)
            have hpp : SoFar ts (k + 1) (S ++ ⟨#[32]⟩ ++ tx) := by
              have h1 := hso.out
              unfold SoFar at h1 ⊢
              rw [data_join, data_join, h1, HTX.out, HST.out, HPI.out, hah, List.append_assoc]
              have h2 : (!decide (kd = 4)) = true := by simp [hk4]
              rw [h2, if_pos rfl]
            have HP : Hid (SoFar ts (k + 1) (S ++ ⟨#[32]⟩ ++ tx)) := hpp
            have HZ := HSZ.out (k + 1) _ HK1.out HP.out
            clear hah
            go_wp2
            go_round
            case rel => exact ⟨k + 1, _, by omega, by go_num, rfl, HZ, HP⟩
            case measure => simp [RowKit.intOf]; omega
        · have hah := HA0.out (by omega)
          obtain rfl : k = 0 := by omega
          have HP : Hid (SoFar ts (0 + 1) (S ++ tx)) := soFar_add (l := t.text) hso.out (by rw [HST.out, HPI.out, hah]; simp) HTX.out
          have HZ := HSZ.out (0 + 1) _ HK1.out HP.out
          clear hah
          go_wp2
          go_round
          case rel => exact ⟨0 + 1, _, by omega, by go_num, rfl, HZ, HP⟩
          case measure => simp [RowKit.intOf]; omega
    · obtain rfl : k = N := by omega
      have HE : Hid (S = ⟨(pieces false ts).toArray⟩) := by
        show S = _
        apply bytes_ext
        have h1 := hso.out
        unfold SoFar textK at h1
        rw [h1, HN.out, List.take_length]
      rw [HE.out]
      clear hso
      go_wp2
      go_ret
      exact ⟨rfl, rfl⟩

end Go.Proofs.YtfklgicmhbkoiaaDoor
