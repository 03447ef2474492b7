/-
  carcanetlaw01.RunesTell answers true for every text, and writes nothing that was there.
-/
import Derived.Test.YtpkppjeiinolaaaRefDec
namespace Go.Proofs.Ytpkppjeiinolaaa
open Go.RowKit Go.Lib

set_option maxHeartbeats 1000000 in
set_option maxRecDepth 100000 in
theorem tell_law (s : ByteArray) (w : World) (hs : s.size ≤ maxLen) : Calls Try.prog 3 #[.string s] w fun e w' => e = .returned (.bool true) ∧ Below w.heap.size w w' := by
  unfold maxLen at hs
  go_enter Try.func3, Try.ntmps3
  go_wp2_with fail
  refine (shown_any _).mono ?_
  rintro e w1 ⟨rfl, hb⟩
  go_upto_region 2 with fail
  go_cut [0] (fun v wx => ∃ s1 : ByteArray, v = .string s1 ∧ s1.size ≤ 3000 ∧ wx = w1)
  case first =>
    go_wp2
    all_goals go_meet
    case rel => exact ⟨_, rfl, cut_size _ _, rfl⟩
    case rel => exact ⟨s, rfl, by omega, rfl⟩
  case rest =>
  obtain ⟨s1, rfl, hs1, rfl⟩ := hcut
  obtain ⟨rs, rest, hl, hok, hn⟩ := runs_of _ s1.data.toList (Nat.le_refl _)
  clear hs
  by_cases hr : rest = []
  · subst hr
    rw [List.append_nil] at hl
    have HL : Hid (s1.data.toList = flat rs) := hl
    have HO : Hid (∀ r ∈ rs, okR r) := hok
    have hrl : rs.length ≤ 1000000 := by
      have h1 := flat_len rs
      have h2 := congrArg List.length hl
      rw [size_data] at h2
      omega
    clear hl hok hn
    go_wp2_with fail
    refine (decode_ok s1 rs _ (by omega) HO.out HL.out).mono ?_
    rintro e w2 ⟨v1, rfl, hown1, hb2⟩
    obtain ⟨a1, c1, rfl, hra1⟩ := runesAt_own hown1
    have R1 : Hid (RunesAt w2 a1 rs) := hra1
    clear hown1 hra1
    go_wp2_with fail
    refine (refDecode_ok s1 rs _ (by omega) HO.out HL.out).mono ?_
    rintro e w3 ⟨v2, rfl, hown2, hb3⟩
    obtain ⟨a2, c2, rfl, hra2⟩ := runesAt_own hown2
    have R2 : Hid (RunesAt w3 a2 rs) := hra2
    have R3 : Hid (RunesAt w3 a1 rs) := R1.out.below hb3
    clear hown2 hra2
    go_wp2_with fail
    refine (same_any a1 a2 c1 c2 rs _ hrl R3.out R2.out).mono ?_
    rintro e w4 ⟨rfl, hb4⟩
    go_wp2
    go_ret
    exact ⟨rfl, hb.trans ((hb2.trans ((hb3.trans (hb4.mono hb3.size)).mono hb2.size)).mono hb.size)⟩
  · have HL : Hid (s1.data.toList = flat rs ++ rest) := hl
    have HO : Hid (∀ r ∈ rs, okR r) := hok
    have HN : Hid (NoRune rest) := hn
    have HR : Hid (¬ rest = []) := hr
    have hpl : (flat rs).length ≤ 3000 := by
      have h2 := congrArg List.length hl
      rw [size_data, List.length_append] at h2
      omega
    clear hl hok hn hr
    go_wp2_with fail
    refine (decode_bad s1 rs rest _ (by omega) HO.out HL.out HN.out HR.out).mono ?_
    rintro e w2 ⟨rfl, hb2⟩
    go_wp2_with fail
    refine (refDecode_bad s1 rs rest _ (by omega) HO.out HL.out HN.out HR.out).mono ?_
    rintro e w3 ⟨rfl, hb3⟩
    obtain ⟨p, hp⟩ : ∃ p, p = (flat rs).length := ⟨_, rfl⟩
    rw [← hp]
    clear hp hpl
    go_wp2_with fail
    refine (same_any none none 0 0 [] _ (by decide) (fun h => absurd h (by simp)) (fun h => absurd h (by simp))).mono ?_
    rintro e w4 ⟨rfl, hb4⟩
    go_wp2
    go_ret
    exact ⟨rfl, hb.trans ((hb2.trans ((hb3.trans (hb4.mono hb3.size)).mono hb2.size)).mono hb.size)⟩

end Go.Proofs.Ytpkppjeiinolaaa
