/-
  carcanetlaw05.WalkTurn answers true, for any walks that keep the contracts.
-/
import Derived.Test.YtccbheijfnodjaaB26
import Derived.Test.YtccbheijfnodjaaB27
import Derived.Test.YtccbheijfnodjaaB07
namespace Go.Proofs.Ytccbheijfnodjaa
open Go.RowKit Go.Lib

theorem iat_take {w : World} {a : Option Addr} {xs : List Int} (h : IAt w a xs) (k : Nat) : IAt w a (xs.take k) := fun h0 => by
  rw [List.length_take] at h0
  obtain ⟨g, off, ha, hg, hc⟩ := h (by omega)
  refine ⟨g, off, ha, hg, fun j hj => ?_⟩
  rw [List.length_take] at hj
  rw [List.getElem_take]
  exact hc j (by omega)

set_option maxHeartbeats 4000000 in
set_option maxRecDepth 100000 in
theorem walkTurn_law (O : WalkOps) (a : Option Addr) (len cap : Nat) (l : List Int) (w : World) (hl : len = l.length) (hc : len ≤ cap) (hcm : cap ≤ maxLen) (ha : a = none → cap = 0) (hI : IAt w a l) :
    Calls Try.prog 5 #[.slice a len cap] w fun e w' => e = .returned (.bool true) ∧ Below w.heap.size w w' := by
  have HO := hid O
  obtain ⟨K, hK⟩ := ex_eq (min len 200)
  obtain ⟨c, hes⟩ := ex_eq (l.take K)
  have hek : c.length = K := by rw [hes, List.length_take]; omega
  have HEK : Hid (K = c.length) := hek.symm
  have k5 : K ≤ 200 := by omega
  have kmin : min (len : Int) 200 = (K : Int) := by omega
  have kc : (K : Int) ≤ (cap : Int) := by omega
  have k0 : (0 : Int) ≤ (K : Int) := by omega
  have k9 : (K : Int) ≤ (len : Int) := by omega
  have HSL : Hid (Slw a cap K) := ⟨by omega, ha⟩
  have HIB : Hid (∀ X, Below w.heap.size w X → IAt X a c) := fun X h => by rw [hes]; exact iat_take (hI.below h) K
  clear O hl hI hes hek hK
  go_enter Try.func5, Try.ntmps5
  go_wp2_with fail
  refine (wshown_any HO.out w).mono ?_
  rintro e w1 ⟨rfl, hb1⟩
  have HB1 := hid hb1
  clear hb1
  go_upto_region 2 with fail
  go_cut [0] (fun v wx => v = .slice a K cap ∧ wx = w1)
  case first =>
    clear HSL
    cases a with
    | none =>
      obtain rfl := ha rfl
      obtain rfl : len = 0 := by omega
      obtain rfl : K = 0 := by simp at k9; omega
      clear ha kmin kc k0 k5 hc hcm k9
      go_wp2
      all_goals go_meet
      all_goals exact ⟨rfl, rfl⟩
    | some ad =>
      clear ha
      go_wp2
      all_goals go_meet
      all_goals exact ⟨rfl, rfl⟩
  case rest =>
    obtain ⟨rfl, hwc⟩ := hcut
    rw [hwc]
    clear hwc kmin kc k9 hc hcm ha k0
    have C1 : Hid (Calls Try.prog 22 #[.slice a K cap] w1 fun e w' => ∃ v, e = .returned v ∧ TurnTold c w1 w' v) := by
      show Calls _ _ _ _ _
      rw [HEK.out]
      exact HO.out.turn a cap c w1 (by rw [← HEK.out]; omega) (by rw [← HEK.out]; exact HSL.out) (HIB.out w1 HB1.out)
    have C2 : Hid (∀ X, Below w.heap.size w X → Calls Try.prog 23 #[.slice a K cap] X fun e w' => ∃ v, e = .returned v ∧ TurnTold c X w' v) := fun X hX => by
      rw [HEK.out]
      exact rturn_any a cap c X (by rw [← HEK.out]; omega) (by rw [← HEK.out]; exact HSL.out) (HIB.out X hX)
    go_wp2_with fail
    refine C1.out.mono ?_
    rintro e w2 ⟨v2, rfl, a2, c2, L, rfl, hT2, hs2, hI2, hb2⟩
    have HB2 : Hid (Below w.heap.size w w2) := HB1.out.trans (hb2.mono HB1.out.size)
    have HT2 := hid hT2
    have HI2 := hid hI2
    clear hT2 hs2 hI2 hb2 C1
    go_wp2_with fail
    refine (C2.out w2 HB2.out).mono ?_
    rintro e w3 ⟨v3, rfl, a3, c3, M, rfl, hT3, hs3, hI3, hb3⟩
    obtain rfl : L = M := HT2.out.one hT3
    have hLl := HT2.out.len
    have CS := hid (same_any a2 a3 c2 c3 L L true w3 (by rw [hLl, ← HEK.out]; omega) (HI2.out.below hb3) hI3 ⟨fun _ => rfl, fun _ => rfl⟩)
    have HB3 : Hid (Below w.heap.size w w3) := HB2.out.trans (hb3.mono HB2.out.size)
    clear hT3 hs3 hI3 hb3 C2 HT2 HI2 hLl
    go_wp2_with fail
    refine CS.out.mono ?_
    rintro e w4 ⟨rfl, hb4⟩
    have HB4 : Hid (Below w.heap.size w w4) := HB3.out.trans (hb4.mono HB3.out.size)
    clear hb4 CS
    go_wp2
    go_ret
    exact ⟨rfl, HB4.out⟩
end Go.Proofs.Ytccbheijfnodjaa
