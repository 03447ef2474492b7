/-
  carcanetlaw01.RunesEncode answers true for every row of numbers, and writes nothing that was there.
-/
import Derived.Test.YtpkppjeiinolaaaRefEnc
import Derived.Deep.DeepCutAuto
namespace Go.Proofs.Ytpkppjeiinolaaa
open Go.RowKit Go.Lib

theorem encAns_two (ns : List Int) : (∃ s, encAns ns = .tuple #[.string s, .int .i64 0]) ∨ encAns ns = .tuple #[.string ⟨#[]⟩, .int .i64 2] := by
  unfold encAns
  split
  · exact Or.inl ⟨_, rfl⟩
  · exact Or.inr rfl

theorem RowI.cut {w : World} {a : Option Addr} {n : Nat} {ns : List Int} (h : RowI w a n ns) {m : Nat} (hm : m ≤ n) : RowI w a m (ns.take m) := by
  refine ⟨by rw [List.length_take, h.1]; omega, fun x hx => h.2.1 x (List.mem_of_mem_take hx), fun hn => ?_⟩
  obtain ⟨b, off, ha, hb, hc⟩ := h.2.2 (by omega)
  refine ⟨b, off, ha, hb, fun j hj => ?_⟩
  rw [hc j (by omega)]
  simp [List.getD, hj]

set_option maxHeartbeats 1000000 in
set_option maxRecDepth 100000 in
theorem encode_law (a : Option Addr) (len cap : Nat) (ns : List Int) (w : World) (hl : len ≤ cap) (h : RowI w a len ns) : Calls Try.prog 4 #[.slice a len cap] w fun e w' => e = .returned (.bool true) ∧ Below w.heap.size w w' := by
  have HR : Hid (RowI w a len ns) := h
  clear h
  go_enter Try.func4, Try.ntmps4
  go_wp2_with fail
  refine (shown_any _).mono ?_
  rintro e w1 ⟨rfl, hb⟩
  go_upto_region 2 with fail
  go_cut [0] (fun v wx => ∃ n : Nat, v = .slice a n cap ∧ n ≤ 1000 ∧ n ≤ len ∧ wx = w1)
  case first =>
    go_wp2
    all_goals go_meet
    case rel => exact ⟨1000, rfl, by omega, by omega, rfl⟩
    case rel => exact ⟨len, rfl, by omega, by omega, rfl⟩
  case rest =>
    obtain ⟨n, rfl, hn, hnl, rfl⟩ := hcut
    have hrow := (HR.out.below hb).cut hnl
    have HQ : Hid (RowI wc a n (ns.take n)) := hrow
    clear hrow HR
    go_wp2_with fail
    refine (encode_arg _ _ _ _ _ (by omega) HQ.out).mono ?_
    rintro e w2 ⟨rfl, rfl⟩
    rcases encAns_two (ns.take n) with ⟨s, hs⟩ | hs
    all_goals
      rw [hs]
      have HS : Hid (encAns (ns.take n) = _) := hs
      clear hs
      go_wp2_with fail
      refine (refEncode_any _ _ _ _ _ (by omega) HQ.out).mono ?_
      rintro e w3 ⟨rfl, hb3⟩
      rw [HS.out]
      clear HS HQ
      go_wp2
      go_ret
      exact ⟨rfl, hb.trans (hb3.mono hb.size)⟩

end Go.Proofs.Ytpkppjeiinolaaa
