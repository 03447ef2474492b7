/-
  The document's Of of layer 3: a graph of a Net.
  Models in variables, and what the laws of layer 8 begin with.
  What the laws of layer 9 begin with.
  The document's Check (I1).
-/
import Derived.Test.YtckcbaegehfkoaaC08
import Derived.Test.YtckcbaegehfkoaaC24
import Derived.Test.YtckcbaegehfkoaaC27
import Derived.Test.YtckcbaegehfkoaaC04
import Derived.Test.YtckcbaegehfkoaaC03
import Derived.Test.YtckcbaegehfkoaaC06
import Derived.Test.YtckcbaegehfkoaaC12
import Derived.Test.YtckcbaegehfkoaaC13
import Derived.Test.YtckcbaegehfkoaaC23
import Derived.Test.YtckcbaegehfkoaaC28
import Derived.Test.YtckcbaegehfkoaaC11
import Derived.Test.YtckcbaegehfkoaaC10
import Derived.Test.YtckcbaegehfkoaaC15
namespace Go.Proofs.Ytckcbaegehfkoaa
open Go.RowKit Go.Lib

set_option maxHeartbeats 1000000 in
set_option maxRecDepth 100000 in
theorem net_any (n0 : Int) (a : Option Addr) (N cap : Nat) (l : List (Int × Int)) (most : Nat) (w : World) (hmost : most ≤ 1000) (hl : N = l.length) (hE : EAt w a l) :
    Calls Try.prog 12 #[.agg #[.int .i64 n0, .slice a N cap], .int .i64 most] w fun e w' => ∃ (m : Nat) (ys : List (Int × Int)) (a' : Option Addr) (cap' : Nat), e = .returned (.agg #[.int .i64 m, .slice a' ys.length cap']) ∧ m ≤ most ∧ RightG m ys ∧ ys.length ≤ 300 ∧ Sl a' cap' ys.length ∧ EAt w' a' ys ∧ Below w.heap.size w w' := by
  obtain ⟨W0, hW0, hsz, o1, o2, hB0⟩ := new_two' w (.cells #[.int .i64 n0, .slice a N cap] 24) (.cells #[.int .i64 0, .slice none 0 0] 30)
  have CA := hid (any_any n0 a N cap l most W0 hmost hl (hE.below hB0))
  have HW0 := hid hW0
  have HO2 := hid o2
  have HB0 := hid hB0
  clear hl hE hmost hW0 o1 o2 hB0
  go_enter Try.func12, Try.ntmps12
  go_wp2_with fail
  rw [← HW0.out]
  refine CA.out.mono ?_
  rintro e w3 ⟨m, ys, a3, c3, rfl, hm, hR, hys, hsl, hE3, hb3⟩
  obtain ⟨M, hM⟩ := ex_eq ys.length
  have HM := hid hM
  rw [← hM]
  have o3 : w3.heap[w.heap.size + 1]? = some (.cells #[.int .i64 0, .slice none 0 0] 30) := (hb3.block _ (by omega)).trans HO2.out
  have HNE := hid (eat_off_box o3 hE3)
  obtain ⟨x0, x1⟩ := two_cells o3
  have xf := frozen_of_heap o3
  have HB3 : Hid (Below w.heap.size w w3) := HB0.out.trans (hb3.mono HB0.out.size)
  have HE3 := hid hE3
  have HR := hid hR
  have HSL := hid hsl
  clear hM hE3 hb3 hR hsl o3 CA HW0 HO2 HB0
  go_wp2
  refine bodyPost_ret (v := .agg #[.int .i64 m, .slice a3 M c3]) ?_ rfl ⟨m, ys, a3, c3, by rw [← HM.out], hm, HR.out, hys, HSL.out, (HE3.out.set (p := ⟨w.heap.size + 1, 0, none⟩) HNE.out _).set (p := ⟨w.heap.size + 1, 1, none⟩) HNE.out _, (HB3.out.setCell (p := ⟨w.heap.size + 1, 0, none⟩) (by simp) _).setCell (p := ⟨w.heap.size + 1, 1, none⟩) (by simp) _⟩
  rw [results_cell1 rfl]
  go_simp
end Go.Proofs.Ytckcbaegehfkoaa
namespace Go.Proofs.Ytckcbaegehfkoaa
open Go.RowKit Go.Lib

/-- A model in a variable. -/
structure MC (w : World) (B : Nat) (k : Int) (a : Option Addr) (M cap : Nat) (Ss : List (List Int)) : Prop where
  c0 : w.cell? ⟨B, 0, none⟩ = some (.int .i64 k)
  c1 : w.cell? ⟨B, 1, none⟩ = some (.slice a M cap)
  at_ : LLAt w a Ss
theorem MC.on {w w' : World} {B : Nat} {k : Int} {a : Option Addr} {M cap : Nat} {Ss : List (List Int)} (h : MC w B k a M cap Ss) (hb : Below w.heap.size w w') : MC w' B k a M cap Ss :=
  ⟨(hb.cell (p := ⟨B, 0, none⟩) (block_lt_of_cell h.c0)).trans h.c0, (hb.cell (p := ⟨B, 1, none⟩) (block_lt_of_cell h.c1)).trans h.c1, h.at_.below hb⟩
theorem gc_new8 {w : World} {n : Int} {a : Option Addr} {N cap : Nat} {es : List (Int × Int)} (h : EAt w a es) : GC (w.alloc (.cells #[.int .i64 n, .slice a N cap] 30)) w.heap.size n a N cap es :=
  ⟨by rw [cell_of_heap (heap_alloc_new w _)]; rfl, by rw [cell_of_heap (heap_alloc_new w _)]; rfl, h.below (below_one _ _)⟩
theorem CameI.belowM {w w' : World} {a : Option Addr} {len cap : Nat} {l : List Int} (h : CameI w a len cap l) (hb : Below w.heap.size w w') : CameI w' a len cap l := ⟨h.len_, h.le, h.max, h.nil, h.at_.below hb, h.wf⟩
theorem CameR.belowM {w w' : World} {a : Option Addr} {len cap : Nat} {LL : List (List Int)} (h : CameR w a len cap LL) (hb : Below w.heap.size w w') : CameR w' a len cap LL := ⟨h.len_, h.le, h.max, h.nil, fun h0 => by
  obtain ⟨g, off, ha, hg, hh⟩ := h.at_ h0
  refine ⟨g, off, ha, Nat.lt_of_lt_of_le hg hb.size, fun k hk => ?_⟩
  obtain ⟨ak, ck, h1, h2⟩ := hh k hk
  exact ⟨ak, ck, (hb.cell (p := ⟨g, off + k, none⟩) hg).trans h1, h2.belowM hb⟩⟩
end Go.Proofs.Ytckcbaegehfkoaa
namespace Go.Proofs.Ytckcbaegehfkoaa
open Go.RowKit Go.Lib

theorem cut8_len (LL : List (List Int)) : (cut8 LL).length ≤ 8 := by
  unfold cut8
  rw [cutL_len (by omega)]; omega
theorem cut8_each {LL : List (List Int)} : ∀ S ∈ cut8 LL, S.length ≤ 20 := fun S hS => by
  unfold cut8 cutL at hS
  obtain ⟨T, _, rfl⟩ := List.mem_map.1 hS
  rw [List.length_take]; omega
theorem wf_cut8 {w : World} {a : Option Addr} {N cap : Nat} {LL : List (List Int)} (h : CameR w a N cap LL) : WfR (cut8 LL) := fun S hS x hx => by
  unfold cut8 cutL at hS
  obtain ⟨T, hT, rfl⟩ := List.mem_map.1 hS
  obtain ⟨k, hk, rfl⟩ := List.getElem_of_mem (List.mem_of_mem_take hT)
  obtain ⟨g, off, _, _, hc⟩ := h.at_ (by omega)
  obtain ⟨ak, ck, _, hi⟩ := hc k hk
  exact hi.wf x (List.mem_of_mem_take hx)
end Go.Proofs.Ytckcbaegehfkoaa
namespace Go.Proofs.Ytckcbaegehfkoaa
open Go.RowKit Go.Lib

def Shape (kd : Int) (nt np : Nat) : Prop := (kd = 1 ∧ nt = 4 ∧ np = 6) ∨ (kd = 2 ∧ nt = 2 ∧ np = 3)
theorem formed_shape {kd : Int} {nt : Nat} {P : List (List Int)} (h : Formed kd nt P) : Shape kd nt P.length := by
  obtain ⟨h1, h2, h3, _⟩ := h
  rcases h1 with rfl | rfl
  · exact Or.inl ⟨rfl, h2, h3⟩
  · exact Or.inr ⟨rfl, h2, h3⟩
set_option maxHeartbeats 2000000 in
set_option maxRecDepth 100000 in
theorem shape_any (kd : Int) (ta : Option Addr) (nt tc : Nat) (pa : Option Addr) (np pc : Nat) (r : Bool) (w : World) (hr : r = true ↔ Shape kd nt np) :
    Calls Try.prog 38 #[.agg #[.int .i64 kd, .slice ta nt tc, .slice pa np pc]] w fun e w' => e = .returned (.bool r) ∧ Below w.heap.size w w' := by
  obtain ⟨V, hV⟩ := ex_eq (w.alloc (.cells #[.int .i64 kd, .slice ta nt tc, .slice pa np pc] 28))
  have hbV : Below w.heap.size w V := by rw [hV]; exact below_one _ _
  have o := heap_alloc_new w (.cells #[.int .i64 kd, .slice ta nt tc, .slice pa np pc] 28)
  rw [← hV] at o
  have x0 := cell_of_heap o 0
  have x1 := cell_of_heap o 1
  have x2 := cell_of_heap o 2
  have HB := hid hbV
  have HV := hid hV
  have HR := hid hr
  clear hV hbV o hr
  have no : ¬ Shape kd nt np → r = false := fun h => by
    cases r with
    | false => rfl
    | true => exact absurd (HR.out.1 rfl) h
  have HNO := hid no
  clear no
  have way : (kd = 1 ∧ nt = 4 ∧ np = 6) ∨ (kd = 1 ∧ nt = 4 ∧ np ≠ 6) ∨ (kd = 1 ∧ nt ≠ 4) ∨ (kd = 2 ∧ nt = 2 ∧ np = 3) ∨ (kd = 2 ∧ nt = 2 ∧ np ≠ 3) ∨ (kd = 2 ∧ nt ≠ 2) ∨ (kd ≠ 1 ∧ kd ≠ 2) := by omega
  rcases way with ⟨rfl, rfl, rfl⟩ | ⟨rfl, rfl, h⟩ | ⟨rfl, h⟩ | ⟨rfl, rfl, rfl⟩ | ⟨rfl, rfl, h⟩ | ⟨rfl, h⟩ | ⟨h, h'⟩
  · have HF : Hid (r = true) := HR.out.2 (Or.inl ⟨rfl, rfl, rfl⟩)
    clear HR HNO
    go_enter Try.func38, Try.ntmps38
    go_upto_region 1 with fail
    rw [← HV.out]
    go_wp2
    go_ret
    exact ⟨by rw [HF.out]; rfl, HB.out⟩
  · have HF : Hid (r = false) := HNO.out (fun k => by rcases k with k | k <;> omega)
    have b1 : ((np : Int) == 6) = false := by simp; omega
    have b2 : ¬ (np : Int) = 6 := by omega
    clear HR HNO
    go_enter Try.func38, Try.ntmps38
    go_upto_region 1 with fail
    rw [← HV.out]
    go_wp2
    go_ret
    exact ⟨by rw [HF.out]; rfl, HB.out⟩
  · have HF : Hid (r = false) := HNO.out (fun k => by rcases k with k | k <;> omega)
    have b1 : ((nt : Int) == 4) = false := by simp; omega
    have b2 : ¬ (nt : Int) = 4 := by omega
    clear HR HNO
    go_enter Try.func38, Try.ntmps38
    go_upto_region 1 with fail
    rw [← HV.out]
    go_wp2
    go_ret
    exact ⟨by rw [HF.out]; rfl, HB.out⟩
  · have HF : Hid (r = true) := HR.out.2 (Or.inr ⟨rfl, rfl, rfl⟩)
    clear HR HNO
    go_enter Try.func38, Try.ntmps38
    go_upto_region 1 with fail
    rw [← HV.out]
    go_wp2
    go_ret
    exact ⟨by rw [HF.out]; rfl, HB.out⟩
  · have HF : Hid (r = false) := HNO.out (fun k => by rcases k with k | k <;> omega)
    have b1 : ((np : Int) == 3) = false := by simp; omega
    have b2 : ¬ (np : Int) = 3 := by omega
    clear HR HNO
    go_enter Try.func38, Try.ntmps38
    go_upto_region 1 with fail
    rw [← HV.out]
    go_wp2
    go_ret
    exact ⟨by rw [HF.out]; rfl, HB.out⟩
  · have HF : Hid (r = false) := HNO.out (fun k => by rcases k with k | k <;> omega)
    have b1 : ((nt : Int) == 2) = false := by simp; omega
    have b2 : ¬ (nt : Int) = 2 := by omega
    clear HR HNO
    go_enter Try.func38, Try.ntmps38
    go_upto_region 1 with fail
    rw [← HV.out]
    go_wp2
    go_ret
    exact ⟨by rw [HF.out]; rfl, HB.out⟩
  · have HF : Hid (r = false) := HNO.out (fun k => by rcases k with k | k <;> omega)
    have b1 : (kd == 1) = false := by simp; omega
    have b2 : (kd == 2) = false := by simp; omega
    clear HR HNO
    go_enter Try.func38, Try.ntmps38
    go_upto_region 1 with fail
    rw [← HV.out]
    go_wp2
    go_ret
    exact ⟨by rw [HF.out]; rfl, HB.out⟩
set_option maxHeartbeats 1000000 in
theorem from_any (kd : Int) (k : Nat) (w : World) (hk : k ≤ 6) :
    Calls Try.prog 40 #[.int .i64 kd, .int .i64 k] w fun e w' => e = .returned (.tuple #[.int .i64 ((fromL kd k).1 : Nat), .int .i64 ((fromL kd k).2 : Nat)]) ∧ w' = w := by
  by_cases h2 : kd = 2
  · subst h2
    go_enter Try.func40, Try.ntmps40
    go_wp2
    go_ret2
    exact ⟨rfl, rfl⟩
  · have b0 : (kd == 2) = false := by simp [h2]
    by_cases h3 : k < 3
    · have b1 : (k : Int) < 3 := by omega
      have e : fromL kd k = (0, k + 1) := by unfold fromL; rw [if_neg h2, if_pos h3]
      have r1 : IntKind.i64.wrap ((k : Int) + 1) = (k : Int) + 1 := by rw [IntKind.wrap_i64]; omega
      rw [e]
      go_enter Try.func40, Try.ntmps40
      go_wp2
      go_ret2
      exact ⟨by simp, rfl⟩
    · have b1 : ¬ (k : Int) < 3 := by omega
      by_cases h5 : k < 5
      · have b2 : (k : Int) < 5 := by omega
        obtain ⟨j, hj⟩ : ∃ j, j = k - 1 := ⟨_, rfl⟩
        have e : fromL kd k = (1, j) := by unfold fromL; rw [if_neg h2, if_neg h3, if_pos h5, hj]
        have r0 : (k : Int) - 1 = (j : Int) := by omega
        have r1 : IntKind.i64.wrap (j : Int) = (j : Int) := by rw [IntKind.wrap_i64]; omega
        rw [e]
        clear e hj
        go_enter Try.func40, Try.ntmps40
        go_wp2
        go_ret2
        exact ⟨by simp, rfl⟩
      · have b2 : ¬ (k : Int) < 5 := by omega
        have e : fromL kd k = (2, 3) := by unfold fromL; rw [if_neg h2, if_neg h3, if_neg h5]
        rw [e]
        go_enter Try.func40, Try.ntmps40
        go_wp2
        go_ret2
        exact ⟨rfl, rfl⟩
end Go.Proofs.Ytckcbaegehfkoaa
