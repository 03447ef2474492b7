/-
  The program's renumbered keeps its contract: the edges under new numbers, in order.
  The program's renumbered keeps its contract, where a vertex goes and the others close up.
  The program's small functions of layer 6: which numbers are vertices, whether all are, and how a vertex goes.
-/
import Derived.Test.YtlebimolgienkaaM06
import Derived.Test.YtlebimolgienkaaM24
import Derived.Test.YtlebimolgienkaaM04
import Derived.Test.YtlebimolgienkaaM22
import Derived.Test.YtlebimolgienkaaM18
namespace Go.Proofs.Ytlebimolgienkaa
open Go.RowKit Go.Lib

set_option maxHeartbeats 400000 in
theorem closed_any (out bo bh x : Nat) (heir : Int) (w : World) (hx : x ≤ 1000000) (ho : w.cell? ⟨bo, 0, none⟩ = some (.int .i64 out)) (hh : w.cell? ⟨bh, 0, none⟩ = some (.int .i64 heir)) :
    Calls Try.prog 101 #[.int .i64 x, .pointer (some ⟨bo, 0, none⟩), .pointer (some ⟨bh, 0, none⟩)] w fun e w' => e = .returned (.int .i64 (fC out heir x)) ∧ w' = w := by
  by_cases h1 : x < out
  · have e1 : fC out heir x = x := by unfold fC; rw [if_pos (by omega)]
    rw [e1]
    have q1 : (x : Int) < (out : Int) := by omega
    clear e1
    go_enter Try.func101, Try.ntmps101
    go_wp2
    go_ret
    exact ⟨rfl, rfl⟩
  · by_cases h2 : x = out
    · subst h2
      have e1 : fC x heir x = heir := fC_out
      rw [e1]
      have q1 : ¬ (x : Int) < (x : Int) := by omega
      clear e1
      go_enter Try.func101, Try.ntmps101
      go_wp2
      go_ret
      exact ⟨rfl, rfl⟩
    · have e1 : fC out heir x = (x : Int) - 1 := by unfold fC; rw [if_neg (by omega), if_neg (by omega)]
      rw [e1]
      have q1 : ¬ (x : Int) < (out : Int) := by omega
      have q2 : ((x : Int) == (out : Int)) = false := beq_eq_false_iff_ne.2 (by omega)
      have q3 : ¬ (x : Int) = (out : Int) := by omega
      have q4 : IntKind.i64.wrap ((x : Int) - 1) = (x : Int) - 1 := by simp [IntKind.wrap, IntKind.bits, IntKind.signed]; omega
      clear e1
      go_enter Try.func101, Try.ntmps101
      go_wp2
      go_ret
      exact ⟨rfl, rfl⟩
/-- What is told of the edges under new numbers. -/
def RenS (N : Int) (f : Int → Int) (es : List (Int × Int)) (er N' : Int) (E : List (Int × Int)) : Prop := N' = nOf N er ∧ NormE N (renL f es) er E

end Go.Proofs.Ytlebimolgienkaa
namespace Go.Proofs.Ytlebimolgienkaa
open Go.RowKit Go.Lib

set_option maxHeartbeats 2000000 in
set_option maxRecDepth 100000 in
theorem ren_closed (n N : Int) (a : Option Addr) (cap : Nat) (es : List (Int × Int)) (f : Int → Int) (bo bh : Nat) (w : World) (hN : es.length ≤ 1000000) (hE : EAt w a es) (hIn : ∀ e ∈ es, (0 ≤ e.1 ∧ e.1 < n) ∧ (0 ≤ e.2 ∧ e.2 < n))
    (hF : ∀ X x, 0 ≤ x → x < n → Below w.heap.size w X → Calls Try.prog 101 #[.int .i64 x, .pointer (some ⟨bo, 0, none⟩), .pointer (some ⟨bh, 0, none⟩)] X fun e w' => e = .returned (.int .i64 (f x)) ∧ w' = X) :
    Calls Try.prog 66 #[.agg #[.int .i64 n, .slice a es.length cap], .agg #[.int .i64 N, .func (.func 101) #[] #[.pointer (some ⟨bo, 0, none⟩), .pointer (some ⟨bh, 0, none⟩)]]] w fun e w' => ∃ u, e = .returned u ∧ SubTold (RenS N f es) w w' u := by
  obtain ⟨i0, hi, hz0, hz1, hz2⟩ := info_parts Try.info56
  obtain ⟨K, hK⟩ := ex_eq es.length
  rw [← hK] at hN ⊢
  have HK := hid hK
  obtain ⟨W0, hW0⟩ := ex_eq (((w.alloc (.cells #[.int .i64 n, .slice a K cap] 26)).alloc (.cells #[.int .i64 N, .func (.func 101) #[] #[.pointer (some ⟨bo, 0, none⟩), .pointer (some ⟨bh, 0, none⟩)]] 93)).alloc (.cells #[.int .i64 0, .slice none 0 0] 26))
  have hs0 : W0.heap.size = w.heap.size + 1 + 1 + 1 := by rw [hW0]; simp
  have HB0 : Hid (Below w.heap.size w W0) := by
    show Below _ _ _
    rw [hW0]; exact ((((Below.refl _ w).alloc (Nat.le_refl _) _).alloc (by simp) _).alloc (by simp; omega) _)
  have o2 : W0.heap[w.heap.size + 1 + 1]? = some (.cells #[.int .i64 0, .slice none 0 0] 26 (0, 0)) := by
    have h := heap_alloc_new ((w.alloc (.cells #[.int .i64 n, .slice a K cap] 26)).alloc (.cells #[.int .i64 N, .func (.func 101) #[] #[.pointer (some ⟨bo, 0, none⟩), .pointer (some ⟨bh, 0, none⟩)]] 93)) (.cells #[.int .i64 0, .slice none 0 0] 26)
    rw [← hW0] at h
    simpa using h
  have o1 : W0.heap[w.heap.size + 1]? = some (.cells #[.int .i64 N, .func (.func 101) #[] #[.pointer (some ⟨bo, 0, none⟩), .pointer (some ⟨bh, 0, none⟩)]] 93 (0, 0)) := by
    rw [hW0, alloc_at (by simp)]
    have h := heap_alloc_new (w.alloc (.cells #[.int .i64 n, .slice a K cap] 26)) (.cells #[.int .i64 N, .func (.func 101) #[] #[.pointer (some ⟨bo, 0, none⟩), .pointer (some ⟨bh, 0, none⟩)]] 93)
    simpa using h
  have o0 : W0.heap[w.heap.size]? = some (.cells #[.int .i64 n, .slice a K cap] 26 (0, 0)) := by
    rw [hW0, alloc_at (by simp; omega), alloc_at (by simp)]
    exact heap_alloc_new w _
  have HKEEP : Hid (∀ X, Below W0.heap.size W0 X → (X.cell? ⟨w.heap.size + 1, 0, none⟩ = some (.int .i64 N) ∧ X.cell? ⟨w.heap.size + 1, 1, none⟩ = some (.func (.func 101) #[] #[.pointer (some ⟨bo, 0, none⟩), .pointer (some ⟨bh, 0, none⟩)])) ∧ X.heap[w.heap.size + 1 + 1]? = some (.cells #[.int .i64 0, .slice none 0 0] 26 (0, 0)) ∧ Below w.heap.size w X) := fun X hX => by
    have p1 := (hX.block _ (by omega)).trans o1
    have p2 := (hX.block _ (by omega)).trans o2
    exact ⟨⟨cell_of_heap p1 0, cell_of_heap p1 1⟩, p2, HB0.out.trans (hX.mono (by omega))⟩
  have HE0 : Hid (EAt W0 a es) := hE.below HB0.out
  have HIN := hid hIn
  have HF := hid hF
  have HW0 := hid hW0
  have c0 := cell_of_heap o0 0
  have c1 := cell_of_heap o0 1
  clear hW0 hE hK hIn hF o1 o2
  go_enter Try.func66, Try.ntmps66
  go_upto_region 2 with fail
  rw [← HW0.out]
  clear HW0
  go_wp2
  clear c0 c1 o0
  go_loopw [6, 14] (fun v i wr => ∃ k : Nat, k ≤ K ∧ i = .int .i64 k ∧ Hid (wr.ownsRow W0.heap.size 56 2 v (renL f (es.take k)).length (cellsE (renL f (es.take k)))) ∧ Below W0.heap.size W0 wr) (fun _ i _ => K - (RowKit.intOf i).toNat)
  case atStart => exact ⟨0, Nat.zero_le _, rfl, World.ownsRow_nil _ _ _ _, Below.refl _ _⟩
  case round =>
    obtain ⟨k, hk, rfl, hown, hbr⟩ := hrel
    by_cases hlt : k < K
    · have hkr : k < es.length := by rw [← HK.out]; exact hlt
      obtain ⟨g, off, rfl, hg, hcs⟩ := HE0.out.at hkr
      obtain ⟨e1, he1⟩ := ex_eq es[k].1
      obtain ⟨e2, he2⟩ := ex_eq es[k].2
      have d := hcs wr hbr k hkr
      rw [← he1, ← he2] at d
      obtain ⟨d0, d1⟩ := d
      have hin := HIN.out es[k] (List.getElem_mem _)
      rw [← he1, ← he2] at hin
      obtain ⟨V, hV⟩ := ex_eq (wr.alloc (.cells #[.int .i64 e1, .int .i64 e2] 56))
      have hbV : Below W0.heap.size W0 V := by rw [hV]; exact hbr.alloc hbr.size _
      have hVo : V.heap[wr.heap.size]? = some (.cells #[.int .i64 e1, .int .i64 e2] 56 (0, 0)) := by rw [hV]; exact heap_alloc_new _ _
      have HOV : Hid (V.ownsRow W0.heap.size 56 2 u6 (renL f (es.take k)).length (cellsE (renL f (es.take k)))) := by
        show World.ownsRow _ _ _ _ _ _ _
        rw [hV]; exact hown.out.alloc _
      obtain ⟨x, hx⟩ := ex_eq (f e1)
      obtain ⟨y, hy⟩ := ex_eq (f e2)
      have HC1 : Hid (∀ X, Below w.heap.size w X → Calls Try.prog 101 #[.int .i64 e1, .pointer (some ⟨bo, 0, none⟩), .pointer (some ⟨bh, 0, none⟩)] X fun e w' => e = .returned (.int .i64 x) ∧ w' = X) := fun X hX => by rw [hx]; exact HF.out X e1 hin.1.1 hin.1.2 hX
      have HC2 : Hid (∀ X, Below w.heap.size w X → Calls Try.prog 101 #[.int .i64 e2, .pointer (some ⟨bo, 0, none⟩), .pointer (some ⟨bh, 0, none⟩)] X fun e w' => e = .returned (.int .i64 y) ∧ w' = X) := fun X hX => by rw [hy]; exact HF.out X e2 hin.2.1 hin.2.2 hX
      have HNX : Hid (renL f (es.take (k + 1)) = renL f (es.take k) ++ (if x ≠ -1 ∧ y ≠ -1 then [(x, y)] else [])) := by
        show _ = _
        rw [renL_next hkr, hx, hy, he1, he2]
      have hlen : (renL f (es.take k)).length ≤ k := Nat.le_trans (renL_len _ _) (by rw [List.length_take]; omega)
      have r0 := cell_of_heap hVo 0
      have r1 := cell_of_heap hVo 1
      obtain ⟨⟨s0, s1⟩, _, hbwV⟩ := HKEEP.out V hbV
      have HBD : Hid (∀ q, Below w.heap.size w (V.drewN q)) := fun q => below_drewN hbwV q
      have HV := hid hV
      clear hV hcs he1 he2 hx hy hVo hown
      go_upto_region 5 with fail
      rw [← HV.out]
      clear HV d0 d1
      go_quiet (first | (go_at_call_of 101 (Value.int .i64 e1); refine Calls.quiet_of_same (HC1.out _ (HBD.out _))) | (go_at_call_of 101 (Value.int .i64 e2); refine Calls.quiet_of_same (HC2.out _ (HBD.out _))))
      obtain ⟨V2, hV2⟩ := ex_eq (V.drewN nq)
      rw [← hV2]
      have hb2 : Below W0.heap.size W0 V2 := by rw [hV2]; exact below_drewN hbV nq
      have hown2 : V2.ownsRow W0.heap.size 56 2 u6 (renL f (es.take k)).length (cellsE (renL f (es.take k))) := by rw [hV2]; exact own_below HOV.out (below_drewN (Below.refl _ V) nq)
      have hs2 := hb2.size
      obtain ⟨P, hP⟩ := ex_eq (renL f (es.take k))
      rw [← hP] at hlen hown2 HNX
      clear hV2 r0 r1 s0 s1 HC1 HC2 HBD hbV hbwV HOV hP hbr
      by_cases hg1 : x ≠ -1 ∧ y ≠ -1
      · obtain ⟨hx1, hy1⟩ := hg1
        have b1 : (x == -1) = false := beq_eq_false_iff_ne.2 hx1
        have b2 : (y == -1) = false := beq_eq_false_iff_ne.2 hy1
        have b3 : (x != -1) = true := by simp [hx1]
        have b4 : (y != -1) = true := by simp [hy1]
        have b5 : ¬ x = -1 := hx1
        have b6 : ¬ y = -1 := hy1
        clear hx1 hy1
        have HNX2 : Hid (renL f (es.take (k + 1)) = P ++ [(x, y)]) := by
          show _ = _
          rw [HNX.out, if_pos ⟨b5, b6⟩]
        clear HNX
        go_wp2_with (at_builtin; refine wpList_append_own _ rfl _ _ 22 rfl W0.heap.size 56 i0 _ 2 16 Try.underlying22 hi hz0 hz1 hz2 rfl (by decide) _ _ _ rfl (hown2.alloc _) _ 1 1 [.int .i64 x, .int .i64 y] rfl rfl ?c1 ?c2 ?c3 ?c4 ?c5 ?_)
        case c1 => exact cells_two (heap_alloc_new _ _)
        case c2 =>
          intro u hu
          simp at hu
          rcases hu with rfl | rfl <;> rfl
        case c3 => unfold maxLen; omega
        case c4 => omega
        case c5 => simp; omega
        intro v' w4 hown4 hgrow _
        have hb4 : Below W0.heap.size W0 w4 := Below.grown (hb2.alloc hs2 _) hgrow (by simp; omega) (fun j hj => (hown2.lt j hj).1)
        have HO : Hid (w4.ownsRow W0.heap.size 56 2 v' (renL f (es.take (k + 1))).length (cellsE (renL f (es.take (k + 1))))) := by
          show w4.ownsRow W0.heap.size 56 2 v' (renL f (es.take (k + 1))).length (cellsE (renL f (es.take (k + 1))))
          rw [HNX2.out, cellsE_append, List.length_append]
          first | exact hown4 | (rw [hs0]; exact hown4)
        clear hgrow hown2 hown4 hi hz0 hz1 hz2
        go_wp2
        go_roundw
        case rel => exact ⟨k + 1, by omega, by go_num, HO, hb4⟩
        case measure => simp [RowKit.intOf]; omega
      · have HO : Hid (V2.ownsRow W0.heap.size 56 2 u6 (renL f (es.take (k + 1))).length (cellsE (renL f (es.take (k + 1))))) := by
          show World.ownsRow _ _ _ _ _ _ _
          rw [HNX.out, if_neg hg1, List.append_nil]; exact hown2
        clear hown2 HNX hi hz0 hz1 hz2
        by_cases hx1 : x = -1
        · subst hx1
          clear hg1
          go_wp2
          go_roundw
          case rel => exact ⟨k + 1, by omega, by go_num, HO, hb2⟩
          case measure => simp [RowKit.intOf]; omega
        · have hy1 : y = -1 := by
            by_cases e : y = -1
            · exact e
            · exact absurd ⟨hx1, e⟩ hg1
          subst hy1
          have b1 : (x == -1) = false := beq_eq_false_iff_ne.2 hx1
          clear hg1
          go_wp2
          go_roundw
          case rel => exact ⟨k + 1, by omega, by go_num, HO, hb2⟩
          case measure => simp [RowKit.intOf]; omega
    · obtain rfl : k = K := by omega
      have htk : es.take k = es := by rw [HK.out, List.take_length]
      rw [htk] at hown
      obtain ⟨a1, cap1, rfl, hsl, hea⟩ := eat_own hown.out
      have hll := renL_len f es
      rw [← HK.out] at hll
      obtain ⟨M, hM⟩ := ex_eq (renL f es).length
      have CN : Hid (Calls Try.prog 100 #[.int .i64 N, .slice a1 M cap1] wr fun e w' => ∃ er es' a' cap', e = .returned (.tuple #[.agg #[.int .i64 (nOf N er), .slice a' es'.length cap'], .int .i64 er]) ∧ NormE N (renL f es) er es' ∧ Sl a' cap' es'.length ∧ EAt w' a' es' ∧ Below wr.heap.size wr w') := by
        rw [hM]; exact normal_any N a1 cap1 (renL f es) wr (by omega) hea
      rw [← hM]
      obtain ⟨⟨s0, s1⟩, _, _⟩ := HKEEP.out wr hbr
      clear hM hsl hea hown hll hi hz0 hz1 hz2 htk HIN HF
      go_wp2_with fail
      refine CN.out.mono ?_
      rintro e w2 ⟨er, E, a2, c2, rfl, hnm, hsl2, hea2, hb2⟩
      obtain ⟨_, o2, hbw2⟩ := HKEEP.out w2 (hbr.trans (hb2.mono hbr.size))
      have z0 := cell_of_heap o2 0
      have z1 := cell_of_heap o2 1
      have zf0 := frozen_of_heap o2 0
      have zf1 := frozen_of_heap o2 1
      have HNE := hid (eat_off_box o2 hea2)
      obtain ⟨N2, hN2⟩ := ex_eq (nOf N er)
      rw [← hN2]
      have HN2 := hid hN2
      have HNM := hid hnm
      have HSL2 := hid hsl2
      have HEA2 := hid hea2
      have HBW := hid hbw2
      clear hN2 hnm hsl2 hea2 hb2 hbw2 o2 s0 s1 CN HKEEP
      go_wp2
      refine bodyPost_ret (v := .tuple #[.agg #[.int .i64 N2, .slice a2 E.length c2], .int .i64 er]) ?_ rfl ⟨_, rfl, er, N2, E, a2, c2, rfl, ⟨HN2.out, HNM.out⟩, HSL2.out, ?_, ?_⟩
      · rw [results_cell_tmp rfl]
        go_simp
      · have hne : ∀ g off, 0 < E.length → a2 = some ⟨g, off, none⟩ → g ≠ w.heap.size + 1 + 1 := HNE.out
        exact (HEA2.out.set (p := ⟨w.heap.size + 1 + 1, 0, none⟩) hne _).set (p := ⟨w.heap.size + 1 + 1, 1, none⟩) hne _
      · exact (HBW.out.setCell (p := ⟨w.heap.size + 1 + 1, 0, none⟩) (by simp; omega) _).setCell (p := ⟨w.heap.size + 1 + 1, 1, none⟩) (by simp; omega) _
end Go.Proofs.Ytlebimolgienkaa
namespace Go.Proofs.Ytlebimolgienkaa
open Go.RowKit Go.Lib

theorem ren_ok {n N : Int} {f : Int → Int} {es : List (Int × Int)} {er N' : Int} {E : List (Int × Int)} (hR : RightG n es) (h0 : 0 ≤ N) (h1 : N ≤ 1000) (hf : ∀ v, 0 ≤ v → v < n → f v = -1 ∨ (0 ≤ f v ∧ f v < N)) (h : RenS N f es er N' E) : er = 0 ∧ N' = N ∧ IsNorm (renL f es) E := by
  obtain ⟨e, h⟩ := h
  have hall := renL_all hR hf
  rcases h with ⟨h2, _⟩ | ⟨h2, _⟩ | ⟨_, h2, _⟩ | ⟨_, _, _, _, x, h2, h3⟩ | ⟨_, _, rfl, h4, _⟩
  · omega
  · omega
  · exact absurd hall h2
  · have := h2.len
    have := renL_len f es
    have := hR.2.2.1
    omega
  · exact ⟨rfl, e, h4⟩
set_option maxHeartbeats 1000000 in
theorem sub_isVertex_any (n v : Int) (a : Option Addr) (N cap : Nat) (w : World) :
    Calls Try.prog 64 #[.agg #[.int .i64 n, .slice a N cap], .int .i64 v] w fun e w' => e = .returned (.bool (decide (0 ≤ v ∧ v < n))) ∧ Below w.heap.size w w' := by
  have o := heap_alloc_new w (.cells #[.int .i64 n, .slice a N cap] 26)
  have c0 := cell_of_heap o 0
  have hb := below_one w (.cells #[.int .i64 n, .slice a N cap] 26)
  have HB := hid hb
  clear hb o
  by_cases h0 : v < 0
  · have e0 : decide (0 ≤ v ∧ v < n) = false := decide_eq_false (by omega)
    rw [e0]
    have e1 : decide (v ≥ 0) = false := decide_eq_false (by omega)
    have e2 : decide (0 ≤ v) = false := decide_eq_false (by omega)
    have e3 : ¬ 0 ≤ v := by omega
    clear e0
    go_enter Try.func64, Try.ntmps64
    go_wp2
    go_ret
    exact ⟨rfl, HB.out⟩
  · have e1 : decide (v ≥ 0) = true := decide_eq_true (by omega)
    have e2 : decide (0 ≤ v) = true := decide_eq_true (by omega)
    have e3 : 0 ≤ v := by omega
    by_cases h1 : v < n
    · have e0 : decide (0 ≤ v ∧ v < n) = true := decide_eq_true (by omega)
      rw [e0]
      have e4 : decide (v < n) = true := decide_eq_true h1
      clear e0
      go_enter Try.func64, Try.ntmps64
      go_wp2
      go_ret
      exact ⟨rfl, HB.out⟩
    · have e0 : decide (0 ≤ v ∧ v < n) = false := decide_eq_false (by omega)
      rw [e0]
      have e4 : decide (v < n) = false := decide_eq_false h1
      clear e0
      go_enter Try.func64, Try.ntmps64
      go_wp2
      go_ret
      exact ⟨rfl, HB.out⟩
set_option maxHeartbeats 2000000 in
theorem closingUp_any (n out heir : Int) (a : Option Addr) (N cap : Nat) (w : World) (hn0 : 0 ≤ n) (hn : n ≤ 1000) :
    Calls Try.prog 67 #[.agg #[.int .i64 n, .slice a N cap], .int .i64 out, .int .i64 heir] w fun e w' => ∃ bo bh, e = .returned (.agg #[.int .i64 (n - 1), .func (.func 101) #[] #[.pointer (some ⟨bo, 0, none⟩), .pointer (some ⟨bh, 0, none⟩)]]) ∧ w'.cell? ⟨bo, 0, none⟩ = some (.int .i64 out) ∧ w'.cell? ⟨bh, 0, none⟩ = some (.int .i64 heir) ∧ Below w.heap.size w w' := by
  obtain ⟨W4, hW4⟩ := ex_eq ((((w.alloc (.cells #[.int .i64 n, .slice a N cap] 26)).alloc (.cells #[.int .i64 out] 3)).alloc (.cells #[.int .i64 heir] 3)).alloc (.cells #[.int .i64 0, .nilFunc] 93))
  have o0 : W4.heap[w.heap.size]? = some (.cells #[.int .i64 n, .slice a N cap] 26 (0, 0)) := by
    rw [hW4, alloc_at (by simp; omega), alloc_at (by simp; omega), alloc_at (by simp)]
    exact heap_alloc_new w _
  have o1 : W4.heap[w.heap.size + 1]? = some (.cells #[.int .i64 out] 3 (0, 0)) := by
    rw [hW4, alloc_at (by simp), alloc_at (by simp)]
    have h := heap_alloc_new (w.alloc (.cells #[.int .i64 n, .slice a N cap] 26)) (.cells #[.int .i64 out] 3)
    simpa using h
  have o2 : W4.heap[w.heap.size + 1 + 1]? = some (.cells #[.int .i64 heir] 3 (0, 0)) := by
    rw [hW4, alloc_at (by simp)]
    have h := heap_alloc_new ((w.alloc (.cells #[.int .i64 n, .slice a N cap] 26)).alloc (.cells #[.int .i64 out] 3)) (.cells #[.int .i64 heir] 3)
    simpa using h
  have o3 : W4.heap[w.heap.size + 1 + 1 + 1]? = some (.cells #[.int .i64 0, .nilFunc] 93 (0, 0)) := by
    have h := heap_alloc_new (((w.alloc (.cells #[.int .i64 n, .slice a N cap] 26)).alloc (.cells #[.int .i64 out] 3)).alloc (.cells #[.int .i64 heir] 3)) (.cells #[.int .i64 0, .nilFunc] 93)
    rw [← hW4] at h
    simpa using h
  have HB : Hid (Below w.heap.size w W4) := by
    show Below _ _ _
    rw [hW4]; exact (((((Below.refl _ w).alloc (Nat.le_refl _) _).alloc (by simp) _).alloc (by simp; omega) _).alloc (by simp; omega) _)
  have c0 := cell_of_heap o0 0
  have HO1 : Hid (W4.cell? ⟨w.heap.size + 1, 0, none⟩ = some (.int .i64 out)) := cell_of_heap o1 0
  have HO2 : Hid (W4.cell? ⟨w.heap.size + 1 + 1, 0, none⟩ = some (.int .i64 heir)) := cell_of_heap o2 0
  have z0 := cell_of_heap o3 0
  have z1 := cell_of_heap o3 1
  have zf0 := frozen_of_heap o3 0
  have zf1 := frozen_of_heap o3 1
  have q4 : IntKind.i64.wrap (n - 1) = n - 1 := by simp [IntKind.wrap, IntKind.bits, IntKind.signed]; omega
  have hsf := fun (a : Addr) (c : Array Value) (w : World) => run_store Try.prog w a (.func (.func 101) #[] c) .plain rfl
  have HW4 := hid hW4
  clear hW4 o0 o1 o2 o3
  go_enter Try.func67, Try.ntmps67
  go_upto_region 1 with fail
  rw [← HW4.out]
  clear HW4
  go_wp2

  refine bodyPost_ret (v := .agg #[.int .i64 (n - 1), .func (.func 101) #[] #[.pointer (some ⟨w.heap.size + 1, 0, none⟩), .pointer (some ⟨w.heap.size + 1 + 1, 0, none⟩)]]) ?_ rfl ⟨w.heap.size + 1, w.heap.size + 1 + 1, rfl, ?_, ?_, ?_⟩
  · rw [results_cell1 rfl]
    go_simp
  · rw [World.cell?_setCell_other _ _ _ _ (by simp), World.cell?_setCell_other _ _ _ _ (by simp)]; exact HO1.out
  · rw [World.cell?_setCell_other _ _ _ _ (by simp), World.cell?_setCell_other _ _ _ _ (by simp)]; exact HO2.out
  · exact (HB.out.setCell (p := ⟨w.heap.size + 1 + 1 + 1, 0, none⟩) (by simp; omega) _).setCell (p := ⟨w.heap.size + 1 + 1 + 1, 1, none⟩) (by simp; omega) _
end Go.Proofs.Ytlebimolgienkaa
