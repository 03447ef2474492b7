/-
  Which vertices are in several blocks: the program's inSeveral (layer 7).
  The document's Unlike and Less: does no number stand twice; which row stands ahead?
  A step through a region that draws its order, its guards decided ahead.
  The document's Induced (layer 6).
  What follows of a route: its vertices' ways on are routes, it has no short cuts, turned round it is as long. No program is named here.
  How far off each vertex lies: what a search tells, and the least of the shortest ways by it. No program is named here.
-/
import Derived.Test.YtlebimolgienkaaT07
import Derived.Test.YtlebimolgienkaaT06
import Derived.Test.YtlebimolgienkaaT02
import Derived.Test.YtlebimolgienkaaT05
import Derived.Test.YtlebimolgienkaaT11
import Derived.Deep.LoopGhost
import Derived.Deep.RegionHeld3
import Derived.Test.YtlebimolgienkaaT04
import Derived.BigQuiet
namespace Go.Proofs.Ytlebimolgienkaa
open Go.RowKit Go.Lib

/-- Numbers below m that stand in the rows more than once. -/
def sevL (m : Nat) (LL : List (List Int)) : List Int := ((List.range m).filter (fun v : Nat => decide (1 < LL.flatten.count (v : Int)))).map (fun v : Nat => (v : Int))
theorem count_le_len (v : Int) (l : List Int) : l.count v ≤ l.length := List.count_le_length
theorem flat_len {LL : List (List Int)} {K : Nat} (h : ∀ L ∈ LL, L.length ≤ K) : LL.flatten.length ≤ LL.length * K := by
  induction LL with
  | nil => simp
  | cons L LL ih =>
    have h1 := h L (by simp)
    have h2 := ih (fun M hM => h M (List.mem_cons_of_mem _ hM))
    rw [List.flatten_cons, List.length_append, List.length_cons, Nat.succ_mul]
    omega
theorem count_snoc (A : List Int) (x v : Int) : (A ++ [x]).count v = A.count v + (if v = x then 1 else 0) := by
  rw [List.count_append]
  congr 1
  by_cases e : v = x
  · rw [if_pos e, e]; simp
  · rw [if_neg e]; exact List.count_eq_zero.2 (by simpa using e)
theorem sev_next (m k : Nat) (hk : k < m) (p : Nat → Bool) : ((List.range m).take (k + 1)).filter p = (((List.range m).take k).filter p ++ if p k then [k] else []) := by
  rw [← List.take_append_getElem (by simpa using hk), List.filter_append]
  congr 1
  simp only [List.getElem_range]
  cases h : p k <;> simp [h]

set_option maxHeartbeats 4000000 in
set_option maxRecDepth 100000 in
theorem sev_any (m : Nat) (a : Option Addr) (cap : Nat) (LL : List (List Int)) (w : World) (hm : m ≤ 1000) (hK : LL.length ≤ 1000) (hR : ∀ L ∈ LL, L.length ≤ 1000) (hin : ∀ L ∈ LL, ∀ x ∈ L, 0 ≤ x ∧ x < m) (hA : LLAt w a LL) :
    Calls Try.prog 40 #[.int .i64 m, .slice a LL.length cap] w fun e w' => ∃ a' cap', e = .returned (.slice a' (sevL m LL).length cap') ∧ IAt w' a' (sevL m LL) ∧ Below w.heap.size w w' := by
  obtain ⟨K, hKe⟩ := ex_eq LL.length
  obtain ⟨i0, hi, hz0, hz1, hz2⟩ := info_parts Try.info3
  obtain ⟨w2, hrun, hown, hgrow⟩ := run_make_full (P := Try.prog) w w.heap.size 28 3 i0 (.int .i64 0) 1 Try.underlying28 hi hz0 hz1 .i64 .i64 m (by rw [hz2]; omega) (by unfold maxLen; omega) (Nat.le_refl _)
  have hlt2 : w.heap.size < w2.heap.size := (hown.lt _ rfl).2
  have hb2 : Below w.heap.size w w2 := Below.grown (Below.refl _ _) hgrow (Nat.le_refl _) (fun k hk => by cases hk)
  have HRW : Hid (Row1 w2 w.heap.size m (fun v => ((LL.take 0).flatten.count (v : Int) : Nat))) := (row1_made hown hlt2).congr (fun j _ => by simp)
  have hfl : LL.flatten.length ≤ 1000000 := by
    have := flat_len hR
    have : LL.length * 1000 ≤ 1000 * 1000 := Nat.mul_le_mul_right _ hK
    omega
  have HA := hid hA
  have HK := hid hKe
  have HIN := hid hin
  have HRL := hid hR
  have HFL := hid hfl
  rw [← hKe] at hK ⊢
  clear hA hKe hin hR hown hgrow hfl
  go_enter Try.func40, Try.ntmps40
  go_wp2
  clear hrun
  obtain ⟨b0, hb0⟩ := ex_eq w.heap.size
  have HB0 := hid hb0
  rw [← hb0] at HRW hb2 hlt2 ⊢
  clear hb0
  go_loopw [17] (fun i wr => ∃ k : Nat, k ≤ K ∧ i = .int .i64 k ∧ Hid (Row1 wr b0 m (fun v => ((LL.take k).flatten.count (v : Int) : Nat))) ∧ Below b0 w wr) (fun i _ => K - (RowKit.intOf i).toNat)
  case atStart => exact ⟨0, Nat.zero_le _, rfl, HRW, hb2⟩
  case round =>
    obtain ⟨k, hk, rfl, hrow, hbr⟩ := hrel
    by_cases hlt : k < K
    · have hkr : k < LL.length := by rw [← HK.out]; exact hlt
      obtain ⟨g, off, ak, ck, rfl, e1, hI⟩ := (HA.out.below (by rw [← HB0.out]; exact hbr)).at hkr
      obtain ⟨L, hL⟩ := ex_eq LL[k]
      rw [← hL] at e1 hI
      obtain ⟨n, hn⟩ := ex_eq L.length
      rw [← hn] at e1
      have hmem : L ∈ LL := by rw [hL]; exact List.getElem_mem _
      have hn1 : n ≤ 1000 := by rw [hn]; exact HRL.out L hmem
      have HX : Hid (∀ x ∈ L, 0 ≤ x ∧ x < m) := HIN.out L hmem
      have HNX : Hid ((LL.take (k + 1)).flatten = (LL.take k).flatten ++ L) := by
        show _ = _
        rw [← List.take_append_getElem hkr, List.flatten_append, hL]
        simp
      have HCL : Hid (∀ (j v : Nat), ((LL.take k).flatten ++ L.take j).count (v : Int) ≤ 1000000) := fun j v => by
        refine Nat.le_trans (count_le_len _ _) (Nat.le_trans ?_ HFL.out)
        have h1 : ((LL.take k).flatten ++ L.take j).length ≤ (LL.take (k + 1)).flatten.length := by
          rw [HNX.out, List.length_append, List.length_append, List.length_take]; omega
        have h2 : (LL.take (k + 1)).flatten.length ≤ LL.flatten.length := by
          have h3 : LL.flatten = (LL.take (k + 1)).flatten ++ (LL.drop (k + 1)).flatten := by rw [← List.flatten_append, List.take_append_drop]
          rw [h3, List.length_append]; omega
        omega
      have HN := hid hn
      have q1 : (k : Int) < (K : Int) := by omega
      have HROW : Hid (Row1 wr b0 m (fun v => (((LL.take k).flatten ++ L.take 0).count (v : Int) : Nat))) := by
        show Row1 _ _ _ _
        have := hrow.out
        simpa using this
      have HI : Hid (∀ X, Below b0 w X → ∀ j (h : j < L.length), ∃ gg oo, ak = some ⟨gg, oo, none⟩ ∧ X.cell? ⟨gg, oo + j, none⟩ = some (.int .i64 L[j])) := fun X hX j hj => by
        obtain ⟨g', off', ak', ck', e2, e3, hI'⟩ := (HA.out.below (by rw [← HB0.out]; exact hX)).at hkr
        cases e2
        obtain ⟨g4, o4, ak4, ck4, e5, e6, hI4⟩ := (HA.out.below (Below.refl _ _)).at hkr
        cases e5
        have hgw := block_lt_of_cell e6
        have u1 := (hbr.cell (p := ⟨g, off + k, none⟩) (by rw [HB0.out]; exact hgw)).trans e6
        have u2 := (hX.cell (p := ⟨g, off + k, none⟩) (by rw [HB0.out]; exact hgw)).trans e6
        rw [e1] at u1
        rw [e3] at u2
        simp only [Option.some.injEq, Value.slice.injEq] at u1 u2
        obtain ⟨rfl, _, _⟩ := u1
        obtain ⟨rfl, _, _⟩ := u2
        rw [← hL] at hI'
        obtain ⟨gg, oo, e7, _, hc⟩ := hI' (by omega)
        exact ⟨gg, oo, e7, hc j hj⟩
      clear hrow hL hn hkr hI
      go_wp2
      clear e1
      go_loopw [23] (fun i wz => ∃ j : Nat, j ≤ n ∧ i = .int .i64 j ∧ Hid (Row1 wz b0 m (fun v => (((LL.take k).flatten ++ L.take j).count (v : Int) : Nat))) ∧ Below b0 w wz) (fun i _ => n - (RowKit.intOf i).toNat)
      case atStart => exact ⟨0, Nat.zero_le _, rfl, HROW, hbr⟩
      case round =>
        obtain ⟨j, hj, rfl, hrow, hbz⟩ := hrel
        by_cases hltj : j < n
        · have hjr : j < L.length := by rw [← HN.out]; exact hltj
          obtain ⟨gg, oo, rfl, d0⟩ := HI.out wr hbz j hjr
          have hx := HX.out _ (List.getElem_mem hjr)
          obtain ⟨p, hp⟩ : ∃ p : Nat, L[j] = (p : Int) := ⟨(L[j]).toNat, by omega⟩
          rw [hp] at d0 hx
          have hpm : p < m := by omega
          obtain ⟨r1, r1f⟩ := hrow.out.2 p hpm
          have hcl := HCL.out j p
          obtain ⟨c, hc⟩ := ex_eq (((LL.take k).flatten ++ L.take j).count (p : Int))
          simp only at r1
          rw [← hc] at r1 hcl
          have q2 : (p : Int) < (m : Int) := by omega
          have q3 : (j : Int) < (n : Int) := by omega
          have q4 : IntKind.i64.wrap ((c : Int) + 1) = (c : Int) + 1 := by simp [IntKind.wrap, IntKind.bits, IntKind.signed]; omega
          have HRX : Hid (Row1 (wr.setCell ⟨b0, p, none⟩ (.int .i64 ((c : Int) + 1))) b0 m (fun v => (((LL.take k).flatten ++ L.take (j + 1)).count (v : Int) : Nat))) := (hrow.out.put hpm ((c : Int) + 1)).congr (fun v _ => by
            rw [← List.take_append_getElem hjr, ← List.append_assoc, hp, count_snoc]
            by_cases e : v = p
            · subst e
              rw [if_pos rfl, if_pos rfl, ← hc]
              omega
            · rw [if_neg e, if_neg (by omega)]
              rfl)
          have hbX : Below b0 w (wr.setCell ⟨b0, p, none⟩ (.int .i64 ((c : Int) + 1))) := hbz.setCell (p := ⟨b0, p, none⟩) (Nat.le_refl _) _
          clear hp hrow hx hc hjr
          go_wp2
          go_roundw
          case rel => exact ⟨j + 1, by omega, by go_num, HRX, hbX⟩
          case measure => simp [RowKit.intOf]; omega
        · obtain rfl : j = n := by omega
          have HRX : Hid (Row1 wr b0 m (fun v => ((LL.take (k + 1)).flatten.count (v : Int) : Nat))) := hrow.out.congr (fun v _ => by rw [HNX.out, HN.out, List.take_length])
          clear hrow
          go_wp2
          go_roundw
          case rel => exact ⟨k + 1, by omega, by go_num, HRX, hbz⟩
          case measure => simp [RowKit.intOf]; omega
    · obtain rfl : k = K := by omega
      have htk : LL.take k = LL := by rw [HK.out, List.take_length]
      rw [htk] at hrow
      obtain ⟨ct, hct⟩ := ex_eq (fun v : Nat => LL.flatten.count (v : Int))
      have HROW : Hid (Row1 wr b0 m (fun v => (ct v : Int))) := by
        show Row1 _ _ _ _
        rw [hct]; exact hrow.out
      have HCT := hid hct
      have hsr : b0 < wr.heap.size := hrow.out.1
      have HBR := hid hbr
      clear hrow htk hct hbr HIN HRL
      go_wp2
      obtain ⟨w3, hw3⟩ : ∃ x, x = wr := ⟨_, rfl⟩
      subst hw3
      go_loopw [10, 37] (fun v i wz => ∃ t : Nat, t ≤ m ∧ i = .int .i64 t ∧ Hid (wz.ownsRow w3.heap.size 3 1 v ((((List.range m).take t).filter (fun v => decide (1 < ct v))).map (fun v : Nat => (v : Int))).length (((((List.range m).take t).filter (fun v => decide (1 < ct v))).map (fun v : Nat => (v : Int))).map (Value.int .i64))) ∧ Below w3.heap.size w3 wz) (fun _ i _ => m - (RowKit.intOf i).toNat)
      case atStart => exact ⟨0, Nat.zero_le _, rfl, World.ownsRow_nil _ _ _ _, Below.refl _ _⟩
      case round =>
        obtain ⟨t, ht, rfl, hown, hbz⟩ := hrel
        obtain ⟨P, hP⟩ := ex_eq ((((List.range m).take t).filter (fun v => decide (1 < ct v))).map (fun v : Nat => (v : Int)))
        rw [← hP] at hown
        have hPl : P.length ≤ t := by
          rw [hP, List.length_map]
          refine Nat.le_trans (List.length_filter_le _ _) ?_
          rw [List.length_take]; omega
        by_cases hlt : t < m
        · have r1 := ((HROW.out.kept (KeptBut.of_whole (fun _ => False) hbz) (fun e => e)).2 t hlt).1
          obtain ⟨c, hc⟩ := ex_eq (ct t)
          simp only at r1
          rw [← hc] at r1
          have hnx : (((List.range m).take (t + 1)).filter (fun v => decide (1 < ct v))).map (fun v : Nat => (v : Int)) = P ++ (if 1 < c then [(t : Int)] else []) := by
            rw [sev_next m t hlt, List.map_append, ← hP, ← hc]
            congr 1
            by_cases h : 1 < c
            · rw [if_pos h, if_pos (decide_eq_true h)]; rfl
            · rw [if_neg h, if_neg (by simpa using h)]; rfl
          have HNX := hid hnx
          have q1 : (t : Int) < (m : Int) := by omega
          clear hP hnx hc
          by_cases h1 : 1 < c
          · have b1 : decide ((c : Int) > 1) = true := decide_eq_true (by omega)
            have b2 : (1 : Int) < (c : Int) := by omega
            have hown2 := hown.out
            clear hown
            go_wp2_with (at_builtin; refine wpList_append_any _ rfl _ _ 28 rfl w3.heap.size 3 i0 _ 1 8 Try.underlying28 hi hz0 hz1 hz2 rfl (by decide) _ _ _ rfl (hown2.alloc _) (some ⟨wr.heap.size, 0, none⟩) 1 1 [.int .i64 t] rfl (fun h => by cases h) rfl (fun pp hpp => by cases hpp; exact cells_one (heap_alloc_new _ _)) (fun u hu => by simp at hu; rw [hu]; rfl) (by unfold maxLen; omega) (by omega) (by have := hbz.size; simp; omega) ?_)
            intro v' w4 hown4 hgrow _
            have hb4 : Below w3.heap.size w3 w4 := Below.grown (hbz.alloc hbz.size _) hgrow (by have := hbz.size; simp; omega) (fun j hj => (hown2.lt j hj).1)
            have HO : Hid (w4.ownsRow w3.heap.size 3 1 v' ((((List.range m).take (t + 1)).filter (fun v => decide (1 < ct v))).map (fun v : Nat => (v : Int))).length (((((List.range m).take (t + 1)).filter (fun v => decide (1 < ct v))).map (fun v : Nat => (v : Int))).map (Value.int .i64))) := by
              show w4.ownsRow w3.heap.size 3 1 v' ((((List.range m).take (t + 1)).filter (fun v => decide (1 < ct v))).map (fun v : Nat => (v : Int))).length (((((List.range m).take (t + 1)).filter (fun v => decide (1 < ct v))).map (fun v : Nat => (v : Int))).map (Value.int .i64))
              rw [HNX.out, if_pos h1, List.length_append, List.map_append]
              exact hown4
            clear hgrow hown2 hown4 r1
            go_wp2
            go_roundw
            case rel => exact ⟨t + 1, by omega, by go_num, HO, hb4⟩
            case measure => simp [RowKit.intOf]; omega
          · have b1 : decide ((c : Int) > 1) = false := decide_eq_false (by omega)
            have b2 : ¬ (1 : Int) < (c : Int) := by omega
            have HO : Hid (wr.ownsRow w3.heap.size 3 1 u10 ((((List.range m).take (t + 1)).filter (fun v => decide (1 < ct v))).map (fun v : Nat => (v : Int))).length (((((List.range m).take (t + 1)).filter (fun v => decide (1 < ct v))).map (fun v : Nat => (v : Int))).map (Value.int .i64))) := by
              show World.ownsRow _ _ _ _ _ _ _
              rw [HNX.out, if_neg h1, List.append_nil]
              exact hown.out
            clear hown
            go_wp2
            go_roundw
            case rel => exact ⟨t + 1, by omega, by go_num, HO, hbz⟩
            case measure => simp [RowKit.intOf]; omega
        · obtain rfl : t = m := by omega
          have hPe : P = sevL t LL := by
            rw [hP, List.take_of_length_le (by simp), HCT.out]; rfl
          rw [hPe] at hown
          obtain ⟨a1, cap1, rfl, hea⟩ := own_form hown.out
          have HEA := hid hea
          have HBB : Hid (Below w.heap.size w wr) := by
            show Below _ _ _
            rw [← HB0.out]; exact HBR.out.trans (hbz.mono (by omega))
          clear hown hea hP hPe hPl
          go_wp2
          go_ret
          exact ⟨a1, cap1, rfl, HEA.out, HBB.out⟩
end Go.Proofs.Ytlebimolgienkaa
namespace Go.Proofs.Ytlebimolgienkaa
open Go.RowKit Go.Lib

/-- Where the first k numbers are the same. -/
def lexTo (xs ys : List Int) (k : Nat) : Bool := lexL (xs.drop k) (ys.drop k)
theorem lexTo_same {xs ys : List Int} {k : Nat} (h1 : k < xs.length) (h2 : k < ys.length) (h : xs[k] = ys[k]) : lexTo xs ys k = lexTo xs ys (k + 1) := by
  unfold lexTo
  rw [List.drop_eq_getElem_cons h1, List.drop_eq_getElem_cons h2]
  simp [lexL, h]
theorem lexTo_not {xs ys : List Int} {k : Nat} (h1 : k < xs.length) (h2 : k < ys.length) (h : xs[k] ≠ ys[k]) : lexTo xs ys k = decide (xs[k] < ys[k]) := by
  unfold lexTo
  rw [List.drop_eq_getElem_cons h1, List.drop_eq_getElem_cons h2]
  simp [lexL, h]
theorem lexTo_end {xs ys : List Int} {k : Nat} (hk : k ≤ xs.length) (hk2 : k ≤ ys.length) (h : ¬ (k < xs.length ∧ k < ys.length)) : lexTo xs ys k = decide (xs.length < ys.length) := by
  unfold lexTo
  by_cases h1 : k < xs.length
  · have h2 : k = ys.length := by omega
    subst h2
    rw [List.drop_eq_getElem_cons h1, List.drop_length]
    simp only [lexL]
    exact (decide_eq_false (by omega)).symm
  · have h2 : k = xs.length := by omega
    subst h2
    rw [List.drop_length]
    by_cases h3 : xs.length < ys.length
    · rw [List.drop_eq_getElem_cons h3, decide_eq_true h3]; rfl
    · rw [decide_eq_false h3, List.drop_eq_nil_of_le (by omega)]; rfl

set_option maxHeartbeats 1000000 in
set_option maxRecDepth 100000 in
theorem less_any (a1 a2 : Option Addr) (c1 c2 : Nat) (xs ys : List Int) (w : World) (hN : xs.length ≤ 1000000) (h1 : IAt w a1 xs) (h2 : IAt w a2 ys) :
    Calls Try.prog 46 #[.slice a1 xs.length c1, .slice a2 ys.length c2] w fun e w' => e = .returned (.bool (lexL xs ys)) ∧ Below w.heap.size w w' := by
  obtain ⟨r, hr⟩ := ex_eq (lexL xs ys)
  have HR : Hid (r = lexTo xs ys 0) := hr
  rw [← hr]
  obtain ⟨N, hNe⟩ := ex_eq xs.length
  obtain ⟨M, hMe⟩ := ex_eq ys.length
  have HN := hid hNe
  have HM := hid hMe
  obtain ⟨b0, hb0⟩ := ex_eq w.heap.size
  rw [← hNe] at hN ⊢
  rw [← hMe]
  have H1B : Hid (∀ W, Below b0 w W → IAt W a1 xs) := fun W hW => h1.below (by rw [← hb0]; exact hW)
  have H2B : Hid (∀ W, Below b0 w W → IAt W a2 ys) := fun W hW => h2.below (by rw [← hb0]; exact hW)
  rw [← hb0]
  clear h1 h2 hr hNe hMe hb0
  go_enter Try.func46, Try.ntmps46
  go_wp2
  go_loopg [5] N (fun G i wz => ∃ k : Nat, k ≤ N ∧ k ≤ M ∧ N - k ≤ G ∧ i = .int .i64 k ∧ Hid (r = lexTo xs ys k) ∧ Hid (Below b0 w wz))
  case atStart => exact ⟨0, Nat.zero_le _, Nat.zero_le _, by omega, rfl, HR, Below.refl _ _⟩
  case round =>
    obtain ⟨k, hk, hkM, hG, rfl, hrk, hb⟩ := hrel
    by_cases hgo : k < N ∧ k < M
    · obtain ⟨hlt, hltM⟩ := hgo
      have k1 : k < xs.length := by rw [← HN.out]; exact hlt
      have k2 : k < ys.length := by rw [← HM.out]; exact hltM
      obtain ⟨g1, o1, rfl, hg1, hc1⟩ := H1B.out wr hb.out (by omega)
      obtain ⟨g2, o2, rfl, hg2, hc2⟩ := H2B.out wr hb.out (by omega)
      have d1 := hc1 k k1
      have d2 := hc2 k k2
      obtain ⟨x, hx⟩ := ex_eq xs[k]
      obtain ⟨y, hy⟩ := ex_eq ys[k]
      rw [← hx] at d1
      rw [← hy] at d2
      have q1 : (k : Int) < (N : Int) := by omega
      have q2 : (k : Int) < (M : Int) := by omega
      by_cases hxy : x = y
      · have HNX : Hid (r = lexTo xs ys (k + 1)) := by
          show r = _
          rw [hrk.out, lexTo_same k1 k2 (by rw [← hx, ← hy]; exact hxy)]
        subst hxy
        clear hc1 hc2 hx hy hrk
        go_wp2
        go_quiet (fail)
        go_wp2
        go_roundg (N - (k + 1))
        case measure => omega
        case rel => exact ⟨k + 1, by omega, by omega, Nat.le_refl _, by go_num, HNX, below_drewN hb.out _⟩
      · have hq : (x == y) = false := beq_eq_false_iff_ne.2 hxy
        have hrr : r = decide (x < y) := by
          rw [hrk.out, lexTo_not k1 k2 (by rw [← hx, ← hy]; exact hxy), ← hx, ← hy]
        have HB := hid hb.out
        clear hc1 hc2 hx hy hrk hxy HR
        subst hrr
        go_wp2
        go_quiet (fail)
        go_wp2
        go_quiet (fail)
        go_wp2
        go_ret
        exact ⟨rfl, below_drewN (below_drewN HB.out _) _⟩
    · have hrr : r = decide (N < M) := by
        rw [hrk.out, lexTo_end (by rw [← HN.out]; exact hk) (by rw [← HM.out]; exact hkM) (by rw [← HN.out, ← HM.out]; exact hgo), HN.out, HM.out]
      have hway : (¬ (k : Int) < (N : Int)) ∨ ((k : Int) < (N : Int) ∧ ¬ (k : Int) < (M : Int)) := by omega
      clear hrk HR
      by_cases hl : N < M
      · rw [decide_eq_true hl] at hrr
        subst hrr
        have hl2 : (N : Int) < (M : Int) := by omega
        rcases hway with v1 | ⟨v1, v2⟩
        all_goals
          go_wp2
          go_ret
          exact ⟨rfl, hb.out⟩
      · rw [decide_eq_false hl] at hrr
        subst hrr
        have hl2 : ¬ (N : Int) < (M : Int) := by omega
        rcases hway with v1 | ⟨v1, v2⟩
        all_goals
          go_wp2
          go_ret
          exact ⟨rfl, hb.out⟩
end Go.Proofs.Ytlebimolgienkaa
namespace Go.Proofs.Ytlebimolgienkaa
open Go.RowKit Go.Lib

theorem takeW {P : Program} {ops : Array Oper} {Q : Exit → Act → World → Prop} {md : Region.Mode} {S : World → Prop} {i : Nat} {oi : Oper} {dst : Option Tmp} {v : Value} {fuel : Nat} {listed : Array Bool} {a : Act} {w : World} (hi : ops[i]? = some oi) (hd : oi.dst = dst)
    (hs : Region.noSelect ops = true) (hf : Region.free md ops listed i = true) (hr : (Region.ready md ops listed).contains i = true)
    (hQ : ∀ c a w, Q (.panic c) (a.put dst v) w → Q (.panic c) a w) (hy : YieldsIf P ops S oi v a) (hS : S w)
    (h : wpAnyH P md ops Q S fuel (listed.setIfInBounds i true) (a.put dst v) w) : wpAnyH P md ops Q S (fuel + 1) listed a w := by
  subst hd
  exact wpAnyH_take hi hs hf hr hQ hy hS h
end Go.Proofs.Ytlebimolgienkaa
namespace Go.Proofs.Ytlebimolgienkaa
open Go.RowKit Go.Lib

/-- What a call of layer 6 tells. -/
def SubTold (S : Int → Int → List (Int × Int) → Prop) (w w' : World) (v : Value) : Prop := ∃ er N E a' cap', v = .tuple #[.agg #[.int .i64 N, .slice a' E.length cap'], .int .i64 er] ∧ S er N E ∧ Sl a' cap' E.length ∧ EAt w' a' E ∧ Below w.heap.size w w'
/-- A graph's edges are put behind each other in its variable. -/
structure EAcc (w : World) (B : Nat) (m : Int) (sv : Value) (es : List (Int × Int)) : Prop where
  box : w.heap[B]? = some (.cells #[.int .i64 m, sv] 26 (0, 0))
  own : w.ownsRow (B + 1) 56 2 sv es.length (cellsE es)
theorem EAcc.below {w w' : World} {B : Nat} {m : Int} {sv : Value} {es : List (Int × Int)} (h : EAcc w B m sv es) (hb : Below w.heap.size w w') : EAcc w' B m sv es :=
  ⟨(hb.block B (Array.getElem?_eq_some_iff.1 h.box).1).trans h.box, own_below h.own hb⟩
theorem EAcc.put {w w4 : World} {B : Nat} {m p q : Int} {sv sv' : Value} {es : List (Int × Int)} {o : Obj} (h : EAcc w B m sv es) (hg : (w.alloc o).grownBy w4 sv.ownBlock) (hown : w4.ownsRow (B + 1) 56 2 sv' (es.length + 1) (cellsE es ++ [.int .i64 p, .int .i64 q])) : EAcc (w4.setCell ⟨B, 1, none⟩ sv') B m sv' (es ++ [(p, q)]) ∧ w4.cell? ⟨B, 1, none⟩ = some sv ∧ w4.frozen? ⟨B, 1, none⟩ = false := by
  have hB : B < w.heap.size := (Array.getElem?_eq_some_iff.1 h.box).1
  have hb4 : w4.heap[B]? = some (.cells #[.int .i64 m, sv] 26 (0, 0)) := by
    rw [hg.block B (by simp; omega) (fun e => by have := (h.own.lt B e.symm).1; omega), Below.heap_alloc w _ _ hB]
    exact h.box
  refine ⟨⟨box_put hb4, ?_⟩, cell_of_heap hb4 1, frozen_of_heap hb4 1⟩
  refine own_set ?_ (by simp) _
  rw [cellsE_append, List.length_append]
  exact hown

end Go.Proofs.Ytlebimolgienkaa
namespace Go.Proofs.Ytlebimolgienkaa

theorem Way.in {n : Int} {es : List (Int × Int)} {a b : Int} {away p : List Int} (h : Way n es a b away p) : ∀ z ∈ p, (0 ≤ z ∧ z < n) ∧ z ∉ away := fun z hz => ⟨h.path.inn z hz, h.off z hz⟩
theorem Way.reverse {n : Int} {es : List (Int × Int)} {a b : Int} {away p : List Int} (h : Way n es a b away p) : Way n es b a away p.reverse :=
  ⟨h.path.reverse, by rw [List.head?_reverse]; exact h.last, by rw [List.getLast?_reverse]; exact h.first, fun z hz => h.off z (List.mem_reverse.1 hz)⟩
theorem RouteIs.way {n : Int} {es : List (Int × Int)} {a b : Int} {away L : List Int} (h : RouteIs n es a b away L) (h0 : 0 < L.length) : Way n es a b away L := by
  rcases h with ⟨rfl, _⟩ | ⟨h, _⟩
  · simp at h0
  · exact h
end Go.Proofs.Ytlebimolgienkaa
namespace Go.Proofs.Ytlebimolgienkaa

/-- D tells how many edges lie between each vertex and b, by open vertices; -1: there is no way. -/
structure Lev (n : Int) (es : List (Int × Int)) (O : Int → Prop) (b : Int) (D : Int → Int) : Prop where
  root : D b = 0
  opn : ∀ x, 0 ≤ x → x < n → 0 ≤ D x → O x
  zero : ∀ x, 0 ≤ x → x < n → D x = 0 → x = b
  down : ∀ x, 0 ≤ x → x < n → 0 < D x → ∃ u, Adj es u x ∧ D u = D x - 1
  near : ∀ u v, Adj es u v → 0 ≤ D u → O v → 0 ≤ D v ∧ D v ≤ D u + 1
/-- A search under way: F is found, the first i of it are looked at. -/
structure Bf (n : Int) (es : List (Int × Int)) (O : Int → Prop) (b : Int) (F : List Int) (D : Int → Int) (i : Nat) : Prop where
  nd : F.Nodup
  mem : ∀ x, 0 ≤ x → x < n → (x ∈ F ∧ 0 ≤ D x) ∨ (x ∉ F ∧ D x = -1)
  inr : ∀ x ∈ F, (0 ≤ x ∧ x < n) ∧ O x
  root : b ∈ F ∧ D b = 0
  mono : ∀ j k (hjk : j ≤ k) (hk : k < F.length), D (F[j]'(by omega)) ≤ D F[k]
  top : ∀ j (hj : j < F.length) (hi : i < F.length), D F[j] ≤ D F[i] + 1
  zero : ∀ x ∈ F, D x = 0 → x = b
  down : ∀ x ∈ F, 0 < D x → ∃ u ∈ F, Adj es u x ∧ D u = D x - 1
  done : ∀ j (hj : j < F.length), j < i → ∀ v, Adj es F[j] v → O v → v ∈ F ∧ D v ≤ D F[j] + 1
  le : ∀ j (hj : j < F.length), D F[j] ≤ j
theorem bf_start {n : Int} {es : List (Int × Int)} {O : Int → Prop} {b : Int} (hb : 0 ≤ b ∧ b < n) (hO : O b) : Bf n es O b [b] (fun x => if x = b then 0 else -1) 0 := by
  refine ⟨by simp, fun x _ _ => ?_, fun x hx => by simp at hx; subst hx; exact ⟨hb, hO⟩, ⟨by simp, by simp⟩, fun j k hjk hk => ?_, fun j hj hi => ?_, fun x hx _ => by simpa using hx, fun x hx h => ?_, fun j _ h => absurd h (by omega), fun j hj => ?_⟩
  · by_cases e : x = b
    · subst e; exact Or.inl ⟨by simp, by simp⟩
    · exact Or.inr ⟨by simpa using e, by simp [e]⟩
  · simp at hk; subst hk; obtain rfl : j = 0 := by omega
    exact Int.le_refl _
  · simp at hj; subst hj; simp
  · simp at hx; subst hx; simp at h
  · simp at hj; subst hj; simp
theorem getElem_snoc_lt {F : List Int} {w : Int} {j : Nat} (h : j < F.length) : (F ++ [w])[j]'(by simp; omega) = F[j] := List.getElem_append_left h
theorem getElem_snoc_last {F : List Int} {w : Int} (h : F.length < (F ++ [w]).length) : (F ++ [w])[F.length] = w := by simp
/-- One more is found. -/
theorem Bf.put {n : Int} {es : List (Int × Int)} {O : Int → Prop} {b : Int} {F : List Int} {D : Int → Int} {i : Nat} (h : Bf n es O b F D i) (hi : i < F.length) {v : Int} (ha : Adj es F[i] v) (hv : 0 ≤ v ∧ v < n) (hO : O v) (hn : v ∉ F) : Bf n es O b (F ++ [v]) (fun x => if x = v then D F[i] + 1 else D x) i := by
  have hne : ∀ x ∈ F, x ≠ v := fun x hx e => hn (e ▸ hx)
  have hD : ∀ j (hj : j < F.length), (if F[j] = v then D F[i] + 1 else D F[j]) = D F[j] := fun j hj => if_neg (hne _ (List.getElem_mem hj))
  have hpos : ∀ j (hj : j < F.length), 0 ≤ D F[j] := fun j hj => by
    have := (h.inr _ (List.getElem_mem hj)).1
    rcases h.mem F[j] this.1 this.2 with e | e
    · exact e.2
    · exact absurd (List.getElem_mem hj) e.1
  refine ⟨List.nodup_append.2 ⟨h.nd, by simp, fun y hy z hz => by simp at hz; subst hz; exact hne y hy⟩, fun x h0 h1 => ?_, fun x hx => ?_, ⟨List.mem_append_left _ h.root.1, ?_⟩, fun j k hjk hk => ?_, fun j hj hi' => ?_, fun x hx h0 => ?_, fun x hx h0 => ?_, fun j hj hji u hu hOu => ?_, fun j hj => ?_⟩
  · by_cases e : x = v
    · subst e
      refine Or.inl ⟨by simp, ?_⟩
      show 0 ≤ (if x = x then D F[i] + 1 else D x)
      rw [if_pos rfl]
      have := hpos i hi
      omega
    · show (x ∈ F ++ [v] ∧ 0 ≤ (if x = v then D F[i] + 1 else D x)) ∨ (x ∉ F ++ [v] ∧ (if x = v then D F[i] + 1 else D x) = -1)
      rw [if_neg e]
      rcases h.mem x h0 h1 with h2 | h2
      · exact Or.inl ⟨List.mem_append_left _ h2.1, h2.2⟩
      · exact Or.inr ⟨fun hm => by rcases List.mem_append.1 hm with hm | hm; exact h2.1 hm; simp at hm; exact e hm, h2.2⟩
  · rcases List.mem_append.1 hx with hx | hx
    · exact h.inr x hx
    · simp at hx; subst hx; exact ⟨hv, hO⟩
  · show (if b = v then D F[i] + 1 else D b) = 0
    rw [if_neg (hne b h.root.1)]; exact h.root.2
  · show (if (F ++ [v])[j]'(by omega) = v then D F[i] + 1 else D ((F ++ [v])[j]'(by omega))) ≤ (if (F ++ [v])[k] = v then D F[i] + 1 else D (F ++ [v])[k])
    by_cases e : k < F.length
    · rw [getElem_snoc_lt e, getElem_snoc_lt (show j < F.length by omega), hD k e, hD j (by omega)]
      exact h.mono j k hjk e
    · obtain rfl : k = F.length := by simp at hk; omega
      rw [getElem_snoc_last hk, if_pos rfl]
      by_cases e2 : j < F.length
      · rw [getElem_snoc_lt e2, hD j e2]; exact h.top j e2 hi
      · obtain rfl : j = F.length := by omega
        rw [getElem_snoc_last hk, if_pos rfl]; exact Int.le_refl _
  · show (if (F ++ [v])[j] = v then D F[i] + 1 else D (F ++ [v])[j]) ≤ (if (F ++ [v])[i] = v then D F[i] + 1 else D (F ++ [v])[i]) + 1
    rw [getElem_snoc_lt hi, hD i hi]
    by_cases e : j < F.length
    · rw [getElem_snoc_lt e, hD j e]; exact h.top j e hi
    · obtain rfl : j = F.length := by simp at hj; omega
      rw [getElem_snoc_last hj, if_pos rfl]; exact Int.le_refl _
  · rcases List.mem_append.1 hx with hx | hx
    · have h0' : (if x = v then D F[i] + 1 else D x) = 0 := h0
      rw [if_neg (hne x hx)] at h0'
      exact h.zero x hx h0'
    · simp at hx; subst hx
      have h0' : (if x = x then D F[i] + 1 else D x) = 0 := h0
      rw [if_pos rfl] at h0'
      have := hpos i hi
      omega
  · rcases List.mem_append.1 hx with hx | hx
    · have h0' : 0 < (if x = v then D F[i] + 1 else D x) := h0
      rw [if_neg (hne x hx)] at h0'
      obtain ⟨u, hu, h1, h2⟩ := h.down x hx h0'
      refine ⟨u, List.mem_append_left _ hu, h1, ?_⟩
      show (if u = v then D F[i] + 1 else D u) = (if x = v then D F[i] + 1 else D x) - 1
      rw [if_neg (hne u hu), if_neg (hne x hx)]; exact h2
    · simp at hx; subst hx
      refine ⟨F[i], List.mem_append_left _ (List.getElem_mem hi), ha, ?_⟩
      show (if F[i] = x then D F[i] + 1 else D F[i]) = (if x = x then D F[i] + 1 else D x) - 1
      rw [hD i hi, if_pos rfl]
      omega
  · have hjF : j < F.length := by omega
    rw [getElem_snoc_lt hjF] at hu
    obtain ⟨h1, h2⟩ := h.done j hjF hji u hu hOu
    refine ⟨List.mem_append_left _ h1, ?_⟩
    show (if u = v then D F[i] + 1 else D u) ≤ (if (F ++ [v])[j] = v then D F[i] + 1 else D (F ++ [v])[j]) + 1
    rw [getElem_snoc_lt hjF, hD j hjF, if_neg (hne u h1)]
    exact h2
  · show (if (F ++ [v])[j] = v then D F[i] + 1 else D (F ++ [v])[j]) ≤ j
    by_cases e : j < F.length
    · rw [getElem_snoc_lt e, hD j e]; exact h.le j e
    · obtain rfl : j = F.length := by simp at hj; omega
      rw [getElem_snoc_last hj, if_pos rfl]
      have := h.le i hi
      omega
theorem Bf.congr {n : Int} {es : List (Int × Int)} {O : Int → Prop} {b : Int} {F : List Int} {D D' : Int → Int} {i : Nat} (h : Bf n es O b F D i) (e : ∀ x, 0 ≤ x → x < n → D x = D' x) : Bf n es O b F D' i := by
  have hF : ∀ x ∈ F, D' x = D x := fun x hx => (e x (h.inr x hx).1.1 (h.inr x hx).1.2).symm
  have hA : ∀ j (hj : j < F.length), D' F[j] = D F[j] := fun j hj => hF _ (List.getElem_mem hj)
  refine ⟨h.nd, fun x h0 h1 => by rw [← e x h0 h1]; exact h.mem x h0 h1, h.inr, ⟨h.root.1, by rw [hF _ h.root.1]; exact h.root.2⟩, fun j k hjk hk => by rw [hA k hk, hA j (by omega)]; exact h.mono j k hjk hk, fun j hj hi => by rw [hA j hj, hA i hi]; exact h.top j hj hi, fun x hx h0 => h.zero x hx (by rw [← hF x hx]; exact h0), fun x hx h0 => ?_, fun j hj hji v ha hO => ?_, fun j hj => by rw [hA j hj]; exact h.le j hj⟩
  · rw [hF x hx] at h0
    obtain ⟨u, hu, h1, h2⟩ := h.down x hx h0
    exact ⟨u, hu, h1, by rw [hF u hu, hF x hx]; exact h2⟩
  · obtain ⟨h1, h2⟩ := h.done j hj hji v ha hO
    exact ⟨h1, by rw [hF v h1, hA j hj]; exact h2⟩
/-- One more is looked at. -/
theorem Bf.next {n : Int} {es : List (Int × Int)} {O : Int → Prop} {b : Int} {F : List Int} {D : Int → Int} {i : Nat} (h : Bf n es O b F D i) (hi : i < F.length) (hd : ∀ v, Adj es F[i] v → O v → v ∈ F) : Bf n es O b F D (i + 1) :=
  { h with
    top := fun j hj hi' => by
      have h1 := h.top j hj hi
      have h2 := h.mono i (i + 1) (by omega) hi'
      omega
    done := fun j hj hji v hv hO => by
      by_cases e : j < i
      · exact h.done j hj e v hv hO
      · obtain rfl : j = i := by omega
        have hm := hd v hv hO
        refine ⟨hm, ?_⟩
        obtain ⟨k, hk, rfl⟩ := List.getElem_of_mem hm
        exact h.top k hk hi }
/-- All is looked at. -/
theorem Bf.lev {n : Int} {es : List (Int × Int)} {O : Int → Prop} {b : Int} {F : List Int} {D : Int → Int} (hR : RightG n es) (h : Bf n es O b F D F.length) : Lev n es O b D := by
  have hm : ∀ x, 0 ≤ x → x < n → 0 ≤ D x → x ∈ F := fun x h0 h1 h2 => by
    rcases h.mem x h0 h1 with e | e
    · exact e.1
    · omega
  refine ⟨h.root.2, fun x h0 h1 h2 => (h.inr x (hm x h0 h1 h2)).2, fun x h0 h1 h2 => h.zero x (hm x h0 h1 (by omega)) h2, fun x h0 h1 h2 => ?_, fun u v ha h0 hO => ?_⟩
  · obtain ⟨u, _, h3, h4⟩ := h.down x (hm x h0 h1 (by omega)) h2
    exact ⟨u, h3, h4⟩
  · obtain ⟨hu, hv, _⟩ := ha.in hR
    obtain ⟨j, hj, rfl⟩ := List.getElem_of_mem (hm u hu.1 hu.2 h0)
    obtain ⟨h1, h2⟩ := h.done j hj hj v ha hO
    refine ⟨?_, h2⟩
    rcases h.mem v hv.1 hv.2 with e | e
    · exact e.2
    · exact absurd h1 e.1
/-- Of a search among the members of l: found is what one comes to. -/
theorem Lev.rch {n : Int} {es : List (Int × Int)} {l : List Int} {b : Int} {D : Int → Int} (hR : RightG n es) (inn : ∀ x ∈ l, 0 ≤ x ∧ x < n) (h : Lev n es (fun x => x ∈ l) b D) {x : Int} (hx : x ∈ l) : 0 ≤ D x ↔ Rch es l b x := by
  constructor
  · intro h0
    obtain ⟨k, hk⟩ : ∃ k : Nat, D x = k := ⟨(D x).toNat, by omega⟩
    clear h0
    induction k generalizing x with
    | zero =>
      have := h.zero x (inn x hx).1 (inn x hx).2 (by omega)
      subst this
      exact Rch.refl _ _ _
    | succ k ih =>
      obtain ⟨u, hu, hd⟩ := h.down x (inn x hx).1 (inn x hx).2 (by omega)
      have hur := (hu.in hR).1
      have hul := h.opn u hur.1 hur.2 (by omega)
      exact (ih hul (by omega)).step hu hx
  · intro hr
    exact hr (fun z => 0 ≤ D z) (by rw [h.root]; exact Int.le_refl _) (fun u v hu ha hv => (h.near u v ha hu hv).1)
theorem Lev.whole {n : Int} {es : List (Int × Int)} {l : List Int} {D : Int → Int} (hR : RightG n es) (nd : l.Nodup) (inn : ∀ x ∈ l, 0 ≤ x ∧ x < n) (h0 : 0 < l.length) (h : Lev n es (fun x => x ∈ l) l[0] D) : (∀ x ∈ l, 0 ≤ D x) ↔ WholeL n es l :=
  ⟨fun ha => WholeL.of_head nd inn h0 (fun y hy => (h.rch hR inn hy).1 (ha y hy)), fun hw x hx => (h.rch hR inn hx).2 (hw.one l[0] (List.getElem_mem h0) x hx)⟩

theorem Lev.congr {n : Int} {es : List (Int × Int)} {O O' : Int → Prop} {b : Int} {D : Int → Int} (hR : RightG n es) (h : Lev n es O b D) (e : ∀ x, 0 ≤ x → x < n → (O x ↔ O' x)) : Lev n es O' b D :=
  ⟨h.root, fun x h0 h1 h2 => (e x h0 h1).1 (h.opn x h0 h1 h2), h.zero, h.down, fun u v ha h0 hO => by
    obtain ⟨_, hv, _⟩ := ha.in hR
    exact h.near u v ha h0 ((e v hv.1 hv.2).2 hO)⟩
/-- Each step goes to the least neighbour that is nearer by one. -/
structure Greedy (es : List (Int × Int)) (D : Int → Int) (a : Int) (L : List Int) : Prop where
  pos : 0 < L.length
  first : L[0] = a
  step : ∀ i (h : i + 1 < L.length), Adj es (L[i]'(by omega)) L[i + 1] ∧ D L[i + 1] = D a - i - 1 ∧ ∀ w, Adj es (L[i]'(by omega)) w → D w = D a - i - 1 → L[i + 1] ≤ w
theorem Greedy.put {es : List (Int × Int)} {D : Int → Int} {a : Int} {L : List Int} (h : Greedy es D a L) {i : Nat} (hl : L.length = i + 1) {u v : Int} (hu : L[i]? = some u) (ha : Adj es u v) (hD : D v = D a - i - 1) (hmin : ∀ w, Adj es u w → D w = D a - i - 1 → v ≤ w) : Greedy es D a (L ++ [v]) := by
  have hu' : L[i]'(by omega) = u := by rw [List.getElem?_eq_getElem (by omega)] at hu; exact Option.some.inj hu
  refine ⟨by simp, by rw [List.getElem_append_left h.pos]; exact h.first, fun j hj => ?_⟩
  simp at hj
  by_cases e : j + 1 < L.length
  · rw [List.getElem_append_left (by omega), List.getElem_append_left e]; exact h.step j e
  · obtain rfl : j = i := by omega
    rw [List.getElem_append_left (by omega), hu']
    have : (L ++ [v])[j + 1]'(by simp; omega) = v := by rw [List.getElem_append_right (by omega)]; simp [hl]
    rw [this]
    exact ⟨ha, hD, hmin⟩
theorem Greedy.lev {es : List (Int × Int)} {D : Int → Int} {a : Int} {L : List Int} (h : Greedy es D a L) (i : Nat) (hi : i < L.length) : D L[i] = D a - i := by
  cases i with
  | zero => rw [h.first]; simp
  | succ i => have := (h.step i hi).2.1; rw [this]; omega
/-- None is found. -/
theorem Lev.none {n : Int} {es : List (Int × Int)} {D : Int → Int} {a b : Int} {away : List Int} (hl : Lev n es (fun x => x ∉ away) b D) (h : D a < 0) : RouteIs n es a b away [] := by
  refine Or.inl ⟨rfl, fun p hp => ?_⟩
  obtain ⟨hp0, e1⟩ := head_at hp.first
  obtain ⟨_, e2⟩ := last_at hp.last
  have hback : ∀ j (hj : j < p.length), 0 ≤ D (p[p.length - 1 - j]'(by omega)) := fun j => by
    induction j with
    | zero => intro hj; simp only [Nat.sub_zero, e2, hl.root]; omega
    | succ j ih =>
      intro hj
      have h1 := ih (by omega)
      have hadj := hp.path.lk (p.length - 1 - (j + 1)) (by omega)
      simp only [show p.length - 1 - (j + 1) + 1 = p.length - 1 - j by omega] at hadj
      exact (hl.near _ _ hadj.symm h1 (hp.off _ (List.getElem_mem _))).1
  have := hback (p.length - 1) (by omega)
  simp only [show p.length - 1 - (p.length - 1) = 0 by omega, e1] at this
  omega
end Go.Proofs.Ytlebimolgienkaa
