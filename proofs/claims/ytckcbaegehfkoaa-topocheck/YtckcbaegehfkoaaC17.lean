/-
  The sort of layer 4: rows of numbers by their first ones: slices.SortFunc by its contract, its closure and cmp.Compare walked.
  The program's comparisons of edges and of rows (layer 9): cmp.Or walked.
-/
import Derived.Test.YtckcbaegehfkoaaC13
import Derived.Test.YtckcbaegehfkoaaC02
import Derived.Lib.SlKeysI
import Derived.RangeFuncKeeps
import Derived.Sort.MapsRangeIn
import Derived.Test.YtckcbaegehfkoaaC06
import Derived.Test.YtckcbaegehfkoaaC01
import Derived.Test.YtckcbaegehfkoaaC10
import Derived.Test.YtckcbaegehfkoaaC03
import Derived.Test.YtckcbaegehfkoaaC07
namespace Go.Proofs.Ytckcbaegehfkoaa
open Go.RowKit Go.Lib Go.Shelf Go.Sort

def cmpI (x y : Int) : Int := if x < y then -1 else if y < x then 1 else 0
set_option maxHeartbeats 400000 in
theorem isnan_any (x : Int) (w : World) : Calls Try.prog 83 #[.int .i64 x] w fun e w' => e = .returned (.bool false) ∧ w' = w := by
  go_enter Try.func83, Try.ntmps83
  go_wp2
  go_ret
  exact ⟨rfl, rfl⟩
set_option maxHeartbeats 400000 in
theorem compare_any (x y : Int) (w : World) : Calls Try.prog 53 #[.int .i64 x, .int .i64 y] w fun e w' => e = .returned (.int .i64 (cmpI x y)) ∧ w' = w := by
  have HN : Hid (∀ (z : Int) W, Calls Try.prog 83 #[.int .i64 z] W fun e w' => e = .returned (.bool false) ∧ w' = W) := fun z W => isnan_any z W
  unfold cmpI
  by_cases h : x < y
  · rw [if_pos h]
    go_enter Try.func53, Try.ntmps53
    go_wp2_with fail
    refine (HN.out _ _).mono ?_
    rintro e w1 ⟨rfl, rfl⟩
    go_wp2_with fail
    refine (HN.out _ _).mono ?_
    rintro e w2 ⟨rfl, rfl⟩
    go_wp2
    go_ret
    exact ⟨rfl, rfl⟩
  · rw [if_neg h]
    by_cases h2 : y < x
    · rw [if_pos h2]
      go_enter Try.func53, Try.ntmps53
      go_wp2_with fail
      refine (HN.out _ _).mono ?_
      rintro e w1 ⟨rfl, rfl⟩
      go_wp2_with fail
      refine (HN.out _ _).mono ?_
      rintro e w2 ⟨rfl, rfl⟩
      go_wp2
      go_ret
      exact ⟨rfl, rfl⟩
    · rw [if_neg h2]
      go_enter Try.func53, Try.ntmps53
      go_wp2_with fail
      refine (HN.out _ _).mono ?_
      rintro e w1 ⟨rfl, rfl⟩
      go_wp2_with fail
      refine (HN.out _ _).mono ?_
      rintro e w2 ⟨rfl, rfl⟩
      go_wp2
      go_ret
      exact ⟨rfl, rfl⟩
theorem grown_sortW {w : World} {enc : Nat → Value} {g n : Nat} {os : Array Obj} (d : Array Nat) : w.grownBy (sortWorld enc w g 0 n d os) (some g) := by
  refine ⟨rfl, rfl, rfl, ?_, fun k hk hne => ?_⟩
  · unfold sortWorld
    rw [size_grow]
    simp [putRow, mapBlock, Sort.ahead]
  · unfold sortWorld
    rw [heap_grow_old _ _ (by simpa [putRow, mapBlock, Sort.ahead] using hk)]
    have : g ≠ k := fun e => hne (by rw [e])
    simp [putRow, mapBlock, Sort.ahead, Array.getElem?_modify, this]
end Go.Proofs.Ytckcbaegehfkoaa
namespace Go.Proofs.Ytckcbaegehfkoaa
open Go.RowKit Go.Lib Go.Shelf Go.Sort

/-- The first that is not 0. -/
def orF : List Int → Int
  | [] => 0
  | x :: xs => if x = 0 then orF xs else x
set_option maxHeartbeats 1000000 in
theorem or_any (a : Option Addr) (c : Nat) (xs : List Int) (w : World) (h : IAt w a xs) (hN : xs.length ≤ 1000000) :
    Calls Try.prog 52 #[.slice a xs.length c] w fun e w' => e = .returned (.int .i64 (orF xs)) ∧ w' = w := by
  obtain ⟨N, hNe⟩ := ex_eq xs.length
  obtain ⟨R, hR⟩ := ex_eq (orF xs)
  rw [← hNe] at hN ⊢
  rw [← hR]
  have HN := hid hNe
  have HR := hid hR
  have HI := hid h
  clear hNe hR h
  go_enter Try.func52, Try.ntmps52
  go_wp2
  go_loopw [8] (fun i wz => ∃ k : Nat, k ≤ N ∧ i = .int .i64 k ∧ Hid (R = orF (xs.drop k)) ∧ wz = w) (fun i _ => N - (RowKit.intOf i).toNat)
  case atStart => exact ⟨0, Nat.zero_le _, rfl, (by show _ = _; rw [HR.out]; simp), rfl⟩
  case round =>
    obtain ⟨k, hk, rfl, heq, rfl⟩ := hrel
    by_cases hlt : k < N
    · have k1 : k < xs.length := by rw [← HN.out]; exact hlt
      obtain ⟨g1, o1, rfl, _, hc1⟩ := HI.out (by omega)
      have d1 := hc1 k k1
      obtain ⟨x, hx⟩ := ex_eq xs[k]
      rw [← hx] at d1
      have q1 : (k : Int) < (N : Int) := by omega
      have HE : Hid (R = if x = 0 then orF (xs.drop (k + 1)) else x) := by
        show _ = _
        rw [heq.out, List.drop_eq_getElem_cons k1, ← hx]
        rfl
      clear hc1 hx heq k1
      by_cases hx0 : x = 0
      · subst hx0
        have HRR : Hid (R = orF (xs.drop (k + 1))) := by show _ = _; rw [HE.out, if_pos rfl]
        clear HE
        go_wp2
        go_roundw
        case rel => exact ⟨k + 1, by omega, by go_num, HRR, trivial⟩
        case measure => simp [RowKit.intOf]; omega
      · have HRR : Hid (R = x) := by show _ = _; rw [HE.out, if_neg hx0]
        have hb : (x != 0) = true := by simp [hx0]
        clear HE
        go_wp2
        go_ret
        rw [HRR.out]
        exact ⟨rfl, rfl⟩
    · have ekN : k = N := by omega
      have HRR : Hid (R = 0) := by
        show _ = _
        rw [heq.out, List.drop_eq_nil_of_le (by have := HN.out; omega)]; rfl
      clear heq
      go_wp2
      go_ret
      rw [HRR.out]
      exact ⟨rfl, rfl⟩
theorem iat_newY (w : World) (xs : List Int) (T : TypeId) : IAt (w.alloc (.cells (xs.map (Value.int .i64)).toArray T)) (some ⟨w.heap.size, 0, none⟩) xs := fun _ =>
  ⟨w.heap.size, 0, rfl, by simp, fun k hk => by
    rw [cell_of_heap (heap_alloc_new w _)]
    simp [hk]⟩
theorem or_two (c1 c2 : Int) (w : World) (T : TypeId) : Calls Try.prog 52 #[.slice (some ⟨w.heap.size, 0, none⟩) 2 2] (w.alloc (.cells #[.int .i64 c1, .int .i64 c2] T)).drew fun e w' => e = .returned (.int .i64 (orF [c1, c2])) ∧ w' = (w.alloc (.cells #[.int .i64 c1, .int .i64 c2] T)).drew :=
  or_any (some ⟨w.heap.size, 0, none⟩) 2 [c1, c2] _ ((iat_newY w [c1, c2] T).below (Below.refl _ _).drew) (by simp)
theorem or_three (c1 c2 c3 : Int) (w : World) (T : TypeId) : Calls Try.prog 52 #[.slice (some ⟨w.heap.size, 0, none⟩) 3 3] (w.alloc (.cells #[.int .i64 c1, .int .i64 c2, .int .i64 c3] T)).drew fun e w' => e = .returned (.int .i64 (orF [c1, c2, c3])) ∧ w' = (w.alloc (.cells #[.int .i64 c1, .int .i64 c2, .int .i64 c3] T)).drew :=
  or_any (some ⟨w.heap.size, 0, none⟩) 3 [c1, c2, c3] _ ((iat_newY w [c1, c2, c3] T).below (Below.refl _ _).drew) (by simp)
theorem orE (x y : Int × Int) : orF [cmpI x.1 y.1, cmpI x.2 y.2] = cmpE x y := by
  unfold cmpE
  simp only [orF]
  by_cases h : x = y
  · subst h; simp [cmpI]
  · rw [if_neg h]
    by_cases h1 : x.1 = y.1
    · have h2 : x.2 ≠ y.2 := fun e => h (Prod.ext h1 e)
      have e1 : cmpI x.1 y.1 = 0 := by unfold cmpI; rw [if_neg (by omega), if_neg (by omega)]
      rw [if_pos e1]
      by_cases h3 : x.2 < y.2
      · have e2 : cmpI x.2 y.2 = -1 := by unfold cmpI; rw [if_pos h3]
        rw [e2, if_neg (by omega), if_pos ((ltE_iff x y).2 (Or.inr ⟨h1, h3⟩))]
      · have e2 : cmpI x.2 y.2 = 1 := by unfold cmpI; rw [if_neg h3, if_pos (by omega)]
        rw [e2, if_neg (by omega), if_neg (fun k => by rw [ltE_iff] at k; omega)]
    · by_cases h3 : x.1 < y.1
      · have e2 : cmpI x.1 y.1 = -1 := by unfold cmpI; rw [if_pos h3]
        rw [e2, if_neg (by omega), if_pos ((ltE_iff x y).2 (Or.inl h3))]
      · have e2 : cmpI x.1 y.1 = 1 := by unfold cmpI; rw [if_neg h3, if_pos (by omega)]
        rw [e2, if_neg (by omega), if_neg (fun k => by rw [ltE_iff] at k; omega)]
set_option maxHeartbeats 2000000 in
set_option maxRecDepth 100000 in
theorem ecmp_any (x1 x2 y1 y2 : Int) (w : World) : Calls Try.prog 51 #[.agg #[.int .i64 x1, .int .i64 x2], .agg #[.int .i64 y1, .int .i64 y2]] w fun e w' => e = .returned (.int .i64 (orF [cmpI x1 y1, cmpI x2 y2])) ∧ ∃ q os, w' = Sort.grow (w.drewN q) os := by
  obtain ⟨V, hV, hsV, hO0, hO1, hbV⟩ := new_two w (.cells #[.int .i64 x1, .int .i64 x2] 59) (.cells #[.int .i64 y1, .int .i64 y2] 59)
  have HKP : Hid (∀ X, Below V.heap.size V X → X.cell? ⟨w.heap.size, 0, none⟩ = some (.int .i64 x1) ∧ X.cell? ⟨w.heap.size, 1, none⟩ = some (.int .i64 x2) ∧ X.cell? ⟨w.heap.size + 1, 0, none⟩ = some (.int .i64 y1) ∧ X.cell? ⟨w.heap.size + 1, 1, none⟩ = some (.int .i64 y2)) := fun X hX => by
    have o0 := (hX.block _ (by omega)).trans hO0
    have o1 := (hX.block (w.heap.size + 1) (by omega)).trans hO1
    exact ⟨cell_of_heap o0 0, cell_of_heap o0 1, cell_of_heap o1 0, cell_of_heap o1 1⟩
  have HV := hid hV
  have HFIN : Hid (∀ o, ∃ q os, (V.alloc o).drew = Sort.grow (w.drewN q) os) := fun o => ⟨1, _, by
    rw [hV]
    show (((w.drewN 1).alloc _).alloc _).alloc o = _
    rw [Sort.alloc_eq_grow, Sort.alloc_eq_grow, Sort.alloc_eq_grow, Sort.grow_grow, Sort.grow_grow]⟩
  obtain ⟨c1, hc1⟩ := ex_eq (cmpI x1 y1)
  obtain ⟨c2, hc2⟩ := ex_eq (cmpI x2 y2)
  have C1 : Hid (∀ W, Calls Try.prog 53 #[.int .i64 x1, .int .i64 y1] W fun e w' => e = .returned (.int .i64 c1) ∧ w' = W) := fun W => by rw [hc1]; exact compare_any x1 y1 W
  have C2 : Hid (∀ W, Calls Try.prog 53 #[.int .i64 x2, .int .i64 y2] W fun e w' => e = .returned (.int .i64 c2) ∧ w' = W) := fun W => by rw [hc2]; exact compare_any x2 y2 W
  have hS := HKP.out V.drew ((Below.refl _ _).drew)
  have hS2 := HKP.out (V.alloc (.cells #[.int .i64 c1, .int .i64 c2] 3)).drew (((Below.refl _ _).alloc (Nat.le_refl _) _).drew)
  have CO := hid (or_two c1 c2 V 3)
  rw [hsV] at CO
  rw [← hc1, ← hc2]
  obtain ⟨x0', x1', y0', y1'⟩ := HKP.out V (Below.refl _ _)
  clear hc1 hc2 hV hbV hO0 hO1
  go_enter Try.func51, Try.ntmps51
  go_upto_region 1 with fail
  rw [← HV.out]
  refine wp_region_held_drew (S := (fun X => X.cell? ⟨w.heap.size, 0, none⟩ = some (.int .i64 x1) ∧ X.cell? ⟨w.heap.size, 1, none⟩ = some (.int .i64 x2) ∧ X.cell? ⟨w.heap.size + 1, 0, none⟩ = some (.int .i64 y1) ∧ X.cell? ⟨w.heap.size + 1, 1, none⟩ = some (.int .i64 y2))) (by kernel_rfl) hS (fun hHeld => ?_)
  (refine takeW (i := 0) (dst := some 5) (v := ?_) rfl rfl (by kernel_rfl) (by kernel_rfl) (by kernel_rfl) (fun _ _ _ h => h) (Or.inl ⟨by rfl, ?_⟩) hHeld ?_; rotate_left; focus (intro w hSw; (try dsimp only at hSw); go_simp; (try with_reducible rfl); done))
  try simp only [Act.put, List.setIfInBounds_toArray, List.set_cons_zero, List.set_cons_succ]
  (refine takeW (i := 1) (dst := some 6) (v := ?_) rfl rfl (by kernel_rfl) (by kernel_rfl) (by kernel_rfl) (fun _ _ _ h => h) (Or.inl ⟨by rfl, ?_⟩) hHeld ?_; rotate_left; focus (intro w hSw; (try dsimp only at hSw); go_simp; (try with_reducible rfl); done))
  try simp only [Act.put, List.setIfInBounds_toArray, List.set_cons_zero, List.set_cons_succ]
  (refine takeW (i := 2) (dst := some 7) (v := ?_) rfl rfl (by kernel_rfl) (by kernel_rfl) (by kernel_rfl) (fun _ _ _ h => h) (Or.inl ⟨by rfl, ?_⟩) hHeld ?_; rotate_left; focus (intro w hSw; (try dsimp only at hSw); go_simp; (try with_reducible rfl); done))
  try simp only [Act.put, List.setIfInBounds_toArray, List.set_cons_zero, List.set_cons_succ]
  (refine takeW (i := 3) (dst := some 8) (v := ?_) rfl rfl (by kernel_rfl) (by kernel_rfl) (by kernel_rfl) (fun _ _ _ h => h) (Or.inl ⟨by rfl, ?_⟩) hHeld ?_; rotate_left; focus (intro w hSw; (try dsimp only at hSw); go_simp; (try with_reducible rfl); done))
  try simp only [Act.put, List.setIfInBounds_toArray, List.set_cons_zero, List.set_cons_succ]
  (refine takeW (i := 5) (dst := some 10) (v := ?_) rfl rfl (by kernel_rfl) (by kernel_rfl) (by kernel_rfl) (fun _ _ _ h => h) (Or.inl ⟨by rfl, ?_⟩) hHeld ?_; rotate_left; focus (intro w hSw; (try dsimp only at hSw); go_simp; (try with_reducible rfl); done))
  try simp only [Act.put, List.setIfInBounds_toArray, List.set_cons_zero, List.set_cons_succ]
  (refine takeW (i := 6) (dst := some 11) (v := ?_) rfl rfl (by kernel_rfl) (by kernel_rfl) (by kernel_rfl) (fun _ _ _ h => h) (Or.inl ⟨by rfl, ?_⟩) hHeld ?_; rotate_left; focus (intro w hSw; (try dsimp only at hSw); go_simp; (try with_reducible rfl); done))
  try simp only [Act.put, List.setIfInBounds_toArray, List.set_cons_zero, List.set_cons_succ]
  (refine takeW (i := 7) (dst := some 12) (v := ?_) rfl rfl (by kernel_rfl) (by kernel_rfl) (by kernel_rfl) (fun _ _ _ h => h) (Or.inl ⟨by rfl, ?_⟩) hHeld ?_; rotate_left; focus (intro w hSw; (try dsimp only at hSw); go_simp; (try with_reducible rfl); done))
  try simp only [Act.put, List.setIfInBounds_toArray, List.set_cons_zero, List.set_cons_succ]
  (refine takeW (i := 8) (dst := some 13) (v := ?_) rfl rfl (by kernel_rfl) (by kernel_rfl) (by kernel_rfl) (fun _ _ _ h => h) (Or.inl ⟨by rfl, ?_⟩) hHeld ?_; rotate_left; focus (intro w hSw; (try dsimp only at hSw); go_simp; (try with_reducible rfl); done))
  try simp only [Act.put, List.setIfInBounds_toArray, List.set_cons_zero, List.set_cons_succ]
  refine wpAnyH_ready (rs := [4]) (by kernel_rfl) (by simp) ?_
  refine AllReadyH.cons (o := _) rfl (fun KK hK => ?_) AllReadyH.nil
  go_simp
  refine (C1.out _).mono ?_
  rintro e yy1 ⟨rfl, rfl⟩
  refine hK.out _ _ hS (fun hHeld => ?_)
  clear hK KK
  try simp only [Act.put]
  try simp only [List.setIfInBounds_toArray]
  try simp only [List.set_cons_succ]
  try simp only [List.set_cons_zero]
  refine wpAnyH_ready (rs := [9]) (by kernel_rfl) (by simp) ?_
  refine AllReadyH.cons (o := _) rfl (fun KK hK => ?_) AllReadyH.nil
  go_simp
  refine (C2.out _).mono ?_
  rintro e yy2 ⟨rfl, rfl⟩
  refine hK.out _ _ hS (fun hHeld => ?_)
  clear hK KK
  try simp only [Act.put]
  try simp only [List.setIfInBounds_toArray]
  try simp only [List.set_cons_succ]
  try simp only [List.set_cons_zero]
  refine wpAnyH_ready (rs := [10]) (by kernel_rfl) (by simp) ?_
  refine AllReadyH.cons (o := _) rfl (fun KK hK => ?_) AllReadyH.nil
  go_simp
  refine hK.out _ _ hS2 (fun hHeld => ?_)
  clear hK KK
  try simp only [Act.put]
  try simp only [List.setIfInBounds_toArray]
  try simp only [List.set_cons_succ]
  try simp only [List.set_cons_zero]
  refine wpAnyH_ready (rs := [11]) (by kernel_rfl) (by simp) ?_
  refine AllReadyH.cons (o := _) rfl (fun KK hK => ?_) AllReadyH.nil
  go_simp
  refine CO.out.mono ?_
  rintro e yy3 ⟨rfl, rfl⟩
  refine hK.out _ _ hS2 (fun hHeld => ?_)
  clear hK KK
  try simp only [Act.put]
  try simp only [List.setIfInBounds_toArray]
  try simp only [List.set_cons_succ]
  try simp only [List.set_cons_zero]
  (refine takeW (i := 12) (dst := some 4) (v := ?_) rfl rfl (by kernel_rfl) (by kernel_rfl) (by kernel_rfl) (fun _ _ _ h => h) (Or.inl ⟨by rfl, ?_⟩) hHeld ?_; rotate_left; focus (intro w hSw; (try dsimp only at hSw); go_simp; (try with_reducible rfl); done))
  try simp only [Act.put]
  try simp only [List.setIfInBounds_toArray]
  try simp only [List.set_cons_succ]
  try simp only [List.set_cons_zero]
  refine wpAnyH_done (by kernel_rfl) ?_ _
  clear hHeld hS hS2 x0' x1' y0' y1'
  go_wp2
  go_ret
  exact ⟨rfl, HFIN.out _⟩
end Go.Proofs.Ytckcbaegehfkoaa
