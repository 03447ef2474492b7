/-
  Rows and edges sorted by the program's comparisons (layer 9): slices.SortFunc by its contract.
-/
import Derived.Test.YtckcbaegehfkoaaC17
namespace Go.Proofs.Ytckcbaegehfkoaa
open Go.RowKit Go.Lib Go.Shelf Go.Sort

set_option maxHeartbeats 2000000 in
set_option maxRecDepth 100000 in
theorem pcmp_any (g1 o1 c1 g2 o2 c2 n1 n2 : Nat) (p0 p1 pl q0 q1 ql : Int) (w : World) (h1 : 2 ≤ n1) (h2 : 2 ≤ n2) (m1 : n1 ≤ 1000000) (m2 : n2 ≤ 1000000)
    (e1 : w.cell? ⟨g1, o1, none⟩ = some (.int .i64 p0)) (e2 : w.cell? ⟨g1, o1 + 1, none⟩ = some (.int .i64 p1)) (e3 : w.cell? ⟨g1, o1 + (n1 - 1), none⟩ = some (.int .i64 pl))
    (f1 : w.cell? ⟨g2, o2, none⟩ = some (.int .i64 q0)) (f2 : w.cell? ⟨g2, o2 + 1, none⟩ = some (.int .i64 q1)) (f3 : w.cell? ⟨g2, o2 + (n2 - 1), none⟩ = some (.int .i64 ql)) :
    Calls Try.prog 80 #[.slice (some ⟨g1, o1, none⟩) n1 c1, .slice (some ⟨g2, o2, none⟩) n2 c2] w fun e w' => e = .returned (.int .i64 (orF [cmpI p0 q0, cmpI pl ql, cmpI p1 q1])) ∧ ∃ q os, w' = Sort.grow (w.drewN q) os := by
  obtain ⟨l1, hl1⟩ : ∃ l1, l1 = n1 - 1 := ⟨_, rfl⟩
  obtain ⟨l2, hl2⟩ : ∃ l2, l2 = n2 - 1 := ⟨_, rfl⟩
  rw [← hl1] at e3
  rw [← hl2] at f3
  have hg1 : g1 < w.heap.size := block_lt_of_cell e1
  have hg2 : g2 < w.heap.size := block_lt_of_cell f1
  have HKP : Hid (∀ X, Below w.heap.size w X → X.cell? ⟨g1, o1, none⟩ = some (.int .i64 p0) ∧ X.cell? ⟨g1, o1 + 1, none⟩ = some (.int .i64 p1) ∧ X.cell? ⟨g1, o1 + l1, none⟩ = some (.int .i64 pl) ∧ X.cell? ⟨g2, o2, none⟩ = some (.int .i64 q0) ∧ X.cell? ⟨g2, o2 + 1, none⟩ = some (.int .i64 q1) ∧ X.cell? ⟨g2, o2 + l2, none⟩ = some (.int .i64 ql)) := fun X hX =>
    ⟨(hX.cell (p := ⟨g1, o1, none⟩) hg1).trans e1, (hX.cell (p := ⟨g1, o1 + 1, none⟩) hg1).trans e2, (hX.cell (p := ⟨g1, o1 + l1, none⟩) hg1).trans e3, (hX.cell (p := ⟨g2, o2, none⟩) hg2).trans f1, (hX.cell (p := ⟨g2, o2 + 1, none⟩) hg2).trans f2, (hX.cell (p := ⟨g2, o2 + l2, none⟩) hg2).trans f3⟩
  have HFIN : Hid (∀ o, ∃ q os, (w.alloc o).drew = Sort.grow (w.drewN q) os) := fun o => ⟨1, _, by
    show (w.drewN 1).alloc o = _
    rw [Sort.alloc_eq_grow]⟩
  obtain ⟨a1, ha1⟩ := ex_eq (cmpI p0 q0)
  obtain ⟨a2, ha2⟩ := ex_eq (cmpI pl ql)
  obtain ⟨a3, ha3⟩ := ex_eq (cmpI p1 q1)
  have C1 : Hid (∀ W, Calls Try.prog 53 #[.int .i64 p0, .int .i64 q0] W fun e w' => e = .returned (.int .i64 a1) ∧ w' = W) := fun W => by rw [ha1]; exact compare_any p0 q0 W
  have C2 : Hid (∀ W, Calls Try.prog 53 #[.int .i64 pl, .int .i64 ql] W fun e w' => e = .returned (.int .i64 a2) ∧ w' = W) := fun W => by rw [ha2]; exact compare_any pl ql W
  have C3 : Hid (∀ W, Calls Try.prog 53 #[.int .i64 p1, .int .i64 q1] W fun e w' => e = .returned (.int .i64 a3) ∧ w' = W) := fun W => by rw [ha3]; exact compare_any p1 q1 W
  have hS := HKP.out w.drew ((Below.refl _ _).drew)
  have hS2 := HKP.out (w.alloc (.cells #[.int .i64 a1, .int .i64 a2, .int .i64 a3] 3)).drew (((Below.refl _ _).alloc (Nat.le_refl _) _).drew)
  have CO := hid (or_three a1 a2 a3 w 3)
  have i1 : (n1 : Int) - 1 = (l1 : Int) := by omega
  have i2 : (n2 : Int) - 1 = (l2 : Int) := by omega
  have i3 : IntKind.i64.wrap (l1 : Int) = (l1 : Int) := by rw [IntKind.wrap_i64]; omega
  have i4 : IntKind.i64.wrap (l2 : Int) = (l2 : Int) := by rw [IntKind.wrap_i64]; omega
  have j1 : (0 : Int) ≤ (l1 : Int) := by omega
  have j2 : (0 : Int) ≤ (l2 : Int) := by omega
  have j3 : (l1 : Int) < (n1 : Int) := by omega
  have j4 : (l2 : Int) < (n2 : Int) := by omega
  have j5 : (0 : Int) < (n1 : Int) := by omega
  have j6 : (0 : Int) < (n2 : Int) := by omega
  have j7 : (1 : Int) < (n1 : Int) := by omega
  have u1 : 0 < n1 := by omega
  have u2 : 0 < n2 := by omega
  have u3 : 1 < n1 := by omega
  have u4 : 1 < n2 := by omega
  have u5 : l1 < n1 := by omega
  have u6 : l2 < n2 := by omega
  have j8 : (1 : Int) < (n2 : Int) := by omega
  rw [← ha1, ← ha2, ← ha3]
  clear ha1 ha2 ha3 hl1 hl2 e1 e2 e3 f1 f2 f3 HKP
  go_enter Try.func80, Try.ntmps80
  go_upto_region 1 with fail
  refine wp_region_held_drew (S := (fun X => X.cell? ⟨g1, o1, none⟩ = some (.int .i64 p0) ∧ X.cell? ⟨g1, o1 + 1, none⟩ = some (.int .i64 p1) ∧ X.cell? ⟨g1, o1 + l1, none⟩ = some (.int .i64 pl) ∧ X.cell? ⟨g2, o2, none⟩ = some (.int .i64 q0) ∧ X.cell? ⟨g2, o2 + 1, none⟩ = some (.int .i64 q1) ∧ X.cell? ⟨g2, o2 + l2, none⟩ = some (.int .i64 ql))) (by kernel_rfl) hS (fun hHeld => ?_)
  (refine takeW (i := 0) (dst := some 5) (v := ?_) rfl rfl (by kernel_rfl) (by kernel_rfl) (by kernel_rfl) (fun _ _ _ h => h) (Or.inl ⟨by rfl, ?_⟩) hHeld ?_; rotate_left; focus (intro w hSw; (try dsimp only at hSw); go_simp; (try with_reducible rfl); done))
  try simp only [Act.put, List.setIfInBounds_toArray, List.set_cons_zero, List.set_cons_succ]
  (refine takeW (i := 1) (dst := some 6) (v := ?_) rfl rfl (by kernel_rfl) (by kernel_rfl) (by kernel_rfl) (fun _ _ _ h => h) (Or.inl ⟨by rfl, ?_⟩) hHeld ?_; rotate_left; focus (intro w hSw; (try dsimp only at hSw); go_simp; (try with_reducible rfl); done))
  try simp only [Act.put, List.setIfInBounds_toArray, List.set_cons_zero, List.set_cons_succ]
  (refine takeW (i := 2) (dst := some 7) (v := ?_) rfl rfl (by kernel_rfl) (by kernel_rfl) (by kernel_rfl) (fun _ _ _ h => h) (Or.inl ⟨by rfl, ?_⟩) hHeld ?_; rotate_left; focus (intro w hSw; (try dsimp only at hSw); go_simp; (try with_reducible rfl); done))
  try simp only [Act.put, List.setIfInBounds_toArray, List.set_cons_zero, List.set_cons_succ]
  (refine takeW (i := 3) (dst := some 8) (v := ?_) rfl rfl (by kernel_rfl) (by kernel_rfl) (by kernel_rfl) (fun _ _ _ h => h) (Or.inl ⟨by rfl, ?_⟩) hHeld ?_; rotate_left; focus (intro w hSw; (try dsimp only at hSw); go_simp; (try with_reducible rfl); done))
  try simp only [Act.put, List.setIfInBounds_toArray, List.set_cons_zero, List.set_cons_succ]
  (refine takeW (i := 4) (dst := some 9) (v := ?_) rfl rfl (by kernel_rfl) (by kernel_rfl) (by kernel_rfl) (fun _ _ _ h => h) (Or.inl ⟨by rfl, ?_⟩) hHeld ?_; rotate_left; focus (intro w hSw; (try dsimp only at hSw); go_simp; (try with_reducible rfl); done))
  try simp only [Act.put, List.setIfInBounds_toArray, List.set_cons_zero, List.set_cons_succ]
  (refine takeW (i := 5) (dst := some 10) (v := ?_) rfl rfl (by kernel_rfl) (by kernel_rfl) (by kernel_rfl) (fun _ _ _ h => h) (Or.inl ⟨by rfl, ?_⟩) hHeld ?_; rotate_left; focus (intro w hSw; (try dsimp only at hSw); go_simp; (try with_reducible rfl); done))
  try simp only [Act.put, List.setIfInBounds_toArray, List.set_cons_zero, List.set_cons_succ]
  (refine takeW (i := 7) (dst := some 12) (v := ?_) rfl rfl (by kernel_rfl) (by kernel_rfl) (by kernel_rfl) (fun _ _ _ h => h) (Or.inl ⟨by rfl, ?_⟩) hHeld ?_; rotate_left; focus (intro w hSw; (try dsimp only at hSw); go_simp; (try with_reducible rfl); done))
  try simp only [Act.put, List.setIfInBounds_toArray, List.set_cons_zero, List.set_cons_succ]
  (refine takeW (i := 8) (dst := some 13) (v := ?_) rfl rfl (by kernel_rfl) (by kernel_rfl) (by kernel_rfl) (fun _ _ _ h => h) (Or.inl ⟨by rfl, ?_⟩) hHeld ?_; rotate_left; focus (intro w hSw; (try dsimp only at hSw); go_simp; (try with_reducible rfl); done))
  try simp only [Act.put, List.setIfInBounds_toArray, List.set_cons_zero, List.set_cons_succ]
  (refine takeW (i := 9) (dst := some 14) (v := ?_) rfl rfl (by kernel_rfl) (by kernel_rfl) (by kernel_rfl) (fun _ _ _ h => h) (Or.inl ⟨by rfl, ?_⟩) hHeld ?_; rotate_left; focus (intro w hSw; (try dsimp only at hSw); go_simp; (try with_reducible rfl); done))
  try simp only [Act.put, List.setIfInBounds_toArray, List.set_cons_zero, List.set_cons_succ]
  (refine takeW (i := 10) (dst := some 15) (v := ?_) rfl rfl (by kernel_rfl) (by kernel_rfl) (by kernel_rfl) (fun _ _ _ h => h) (Or.inl ⟨by rfl, ?_⟩) hHeld ?_; rotate_left; focus (intro w hSw; (try dsimp only at hSw); go_simp; (try with_reducible rfl); done))
  try simp only [Act.put, List.setIfInBounds_toArray, List.set_cons_zero, List.set_cons_succ]
  (refine takeW (i := 11) (dst := some 16) (v := ?_) rfl rfl (by kernel_rfl) (by kernel_rfl) (by kernel_rfl) (fun _ _ _ h => h) (Or.inl ⟨by rfl, ?_⟩) hHeld ?_; rotate_left; focus (intro w hSw; (try dsimp only at hSw); go_simp; (try with_reducible rfl); done))
  try simp only [Act.put, List.setIfInBounds_toArray, List.set_cons_zero, List.set_cons_succ]
  (refine takeW (i := 12) (dst := some 17) (v := ?_) rfl rfl (by kernel_rfl) (by kernel_rfl) (by kernel_rfl) (fun _ _ _ h => h) (Or.inl ⟨by rfl, ?_⟩) hHeld ?_; rotate_left; focus (intro w hSw; (try dsimp only at hSw); go_simp; (try with_reducible rfl); done))
  try simp only [Act.put, List.setIfInBounds_toArray, List.set_cons_zero, List.set_cons_succ]
  (refine takeW (i := 13) (dst := some 18) (v := ?_) rfl rfl (by kernel_rfl) (by kernel_rfl) (by kernel_rfl) (fun _ _ _ h => h) (Or.inl ⟨by rfl, ?_⟩) hHeld ?_; rotate_left; focus (intro w hSw; (try dsimp only at hSw); go_simp; (try with_reducible rfl); done))
  try simp only [Act.put, List.setIfInBounds_toArray, List.set_cons_zero, List.set_cons_succ]
  (refine takeW (i := 14) (dst := some 19) (v := ?_) rfl rfl (by kernel_rfl) (by kernel_rfl) (by kernel_rfl) (fun _ _ _ h => h) (Or.inl ⟨by rfl, ?_⟩) hHeld ?_; rotate_left; focus (intro w hSw; (try dsimp only at hSw); go_simp; (try with_reducible rfl); done))
  try simp only [Act.put, List.setIfInBounds_toArray, List.set_cons_zero, List.set_cons_succ]
  (refine takeW (i := 15) (dst := some 20) (v := ?_) rfl rfl (by kernel_rfl) (by kernel_rfl) (by kernel_rfl) (fun _ _ _ h => h) (Or.inl ⟨by rfl, ?_⟩) hHeld ?_; rotate_left; focus (intro w hSw; (try dsimp only at hSw); go_simp; (try with_reducible rfl); done))
  try simp only [Act.put, List.setIfInBounds_toArray, List.set_cons_zero, List.set_cons_succ]
  (refine takeW (i := 16) (dst := some 21) (v := ?_) rfl rfl (by kernel_rfl) (by kernel_rfl) (by kernel_rfl) (fun _ _ _ h => h) (Or.inl ⟨by rfl, ?_⟩) hHeld ?_; rotate_left; focus (intro w hSw; (try dsimp only at hSw); go_simp; (try with_reducible rfl); done))
  try simp only [Act.put, List.setIfInBounds_toArray, List.set_cons_zero, List.set_cons_succ]
  (refine takeW (i := 17) (dst := some 22) (v := ?_) rfl rfl (by kernel_rfl) (by kernel_rfl) (by kernel_rfl) (fun _ _ _ h => h) (Or.inl ⟨by rfl, ?_⟩) hHeld ?_; rotate_left; focus (intro w hSw; (try dsimp only at hSw); go_simp; (try with_reducible rfl); done))
  try simp only [Act.put, List.setIfInBounds_toArray, List.set_cons_zero, List.set_cons_succ]
  (refine takeW (i := 18) (dst := some 23) (v := ?_) rfl rfl (by kernel_rfl) (by kernel_rfl) (by kernel_rfl) (fun _ _ _ h => h) (Or.inl ⟨by rfl, ?_⟩) hHeld ?_; rotate_left; focus (intro w hSw; (try dsimp only at hSw); go_simp; (try with_reducible rfl); done))
  try simp only [Act.put, List.setIfInBounds_toArray, List.set_cons_zero, List.set_cons_succ]
  (refine takeW (i := 20) (dst := some 25) (v := ?_) rfl rfl (by kernel_rfl) (by kernel_rfl) (by kernel_rfl) (fun _ _ _ h => h) (Or.inl ⟨by rfl, ?_⟩) hHeld ?_; rotate_left; focus (intro w hSw; (try dsimp only at hSw); go_simp; (try with_reducible rfl); done))
  try simp only [Act.put, List.setIfInBounds_toArray, List.set_cons_zero, List.set_cons_succ]
  (refine takeW (i := 21) (dst := some 26) (v := ?_) rfl rfl (by kernel_rfl) (by kernel_rfl) (by kernel_rfl) (fun _ _ _ h => h) (Or.inl ⟨by rfl, ?_⟩) hHeld ?_; rotate_left; focus (intro w hSw; (try dsimp only at hSw); go_simp; (try with_reducible rfl); done))
  try simp only [Act.put, List.setIfInBounds_toArray, List.set_cons_zero, List.set_cons_succ]
  (refine takeW (i := 22) (dst := some 27) (v := ?_) rfl rfl (by kernel_rfl) (by kernel_rfl) (by kernel_rfl) (fun _ _ _ h => h) (Or.inl ⟨by rfl, ?_⟩) hHeld ?_; rotate_left; focus (intro w hSw; (try dsimp only at hSw); go_simp; (try with_reducible rfl); done))
  try simp only [Act.put, List.setIfInBounds_toArray, List.set_cons_zero, List.set_cons_succ]
  (refine takeW (i := 23) (dst := some 28) (v := ?_) rfl rfl (by kernel_rfl) (by kernel_rfl) (by kernel_rfl) (fun _ _ _ h => h) (Or.inl ⟨by rfl, ?_⟩) hHeld ?_; rotate_left; focus (intro w hSw; (try dsimp only at hSw); go_simp; (try with_reducible rfl); done))
  try simp only [Act.put, List.setIfInBounds_toArray, List.set_cons_zero, List.set_cons_succ]
  (refine takeW (i := 24) (dst := some 29) (v := ?_) rfl rfl (by kernel_rfl) (by kernel_rfl) (by kernel_rfl) (fun _ _ _ h => h) (Or.inl ⟨by rfl, ?_⟩) hHeld ?_; rotate_left; focus (intro w hSw; (try dsimp only at hSw); go_simp; (try with_reducible rfl); done))
  try simp only [Act.put, List.setIfInBounds_toArray, List.set_cons_zero, List.set_cons_succ]
  (refine takeW (i := 25) (dst := some 30) (v := ?_) rfl rfl (by kernel_rfl) (by kernel_rfl) (by kernel_rfl) (fun _ _ _ h => h) (Or.inl ⟨by rfl, ?_⟩) hHeld ?_; rotate_left; focus (intro w hSw; (try dsimp only at hSw); go_simp; (try with_reducible rfl); done))
  try simp only [Act.put, List.setIfInBounds_toArray, List.set_cons_zero, List.set_cons_succ]
  refine wpAnyH_ready (rs := [6]) (by kernel_rfl) (by simp) ?_
  refine AllReadyH.cons (o := _) rfl (fun KK hK => ?_) AllReadyH.nil
  go_simp
  refine (C1.out _).mono ?_
  rintro e yy1 ⟨rfl, rfl⟩
  refine hK.out _ _ hS (fun hHeld => ?_)
  clear hK KK
  try simp only [Act.put]
  try simp only [List.setIfInBounds_toArray]
  try simp only [List.set_cons_succ]
  try simp only [List.set_cons_zero]
  refine wpAnyH_ready (rs := [19]) (by kernel_rfl) (by simp) ?_
  refine AllReadyH.cons (o := _) rfl (fun KK hK => ?_) AllReadyH.nil
  go_simp
  refine (C2.out _).mono ?_
  rintro e yy2 ⟨rfl, rfl⟩
  refine hK.out _ _ hS (fun hHeld => ?_)
  clear hK KK
  try simp only [Act.put]
  try simp only [List.setIfInBounds_toArray]
  try simp only [List.set_cons_succ]
  try simp only [List.set_cons_zero]
  refine wpAnyH_ready (rs := [26]) (by kernel_rfl) (by simp) ?_
  refine AllReadyH.cons (o := _) rfl (fun KK hK => ?_) AllReadyH.nil
  go_simp
  refine (C3.out _).mono ?_
  rintro e yy31 ⟨rfl, rfl⟩
  refine hK.out _ _ hS (fun hHeld => ?_)
  clear hK KK
  try simp only [Act.put]
  try simp only [List.setIfInBounds_toArray]
  try simp only [List.set_cons_succ]
  try simp only [List.set_cons_zero]
  refine wpAnyH_ready (rs := [27]) (by kernel_rfl) (by simp) ?_
  refine AllReadyH.cons (o := _) rfl (fun KK hK => ?_) AllReadyH.nil
  go_simp
  refine hK.out _ _ hS2 (fun hHeld => ?_)
  clear hK KK
  try simp only [Act.put]
  try simp only [List.setIfInBounds_toArray]
  try simp only [List.set_cons_succ]
  try simp only [List.set_cons_zero]
  refine wpAnyH_ready (rs := [28]) (by kernel_rfl) (by simp) ?_
  refine AllReadyH.cons (o := _) rfl (fun KK hK => ?_) AllReadyH.nil
  go_simp
  refine CO.out.mono ?_
  rintro e yy3 ⟨rfl, rfl⟩
  refine hK.out _ _ hS2 (fun hHeld => ?_)
  clear hK KK
  try simp only [Act.put]
  try simp only [List.setIfInBounds_toArray]
  try simp only [List.set_cons_succ]
  try simp only [List.set_cons_zero]
  (refine takeW (i := 29) (dst := some 4) (v := ?_) rfl rfl (by kernel_rfl) (by kernel_rfl) (by kernel_rfl) (fun _ _ _ h => h) (Or.inl ⟨by rfl, ?_⟩) hHeld ?_; rotate_left; focus (intro w hSw; (try dsimp only at hSw); go_simp; (try with_reducible rfl); done))
  try simp only [Act.put]
  try simp only [List.setIfInBounds_toArray]
  try simp only [List.set_cons_succ]
  try simp only [List.set_cons_zero]
  refine wpAnyH_done (by kernel_rfl) ?_ _
  clear hHeld hS hS2 hg1 hg2
  go_wp2
  go_ret
  exact ⟨rfl, HFIN.out _⟩
theorem cmpLays9 (blk off size : Nat) (w : World) : CmpLays Try.prog 51 #[] encE 2 cmpE blk off size w := fun _ _ _ _ x y => by
  rw [← orE]
  exact ecmp_any x.1 x.2 y.1 y.2 _
set_option maxHeartbeats 400000 in
/-- slices.SortFunc at edges: the row holds the same edges, none of which is less than one ahead of it. -/
theorem sortE_any (g n cap base : Nat) (c : Nat → Int × Int) (w : World) (hb : base ≤ g) (hbw : base ≤ w.heap.size) (h : Row2 w g n c) (hn : n ≤ 1000000) :
    Calls Try.prog 50 #[.slice (some ⟨g, 0, none⟩) n cap, .func (.func 51) #[] #[]] w fun e w' => e = .returned (.tuple #[]) ∧ ∃ c', Row2 w' g n c' ∧ (∀ i j, i < j → j < n → ltE (c' j) (c' i) = false) ∧ (∀ x, x ∈ lst c' n ↔ x ∈ lst c n) ∧ Below base w w' := by
  have hsz : (lst c n).toArray.size = n := by simp [lst]
  have eg : ∀ args w, (callFunc 51 args).run Try.prog w = .ok (.enter 51 args) w := enters_of Try.func51 (by kernel_rfl) rfl
  have hcon := AnyQ.slices_SortFunc Try.sortE 2 Try.isAgg59 Try.sizeOf59 encE (fun _ => rfl) encE_one cmpE swoE 51 #[] g 0 cap (lst c n).toArray w eg (cmpLays9 g 0 _ w) h.holds h.1 (by rw [hsz]; omega)
  change Calls Try.prog 50 _ _ _ at hcon
  rw [hsz] at hcon
  refine hcon.mono ?_
  rintro e w' ⟨rfl, d', q, os, hp, hs, rfl⟩
  have hd : d'.size = n := by rw [hp.1, hsz]
  refine ⟨rfl, fun j => d'[j]!, ?_, fun i j hij hj => ?_, fun x => ?_, ?_⟩
  · have := row2_holds (d := d') (w := sortWorldK encE 2 w g 0 q d' os) (Nat.lt_of_lt_of_le h.1 (size_sortWorldK_c encE 2 w g 0 q d' os)) (holdsK_sortWorldK_c encE 2 w g 0 _ d' q os h.holds h.1 (by rw [hd, hsz]))
    rwa [hd] at this
  · have := hs i j (Nat.zero_le _) hij hj
    rwa [show ltOf cmpE d'[j]! d'[i]! = ltE d'[j]! d'[i]! from cmpE_lt _ _] at this
  · have hperm := hp.2.2
    have e1 : (d'.extract 0 n).toList = d'.toList := by rw [show n = d'.size from hd.symm]; simp
    have e2 : ((lst c n).toArray.extract 0 n).toList = lst c n := by
      rw [Array.toList_extract]
      simp [List.take_of_length_le, lst_len]
    rw [e1, e2] at hperm
    have e3 : lst (fun j => d'[j]!) n = d'.toList := by
      apply List.ext_getElem
      · simp [lst, hd]
      · intro i h1 h2
        simp [lst]
        rw [getElem!_pos d' i (by simpa using h2)]
    rw [e3]
    exact hperm.mem_iff
  · exact Below.grown (Below.refl _ _) (grown_sortE d') hbw (fun k hk => by cases hk; exact hb)

/-- Rows held against each other as the program does: by their first, their last, their second numbers. -/
def keyL (p : List Int) : Int × Int × Int := (p.headD 0, p.getLastD 0, (p.drop 1).headD 0)
def lt3 (x y : Int × Int × Int) : Bool := decide (x.1 < y.1 ∨ (x.1 = y.1 ∧ (x.2.1 < y.2.1 ∨ (x.2.1 = y.2.1 ∧ x.2.2 < y.2.2))))
theorem lt3_iff (x y : Int × Int × Int) : lt3 x y = true ↔ (x.1 < y.1 ∨ (x.1 = y.1 ∧ (x.2.1 < y.2.1 ∨ (x.2.1 = y.2.1 ∧ x.2.2 < y.2.2)))) := by unfold lt3; rw [decide_eq_true_eq]
def cmp3 (x y : Int × Int × Int) : Int := orF [cmpI x.1 y.1, cmpI x.2.1 y.2.1, cmpI x.2.2 y.2.2]
theorem cmpI_neg (x y : Int) : cmpI x y < 0 ↔ x < y := by
  unfold cmpI
  split
  · omega
  · split <;> omega
theorem cmpI_zero (x y : Int) : cmpI x y = 0 ↔ x = y := by
  unfold cmpI
  split
  · omega
  · split <;> omega
theorem cmp3_lt (x y : Int × Int × Int) : cmp3 x y < 0 ↔ lt3 x y = true := by
  rw [lt3_iff]
  unfold cmp3
  simp only [orF]
  by_cases h1 : x.1 = y.1
  · rw [if_pos ((cmpI_zero _ _).2 h1)]
    by_cases h2 : x.2.1 = y.2.1
    · rw [if_pos ((cmpI_zero _ _).2 h2)]
      by_cases h3 : x.2.2 = y.2.2
      · rw [if_pos ((cmpI_zero _ _).2 h3)]; omega
      · rw [if_neg (fun e => h3 ((cmpI_zero _ _).1 e)), cmpI_neg]; omega
    · rw [if_neg (fun e => h2 ((cmpI_zero _ _).1 e)), cmpI_neg]; omega
  · rw [if_neg (fun e => h1 ((cmpI_zero _ _).1 e)), cmpI_neg]; omega
theorem swo3 (rows : Nat → List Int) : SWO (ltOf (fun x y => cmp3 (keyL (rows x)) (keyL (rows y)))) := by
  have e : ∀ x y, ltOf (fun x y => cmp3 (keyL (rows x)) (keyL (rows y))) x y = lt3 (keyL (rows x)) (keyL (rows y)) := fun x y => by
    have h := cmp3_lt (keyL (rows x)) (keyL (rows y))
    unfold ltOf
    cases h2 : lt3 (keyL (rows x)) (keyL (rows y)) with
    | true => exact decide_eq_true (h.2 h2)
    | false => exact decide_eq_false (fun k => by rw [h.1 k] at h2; cases h2)
  have no : ∀ a b, lt3 a b = false ↔ ¬ (a.1 < b.1 ∨ (a.1 = b.1 ∧ (a.2.1 < b.2.1 ∨ (a.2.1 = b.2.1 ∧ a.2.2 < b.2.2)))) := fun a b => by unfold lt3; rw [decide_eq_false_iff_not]
  refine ⟨fun x => ?_, fun x y z h h' => ?_, fun x y z h h' => ?_⟩
  · rw [e, no]; omega
  · rw [e] at *; rw [lt3_iff] at *; omega
  · rw [e] at *; rw [no] at *; omega
theorem keyL_at {xs : List Int} (h : 2 ≤ xs.length) : keyL xs = (xs[0], xs[xs.length - 1], xs[1]) := by
  unfold keyL
  refine Prod.ext ?_ (Prod.ext ?_ ?_)
  · rw [List.headD_eq_head?_getD, List.head?_eq_getElem?]; simp [show 0 < xs.length by omega]
  · simp only; rw [List.getLastD_eq_getLast?, List.getLast?_eq_getElem?]; simp [show xs.length - 1 < xs.length by omega]
  · simp only; rw [List.headD_eq_head?_getD, List.head?_eq_getElem?]; simp [show 1 < xs.length by omega]
theorem rcmp_any (a1 a2 : Option Addr) (c1 c2 : Nat) (xs ys : List Int) (w : World) (h1 : IAt w a1 xs) (h2 : IAt w a2 ys) (l1 : 2 ≤ xs.length ∧ xs.length ≤ 1000000) (l2 : 2 ≤ ys.length ∧ ys.length ≤ 1000000) :
    Calls Try.prog 80 #[.slice a1 xs.length c1, .slice a2 ys.length c2] w fun e w' => e = .returned (.int .i64 (cmp3 (keyL xs) (keyL ys))) ∧ ∃ q os, w' = Sort.grow (w.drewN q) os := by
  obtain ⟨g1, o1, rfl, _, k1⟩ := h1 (by omega)
  obtain ⟨g2, o2, rfl, _, k2⟩ := h2 (by omega)
  rw [keyL_at l1.1, keyL_at l2.1]
  exact pcmp_any g1 o1 c1 g2 o2 c2 xs.length ys.length _ _ _ _ _ _ w l1.1 l2.1 l1.2 l2.2 (k1 0 (by omega)) (k1 1 (by omega)) (k1 (xs.length - 1) (by omega)) (k2 0 (by omega)) (k2 1 (by omega)) (k2 (ys.length - 1) (by omega))
/-- Rows in memory that lies behind base. -/
def LLFar (w : World) (base : Nat) (a : Option Addr) (LL : List (List Int)) : Prop :=
  0 < LL.length → ∃ g off, a = some ⟨g, off, none⟩ ∧ g < w.heap.size ∧ base ≤ g ∧ ∀ k (hk : k < LL.length), ∃ ak ck, w.cell? ⟨g, off + k, none⟩ = some (.slice ak LL[k].length ck) ∧ IAt w ak LL[k] ∧ (∀ q o, ak = some ⟨q, o, none⟩ → 0 < LL[k].length → base ≤ q) ∧ LL[k].length ≤ ck
/-- A slice is no longer than its room. -/
def CapU (u : Value) : Prop := ∀ a n c, u = .slice a n c → n ≤ c
theorem LLFar.at {w : World} {base : Nat} {a : Option Addr} {LL : List (List Int)} (h : LLFar w base a LL) : LLAt w a LL := fun h0 => by
  obtain ⟨g, off, e, hg, _, hc⟩ := h h0
  refine ⟨g, off, e, hg, fun k hk => ?_⟩
  obtain ⟨ak, ck, h1, h2, _⟩ := hc k hk
  exact ⟨ak, ck, h1, h2⟩
theorem LLFar.lower {w : World} {base b : Nat} {a : Option Addr} {LL : List (List Int)} (h : LLFar w base a LL) (hb : b ≤ base) : LLFar w b a LL := fun h0 => by
  obtain ⟨g, off, e, hg, hbg, hc⟩ := h h0
  refine ⟨g, off, e, hg, by omega, fun k hk => ?_⟩
  obtain ⟨ak, ck, h1, h2, h3, h4⟩ := hc k hk
  exact ⟨ak, ck, h1, h2, fun q o e h0 => by { have := h3 q o e h0; omega }, h4⟩
theorem LLFar.kept {S : Nat → Prop} {w w' : World} {base : Nat} {a : Option Addr} {LL : List (List Int)} (h : LLFar w base a LL) (hk : KeptBut S w w') (hs : ∀ q, base ≤ q → ¬ S q) : LLFar w' base a LL := fun h0 => by
  obtain ⟨g, off, e, hg, hbg, hc⟩ := h h0
  refine ⟨g, off, e, Nat.lt_of_lt_of_le hg hk.size, hbg, fun k hk' => ?_⟩
  obtain ⟨ak, ck, h1, h2, h3, h4⟩ := hc k hk'
  exact ⟨ak, ck, (hk.cell (p := ⟨g, off + k, none⟩) hg (hs g hbg)).trans h1, h2.kept hk (fun q o e h0 => hs q (h3 q o e h0)), h3, h4⟩
theorem LLFar.below {w w' : World} {base : Nat} {a : Option Addr} {LL : List (List Int)} (h : LLFar w base a LL) (hb : Below w.heap.size w w') : LLFar w' base a LL := h.kept (KeptBut.of_whole (fun _ => False) hb) (fun _ _ e => e)
/-- Rows of the call's own, sorted as the program does. -/
theorem sort3_any {w : World} {base : Nat} {A : Nat → Prop} {v : Value} {us : List Value} {LL : List (List Int)} (h : LLOwn w base A v us LL) (hA : ∀ q, A q → base ≤ q) (hcu : ∀ u ∈ us, CapU u) (hN : LL.length ≤ 1000) (hL : ∀ L ∈ LL, 2 ≤ L.length ∧ L.length ≤ 1000000) :
    ∃ a cap, v = .slice a LL.length cap ∧ Calls Try.prog 79 #[.slice a LL.length cap, .func (.func 80) #[] #[]] w fun e w' => e = .returned (.tuple #[]) ∧ ∃ LL', LL'.Perm LL ∧ LL'.Pairwise (fun A B => lt3 (keyL B) (keyL A) = false) ∧ LLFar w' base a LL' ∧ ∀ b0 w0, Below b0 w0 w → b0 ≤ base → b0 ≤ w.heap.size → Below b0 w0 w' := by
  obtain ⟨a, cap, hv, hsl⟩ := sl_own h.1
  refine ⟨a, cap, hv, ?_⟩
  by_cases h0 : LL.length = 0
  · have hnil : LL = [] := List.length_eq_zero_iff.1 h0
    subst hnil
    have := AnyF.slices_SortFunc_none (P := Try.prog) { Try.sortR with } a cap (.func (.func 80) #[] #[]) w
    refine Calls.mono this ?_
    rintro e w' ⟨rfl, rfl⟩
    exact ⟨rfl, [], List.Perm.refl _, List.Pairwise.nil, (fun h => absurd h (by simp)), fun _ _ hb _ _ => hb⟩
  obtain ⟨blk, cap', hv', hbase, hlt, hcap, hcs⟩ := own_row h.1 (by omega)
  rw [hv] at hv'
  simp only [Value.slice.injEq, true_and] at hv'
  obtain ⟨rfl, rfl⟩ := hv'
  obtain ⟨N, hNe⟩ := ex_eq LL.length
  rw [← hNe] at hN hcap ⊢
  -- the rows and their headers
  obtain ⟨rows, hrows⟩ := ex_eq (fun k : Nat => LL[k]?.getD (LL[0]'(by omega)))
  have hul := h.2.1
  obtain ⟨V, hV⟩ := ex_eq (fun k : Nat => (us[k]?).getD (us[0]'(by omega)))
  have hcell : ∀ j, j < N → w.cell? ⟨blk, j, none⟩ = some (V j) ∧ w.frozen? ⟨blk, j, none⟩ = false := fun j hj => by
    have hj' : j < us.length := by omega
    have e : us[j]? = some (V j) := by rw [hV]; simp [hj']
    refine ⟨hcs j _ e, ?_⟩
    rcases h.1.2 with ⟨hv2, _⟩ | ⟨g, cp, cur, hv2, _, hgb, _⟩
    · rw [hv] at hv2; simp at hv2
    · rw [hv] at hv2
      simp only [Value.slice.injEq, Option.some.injEq, Addr.mk.injEq, and_true] at hv2
      obtain ⟨rfl, _⟩ := hv2
      exact frozen_of_heap hgb _
  have hrow : ∀ k, ∃ ak ck, V k = .slice ak (rows k).length ck ∧ IAt w ak (rows k) ∧ (∀ g off, ak = some ⟨g, off, none⟩ → 0 < (rows k).length → g ≠ blk ∧ base ≤ g) ∧ (2 ≤ (rows k).length ∧ (rows k).length ≤ 1000000) ∧ (rows k).length ≤ ck := fun k => by
    obtain ⟨k', hk', hrk, hVk⟩ : ∃ k', ∃ hk' : k' < LL.length, rows k = LL[k'] ∧ V k = us[k']?.getD (.slice none 0 0) := by
      by_cases hk : k < LL.length
      · exact ⟨k, hk, by rw [hrows]; simp [hk], by rw [hV]; simp [show k < us.length by omega]⟩
      · exact ⟨0, by omega, by rw [hrows]; simp [hk], by rw [hV]; simp [show us.length ≤ k by omega, show 0 < us.length by omega]⟩
    obtain ⟨ak, ck, e1, e2, e3⟩ := h.2.2.2 k' hk'
    have ev : V k = .slice ak LL[k'].length ck := by rw [hVk, e1]; rfl
    rw [hrk]
    refine ⟨ak, ck, ev, e2, fun g off e h0 => ?_, hL _ (List.getElem_mem hk'), hcu _ (List.mem_of_getElem? e1) _ _ _ rfl⟩
    have := (e3 g off e h0).2
    rw [hv] at this
    exact ⟨fun e => this (by rw [e]; rfl), hA g (e3 g off e h0).1⟩
  have hsz : (Array.range N).size = N := by simp
  have eg : ∀ args w, (callFunc 80 args).run Try.prog w = .ok (.enter 80 args) w := enters_of Try.func80 (by kernel_rfl) rfl
  have hone : OneCell V := fun x => by obtain ⟨ak, ck, e, _⟩ := hrow x; rw [e]; rfl
  have hH : Holds V w blk 0 (Array.range N) := fun j hj => by
    have hj' : j < N := by simpa using hj
    have e : (Array.range N)[j]! = j := by rw [getElem!_pos (Array.range N) j hj]; simp
    rw [Nat.zero_add, e]
    exact hcell j hj'
  have hcmp : CmpLays1 Try.prog 80 #[] V (fun x y => cmp3 (keyL (rows x)) (keyL (rows y))) blk 0 (Array.range N).size w := fun m os dk _ x y => by
    obtain ⟨ax, cx, ex, ix, nx, lx, _⟩ := hrow x
    obtain ⟨ay, cy, ey, iy, ny, ly, _⟩ := hrow y
    rw [ex, ey]
    have hk := KeptBut.of_grown (grown_sortW (w := w) (enc := V) (g := blk) (n := m) (os := os) dk)
    exact rcmp_any ax ay cx cy (rows x) (rows y) _ (ix.kept hk (fun g off e h0 e2 => (nx g off e h0).1 (Option.some.inj e2))) (iy.kept hk (fun g off e h0 e2 => (ny g off e h0).1 (Option.some.inj e2))) lx ly
  have hcon := Any.slices_SortFunc Try.sortR V hone (fun x y => cmp3 (keyL (rows x)) (keyL (rows y))) (swo3 rows) 80 #[] blk 0 cap (Array.range N) w eg hcmp hH hlt (by rw [hsz]; omega)
  change Calls Try.prog 79 _ _ _ at hcon
  rw [hsz] at hcon
  refine hcon.mono ?_
  rintro e w' ⟨rfl, d', q, os, hp, hs, rfl⟩
  have hd' : d'.size = N := by rw [hp.1, hsz]
  have hperm : d'.toList.Perm (List.range N) := by
    have hperm := hp.2.2
    have e1 : (d'.extract 0 N).toList = d'.toList := by rw [show N = d'.size from hd'.symm]; simp
    have e2 : ((Array.range N).extract 0 N).toList = List.range N := by
      rw [Array.toList_extract]
      simp [List.take_of_length_le]
    rw [e1, e2] at hperm
    exact hperm
  have hmap : (List.range N).map rows = LL := by
    apply List.ext_getElem
    · simp [hNe]
    · intro i h1 h2
      simp [hrows]
      rw [List.getElem?_eq_getElem h2]; rfl
  have hpl : (d'.toList.map rows).Perm LL := by rw [← hmap]; exact hperm.map rows
  refine ⟨rfl, d'.toList.map rows, hpl, ?_, ?_, fun b0 w0 hb h1 h2 => Below.grown hb (grown_sortW d') h2 (fun k hk => by cases hk; omega)⟩
  · rw [List.pairwise_iff_getElem]
    intro i j hi hj hij
    have hi' : i < d'.size := by simpa using hi
    have hj' : j < d'.size := by simpa using hj
    have hh := hs i j (Nat.zero_le _) hij (by omega)
    rw [getElem!_pos d' i hi', getElem!_pos d' j hj'] at hh
    simp only [List.getElem_map, Array.getElem_toList]
    cases h5 : lt3 (keyL (rows d'[j])) (keyL (rows d'[i])) with
    | false => rfl
    | true =>
      have h6 : ltOf (fun x y => cmp3 (keyL (rows x)) (keyL (rows y))) d'[j] d'[i] = true := by
        unfold ltOf
        exact decide_eq_true ((cmp3_lt _ _).2 h5)
      rw [h6] at hh; cases hh
  · intro h00
    have hk := KeptBut.of_grown (grown_sortW (w := w) (enc := V) (g := blk) (n := q) (os := os) d')
    refine ⟨blk, 0, rfl, Nat.lt_of_lt_of_le hlt hk.size, hbase, fun k hk2 => ?_⟩
    have hk' : k < d'.size := by simpa using hk2
    have hw : Holds V (sortWorld V w blk 0 q d' os) blk 0 d' := SW.holds (⟨q, os, rfl⟩ : SW V w blk 0 d' (sortWorld V w blk 0 q d' os)) hlt hH (by rw [hd', hsz])
    have hc := (hw k hk').1
    rw [getElem!_pos d' k hk'] at hc
    obtain ⟨ak, ck, e1, e2, e3, _, e5⟩ := hrow d'[k]
    have er : (d'.toList.map rows)[k] = rows d'[k] := by simp
    rw [er]
    exact ⟨ak, ck, by rw [hc, e1], e2.kept hk (fun g off e h0 e4 => (e3 g off e h0).1 (Option.some.inj e4)), fun q o e h0 => (e3 q o e h0).2, e5⟩
end Go.Proofs.Ytckcbaegehfkoaa
