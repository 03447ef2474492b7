/-
  The law SubTriangle over any calls that keep their contracts.
-/
import Derived.Test.YtagigeieoijciaaB11
import Derived.Test.YtagigeieoijciaaB13
import Derived.Test.YtagigeieoijciaaB05
import Derived.Test.YtagigeieoijciaaB06
import Derived.Test.YtagigeieoijciaaB08
import Derived.Test.YtagigeieoijciaaB12
namespace Go.Proofs.Ytagigeieoijciaa
open Go.RowKit Go.Lib

theorem gc_newT {w : World} {n : Int} {a : Option Addr} {K cap : Nat} {es : List (Int × Int)} (h : EAt w a es) : GC (w.alloc (.cells #[.int .i64 n, .slice a K cap] 27)) w.heap.size n a K cap es :=
  ⟨cell_of_heap (heap_alloc_new w _) 0, cell_of_heap (heap_alloc_new w _) 1, h.below (below_one _ _)⟩
theorem one_putT {w : World} {b : Nat} {x y v : Value} {T : TypeId} (h : w.heap[b]? = some (.cells #[x, y] T (0, 0))) : (w.setCell ⟨b, 0, none⟩ v).heap[b]? = some (.cells #[v, y] T (0, 0)) := by
  rw [heap_setCell_same w b 0 _ _ v h]; rfl
theorem two_putT {w : World} {b : Nat} {x y u v : Value} {T : TypeId} (h : w.heap[b]? = some (.cells #[x, y] T (0, 0))) : ((w.setCell ⟨b, 0, none⟩ u).setCell ⟨b, 1, none⟩ v).heap[b]? = some (.cells #[u, v] T (0, 0)) := box_put (one_putT h)
abbrev sixL (a b c : Nat) : List Value := [.int .i64 (a : Int), .int .i64 (b : Int), .int .i64 (a : Int), .int .i64 (c : Int), .int .i64 (b : Int), .int .i64 (c : Int)]
abbrev sixE (a b c : Nat) : Obj := Obj.cells #[.int .i64 (a : Int), .int .i64 (b : Int), .int .i64 (a : Int), .int .i64 (c : Int), .int .i64 (b : Int), .int .i64 (c : Int)] 40 (0, 0)
abbrev zeroG : Obj := Obj.cells #[.int .i64 0, .slice none 0 0] 27 (0, 0)
theorem keepT {w w' : World} {b : Nat} {o : Obj} (h : w.heap[b]? = some o) (hb : Below w.heap.size w w') : w'.heap[b]? = some o := (hb.block _ (Array.getElem?_eq_some_iff.1 h).1).trans h
theorem news_blkT {w : World} {b : Nat} {xs : List Value} {T : TypeId} {fr : Nat × Nat} (h : w.heap[b]? = some (.cells xs.toArray T fr)) : ∀ p, some (⟨b, 0, none⟩ : Addr) = some p → ∀ j u, xs[j]? = some u → w.cell? (p.add j) = some u := fun p hp j u hj => by
  cases hp
  rw [add_at, Nat.zero_add, cell_of_heap h]
  simpa using hj
theorem three_in {m a b c : Nat} {ys : List (Int × Int)} (hR : RightG m ys) (hab : a < b) (hbc : b < c) (hc : c < m) : AllIn m (ys ++ [((a : Int), (b : Int)), ((a : Int), (c : Int)), ((b : Int), (c : Int))]) := fun e he => by
  rcases List.mem_append.1 he with he | he
  · have := hR.2.2.2.1 e he; omega
  · simp at he; rcases he with rfl | rfl | rfl <;> simp only <;> omega
theorem cellsE_three (ys : List (Int × Int)) (a b c : Nat) : cellsE (ys ++ [((a : Int), (b : Int)), ((a : Int), (c : Int)), ((b : Int), (c : Int))]) = cellsE ys ++ [.int .i64 (a : Int), .int .i64 (b : Int), .int .i64 (a : Int), .int .i64 (c : Int), .int .i64 (b : Int), .int .i64 (c : Int)] := by
  rw [show ys ++ [((a : Int), (b : Int)), ((a : Int), (c : Int)), ((b : Int), (c : Int))] = ((ys ++ [((a : Int), (b : Int))]) ++ [((a : Int), (c : Int))]) ++ [((b : Int), (c : Int))] by simp, cellsE_append, cellsE_append, cellsE_append]
  simp [cellsE]
/-- Two neighbours made one. -/
theorem con_okT {M M1 x y lo hi : Nat} {es : List (Int × Int)} {er N : Int} {E : List (Int × Int)} (h : ConS M es x y er N E) (hR : RightG M es) (hadj : Adj es lo hi) (hlt : lo < hi) (hx : (x = lo ∧ y = hi) ∨ (x = hi ∧ y = lo)) (hM : M = M1 + 1) : er = 0 ∧ N = M1 ∧ ConE M es lo hi E := by
  have hin := hadj.in hR
  rcases h with ⟨h1, _⟩ | ⟨_, h2, _⟩ | ⟨_, _, h3, _⟩ | ⟨_, _, _, h1, h2, h3⟩
  · exact absurd hR h1
  · exact absurd ⟨by omega, by omega⟩ h2
  · rcases hx with ⟨rfl, rfl⟩ | ⟨rfl, rfl⟩
    · exact absurd hadj h3
    · exact absurd hadj.symm h3
  · have e1 : (min (x : Int) (y : Int)).toNat = lo := by omega
    have e2 : (max (x : Int) (y : Int)).toNat = hi := by omega
    rw [e1, e2] at h3
    exact ⟨h1, by omega, by simpa using h3⟩
theorem adj_first {m a b c : Nat} {es E1 : List (Int × Int)} (hR : RightG m es) (hab : a < b) (hbc : b < c) (hc : c < m) (kac : Adj es a c) (h1 : ConE m es a b E1) : Adj E1 a ((c - 1 : Nat) : Int) := by
  refine (con_img hR hab (by omega) h1).adj.2 ⟨by omega, a, c, kac, ?_, ?_⟩
  all_goals
    unfold fC
    repeat' split
    all_goals omega
theorem adj_second {m a b c : Nat} {es D1 : List (Int × Int)} (hR : RightG m es) (hab : a < b) (hbc : b < c) (hc : c < m) (kab : Adj es a b) (h3 : ConE m es a c D1) : Adj D1 a b := by
  refine (con_img hR (by omega) hc h3).adj.2 ⟨by omega, a, b, kab, ?_, ?_⟩
  all_goals
    unfold fC
    repeat' split
    all_goals omega
theorem adj_third {m a b c : Nat} {es M1 : List (Int × Int)} (hR : RightG m es) (hab : a < b) (hbc : b < c) (hc : c < m) (kab : Adj es a b) (h5 : ConE m es b c M1) : Adj M1 a b := by
  refine (con_img hR hbc hc h5).adj.2 ⟨by omega, a, b, kab, ?_, ?_⟩
  all_goals
    unfold fC
    repeat' split
    all_goals omega
theorem con_lenT {m lo hi : Nat} {es E : List (Int × Int)} (hlt : lo < hi) (h : ConE m es lo hi E) : E.length ≤ es.length := by
  have hsub := len_le_of_sub (a := E) (b := es.map (fun e => (min (fC hi lo e.1) (fC hi lo e.2), max (fC hi lo e.1) (fC hi lo e.2)))) (rises_nodup h.1) (fun e he => by
    obtain ⟨x, y⟩ := e
    obtain ⟨i, j, rfl, rfl, hij, hj, hm⟩ := (h.2 x y).1 he
    have key : ∃ p q : Int, Adj es p q ∧ fC hi lo p = i ∧ fC hi lo q = j := by
      rcases hm with hm | ⟨e1, _, hm⟩ | ⟨e1, _, hm⟩
      · exact ⟨_, _, hm, fC_up, fC_up⟩
      · refine ⟨hi, _, hm, ?_, fC_up⟩
        have := fC_up (hi := hi) (i := i) (lo := (lo : Int))
        rw [e1, fC_lo hlt] at this
        rw [fC_out]; exact this
      · refine ⟨_, hi, hm.symm, fC_up, ?_⟩
        have := fC_up (hi := hi) (i := j) (lo := (lo : Int))
        rw [e1, fC_lo hlt] at this
        rw [fC_out]; exact this
    obtain ⟨p, q, hadj, e1, e2⟩ := key
    rw [List.mem_map]
    rcases hadj with hz | hz
    · refine ⟨(p, q), hz, ?_⟩
      show (min (fC hi lo p) (fC hi lo q), max (fC hi lo p) (fC hi lo q)) = _
      rw [e1, e2, Int.min_eq_left (by omega), Int.max_eq_right (by omega)]
    · refine ⟨(q, p), hz, ?_⟩
      show (min (fC hi lo q) (fC hi lo p), max (fC hi lo q) (fC hi lo p)) = _
      rw [e1, e2, Int.min_eq_right (by omega), Int.max_eq_left (by omega)])
  simpa using hsub
theorem con_cap {m lo hi : Nat} {es E : List (Int × Int)} (hR : RightG m es) (hlt : lo < hi) (hh : hi < m) (hadj : Adj es lo hi) (h : ConE m es lo hi E) : E.length ≤ 1000000 := by
  have := (con_right hR hlt hh hadj h).2.2.1
  omega
theorem next_neT {m p t : Nat} (hm : 2 ≤ m) (hp : p < m) (ht : t < m - 1) : ∃ q : Nat, (((p : Int) + 1 + (t : Int)).tmod (m : Int)) = (q : Int) ∧ q < m ∧ p ≠ q := by
  refine ⟨(p + 1 + t) % m, ?_, Nat.mod_lt _ (by omega), ?_⟩
  · have e : (p : Int) + 1 + t = ((p + 1 + t : Nat) : Int) := by omega
    rw [Int.tmod_eq_emod_of_nonneg (by omega), e]
    exact (Int.natCast_emod (p + 1 + t) m).symm
  · intro h
    by_cases e : p + 1 + t < m
    · rw [Nat.mod_eq_of_lt e] at h; omega
    · rw [Nat.mod_eq_sub_mod (by omega), Nat.mod_eq_of_lt (by omega)] at h; omega

set_option maxHeartbeats 4000000 in
set_option maxRecDepth 100000 in
theorem subTriangle_law (O : SubOps) (n : Int) (a : Option Addr) (len cap : Nat) (l : List (Int × Int)) (k0 k1 k2 : Int) (w : World) (hl : len = l.length) (hE : EAt w a l) :
    Calls Try.prog 9 #[.agg #[.int .i64 n, .slice a len cap], .agg #[.int .i64 k0, .int .i64 k1, .int .i64 k2]] w fun e w' => e = .returned (.bool true) ∧ Below w.heap.size w w' := by
  have HO := hid O
  obtain ⟨W0, hW0⟩ := ex_eq ((w.alloc (.cells #[.int .i64 n, .slice a len cap] 24)).alloc (.cells #[.int .i64 k0, .int .i64 k1, .int .i64 k2] 43))
  have hB0 : Below w.heap.size w W0 := by rw [hW0]; exact ((Below.refl _ _).alloc (Nat.le_refl _) _).alloc (by simp) _
  have hs0 : W0.heap.size = w.heap.size + 1 + 1 := by rw [hW0]; simp
  have HP0 : Hid (W0.heap[w.heap.size + 1]? = some (.cells #[.int .i64 k0, .int .i64 k1, .int .i64 k2] 43)) := by
    show _ = _
    rw [hW0]
    have h := heap_alloc_new (w.alloc (.cells #[.int .i64 n, .slice a len cap] 24)) (.cells #[.int .i64 k0, .int .i64 k1, .int .i64 k2] 43)
    simpa using h
  have HO0 : Hid (W0.heap[w.heap.size]? = some (.cells #[.int .i64 n, .slice a len cap] 24)) := by
    show _ = _
    rw [hW0, alloc_at (by simp)]; exact heap_alloc_new _ _
  have HEX : Hid (∀ X, Below w.heap.size w X → EAt X a l) := fun X h => hE.below h
  have HL := hid hl
  have HW0 := hid hW0
  have HB0 := hid hB0
  clear O hl hE hW0 hB0
  go_enter Try.func9, Try.ntmps9
  go_wp2_with fail
  rw [← HW0.out]
  refine (sshown_any HO.out _).mono ?_
  rintro e w1 ⟨rfl, hb1⟩
  have hbw1 : Below w.heap.size w w1 := HB0.out.trans (hb1.mono (by omega))
  have o1 := (hb1.block w.heap.size (by omega)).trans HO0.out
  have HP1 := hid ((hb1.block (w.heap.size + 1) (by omega)).trans HP0.out)
  have hs1 := hb1.size
  have x0 := cell_of_heap o1 0
  have x1 := cell_of_heap o1 1
  have CA := hid (net_any n a len cap l 30 w1 (by omega) HL.out (HEX.out w1 hbw1))
  have HB1 := hid hbw1
  clear hb1 hbw1 o1 HO0 HB0 HW0 HEX HL
  go_wp2_with fail
  refine CA.out.mono ?_
  rintro e w2 ⟨m, ys, a2, c2, rfl, hm30, hR, hys, hsl, hE2, hb2⟩
  obtain ⟨K, hK⟩ := ex_eq ys.length
  rw [← hK]
  have HK := hid hK
  obtain ⟨V2, hV2⟩ := ex_eq (w2.alloc (.cells #[.int .i64 m, .slice a2 K c2] 27))
  have HGg : Hid (GC V2 w2.heap.size m a2 K c2 ys) := by
    show GC V2 _ _ _ _ _ _
    rw [hV2]; exact gc_newT hE2
  have HB : Hid (Below w.heap.size w V2) := by
    have h1 : Below w2.heap.size w2 V2 := by rw [hV2]; exact below_one _ _
    have h2 : Below w.heap.size w w2 := HB1.out.trans (hb2.mono HB1.out.size)
    exact h2.trans (h1.mono h2.size)
  have HP2 : Hid (V2.heap[w.heap.size + 1]? = some (.cells #[.int .i64 k0, .int .i64 k1, .int .i64 k2] 43)) := by
    have h1 : Below w2.heap.size w2 V2 := by rw [hV2]; exact below_one _ _
    have h2 := hb2.size
    exact ((hb2.trans (h1.mono h2)).block _ (by omega)).trans HP1.out
  have HV2 := hid hV2
  have HR := hid hR
  have HSL := hid hsl
  have hK3 : K ≤ 300 := by omega
  have HYS : Hid (ys.length ≤ 300) := hys
  clear hK hV2 hE2 hb2 hR hys hsl CA x0 x1 HB1 HP1 HP0 hs1 hs0
  go_upto_region 3 with fail
  rw [← HV2.out]
  clear HV2
  obtain ⟨g0, g1⟩ := HGg.out.cells
  by_cases hm2 : m < 3
  · have hm3 : (m : Int) < 3 := by omega
    go_wp2
    go_ret
    exact ⟨rfl, HB.out⟩
  have hm3 : ¬ (m : Int) < 3 := by omega
  have hm4 : ¬ m = 0 := by omega
  have hm5 : ¬ (m : Int) = 0 := by omega
  obtain ⟨p, hp, hpm⟩ := rnd_of k0 (m := m) (by omega)
  obtain ⟨m1, hm1⟩ : ∃ m1 : Nat, m = m1 + 1 := ⟨m - 1, by omega⟩
  obtain ⟨t, ht, htm⟩ := rnd_of k1 (m := m1) (by omega)
  obtain ⟨q, hq, hqm, hqp⟩ := next_neT (m := m) (by omega) hpm (show t < m - 1 by omega)
  obtain ⟨r, hr, hrm⟩ := rnd_of k2 (m := m) (by omega)
  have hm6 : (m : Int) - 1 = (m1 : Int) := by omega
  have hm7 : ¬ (m1 : Int) = 0 := by omega
  have hm8 : ¬ m1 = 0 := by omega
  have r1 : IntKind.i64.wrap (m1 : Int) = (m1 : Int) := by rw [IntKind.wrap_i64]; omega
  have r2 : IntKind.i64.wrap ((p : Int) + 1) = (p : Int) + 1 := by rw [IntKind.wrap_i64]; omega
  have r3 : IntKind.i64.wrap ((p : Int) + 1 + (t : Int)) = (p : Int) + 1 + (t : Int) := by rw [IntKind.wrap_i64]; omega
  have HM1 := hid hm1
  have HPQ : Hid (p ≠ q) := hqp
  clear hm1 hqp
  have p0 := cell_of_heap HP2.out 0
  have p1 := cell_of_heap HP2.out 1
  have p2 := cell_of_heap HP2.out 2
  obtain ⟨V3, hV3⟩ := ex_eq (V2.alloc (.cells #[.int .i64 p, .int .i64 0, .int .i64 0] 3))
  have hb3 : Below V2.heap.size V2 V3 := by rw [hV3]; exact below_one _ _
  have HO3 : Hid (V3.heap[V2.heap.size]? = some (.cells #[.int .i64 p, .int .i64 0, .int .i64 0] 3 (0, 0))) := by
    show _ = _
    rw [hV3]; exact heap_alloc_new _ _
  have HX3 : Hid (∀ X, Below V2.heap.size V2 X → GC X w2.heap.size m a2 K c2 ys ∧ X.heap[w.heap.size + 1]? = some (.cells #[.int .i64 k0, .int .i64 k1, .int .i64 k2] 43) ∧ Below w.heap.size w X) := fun X hX => ⟨HGg.out.on hX, (hX.block _ (Array.getElem?_eq_some_iff.1 HP2.out).1).trans HP2.out, HB.out.trans (hX.mono HB.out.size)⟩
  have HV3 := hid hV3
  have HB3 := hid hb3
  clear hV3 hb3
  go_upto_region 6 with fail
  rw [← HV3.out]
  clear HV3 g0 g1 p0 p1 p2
  obtain ⟨Y, hY⟩ := ex_eq V3.drew
  have HBY : Hid (Below V2.heap.size V2 Y) := by show Below _ _ _; rw [hY]; exact HB3.out.drew
  have HOY : Hid (Y.heap[V2.heap.size]? = some (.cells #[.int .i64 p, .int .i64 0, .int .i64 0] 3 (0, 0))) := by show _ = _; rw [hY]; exact HO3.out
  have h3 := HX3.out Y HBY.out
  have HS6 : Hid (Y.cell? ⟨w2.heap.size, 0, none⟩ = some (.int .i64 m) ∧ Y.cell? ⟨w.heap.size + 1, 1, none⟩ = some (.int .i64 k1) ∧ Y.cell? ⟨V2.heap.size, 0, none⟩ = some (.int .i64 p)) := ⟨h3.1.n0, cell_of_heap h3.2.1 1, cell_of_heap HOY.out 0⟩
  have HW2 : w2.heap.size < V2.heap.size := (block_lt_of_cell HGg.out.n0)
  have HWE : w.heap.size + 1 < V2.heap.size := (Array.getElem?_eq_some_iff.1 HP2.out).1
  have z1 := cell_of_heap HOY.out 1
  have zf1 := frozen_of_heap HOY.out 1
  have HY := hid hY
  clear hY h3
  refine wp_region_held_drew (S := (fun X => X.cell? ⟨w2.heap.size, 0, none⟩ = some (.int .i64 m) ∧ X.cell? ⟨w.heap.size + 1, 1, none⟩ = some (.int .i64 k1) ∧ X.cell? ⟨V2.heap.size, 0, none⟩ = some (.int .i64 p))) (by kernel_rfl) (by rw [← HY.out]; exact HS6.out) (fun hHeld => ?_)
  rw [← HY.out] at hHeld ⊢
  (refine takeW (i := 0) (dst := some 36) (v := ?_) rfl rfl (by kernel_rfl) (by kernel_rfl) (by kernel_rfl) (fun _ _ _ h => h) (Or.inl ⟨by rfl, ?_⟩) hHeld ?_; rotate_left; focus (intro w hSw; (try dsimp only at hSw); go_simp; (try with_reducible rfl); done))
  try simp only [Act.put, List.setIfInBounds_toArray, List.set_cons_zero, List.set_cons_succ]
  (refine takeW (i := 1) (dst := some 37) (v := ?_) rfl rfl (by kernel_rfl) (by kernel_rfl) (by kernel_rfl) (fun _ _ _ h => h) (Or.inl ⟨by rfl, ?_⟩) hHeld ?_; rotate_left; focus (intro w hSw; (try dsimp only at hSw); go_simp; (try with_reducible rfl); done))
  try simp only [Act.put, List.setIfInBounds_toArray, List.set_cons_zero, List.set_cons_succ]
  (refine takeW (i := 2) (dst := some 38) (v := ?_) rfl rfl (by kernel_rfl) (by kernel_rfl) (by kernel_rfl) (fun _ _ _ h => h) (Or.inl ⟨by rfl, ?_⟩) hHeld ?_; rotate_left; focus (intro w hSw; (try dsimp only at hSw); go_simp; (try with_reducible rfl); done))
  try simp only [Act.put, List.setIfInBounds_toArray, List.set_cons_zero, List.set_cons_succ]
  (refine takeW (i := 3) (dst := some 39) (v := ?_) rfl rfl (by kernel_rfl) (by kernel_rfl) (by kernel_rfl) (fun _ _ _ h => h) (Or.inl ⟨by rfl, ?_⟩) hHeld ?_; rotate_left; focus (intro w hSw; (try dsimp only at hSw); go_simp; (try with_reducible rfl); done))
  try simp only [Act.put, List.setIfInBounds_toArray, List.set_cons_zero, List.set_cons_succ]
  (refine takeW (i := 4) (dst := some 40) (v := ?_) rfl rfl (by kernel_rfl) (by kernel_rfl) (by kernel_rfl) (fun _ _ _ h => h) (Or.inl ⟨by rfl, ?_⟩) hHeld ?_; rotate_left; focus (intro w hSw; (try dsimp only at hSw); go_simp; (try with_reducible rfl); done))
  try simp only [Act.put, List.setIfInBounds_toArray, List.set_cons_zero, List.set_cons_succ]
  (refine takeW (i := 5) (dst := some 41) (v := ?_) rfl rfl (by kernel_rfl) (by kernel_rfl) (by kernel_rfl) (fun _ _ _ h => h) (Or.inl ⟨by rfl, ?_⟩) hHeld ?_; rotate_left; focus (intro w hSw; (try dsimp only at hSw); go_simp; (try with_reducible rfl); done))
  try simp only [Act.put, List.setIfInBounds_toArray, List.set_cons_zero, List.set_cons_succ]
  (refine takeW (i := 6) (dst := some 42) (v := ?_) rfl rfl (by kernel_rfl) (by kernel_rfl) (by kernel_rfl) (fun _ _ _ h => h) (Or.inl ⟨by rfl, ?_⟩) hHeld ?_; rotate_left; focus (intro w hSw; (try dsimp only at hSw); go_simp; (try with_reducible rfl); done))
  try simp only [Act.put, List.setIfInBounds_toArray, List.set_cons_zero, List.set_cons_succ]
  (refine takeW (i := 7) (dst := some 43) (v := ?_) rfl rfl (by kernel_rfl) (by kernel_rfl) (by kernel_rfl) (fun _ _ _ h => h) (Or.inl ⟨by rfl, ?_⟩) hHeld ?_; rotate_left; focus (intro w hSw; (try dsimp only at hSw); go_simp; (try with_reducible rfl); done))
  try simp only [Act.put, List.setIfInBounds_toArray, List.set_cons_zero, List.set_cons_succ]
  (refine takeW (i := 8) (dst := some 44) (v := ?_) rfl rfl (by kernel_rfl) (by kernel_rfl) (by kernel_rfl) (fun _ _ _ h => h) (Or.inl ⟨by rfl, ?_⟩) hHeld ?_; rotate_left; focus (intro w hSw; (try dsimp only at hSw); go_simp; (try with_reducible rfl); done))
  try simp only [Act.put, List.setIfInBounds_toArray, List.set_cons_zero, List.set_cons_succ]
  (refine takeW (i := 9) (dst := some 45) (v := ?_) rfl rfl (by kernel_rfl) (by kernel_rfl) (by kernel_rfl) (fun _ _ _ h => h) (Or.inl ⟨by rfl, ?_⟩) hHeld ?_; rotate_left; focus (intro w hSw; (try dsimp only at hSw); go_simp; (try with_reducible rfl); done))
  try simp only [Act.put, List.setIfInBounds_toArray, List.set_cons_zero, List.set_cons_succ]
  (refine takeW (i := 10) (dst := some 46) (v := ?_) rfl rfl (by kernel_rfl) (by kernel_rfl) (by kernel_rfl) (fun _ _ _ h => h) (Or.inl ⟨by rfl, ?_⟩) hHeld ?_; rotate_left; focus (intro w hSw; (try dsimp only at hSw); go_simp; (try with_reducible rfl); done))
  try simp only [Act.put, List.setIfInBounds_toArray, List.set_cons_zero, List.set_cons_succ]
  (refine takeW (i := 11) (dst := some 47) (v := ?_) rfl rfl (by kernel_rfl) (by kernel_rfl) (by kernel_rfl) (fun _ _ _ h => h) (Or.inl ⟨by rfl, ?_⟩) hHeld ?_; rotate_left; focus (intro w hSw; (try dsimp only at hSw); go_simp; (try with_reducible rfl); done))
  try simp only [Act.put, List.setIfInBounds_toArray, List.set_cons_zero, List.set_cons_succ]
  (refine takeW (i := 12) (dst := some 48) (v := ?_) rfl rfl (by kernel_rfl) (by kernel_rfl) (by kernel_rfl) (fun _ _ _ h => h) (Or.inl ⟨by rfl, ?_⟩) hHeld ?_; rotate_left; focus (intro w hSw; (try dsimp only at hSw); go_simp; (try with_reducible rfl); done))
  try simp only [Act.put, List.setIfInBounds_toArray, List.set_cons_zero, List.set_cons_succ]
  (refine takeW (i := 13) (dst := some 49) (v := ?_) rfl rfl (by kernel_rfl) (by kernel_rfl) (by kernel_rfl) (fun _ _ _ h => h) (Or.inl ⟨by rfl, ?_⟩) hHeld ?_; rotate_left; focus (intro w hSw; (try dsimp only at hSw); go_simp; (try with_reducible rfl); done))
  try simp only [Act.put, List.setIfInBounds_toArray, List.set_cons_zero, List.set_cons_succ]
  (refine takeW (i := 14) (dst := some 50) (v := ?_) rfl rfl (by kernel_rfl) (by kernel_rfl) (by kernel_rfl) (fun _ _ _ h => h) (Or.inl ⟨by rfl, ?_⟩) hHeld ?_; rotate_left; focus (intro w hSw; (try dsimp only at hSw); go_simp; (try with_reducible rfl); done))
  try simp only [Act.put, List.setIfInBounds_toArray, List.set_cons_zero, List.set_cons_succ]
  (refine takeW (i := 15) (dst := some 51) (v := ?_) rfl rfl (by kernel_rfl) (by kernel_rfl) (by kernel_rfl) (fun _ _ _ h => h) (Or.inl ⟨by rfl, ?_⟩) hHeld ?_; rotate_left; focus (intro w hSw; (try dsimp only at hSw); go_simp; (try with_reducible rfl); done))
  try simp only [Act.put, List.setIfInBounds_toArray, List.set_cons_zero, List.set_cons_succ]
  (refine takeW (i := 16) (dst := some 52) (v := ?_) rfl rfl (by kernel_rfl) (by kernel_rfl) (by kernel_rfl) (fun _ _ _ h => h) (Or.inl ⟨by rfl, ?_⟩) hHeld ?_; rotate_left; focus (intro w hSw; (try dsimp only at hSw); go_simp; (try with_reducible rfl); done))
  try simp only [Act.put, List.setIfInBounds_toArray, List.set_cons_zero, List.set_cons_succ]
  refine wpAnyH_ready (rs := [17]) (by kernel_rfl) (by simp) ?_
  refine AllReadyH.cons (o := _) rfl (fun KK hK => ?_) AllReadyH.nil
  go_simp
  refine hK.out _ _ (by
    refine ⟨?_, ?_, ?_⟩
    · rw [World.cell?_setCell_other _ _ _ _ (by simp <;> omega)]; exact HS6.out.1
    · rw [World.cell?_setCell_other _ _ _ _ (by simp <;> omega)]; exact HS6.out.2.1
    · rw [World.cell?_setCell_other _ _ _ _ (by simp)]; exact HS6.out.2.2) (fun hHeld => ?_)
  clear hK KK
  try simp only [Act.put, List.setIfInBounds_toArray, List.set_cons_succ]
  try simp only [List.set_cons_zero]
  refine wpAnyH_done (by kernel_rfl) ?_ _
  skip
  obtain ⟨V6, hV6⟩ := ex_eq (Y.setCell ⟨V2.heap.size, 1, none⟩ (.int .i64 q))
  rw [← hV6]
  have HB6 : Hid (Below V2.heap.size V2 V6) := by show Below _ _ _; rw [hV6]; exact HBY.out.setCell (p := ⟨V2.heap.size, 1, none⟩) (Nat.le_refl _) _
  have HO6 : Hid (V6.heap[V2.heap.size]? = some (.cells #[.int .i64 p, .int .i64 q, .int .i64 0] 3 (0, 0))) := by
    show _ = _
    rw [hV6, heap_setCell_same _ _ 1 _ _ _ HOY.out]; rfl
  clear hHeld hV6 HS6 z1 zf1 HBY HOY HO3 HB3 HY
  have h6 := HX3.out V6 HB6.out
  obtain ⟨g0, g1⟩ := h6.1.cells
  have p2 := cell_of_heap h6.2.1 2
  have y2 := cell_of_heap HO6.out 2
  have yf2 := frozen_of_heap HO6.out 2
  have HO7 : Hid ((V6.setCell ⟨V2.heap.size, 2, none⟩ (.int .i64 r)).heap[V2.heap.size]? = some (.cells #[.int .i64 p, .int .i64 q, .int .i64 r] 3 (0, 0))) := by
    show _ = _
    rw [heap_setCell_same _ _ 2 _ _ _ HO6.out]; rfl
  have HB7 : Hid (Below V2.heap.size V2 (V6.setCell ⟨V2.heap.size, 2, none⟩ (.int .i64 r))) := HB6.out.setCell (p := ⟨V2.heap.size, 2, none⟩) (Nat.le_refl _) _
  clear h6
  go_wp2
  clear g0 g1 p2 y2 yf2 HB6 HO6
  go_loopg [] 3 (fun Gh wz => ∃ k z : Nat, k ≤ 2 ∧ 3 - k ≤ Gh ∧ z < m ∧ Hid ((k = 0 ∧ z = r) ∨ (k = 1 ∧ z = (r + 1) % m ∧ (r = p ∨ r = q)) ∨ (k = 2 ∧ z = ((r + 1) % m + 1) % m ∧ (r = p ∨ r = q) ∧ ((r + 1) % m = p ∨ (r + 1) % m = q))) ∧ Hid (wz.heap[V2.heap.size]? = some (.cells #[.int .i64 p, .int .i64 q, .int .i64 z] 3 (0, 0))) ∧ Hid (Below V2.heap.size V2 wz))
  case atStart => exact ⟨0, r, by omega, by omega, hrm, Or.inl ⟨rfl, rfl⟩, HO7, HB7⟩
  case round =>
    obtain ⟨k, z, hk, hGh, hzm, hst, ho, hb⟩ := hrel
    obtain ⟨hg, _, hbw⟩ := HX3.out wr hb.out
    obtain ⟨g0, g1⟩ := hg.cells
    have y0 := cell_of_heap ho.out 0
    have y1 := cell_of_heap ho.out 1
    have y2 := cell_of_heap ho.out 2
    by_cases hz : z = p ∨ z = q
    · have hlt : k < 2 := by
        rcases hst.out with ⟨e, _⟩ | ⟨e, _⟩ | ⟨e, e1, e2, e3⟩
        · omega
        · omega
        · have h := round_three (m := m) (r := r) (by omega) hrm
          have h2 := HPQ.out
          omega
      have HST : Hid ((k + 1 = 0 ∧ (z + 1) % m = r) ∨ (k + 1 = 1 ∧ (z + 1) % m = (r + 1) % m ∧ (r = p ∨ r = q)) ∨ (k + 1 = 2 ∧ (z + 1) % m = ((r + 1) % m + 1) % m ∧ (r = p ∨ r = q) ∧ ((r + 1) % m = p ∨ (r + 1) % m = q))) := by
        rcases hst.out with ⟨e, e1⟩ | ⟨e, e1, e2⟩ | ⟨e, _⟩
        · subst e1; exact Or.inr (Or.inl ⟨by omega, rfl, hz⟩)
        · refine Or.inr (Or.inr ⟨by omega, by rw [e1], e2, by rw [← e1]; exact hz⟩)
        · omega
      have hz1 : (z + 1) % m < m := Nat.mod_lt _ (by omega)
      obtain ⟨z2, hz2⟩ := ex_eq ((z + 1) % m)
      have hzz : ((z : Int) + 1).tmod (m : Int) = (z2 : Int) := by
        have e : (z : Int) + 1 = ((z + 1 : Nat) : Int) := by omega
        rw [Int.tmod_eq_emod_of_nonneg (by omega), e, hz2]
        exact (Int.natCast_emod (z + 1) m).symm
      rw [← hz2] at HST hz1
      have r4 : IntKind.i64.wrap ((z : Int) + 1) = (z : Int) + 1 := by rw [IntKind.wrap_i64]; omega
      have yf2 := frozen_of_heap ho.out 2
      have HOH := hid ho.out
      have HBH := hid hb.out
      clear hst hg hbw ho hb hz2
      by_cases hzp : z = p
      · have b1 : ((z : Int) == (p : Int)) = true := beq_iff_eq.2 (by omega)
        clear hz hzp
        have HT : True := trivial
        go_upto_region 8 with fail
        go_quiet (fail)
        obtain ⟨V8, hV8⟩ := ex_eq (wr.drewN nq)
        rw [← hV8]
        have hb8 : Below wr.heap.size wr V8 := by rw [hV8]; exact below_drewN (Below.refl _ _) nq
        have HO8 : Hid (V8.heap[V2.heap.size]? = some (.cells #[.int .i64 p, .int .i64 q, .int .i64 z] 3 (0, 0))) := (hb8.block _ (Array.getElem?_eq_some_iff.1 HOH.out).1).trans HOH.out
        have HB8 : Hid (Below V2.heap.size V2 V8) := HBH.out.trans (hb8.mono HBH.out.size)
        obtain ⟨hg8, _, _⟩ := HX3.out V8 HB8.out
        have HON : Hid (∀ q', ((V8.drewN q').setCell ⟨V2.heap.size, 2, none⟩ (.int .i64 z2)).heap[V2.heap.size]? = some (.cells #[.int .i64 p, .int .i64 q, .int .i64 z2] 3 (0, 0))) := fun q' => by
          have h : (V8.drewN q').heap[V2.heap.size]? = some (.cells #[.int .i64 p, .int .i64 q, .int .i64 z] 3 (0, 0)) := ((below_drewN (Below.refl _ _) q').block _ (Array.getElem?_eq_some_iff.1 HO8.out).1).trans HO8.out
          rw [heap_setCell_same _ _ 2 _ _ _ h]; rfl
        have HBN : Hid (∀ q', Below V2.heap.size V2 ((V8.drewN q').setCell ⟨V2.heap.size, 2, none⟩ (.int .i64 z2))) := fun q' => (below_drewN HB8.out q').setCell (p := ⟨V2.heap.size, 2, none⟩) (Nat.le_refl _) _
        clear hV8 hb8 g0 g1 y0 y1 y2 yf2 HOH HBH
        obtain ⟨g0, g1⟩ := hg8.cells
        have y2 := cell_of_heap HO8.out 2
        have yf2 := frozen_of_heap HO8.out 2
        clear hg8 HO8 HB8
        go_upto_region 9 with fail
        go_region
        all_goals
          go_wp2
          go_roundg (3 - (k + 1))
          case measure => omega
          case rel => exact ⟨k + 1, z2, by omega, Nat.le_refl _, hz1, HST, HON.out 1, HBN.out 1⟩
      · have b1 : ((z : Int) == (p : Int)) = false := beq_eq_false_iff_ne.2 (by omega)
        have b2 : ((z : Int) == (q : Int)) = true := beq_iff_eq.2 (by omega)
        clear hz hzp
        have HT : True := trivial
        go_upto_region 8 with fail
        go_quiet (fail)
        obtain ⟨V8, hV8⟩ := ex_eq (wr.drewN nq)
        rw [← hV8]
        have hb8 : Below wr.heap.size wr V8 := by rw [hV8]; exact below_drewN (Below.refl _ _) nq
        have HO8 : Hid (V8.heap[V2.heap.size]? = some (.cells #[.int .i64 p, .int .i64 q, .int .i64 z] 3 (0, 0))) := (hb8.block _ (Array.getElem?_eq_some_iff.1 HOH.out).1).trans HOH.out
        have HB8 : Hid (Below V2.heap.size V2 V8) := HBH.out.trans (hb8.mono HBH.out.size)
        obtain ⟨hg8, _, _⟩ := HX3.out V8 HB8.out
        have HON : Hid (∀ q', ((V8.drewN q').setCell ⟨V2.heap.size, 2, none⟩ (.int .i64 z2)).heap[V2.heap.size]? = some (.cells #[.int .i64 p, .int .i64 q, .int .i64 z2] 3 (0, 0))) := fun q' => by
          have h : (V8.drewN q').heap[V2.heap.size]? = some (.cells #[.int .i64 p, .int .i64 q, .int .i64 z] 3 (0, 0)) := ((below_drewN (Below.refl _ _) q').block _ (Array.getElem?_eq_some_iff.1 HO8.out).1).trans HO8.out
          rw [heap_setCell_same _ _ 2 _ _ _ h]; rfl
        have HBN : Hid (∀ q', Below V2.heap.size V2 ((V8.drewN q').setCell ⟨V2.heap.size, 2, none⟩ (.int .i64 z2))) := fun q' => (below_drewN HB8.out q').setCell (p := ⟨V2.heap.size, 2, none⟩) (Nat.le_refl _) _
        clear hV8 hb8 g0 g1 y0 y1 y2 yf2 HOH HBH
        obtain ⟨g0, g1⟩ := hg8.cells
        have y2 := cell_of_heap HO8.out 2
        have yf2 := frozen_of_heap HO8.out 2
        clear hg8 HO8 HB8
        go_upto_region 9 with fail
        go_region
        all_goals
          go_wp2
          go_roundg (3 - (k + 1))
          case measure => omega
          case rel => exact ⟨k + 1, z2, by omega, Nat.le_refl _, hz1, HST, HON.out 1, HBN.out 1⟩
    · have c1 : z ≠ p := fun e => hz (Or.inl e)
      have c2 : z ≠ q := fun e => hz (Or.inr e)
      have b1 : ((z : Int) == (p : Int)) = false := beq_eq_false_iff_ne.2 (by omega)
      have b2 : ((z : Int) == (q : Int)) = false := beq_eq_false_iff_ne.2 (by omega)
      have HDIS : Hid (p ≠ q ∧ p ≠ z ∧ q ≠ z) := ⟨HPQ.out, fun e => c1 e.symm, fun e => c2 e.symm⟩
      clear hst hz c1 c2 HPQ
      go_upto_region 8 with fail
      go_quiet (fail)
      obtain ⟨V8, hV8⟩ := ex_eq (wr.drewN nq)
      rw [← hV8]
      have hb8 : Below wr.heap.size wr V8 := by rw [hV8]; exact below_drewN (Below.refl _ _) nq
      have HO8 : Hid (V8.heap[V2.heap.size]? = some (.cells #[.int .i64 p, .int .i64 q, .int .i64 z] 3 (0, 0))) := (hb8.block _ (Array.getElem?_eq_some_iff.1 ho.out).1).trans ho.out
      have HB8 : Hid (Below V2.heap.size V2 V8) := hb.out.trans (hb8.mono hb.out.size)
      clear hV8 hb8 ho hb hg hbw g0 g1 y0 y1 y2
      obtain ⟨a, b, c, hsrt, hab, hbc, hlt⟩ := srt_three HDIS.out.1 HDIS.out.2.1 HDIS.out.2.2
      have hcm := hlt m hpm hqm hzm
      have C9 : Hid (Calls Try.prog 24 #[.slice (some ⟨V2.heap.size, 0, none⟩) 3 3] V8 fun e w' => ∃ v, e = .returned v ∧ w'.ownsRow V8.heap.size 3 1 v [(a : Int), (b : Int), (c : Int)].length ([(a : Int), (b : Int), (c : Int)].map (Value.int .i64)) ∧ Below V8.heap.size V8 w') := by
        have h := sorted_any (some ⟨V2.heap.size, 0, none⟩) 3 [(p : Int), (q : Int), (z : Int)] V8 (by simp) (fun _ => ⟨V2.heap.size, 0, rfl, (Array.getElem?_eq_some_iff.1 HO8.out).1, fun k hk => by
          rw [Nat.zero_add, cell_of_heap HO8.out]
          match k, hk with
          | 0, _ => rfl
          | 1, _ => rfl
          | 2, _ => rfl⟩)
        rw [hsrt] at h
        exact h
      clear hsrt hlt HDIS hpm hqm hzm b1 b2
      go_wp2_with fail
      refine C9.out.mono ?_
      rintro e w5 ⟨v5, rfl, hown5, hb5⟩
      obtain ⟨g5, cap5, hv5, _, hg5, _, hcs5⟩ := own_row hown5 (by simp)
      subst hv5
      have HROW : Hid (∀ X, Below w5.heap.size w5 X → X.cell? ⟨g5, 0, none⟩ = some (.int .i64 a) ∧ X.cell? ⟨g5, 1, none⟩ = some (.int .i64 b) ∧ X.cell? ⟨g5, 2, none⟩ = some (.int .i64 c)) := fun X hX =>
        ⟨(hX.cell (p := ⟨g5, 0, none⟩) hg5).trans (hcs5 0 _ rfl), (hX.cell (p := ⟨g5, 1, none⟩) hg5).trans (hcs5 1 _ rfl), (hX.cell (p := ⟨g5, 2, none⟩) hg5).trans (hcs5 2 _ rfl)⟩
      have hb25 : Below V2.heap.size V2 w5 := HB8.out.trans (hb5.mono HB8.out.size)
      have HGW : Hid (∀ X, Below w5.heap.size w5 X → GC X w2.heap.size m a2 K c2 ys ∧ Below w.heap.size w X) := fun X hX => by
        obtain ⟨h1, _, h2⟩ := HX3.out X (hb25.trans (hX.mono hb25.size))
        exact ⟨h1, h2⟩
      clear C9 hown5 hb5 hg5 hcs5 hb25 HB8 HO8 HX3
      obtain ⟨i0, hi0, hz0, hz1, hz2⟩ := info_parts Try.info40
      obtain ⟨P3, hP3⟩ := ex_eq (ys ++ [((a : Int), (b : Int)), ((a : Int), (c : Int)), ((b : Int), (c : Int))])
      have hP3l : P3.length = K + 3 := by rw [hP3, List.length_append, ← HK.out]; rfl
      have HP3 := hid hP3
      have HP3L := hid hP3l
      have CN : Hid (∀ (a' : Option Addr) (c' : Nat) X, EAt X a' P3 → Calls Try.prog 25 #[.int .i64 m, .slice a' P3.length c'] X fun e w' => ∃ u, e = .returned u ∧ SubTold (fun er N E => er = 0 ∧ N = (m : Int) ∧ IsNorm P3 E) X w' u) := fun a' c' X hX =>
        (rnormal_any m a' c' P3 X (by rw [hP3l]; omega) hX).mono fun e w' ⟨er, es, a6, c6, h1, h2, h3, h4, h5⟩ => by
          obtain ⟨rfl, h6⟩ := normE_told h2 (by omega) (by rw [hP3]; exact three_in HR.out hab hbc hcm) (by rw [hP3l]; omega)
          have hn : nOf (m : Int) 0 = (m : Int) := by unfold nOf; rw [if_pos rfl]
          rw [hn] at h1
          exact ⟨_, h1, 0, m, es, a6, c6, rfl, ⟨rfl, rfl, h6.1⟩, h3, h4, h5⟩
      have HNIL : Hid (a2 = none → K = 0 ∧ c2 = 0) := fun ha => by have h1 := HSL.out.2.1 ha; have h2 := HSL.out.1; rw [← HK.out] at h2; exact ⟨by omega, h1⟩
      have HCL : Hid ((cellsE ys).length = K * 2) := by show (cellsE ys).length = K * 2; rw [cellsE_len, HK.out]
      have HNY : Hid (∀ X, Below w5.heap.size w5 X → ∀ p, a2 = some p → ∀ j u, (cellsE ys)[j]? = some u → X.cell? (p.add j) = some u) := fun X hX => (HGW.out X hX).1.at_.newsO
      have HOY : Hid (∀ v ∈ cellsE ys, v.oneCell' = true) := cellsE_one ys
      have HO6 : Hid (∀ v ∈ sixL a b c, v.oneCell' = true) := fun v hv => by simp only [List.mem_cons, List.not_mem_nil, or_false] at hv; rcases hv with rfl | rfl | rfl | rfl | rfl | rfl <;> rfl
      have HS11 : Hid (∀ X, Below w5.heap.size w5 X → X.cell? ⟨w2.heap.size, 0, none⟩ = some (.int .i64 m) ∧ X.cell? ⟨w2.heap.size, 1, none⟩ = some (.slice a2 K c2) ∧ X.cell? ⟨g5, 0, none⟩ = some (.int .i64 a) ∧ X.cell? ⟨g5, 1, none⟩ = some (.int .i64 b) ∧ X.cell? ⟨g5, 2, none⟩ = some (.int .i64 c)) := fun X hX => ⟨(HGW.out X hX).1.n0, (HGW.out X hX).1.e0, HROW.out X hX⟩
      clear hP3 hP3l
      go_upto_region 11 with fail
      go_cut [8, 9] from 88 to 120 (fun v8 v9 wx => ∃ Bh Eh ah ch, v8 = .pointer (some ⟨Bh, 0, none⟩) ∧ v9 = .int .i64 0 ∧ Hid (GC wx Bh m ah Eh.length ch Eh) ∧ Hid (Sl ah ch Eh.length) ∧ Hid (IsNorm P3 Eh) ∧ Hid (Below w5.heap.size w5 wx))
      case first =>
        refine wp_region_held_drew (S := (fun X => X.cell? ⟨w2.heap.size, 0, none⟩ = some (.int .i64 m) ∧ X.cell? ⟨w2.heap.size, 1, none⟩ = some (.slice a2 K c2) ∧ X.cell? ⟨g5, 0, none⟩ = some (.int .i64 a) ∧ X.cell? ⟨g5, 1, none⟩ = some (.int .i64 b) ∧ X.cell? ⟨g5, 2, none⟩ = some (.int .i64 c))) (by kernel_rfl) (HS11.out _ (Below.refl _ _).drew) (fun hHeld => ?_)
        (refine takeW (i := 0) (dst := some 89) (v := ?_) rfl rfl (by kernel_rfl) (by kernel_rfl) (by kernel_rfl) (fun _ _ _ h => h) (Or.inl ⟨by rfl, ?_⟩) hHeld ?_; rotate_left; focus (intro w hSw; (try dsimp only at hSw); go_simp; (try with_reducible rfl); done))
        try simp only [Act.put, List.setIfInBounds_toArray, List.set_cons_zero, List.set_cons_succ]
        (refine takeW (i := 1) (dst := some 90) (v := ?_) rfl rfl (by kernel_rfl) (by kernel_rfl) (by kernel_rfl) (fun _ _ _ h => h) (Or.inl ⟨by rfl, ?_⟩) hHeld ?_; rotate_left; focus (intro w hSw; (try dsimp only at hSw); go_simp; (try with_reducible rfl); done))
        try simp only [Act.put, List.setIfInBounds_toArray, List.set_cons_zero, List.set_cons_succ]
        (refine takeW (i := 3) (dst := some 92) (v := ?_) rfl rfl (by kernel_rfl) (by kernel_rfl) (by kernel_rfl) (fun _ _ _ h => h) (Or.inl ⟨by rfl, ?_⟩) hHeld ?_; rotate_left; focus (intro w hSw; (try dsimp only at hSw); go_simp; (try with_reducible rfl); done))
        try simp only [Act.put, List.setIfInBounds_toArray, List.set_cons_zero, List.set_cons_succ]
        (refine takeW (i := 4) (dst := some 93) (v := ?_) rfl rfl (by kernel_rfl) (by kernel_rfl) (by kernel_rfl) (fun _ _ _ h => h) (Or.inl ⟨by rfl, ?_⟩) hHeld ?_; rotate_left; focus (intro w hSw; (try dsimp only at hSw); go_simp; (try with_reducible rfl); done))
        try simp only [Act.put, List.setIfInBounds_toArray, List.set_cons_zero, List.set_cons_succ]
        (refine takeW (i := 6) (dst := some 95) (v := ?_) rfl rfl (by kernel_rfl) (by kernel_rfl) (by kernel_rfl) (fun _ _ _ h => h) (Or.inl ⟨by rfl, ?_⟩) hHeld ?_; rotate_left; focus (intro w hSw; (try dsimp only at hSw); go_simp; (try with_reducible rfl); done))
        try simp only [Act.put, List.setIfInBounds_toArray, List.set_cons_zero, List.set_cons_succ]
        (refine takeW (i := 7) (dst := some 96) (v := ?_) rfl rfl (by kernel_rfl) (by kernel_rfl) (by kernel_rfl) (fun _ _ _ h => h) (Or.inl ⟨by rfl, ?_⟩) hHeld ?_; rotate_left; focus (intro w hSw; (try dsimp only at hSw); go_simp; (try with_reducible rfl); done))
        try simp only [Act.put, List.setIfInBounds_toArray, List.set_cons_zero, List.set_cons_succ]
        (refine takeW (i := 8) (dst := some 97) (v := ?_) rfl rfl (by kernel_rfl) (by kernel_rfl) (by kernel_rfl) (fun _ _ _ h => h) (Or.inl ⟨by rfl, ?_⟩) hHeld ?_; rotate_left; focus (intro w hSw; (try dsimp only at hSw); go_simp; (try with_reducible rfl); done))
        try simp only [Act.put, List.setIfInBounds_toArray, List.set_cons_zero, List.set_cons_succ]
        (refine takeW (i := 9) (dst := some 98) (v := ?_) rfl rfl (by kernel_rfl) (by kernel_rfl) (by kernel_rfl) (fun _ _ _ h => h) (Or.inl ⟨by rfl, ?_⟩) hHeld ?_; rotate_left; focus (intro w hSw; (try dsimp only at hSw); go_simp; (try with_reducible rfl); done))
        try simp only [Act.put, List.setIfInBounds_toArray, List.set_cons_zero, List.set_cons_succ]
        (refine takeW (i := 10) (dst := some 99) (v := ?_) rfl rfl (by kernel_rfl) (by kernel_rfl) (by kernel_rfl) (fun _ _ _ h => h) (Or.inl ⟨by rfl, ?_⟩) hHeld ?_; rotate_left; focus (intro w hSw; (try dsimp only at hSw); go_simp; (try with_reducible rfl); done))
        try simp only [Act.put, List.setIfInBounds_toArray, List.set_cons_zero, List.set_cons_succ]
        (refine takeW (i := 11) (dst := some 100) (v := ?_) rfl rfl (by kernel_rfl) (by kernel_rfl) (by kernel_rfl) (fun _ _ _ h => h) (Or.inl ⟨by rfl, ?_⟩) hHeld ?_; rotate_left; focus (intro w hSw; (try dsimp only at hSw); go_simp; (try with_reducible rfl); done))
        try simp only [Act.put, List.setIfInBounds_toArray, List.set_cons_zero, List.set_cons_succ]
        (refine takeW (i := 12) (dst := some 101) (v := ?_) rfl rfl (by kernel_rfl) (by kernel_rfl) (by kernel_rfl) (fun _ _ _ h => h) (Or.inl ⟨by rfl, ?_⟩) hHeld ?_; rotate_left; focus (intro w hSw; (try dsimp only at hSw); go_simp; (try with_reducible rfl); done))
        try simp only [Act.put, List.setIfInBounds_toArray, List.set_cons_zero, List.set_cons_succ]
        (refine takeW (i := 13) (dst := some 102) (v := ?_) rfl rfl (by kernel_rfl) (by kernel_rfl) (by kernel_rfl) (fun _ _ _ h => h) (Or.inl ⟨by rfl, ?_⟩) hHeld ?_; rotate_left; focus (intro w hSw; (try dsimp only at hSw); go_simp; (try with_reducible rfl); done))
        try simp only [Act.put, List.setIfInBounds_toArray, List.set_cons_zero, List.set_cons_succ]
        (refine takeW (i := 14) (dst := some 103) (v := ?_) rfl rfl (by kernel_rfl) (by kernel_rfl) (by kernel_rfl) (fun _ _ _ h => h) (Or.inl ⟨by rfl, ?_⟩) hHeld ?_; rotate_left; focus (intro w hSw; (try dsimp only at hSw); go_simp; (try with_reducible rfl); done))
        try simp only [Act.put, List.setIfInBounds_toArray, List.set_cons_zero, List.set_cons_succ]
        (refine takeW (i := 15) (dst := some 104) (v := ?_) rfl rfl (by kernel_rfl) (by kernel_rfl) (by kernel_rfl) (fun _ _ _ h => h) (Or.inl ⟨by rfl, ?_⟩) hHeld ?_; rotate_left; focus (intro w hSw; (try dsimp only at hSw); go_simp; (try with_reducible rfl); done))
        try simp only [Act.put, List.setIfInBounds_toArray, List.set_cons_zero, List.set_cons_succ]
        (refine takeW (i := 16) (dst := some 105) (v := ?_) rfl rfl (by kernel_rfl) (by kernel_rfl) (by kernel_rfl) (fun _ _ _ h => h) (Or.inl ⟨by rfl, ?_⟩) hHeld ?_; rotate_left; focus (intro w hSw; (try dsimp only at hSw); go_simp; (try with_reducible rfl); done))
        try simp only [Act.put, List.setIfInBounds_toArray, List.set_cons_zero, List.set_cons_succ]
        (refine takeW (i := 17) (dst := some 106) (v := ?_) rfl rfl (by kernel_rfl) (by kernel_rfl) (by kernel_rfl) (fun _ _ _ h => h) (Or.inl ⟨by rfl, ?_⟩) hHeld ?_; rotate_left; focus (intro w hSw; (try dsimp only at hSw); go_simp; (try with_reducible rfl); done))
        try simp only [Act.put, List.setIfInBounds_toArray, List.set_cons_zero, List.set_cons_succ]
        (refine takeW (i := 18) (dst := some 107) (v := ?_) rfl rfl (by kernel_rfl) (by kernel_rfl) (by kernel_rfl) (fun _ _ _ h => h) (Or.inl ⟨by rfl, ?_⟩) hHeld ?_; rotate_left; focus (intro w hSw; (try dsimp only at hSw); go_simp; (try with_reducible rfl); done))
        try simp only [Act.put, List.setIfInBounds_toArray, List.set_cons_zero, List.set_cons_succ]
        (refine takeW (i := 19) (dst := some 108) (v := ?_) rfl rfl (by kernel_rfl) (by kernel_rfl) (by kernel_rfl) (fun _ _ _ h => h) (Or.inl ⟨by rfl, ?_⟩) hHeld ?_; rotate_left; focus (intro w hSw; (try dsimp only at hSw); go_simp; (try with_reducible rfl); done))
        try simp only [Act.put, List.setIfInBounds_toArray, List.set_cons_zero, List.set_cons_succ]
        (refine takeW (i := 20) (dst := some 109) (v := ?_) rfl rfl (by kernel_rfl) (by kernel_rfl) (by kernel_rfl) (fun _ _ _ h => h) (Or.inl ⟨by rfl, ?_⟩) hHeld ?_; rotate_left; focus (intro w hSw; (try dsimp only at hSw); go_simp; (try with_reducible rfl); done))
        try simp only [Act.put, List.setIfInBounds_toArray, List.set_cons_zero, List.set_cons_succ]
        (refine takeW (i := 21) (dst := some 110) (v := ?_) rfl rfl (by kernel_rfl) (by kernel_rfl) (by kernel_rfl) (fun _ _ _ h => h) (Or.inl ⟨by rfl, ?_⟩) hHeld ?_; rotate_left; focus (intro w hSw; (try dsimp only at hSw); go_simp; (try with_reducible rfl); done))
        try simp only [Act.put, List.setIfInBounds_toArray, List.set_cons_zero, List.set_cons_succ]
        (refine takeW (i := 22) (dst := some 111) (v := ?_) rfl rfl (by kernel_rfl) (by kernel_rfl) (by kernel_rfl) (fun _ _ _ h => h) (Or.inl ⟨by rfl, ?_⟩) hHeld ?_; rotate_left; focus (intro w hSw; (try dsimp only at hSw); go_simp; (try with_reducible rfl); done))
        try simp only [Act.put, List.setIfInBounds_toArray, List.set_cons_zero, List.set_cons_succ]
        (refine takeW (i := 23) (dst := some 112) (v := ?_) rfl rfl (by kernel_rfl) (by kernel_rfl) (by kernel_rfl) (fun _ _ _ h => h) (Or.inl ⟨by rfl, ?_⟩) hHeld ?_; rotate_left; focus (intro w hSw; (try dsimp only at hSw); go_simp; (try with_reducible rfl); done))
        try simp only [Act.put, List.setIfInBounds_toArray, List.set_cons_zero, List.set_cons_succ]
        (refine takeW (i := 24) (dst := some 113) (v := ?_) rfl rfl (by kernel_rfl) (by kernel_rfl) (by kernel_rfl) (fun _ _ _ h => h) (Or.inl ⟨by rfl, ?_⟩) hHeld ?_; rotate_left; focus (intro w hSw; (try dsimp only at hSw); go_simp; (try with_reducible rfl); done))
        try simp only [Act.put, List.setIfInBounds_toArray, List.set_cons_zero, List.set_cons_succ]
        (refine takeW (i := 25) (dst := some 114) (v := ?_) rfl rfl (by kernel_rfl) (by kernel_rfl) (by kernel_rfl) (fun _ _ _ h => h) (Or.inl ⟨by rfl, ?_⟩) hHeld ?_; rotate_left; focus (intro w hSw; (try dsimp only at hSw); go_simp; (try with_reducible rfl); done))
        try simp only [Act.put, List.setIfInBounds_toArray, List.set_cons_zero, List.set_cons_succ]
        (refine takeW (i := 26) (dst := some 115) (v := ?_) rfl rfl (by kernel_rfl) (by kernel_rfl) (by kernel_rfl) (fun _ _ _ h => h) (Or.inl ⟨by rfl, ?_⟩) hHeld ?_; rotate_left; focus (intro w hSw; (try dsimp only at hSw); go_simp; (try with_reducible rfl); done))
        try simp only [Act.put, List.setIfInBounds_toArray, List.set_cons_zero, List.set_cons_succ]
        refine wpAnyH_ready (rs := [2, 27, 33]) (by kernel_rfl) (by simp) ?_
        refine AllReadyH.cons (o := _) rfl (fun KK hK => ?_) (AllReadyH.cons (o := _) rfl (fun KK hK => ?_) (AllReadyH.cons (o := _) rfl (fun KK hK => ?_) AllReadyH.nil))
        next =>
         go_simp
         obtain ⟨Z1, hZ⟩ := ex_eq ((w5.alloc (Obj.cells #[] 40 (0, 0))).drew)
         rw [← hZ]
         have HB1 : Hid (Below w5.heap.size w5 Z1) := by rw [hZ]; exact (below_one _ _).drew
         have HO1 : Hid (Z1.ownsRow w5.heap.size 40 2 (.slice (some ⟨w5.heap.size, 0, none⟩) 0 0) 0 []) := by
           show World.ownsRow _ _ _ _ _ _ _
           rw [hZ]
           exact ⟨rfl, Or.inr ⟨w5.heap.size, 0, #[], rfl, Nat.le_refl _, heap_alloc_new _ _, Nat.le_refl _, Nat.zero_le _, rfl, rfl⟩⟩
         clear hZ
         refine hK.out _ _ (HS11.out _ HB1.out) (fun hHeld => ?_)
         clear hK KK
         try simp only [Act.put, List.setIfInBounds_toArray, List.set_cons_succ]
         try simp only [List.set_cons_zero]
         refine wpAnyH_ready (rs := [5, 27, 33]) (by kernel_rfl) (by simp) ?_
         refine AllReadyH.cons (o := _) rfl (fun KK hK => ?_) (AllReadyH.cons (o := _) rfl (fun KK hK => ?_) (AllReadyH.cons (o := _) rfl (fun KK hK => ?_) AllReadyH.nil))
         next =>
          refine step_append_any _ rfl (.tmp 91) (.tmp 93) 22 rfl w5.heap.size 40 i0 _ 2 16 Try.underlying22 hi0 hz0 hz1 hz2 rfl (by decide) (.slice (some ⟨w5.heap.size, 0, none⟩) 0 0) 0 [] (by simp [Act.eval]) HO1.out a2 K c2 (cellsE ys) (by simp [Act.eval]) HNIL.out HCL.out (HNY.out Z1 HB1.out) HOY.out (by unfold maxLen; omega) (by omega) HB1.out.size ?_
          intro v2 wa2 hown hgrow hat
          have HB2 : Hid (Below w5.heap.size w5 wa2) := Below.grown HB1.out hgrow HB1.out.size (fun j hj => (HO1.out.lt j hj).1)
          have HO2 : Hid (wa2.ownsRow w5.heap.size 40 2 v2 K (cellsE ys)) := by
            show World.ownsRow _ _ _ _ _ _ _
            have h := hown
            rw [Nat.zero_add, List.nil_append] at h
            exact h
          clear hown hgrow hat
          refine hK.out _ _ (HS11.out _ HB2.out) (fun hHeld => ?_)
          clear hK KK
          try simp only [Act.put, List.setIfInBounds_toArray]
          try simp only [List.set_cons_zero]
          refine wpAnyH_ready (rs := [27, 33]) (by kernel_rfl) (by simp) ?_
          refine AllReadyH.cons (o := _) rfl (fun KK hK => ?_) (AllReadyH.cons (o := _) rfl (fun KK hK => ?_) AllReadyH.nil)
          next =>
           go_simp
           obtain ⟨Z3, hZ⟩ := ex_eq (wa2.alloc (sixE a b c))
           rw [← hZ]
           have HB3 : Hid (Below w5.heap.size w5 Z3) := by rw [hZ]; exact HB2.out.alloc HB2.out.size _
           have HC3 : Hid (Z3.heap[wa2.heap.size]? = some (sixE a b c)) := by rw [hZ]; exact heap_alloc_new _ _
           have HN3 : Hid (some (wa2.heap.size) ≠ (Value.ownBlock v2)) := fun e => by
             have h := (HO2.out.lt _ e.symm).2
             simp at h
           have HO3 : Hid (Z3.ownsRow w5.heap.size 40 2 v2 K (cellsE ys)) := by
             show World.ownsRow _ _ _ _ _ _ _
             rw [hZ]; exact HO2.out.alloc _
           clear hZ
           refine hK.out _ _ (HS11.out _ HB3.out) (fun hHeld => ?_)
           clear hK KK
           try simp only [Act.put, List.setIfInBounds_toArray, List.set_cons_succ]
           try simp only [List.set_cons_zero]
           refine wpAnyH_ready (rs := [28, 33]) (by kernel_rfl) (by simp) ?_
           refine AllReadyH.cons (o := _) rfl (fun KK hK => ?_) (AllReadyH.cons (o := _) rfl (fun KK hK => ?_) AllReadyH.nil)
           next =>
            refine step_append_any _ rfl (.tmp 94) (.tmp 116) 22 rfl w5.heap.size 40 i0 _ 2 16 Try.underlying22 hi0 hz0 hz1 hz2 rfl (by decide) v2 K (cellsE ys) (by simp [Act.eval]) HO3.out (some ⟨wa2.heap.size, 0, none⟩) 3 3 (sixL a b c) (by simp [Act.eval]) (fun h => by cases h) rfl (news_blkT HC3.out) HO6.out (by unfold maxLen; omega) (by omega) HB3.out.size ?_
            intro v4 wa4 hown hgrow hat
            have HB4 : Hid (Below w5.heap.size w5 wa4) := Below.grown HB3.out hgrow HB3.out.size (fun j hj => (HO3.out.lt j hj).1)
            obtain ⟨aa4, ca4, hv4, _, hea4⟩ := eat_own (es := P3) (by
              have h := hown
              have e : cellsE P3 = cellsE ys ++ sixL a b c := by rw [HP3.out]; exact cellsE_three ys a b c
              rw [e, HP3L.out]; exact h)
            subst hv4
            have HEA4 := hid hea4
            clear hea4
            clear hown hgrow hat
            refine hK.out _ _ (HS11.out _ HB4.out) (fun hHeld => ?_)
            clear hK KK
            try simp only [Act.put, List.setIfInBounds_toArray]
            try simp only [List.set_cons_zero]
            refine wpAnyH_ready (rs := [29, 33]) (by kernel_rfl) (by simp) ?_
            refine AllReadyH.cons (o := _) rfl (fun KK hK => ?_) (AllReadyH.cons (o := _) rfl (fun KK hK => ?_) AllReadyH.nil)
            next =>
             go_simp
             refine (CN.out aa4 ca4 _ HEA4.out).mono ?_
             rintro e wc5 ⟨v, rfl, er5, N5, E5, a5, c5, rfl, ⟨rfl, rfl, hsp⟩, hsl5, hea5, hb5⟩
             have HB5 : Hid (Below w5.heap.size w5 wc5) := HB4.out.trans (hb5.mono HB4.out.size)
             have HE5 := hid hea5
             have HSL5 := hid hsl5
             have HSP5 := hid hsp
             clear hb5 hea5 hsl5 hsp
             refine hK.out _ _ (HS11.out _ HB5.out) (fun hHeld => ?_)
             clear hK KK
             try simp only [Act.put, List.setIfInBounds_toArray, List.set_cons_succ]
             try simp only [List.set_cons_zero]
             (refine takeW (i := 30) (dst := some 88) (v := ?_) rfl rfl (by kernel_rfl) (by kernel_rfl) (by kernel_rfl) (fun _ _ _ h => h) (Or.inl ⟨by rfl, ?_⟩) hHeld ?_; rotate_left; focus (intro w hSw; (try dsimp only at hSw); go_simp; (try with_reducible rfl); done))
             try simp only [Act.put, List.setIfInBounds_toArray, List.set_cons_zero, List.set_cons_succ]
             (refine takeW (i := 31) (dst := some 119) (v := ?_) rfl rfl (by kernel_rfl) (by kernel_rfl) (by kernel_rfl) (fun _ _ _ h => h) (Or.inl ⟨by rfl, ?_⟩) hHeld ?_; rotate_left; focus (intro w hSw; (try dsimp only at hSw); go_simp; (try with_reducible rfl); done))
             try simp only [Act.put, List.setIfInBounds_toArray, List.set_cons_zero, List.set_cons_succ]
             (refine takeW (i := 32) (dst := some 120) (v := ?_) rfl rfl (by kernel_rfl) (by kernel_rfl) (by kernel_rfl) (fun _ _ _ h => h) (Or.inl ⟨by rfl, ?_⟩) hHeld ?_; rotate_left; focus (intro w hSw; (try dsimp only at hSw); go_simp; (try with_reducible rfl); done))
             try simp only [Act.put, List.setIfInBounds_toArray, List.set_cons_zero, List.set_cons_succ]
             refine wpAnyH_ready (rs := [33]) (by kernel_rfl) (by simp) ?_
             refine AllReadyH.cons (o := _) rfl (fun KK hK => ?_) AllReadyH.nil
             go_simp
             obtain ⟨Z6, hZ⟩ := ex_eq (wc5.alloc (zeroG))
             rw [← hZ]
             have HB6 : Hid (Below w5.heap.size w5 Z6) := by rw [hZ]; exact HB5.out.alloc HB5.out.size _
             have HV6 : Hid (Z6.heap[wc5.heap.size]? = some zeroG) := by rw [hZ]; exact heap_alloc_new _ _
             have HVG6 : Hid (w5.heap.size ≤ wc5.heap.size) := by show _ ≤ _; exact HB5.out.size
             have HE6 : Hid (EAt Z6 a5 E5) := by rw [hZ]; exact HE5.out.below (below_one _ _)
             clear hZ
             have z0 := cell_of_heap HV6.out 0
             have z1 := cell_of_heap HV6.out 1
             have zf0 := frozen_of_heap HV6.out 0
             have zf1 := frozen_of_heap HV6.out 1
             refine hK.out _ _ (HS11.out _ HB6.out) (fun hHeld => ?_)
             clear hK KK
             try simp only [Act.put, List.setIfInBounds_toArray, List.set_cons_succ]
             try simp only [List.set_cons_zero]
             refine wpAnyH_ready (rs := [34]) (by kernel_rfl) (by simp) ?_
             refine AllReadyH.cons (o := _) rfl (fun KK hK => ?_) AllReadyH.nil
             go_simp
             refine hK.out _ _ (HS11.out _ ((HB6.out.setCell (p := ⟨wc5.heap.size, 0, none⟩) HVG6.out _).setCell (p := ⟨wc5.heap.size, 1, none⟩) HVG6.out _)) (fun hHeld => ?_)
             clear hK KK
             try simp only [Act.put, List.setIfInBounds_toArray, List.set_cons_succ]
             try simp only [List.set_cons_zero]
             (refine takeW (i := 35) (dst := some 9) (v := ?_) rfl rfl (by kernel_rfl) (by kernel_rfl) (by kernel_rfl) (fun _ _ _ h => h) (Or.inl ⟨by rfl, ?_⟩) hHeld ?_; rotate_left; focus (intro w hSw; (try dsimp only at hSw); go_simp; (try with_reducible rfl); done))
             try simp only [Act.put, List.setIfInBounds_toArray, List.set_cons_succ]
             try simp only [List.set_cons_zero]
             refine wpAnyH_done (by kernel_rfl) ?_ _
             have HNE := hid (eat_off_box HV6.out HE6.out)
             have HGN : Hid (GC ((Z6.setCell ⟨wc5.heap.size, 0, none⟩ (.int .i64 m)).setCell ⟨wc5.heap.size, 1, none⟩ (.slice a5 E5.length c5)) (wc5.heap.size) m a5 E5.length c5 E5) :=
               ⟨cell_of_heap (two_putT HV6.out) 0, cell_of_heap (two_putT HV6.out) 1, (HE6.out.set (p := ⟨wc5.heap.size, 0, none⟩) HNE.out _).set (p := ⟨wc5.heap.size, 1, none⟩) HNE.out _⟩
             have HBN : Hid (Below w5.heap.size w5 ((Z6.setCell ⟨wc5.heap.size, 0, none⟩ (.int .i64 m)).setCell ⟨wc5.heap.size, 1, none⟩ (.slice a5 E5.length c5))) := (HB6.out.setCell (p := ⟨wc5.heap.size, 0, none⟩) HVG6.out _).setCell (p := ⟨wc5.heap.size, 1, none⟩) HVG6.out _
             clear hHeld
             go_wp2_with fail
             go_meet
             exact ⟨_, _, _, _, rfl, rfl, HGN, HSL5.out, HSP5.out, HBN.out⟩
            next =>
             go_simp
             obtain ⟨Z7, hZ⟩ := ex_eq (wa4.alloc (zeroG))
             rw [← hZ]
             have HB7 : Hid (Below w5.heap.size w5 Z7) := by rw [hZ]; exact HB4.out.alloc HB4.out.size _
             have HV7 : Hid (Z7.heap[wa4.heap.size]? = some zeroG) := by rw [hZ]; exact heap_alloc_new _ _
             have HVG7 : Hid (w5.heap.size ≤ wa4.heap.size) := by show _ ≤ _; exact HB4.out.size
             have HEA7 : Hid (EAt Z7 aa4 P3) := by rw [hZ]; exact HEA4.out.below (below_one _ _)
             clear hZ
             refine hK.out _ _ (HS11.out _ HB7.out) (fun hHeld => ?_)
             clear hK KK
             try simp only [Act.put, List.setIfInBounds_toArray, List.set_cons_succ]
             try simp only [List.set_cons_zero]
             refine wpAnyH_ready (rs := [29]) (by kernel_rfl) (by simp) ?_
             refine AllReadyH.cons (o := _) rfl (fun KK hK => ?_) AllReadyH.nil
             go_simp
             refine (CN.out aa4 ca4 _ HEA7.out).mono ?_
             rintro e wc8 ⟨v, rfl, er8, N8, E8, a8, c8, rfl, ⟨rfl, rfl, hsp⟩, hsl8, hea8, hb8⟩
             have HB8 : Hid (Below w5.heap.size w5 wc8) := HB7.out.trans (hb8.mono HB7.out.size)
             have HE8 := hid hea8
             have HSL8 := hid hsl8
             have HSP8 := hid hsp
             have HV8 : Hid (wc8.heap[wa4.heap.size]? = some zeroG) := (hb8.block _ (Array.getElem?_eq_some_iff.1 HV7.out).1).trans HV7.out
             clear hb8 hea8 hsl8 hsp
             have z0 := cell_of_heap HV8.out 0
             have z1 := cell_of_heap HV8.out 1
             have zf0 := frozen_of_heap HV8.out 0
             have zf1 := frozen_of_heap HV8.out 1
             refine hK.out _ _ (HS11.out _ HB8.out) (fun hHeld => ?_)
             clear hK KK
             try simp only [Act.put, List.setIfInBounds_toArray, List.set_cons_succ]
             try simp only [List.set_cons_zero]
             (refine takeW (i := 30) (dst := some 88) (v := ?_) rfl rfl (by kernel_rfl) (by kernel_rfl) (by kernel_rfl) (fun _ _ _ h => h) (Or.inl ⟨by rfl, ?_⟩) hHeld ?_; rotate_left; focus (intro w hSw; (try dsimp only at hSw); go_simp; (try with_reducible rfl); done))
             try simp only [Act.put, List.setIfInBounds_toArray, List.set_cons_zero, List.set_cons_succ]
             (refine takeW (i := 31) (dst := some 119) (v := ?_) rfl rfl (by kernel_rfl) (by kernel_rfl) (by kernel_rfl) (fun _ _ _ h => h) (Or.inl ⟨by rfl, ?_⟩) hHeld ?_; rotate_left; focus (intro w hSw; (try dsimp only at hSw); go_simp; (try with_reducible rfl); done))
             try simp only [Act.put, List.setIfInBounds_toArray, List.set_cons_zero, List.set_cons_succ]
             (refine takeW (i := 32) (dst := some 120) (v := ?_) rfl rfl (by kernel_rfl) (by kernel_rfl) (by kernel_rfl) (fun _ _ _ h => h) (Or.inl ⟨by rfl, ?_⟩) hHeld ?_; rotate_left; focus (intro w hSw; (try dsimp only at hSw); go_simp; (try with_reducible rfl); done))
             try simp only [Act.put, List.setIfInBounds_toArray, List.set_cons_zero, List.set_cons_succ]
             refine wpAnyH_ready (rs := [34]) (by kernel_rfl) (by simp) ?_
             refine AllReadyH.cons (o := _) rfl (fun KK hK => ?_) AllReadyH.nil
             go_simp
             refine hK.out _ _ (HS11.out _ ((HB8.out.setCell (p := ⟨wa4.heap.size, 0, none⟩) HVG7.out _).setCell (p := ⟨wa4.heap.size, 1, none⟩) HVG7.out _)) (fun hHeld => ?_)
             clear hK KK
             try simp only [Act.put, List.setIfInBounds_toArray, List.set_cons_succ]
             try simp only [List.set_cons_zero]
             (refine takeW (i := 35) (dst := some 9) (v := ?_) rfl rfl (by kernel_rfl) (by kernel_rfl) (by kernel_rfl) (fun _ _ _ h => h) (Or.inl ⟨by rfl, ?_⟩) hHeld ?_; rotate_left; focus (intro w hSw; (try dsimp only at hSw); go_simp; (try with_reducible rfl); done))
             try simp only [Act.put, List.setIfInBounds_toArray, List.set_cons_succ]
             try simp only [List.set_cons_zero]
             refine wpAnyH_done (by kernel_rfl) ?_ _
             have HNE := hid (eat_off_box HV8.out HE8.out)
             have HGN : Hid (GC ((wc8.setCell ⟨wa4.heap.size, 0, none⟩ (.int .i64 m)).setCell ⟨wa4.heap.size, 1, none⟩ (.slice a8 E8.length c8)) (wa4.heap.size) m a8 E8.length c8 E8) :=
               ⟨cell_of_heap (two_putT HV8.out) 0, cell_of_heap (two_putT HV8.out) 1, (HE8.out.set (p := ⟨wa4.heap.size, 0, none⟩) HNE.out _).set (p := ⟨wa4.heap.size, 1, none⟩) HNE.out _⟩
             have HBN : Hid (Below w5.heap.size w5 ((wc8.setCell ⟨wa4.heap.size, 0, none⟩ (.int .i64 m)).setCell ⟨wa4.heap.size, 1, none⟩ (.slice a8 E8.length c8))) := (HB8.out.setCell (p := ⟨wa4.heap.size, 0, none⟩) HVG7.out _).setCell (p := ⟨wa4.heap.size, 1, none⟩) HVG7.out _
             clear hHeld
             go_wp2_with fail
             go_meet
             exact ⟨_, _, _, _, rfl, rfl, HGN, HSL8.out, HSP8.out, HBN.out⟩
           next =>
            go_simp
            obtain ⟨Z9, hZ⟩ := ex_eq (Z3.alloc (zeroG))
            rw [← hZ]
            have HB9 : Hid (Below w5.heap.size w5 Z9) := by rw [hZ]; exact HB3.out.alloc HB3.out.size _
            have HC9 : Hid (Z9.heap[wa2.heap.size]? = some (sixE a b c)) := by rw [hZ]; exact keepT HC3.out (below_one _ _)
            have HV9 : Hid (Z9.heap[Z3.heap.size]? = some zeroG) := by rw [hZ]; exact heap_alloc_new _ _
            have HVG9 : Hid (w5.heap.size ≤ Z3.heap.size) := by show _ ≤ _; exact HB3.out.size
            have HM9 : Hid (some (Z3.heap.size) ≠ (Value.ownBlock v2)) := fun e => by
              have h := (HO3.out.lt _ e.symm).2
              simp at h
            have HO9 : Hid (Z9.ownsRow w5.heap.size 40 2 v2 K (cellsE ys)) := by
              show World.ownsRow _ _ _ _ _ _ _
              rw [hZ]; exact HO3.out.alloc _
            clear hZ
            refine hK.out _ _ (HS11.out _ HB9.out) (fun hHeld => ?_)
            clear hK KK
            try simp only [Act.put, List.setIfInBounds_toArray, List.set_cons_succ]
            try simp only [List.set_cons_zero]
            refine wpAnyH_ready (rs := [28]) (by kernel_rfl) (by simp) ?_
            refine AllReadyH.cons (o := _) rfl (fun KK hK => ?_) AllReadyH.nil
            refine step_append_any _ rfl (.tmp 94) (.tmp 116) 22 rfl w5.heap.size 40 i0 _ 2 16 Try.underlying22 hi0 hz0 hz1 hz2 rfl (by decide) v2 K (cellsE ys) (by simp [Act.eval]) HO9.out (some ⟨wa2.heap.size, 0, none⟩) 3 3 (sixL a b c) (by simp [Act.eval]) (fun h => by cases h) rfl (news_blkT HC9.out) HO6.out (by unfold maxLen; omega) (by omega) HB9.out.size ?_
            intro v10 wa10 hown hgrow hat
            have HB10 : Hid (Below w5.heap.size w5 wa10) := Below.grown HB9.out hgrow HB9.out.size (fun j hj => (HO9.out.lt j hj).1)
            have HV10 : Hid (wa10.heap[Z3.heap.size]? = some zeroG) := (hgrow.block _ (Array.getElem?_eq_some_iff.1 HV9.out).1 HM9.out).trans HV9.out
            obtain ⟨aa10, ca10, hv10, _, hea10⟩ := eat_own (es := P3) (by
              have h := hown
              have e : cellsE P3 = cellsE ys ++ sixL a b c := by rw [HP3.out]; exact cellsE_three ys a b c
              rw [e, HP3L.out]; exact h)
            subst hv10
            have HEA10 := hid hea10
            clear hea10
            clear hown hgrow hat
            refine hK.out _ _ (HS11.out _ HB10.out) (fun hHeld => ?_)
            clear hK KK
            try simp only [Act.put, List.setIfInBounds_toArray]
            try simp only [List.set_cons_zero]
            refine wpAnyH_ready (rs := [29]) (by kernel_rfl) (by simp) ?_
            refine AllReadyH.cons (o := _) rfl (fun KK hK => ?_) AllReadyH.nil
            go_simp
            refine (CN.out aa10 ca10 _ HEA10.out).mono ?_
            rintro e wc11 ⟨v, rfl, er11, N11, E11, a11, c11, rfl, ⟨rfl, rfl, hsp⟩, hsl11, hea11, hb11⟩
            have HB11 : Hid (Below w5.heap.size w5 wc11) := HB10.out.trans (hb11.mono HB10.out.size)
            have HE11 := hid hea11
            have HSL11 := hid hsl11
            have HSP11 := hid hsp
            have HV11 : Hid (wc11.heap[Z3.heap.size]? = some zeroG) := (hb11.block _ (Array.getElem?_eq_some_iff.1 HV10.out).1).trans HV10.out
            clear hb11 hea11 hsl11 hsp
            have z0 := cell_of_heap HV11.out 0
            have z1 := cell_of_heap HV11.out 1
            have zf0 := frozen_of_heap HV11.out 0
            have zf1 := frozen_of_heap HV11.out 1
            refine hK.out _ _ (HS11.out _ HB11.out) (fun hHeld => ?_)
            clear hK KK
            try simp only [Act.put, List.setIfInBounds_toArray, List.set_cons_succ]
            try simp only [List.set_cons_zero]
            (refine takeW (i := 30) (dst := some 88) (v := ?_) rfl rfl (by kernel_rfl) (by kernel_rfl) (by kernel_rfl) (fun _ _ _ h => h) (Or.inl ⟨by rfl, ?_⟩) hHeld ?_; rotate_left; focus (intro w hSw; (try dsimp only at hSw); go_simp; (try with_reducible rfl); done))
            try simp only [Act.put, List.setIfInBounds_toArray, List.set_cons_zero, List.set_cons_succ]
            (refine takeW (i := 31) (dst := some 119) (v := ?_) rfl rfl (by kernel_rfl) (by kernel_rfl) (by kernel_rfl) (fun _ _ _ h => h) (Or.inl ⟨by rfl, ?_⟩) hHeld ?_; rotate_left; focus (intro w hSw; (try dsimp only at hSw); go_simp; (try with_reducible rfl); done))
            try simp only [Act.put, List.setIfInBounds_toArray, List.set_cons_zero, List.set_cons_succ]
            (refine takeW (i := 32) (dst := some 120) (v := ?_) rfl rfl (by kernel_rfl) (by kernel_rfl) (by kernel_rfl) (fun _ _ _ h => h) (Or.inl ⟨by rfl, ?_⟩) hHeld ?_; rotate_left; focus (intro w hSw; (try dsimp only at hSw); go_simp; (try with_reducible rfl); done))
            try simp only [Act.put, List.setIfInBounds_toArray, List.set_cons_zero, List.set_cons_succ]
            refine wpAnyH_ready (rs := [34]) (by kernel_rfl) (by simp) ?_
            refine AllReadyH.cons (o := _) rfl (fun KK hK => ?_) AllReadyH.nil
            go_simp
            refine hK.out _ _ (HS11.out _ ((HB11.out.setCell (p := ⟨Z3.heap.size, 0, none⟩) HVG9.out _).setCell (p := ⟨Z3.heap.size, 1, none⟩) HVG9.out _)) (fun hHeld => ?_)
            clear hK KK
            try simp only [Act.put, List.setIfInBounds_toArray, List.set_cons_succ]
            try simp only [List.set_cons_zero]
            (refine takeW (i := 35) (dst := some 9) (v := ?_) rfl rfl (by kernel_rfl) (by kernel_rfl) (by kernel_rfl) (fun _ _ _ h => h) (Or.inl ⟨by rfl, ?_⟩) hHeld ?_; rotate_left; focus (intro w hSw; (try dsimp only at hSw); go_simp; (try with_reducible rfl); done))
            try simp only [Act.put, List.setIfInBounds_toArray, List.set_cons_succ]
            try simp only [List.set_cons_zero]
            refine wpAnyH_done (by kernel_rfl) ?_ _
            have HNE := hid (eat_off_box HV11.out HE11.out)
            have HGN : Hid (GC ((wc11.setCell ⟨Z3.heap.size, 0, none⟩ (.int .i64 m)).setCell ⟨Z3.heap.size, 1, none⟩ (.slice a11 E11.length c11)) (Z3.heap.size) m a11 E11.length c11 E11) :=
              ⟨cell_of_heap (two_putT HV11.out) 0, cell_of_heap (two_putT HV11.out) 1, (HE11.out.set (p := ⟨Z3.heap.size, 0, none⟩) HNE.out _).set (p := ⟨Z3.heap.size, 1, none⟩) HNE.out _⟩
            have HBN : Hid (Below w5.heap.size w5 ((wc11.setCell ⟨Z3.heap.size, 0, none⟩ (.int .i64 m)).setCell ⟨Z3.heap.size, 1, none⟩ (.slice a11 E11.length c11))) := (HB11.out.setCell (p := ⟨Z3.heap.size, 0, none⟩) HVG9.out _).setCell (p := ⟨Z3.heap.size, 1, none⟩) HVG9.out _
            clear hHeld
            go_wp2_with fail
            go_meet
            exact ⟨_, _, _, _, rfl, rfl, HGN, HSL11.out, HSP11.out, HBN.out⟩
          next =>
           go_simp
           obtain ⟨Z12, hZ⟩ := ex_eq (wa2.alloc (zeroG))
           rw [← hZ]
           have HB12 : Hid (Below w5.heap.size w5 Z12) := by rw [hZ]; exact HB2.out.alloc HB2.out.size _
           have HV12 : Hid (Z12.heap[wa2.heap.size]? = some zeroG) := by rw [hZ]; exact heap_alloc_new _ _
           have HVG12 : Hid (w5.heap.size ≤ wa2.heap.size) := by show _ ≤ _; exact HB2.out.size
           have HM12 : Hid (some (wa2.heap.size) ≠ (Value.ownBlock v2)) := fun e => by
             have h := (HO2.out.lt _ e.symm).2
             simp at h
           have HO12 : Hid (Z12.ownsRow w5.heap.size 40 2 v2 K (cellsE ys)) := by
             show World.ownsRow _ _ _ _ _ _ _
             rw [hZ]; exact HO2.out.alloc _
           clear hZ
           refine hK.out _ _ (HS11.out _ HB12.out) (fun hHeld => ?_)
           clear hK KK
           try simp only [Act.put, List.setIfInBounds_toArray, List.set_cons_succ]
           try simp only [List.set_cons_zero]
           refine wpAnyH_ready (rs := [27]) (by kernel_rfl) (by simp) ?_
           refine AllReadyH.cons (o := _) rfl (fun KK hK => ?_) AllReadyH.nil
           go_simp
           obtain ⟨Z13, hZ⟩ := ex_eq (Z12.alloc (sixE a b c))
           rw [← hZ]
           have HB13 : Hid (Below w5.heap.size w5 Z13) := by rw [hZ]; exact HB12.out.alloc HB12.out.size _
           have HV13 : Hid (Z13.heap[wa2.heap.size]? = some zeroG) := by rw [hZ]; exact keepT HV12.out (below_one _ _)
           have HC13 : Hid (Z13.heap[Z12.heap.size]? = some (sixE a b c)) := by rw [hZ]; exact heap_alloc_new _ _
           have HN13 : Hid (some (Z12.heap.size) ≠ (Value.ownBlock v2)) := fun e => by
             have h := (HO12.out.lt _ e.symm).2
             simp at h
           have HO13 : Hid (Z13.ownsRow w5.heap.size 40 2 v2 K (cellsE ys)) := by
             show World.ownsRow _ _ _ _ _ _ _
             rw [hZ]; exact HO12.out.alloc _
           clear hZ
           refine hK.out _ _ (HS11.out _ HB13.out) (fun hHeld => ?_)
           clear hK KK
           try simp only [Act.put, List.setIfInBounds_toArray, List.set_cons_succ]
           try simp only [List.set_cons_zero]
           refine wpAnyH_ready (rs := [28]) (by kernel_rfl) (by simp) ?_
           refine AllReadyH.cons (o := _) rfl (fun KK hK => ?_) AllReadyH.nil
           refine step_append_any _ rfl (.tmp 94) (.tmp 116) 22 rfl w5.heap.size 40 i0 _ 2 16 Try.underlying22 hi0 hz0 hz1 hz2 rfl (by decide) v2 K (cellsE ys) (by simp [Act.eval]) HO13.out (some ⟨Z12.heap.size, 0, none⟩) 3 3 (sixL a b c) (by simp [Act.eval]) (fun h => by cases h) rfl (news_blkT HC13.out) HO6.out (by unfold maxLen; omega) (by omega) HB13.out.size ?_
           intro v14 wa14 hown hgrow hat
           have HB14 : Hid (Below w5.heap.size w5 wa14) := Below.grown HB13.out hgrow HB13.out.size (fun j hj => (HO13.out.lt j hj).1)
           have HV14 : Hid (wa14.heap[wa2.heap.size]? = some zeroG) := (hgrow.block _ (Array.getElem?_eq_some_iff.1 HV13.out).1 HM12.out).trans HV13.out
           obtain ⟨aa14, ca14, hv14, _, hea14⟩ := eat_own (es := P3) (by
             have h := hown
             have e : cellsE P3 = cellsE ys ++ sixL a b c := by rw [HP3.out]; exact cellsE_three ys a b c
             rw [e, HP3L.out]; exact h)
           subst hv14
           have HEA14 := hid hea14
           clear hea14
           clear hown hgrow hat
           refine hK.out _ _ (HS11.out _ HB14.out) (fun hHeld => ?_)
           clear hK KK
           try simp only [Act.put, List.setIfInBounds_toArray]
           try simp only [List.set_cons_zero]
           refine wpAnyH_ready (rs := [29]) (by kernel_rfl) (by simp) ?_
           refine AllReadyH.cons (o := _) rfl (fun KK hK => ?_) AllReadyH.nil
           go_simp
           refine (CN.out aa14 ca14 _ HEA14.out).mono ?_
           rintro e wc15 ⟨v, rfl, er15, N15, E15, a15, c15, rfl, ⟨rfl, rfl, hsp⟩, hsl15, hea15, hb15⟩
           have HB15 : Hid (Below w5.heap.size w5 wc15) := HB14.out.trans (hb15.mono HB14.out.size)
           have HE15 := hid hea15
           have HSL15 := hid hsl15
           have HSP15 := hid hsp
           have HV15 : Hid (wc15.heap[wa2.heap.size]? = some zeroG) := (hb15.block _ (Array.getElem?_eq_some_iff.1 HV14.out).1).trans HV14.out
           clear hb15 hea15 hsl15 hsp
           have z0 := cell_of_heap HV15.out 0
           have z1 := cell_of_heap HV15.out 1
           have zf0 := frozen_of_heap HV15.out 0
           have zf1 := frozen_of_heap HV15.out 1
           refine hK.out _ _ (HS11.out _ HB15.out) (fun hHeld => ?_)
           clear hK KK
           try simp only [Act.put, List.setIfInBounds_toArray, List.set_cons_succ]
           try simp only [List.set_cons_zero]
           (refine takeW (i := 30) (dst := some 88) (v := ?_) rfl rfl (by kernel_rfl) (by kernel_rfl) (by kernel_rfl) (fun _ _ _ h => h) (Or.inl ⟨by rfl, ?_⟩) hHeld ?_; rotate_left; focus (intro w hSw; (try dsimp only at hSw); go_simp; (try with_reducible rfl); done))
           try simp only [Act.put, List.setIfInBounds_toArray, List.set_cons_zero, List.set_cons_succ]
           (refine takeW (i := 31) (dst := some 119) (v := ?_) rfl rfl (by kernel_rfl) (by kernel_rfl) (by kernel_rfl) (fun _ _ _ h => h) (Or.inl ⟨by rfl, ?_⟩) hHeld ?_; rotate_left; focus (intro w hSw; (try dsimp only at hSw); go_simp; (try with_reducible rfl); done))
           try simp only [Act.put, List.setIfInBounds_toArray, List.set_cons_zero, List.set_cons_succ]
           (refine takeW (i := 32) (dst := some 120) (v := ?_) rfl rfl (by kernel_rfl) (by kernel_rfl) (by kernel_rfl) (fun _ _ _ h => h) (Or.inl ⟨by rfl, ?_⟩) hHeld ?_; rotate_left; focus (intro w hSw; (try dsimp only at hSw); go_simp; (try with_reducible rfl); done))
           try simp only [Act.put, List.setIfInBounds_toArray, List.set_cons_zero, List.set_cons_succ]
           refine wpAnyH_ready (rs := [34]) (by kernel_rfl) (by simp) ?_
           refine AllReadyH.cons (o := _) rfl (fun KK hK => ?_) AllReadyH.nil
           go_simp
           refine hK.out _ _ (HS11.out _ ((HB15.out.setCell (p := ⟨wa2.heap.size, 0, none⟩) HVG12.out _).setCell (p := ⟨wa2.heap.size, 1, none⟩) HVG12.out _)) (fun hHeld => ?_)
           clear hK KK
           try simp only [Act.put, List.setIfInBounds_toArray, List.set_cons_succ]
           try simp only [List.set_cons_zero]
           (refine takeW (i := 35) (dst := some 9) (v := ?_) rfl rfl (by kernel_rfl) (by kernel_rfl) (by kernel_rfl) (fun _ _ _ h => h) (Or.inl ⟨by rfl, ?_⟩) hHeld ?_; rotate_left; focus (intro w hSw; (try dsimp only at hSw); go_simp; (try with_reducible rfl); done))
           try simp only [Act.put, List.setIfInBounds_toArray, List.set_cons_succ]
           try simp only [List.set_cons_zero]
           refine wpAnyH_done (by kernel_rfl) ?_ _
           have HNE := hid (eat_off_box HV15.out HE15.out)
           have HGN : Hid (GC ((wc15.setCell ⟨wa2.heap.size, 0, none⟩ (.int .i64 m)).setCell ⟨wa2.heap.size, 1, none⟩ (.slice a15 E15.length c15)) (wa2.heap.size) m a15 E15.length c15 E15) :=
             ⟨cell_of_heap (two_putT HV15.out) 0, cell_of_heap (two_putT HV15.out) 1, (HE15.out.set (p := ⟨wa2.heap.size, 0, none⟩) HNE.out _).set (p := ⟨wa2.heap.size, 1, none⟩) HNE.out _⟩
           have HBN : Hid (Below w5.heap.size w5 ((wc15.setCell ⟨wa2.heap.size, 0, none⟩ (.int .i64 m)).setCell ⟨wa2.heap.size, 1, none⟩ (.slice a15 E15.length c15))) := (HB15.out.setCell (p := ⟨wa2.heap.size, 0, none⟩) HVG12.out _).setCell (p := ⟨wa2.heap.size, 1, none⟩) HVG12.out _
           clear hHeld
           go_wp2_with fail
           go_meet
           exact ⟨_, _, _, _, rfl, rfl, HGN, HSL15.out, HSP15.out, HBN.out⟩
         next =>
          go_simp
          obtain ⟨Z16, hZ⟩ := ex_eq (Z1.alloc (sixE a b c))
          rw [← hZ]
          have HB16 : Hid (Below w5.heap.size w5 Z16) := by rw [hZ]; exact HB1.out.alloc HB1.out.size _
          have HC16 : Hid (Z16.heap[Z1.heap.size]? = some (sixE a b c)) := by rw [hZ]; exact heap_alloc_new _ _
          have HN16 : Hid (some (Z1.heap.size) ≠ (Value.ownBlock (.slice (some ⟨w5.heap.size, 0, none⟩) 0 0))) := fun e => by
            have h := (HO1.out.lt _ e.symm).2
            simp at h
          have HO16 : Hid (Z16.ownsRow w5.heap.size 40 2 (.slice (some ⟨w5.heap.size, 0, none⟩) 0 0) 0 []) := by
            show World.ownsRow _ _ _ _ _ _ _
            rw [hZ]; exact HO1.out.alloc _
          clear hZ
          refine hK.out _ _ (HS11.out _ HB16.out) (fun hHeld => ?_)
          clear hK KK
          try simp only [Act.put, List.setIfInBounds_toArray, List.set_cons_succ]
          try simp only [List.set_cons_zero]
          refine wpAnyH_ready (rs := [5, 33]) (by kernel_rfl) (by simp) ?_
          refine AllReadyH.cons (o := _) rfl (fun KK hK => ?_) (AllReadyH.cons (o := _) rfl (fun KK hK => ?_) AllReadyH.nil)
          next =>
           refine step_append_any _ rfl (.tmp 91) (.tmp 93) 22 rfl w5.heap.size 40 i0 _ 2 16 Try.underlying22 hi0 hz0 hz1 hz2 rfl (by decide) (.slice (some ⟨w5.heap.size, 0, none⟩) 0 0) 0 [] (by simp [Act.eval]) HO16.out a2 K c2 (cellsE ys) (by simp [Act.eval]) HNIL.out HCL.out (HNY.out Z16 HB16.out) HOY.out (by unfold maxLen; omega) (by omega) HB16.out.size ?_
           intro v17 wa17 hown hgrow hat
           have HB17 : Hid (Below w5.heap.size w5 wa17) := Below.grown HB16.out hgrow HB16.out.size (fun j hj => (HO16.out.lt j hj).1)
           have HC17 : Hid (wa17.heap[Z1.heap.size]? = some (sixE a b c)) := (hgrow.block _ (Array.getElem?_eq_some_iff.1 HC16.out).1 HN16.out).trans HC16.out
           have HO17 : Hid (wa17.ownsRow w5.heap.size 40 2 v17 K (cellsE ys)) := by
             show World.ownsRow _ _ _ _ _ _ _
             have h := hown
             rw [Nat.zero_add, List.nil_append] at h
             exact h
           have HN17 : Hid (some (Z1.heap.size) ≠ (Value.ownBlock v17)) := by
             show _ ≠ _
             rcases hat with h | h
             · rw [h]; exact HN16.out
             · rw [h]
               have h2 := (Array.getElem?_eq_some_iff.1 HC16.out).1
               intro e
               simp at e h2
               omega
           clear hown hgrow hat
           refine hK.out _ _ (HS11.out _ HB17.out) (fun hHeld => ?_)
           clear hK KK
           try simp only [Act.put, List.setIfInBounds_toArray]
           try simp only [List.set_cons_zero]
           refine wpAnyH_ready (rs := [28, 33]) (by kernel_rfl) (by simp) ?_
           refine AllReadyH.cons (o := _) rfl (fun KK hK => ?_) (AllReadyH.cons (o := _) rfl (fun KK hK => ?_) AllReadyH.nil)
           next =>
            refine step_append_any _ rfl (.tmp 94) (.tmp 116) 22 rfl w5.heap.size 40 i0 _ 2 16 Try.underlying22 hi0 hz0 hz1 hz2 rfl (by decide) v17 K (cellsE ys) (by simp [Act.eval]) HO17.out (some ⟨Z1.heap.size, 0, none⟩) 3 3 (sixL a b c) (by simp [Act.eval]) (fun h => by cases h) rfl (news_blkT HC17.out) HO6.out (by unfold maxLen; omega) (by omega) HB17.out.size ?_
            intro v18 wa18 hown hgrow hat
            have HB18 : Hid (Below w5.heap.size w5 wa18) := Below.grown HB17.out hgrow HB17.out.size (fun j hj => (HO17.out.lt j hj).1)
            obtain ⟨aa18, ca18, hv18, _, hea18⟩ := eat_own (es := P3) (by
              have h := hown
              have e : cellsE P3 = cellsE ys ++ sixL a b c := by rw [HP3.out]; exact cellsE_three ys a b c
              rw [e, HP3L.out]; exact h)
            subst hv18
            have HEA18 := hid hea18
            clear hea18
            clear hown hgrow hat
            refine hK.out _ _ (HS11.out _ HB18.out) (fun hHeld => ?_)
            clear hK KK
            try simp only [Act.put]
            try simp only [List.set_cons_zero]
            refine wpAnyH_ready (rs := [29, 33]) (by kernel_rfl) (by simp) ?_
            refine AllReadyH.cons (o := _) rfl (fun KK hK => ?_) (AllReadyH.cons (o := _) rfl (fun KK hK => ?_) AllReadyH.nil)
            next =>
             go_simp
             refine (CN.out aa18 ca18 _ HEA18.out).mono ?_
             rintro e wc19 ⟨v, rfl, er19, N19, E19, a19, c19, rfl, ⟨rfl, rfl, hsp⟩, hsl19, hea19, hb19⟩
             have HB19 : Hid (Below w5.heap.size w5 wc19) := HB18.out.trans (hb19.mono HB18.out.size)
             have HE19 := hid hea19
             have HSL19 := hid hsl19
             have HSP19 := hid hsp
             clear hb19 hea19 hsl19 hsp
             refine hK.out _ _ (HS11.out _ HB19.out) (fun hHeld => ?_)
             clear hK KK
             try simp only [Act.put, List.setIfInBounds_toArray, List.set_cons_succ]
             try simp only [List.set_cons_zero]
             (refine takeW (i := 30) (dst := some 88) (v := ?_) rfl rfl (by kernel_rfl) (by kernel_rfl) (by kernel_rfl) (fun _ _ _ h => h) (Or.inl ⟨by rfl, ?_⟩) hHeld ?_; rotate_left; focus (intro w hSw; (try dsimp only at hSw); go_simp; (try with_reducible rfl); done))
             try simp only [Act.put, List.setIfInBounds_toArray, List.set_cons_zero, List.set_cons_succ]
             (refine takeW (i := 31) (dst := some 119) (v := ?_) rfl rfl (by kernel_rfl) (by kernel_rfl) (by kernel_rfl) (fun _ _ _ h => h) (Or.inl ⟨by rfl, ?_⟩) hHeld ?_; rotate_left; focus (intro w hSw; (try dsimp only at hSw); go_simp; (try with_reducible rfl); done))
             try simp only [Act.put, List.setIfInBounds_toArray, List.set_cons_zero, List.set_cons_succ]
             (refine takeW (i := 32) (dst := some 120) (v := ?_) rfl rfl (by kernel_rfl) (by kernel_rfl) (by kernel_rfl) (fun _ _ _ h => h) (Or.inl ⟨by rfl, ?_⟩) hHeld ?_; rotate_left; focus (intro w hSw; (try dsimp only at hSw); go_simp; (try with_reducible rfl); done))
             try simp only [Act.put, List.setIfInBounds_toArray, List.set_cons_zero, List.set_cons_succ]
             refine wpAnyH_ready (rs := [33]) (by kernel_rfl) (by simp) ?_
             refine AllReadyH.cons (o := _) rfl (fun KK hK => ?_) AllReadyH.nil
             go_simp
             obtain ⟨Z20, hZ⟩ := ex_eq (wc19.alloc (zeroG))
             rw [← hZ]
             have HB20 : Hid (Below w5.heap.size w5 Z20) := by rw [hZ]; exact HB19.out.alloc HB19.out.size _
             have HV20 : Hid (Z20.heap[wc19.heap.size]? = some zeroG) := by rw [hZ]; exact heap_alloc_new _ _
             have HVG20 : Hid (w5.heap.size ≤ wc19.heap.size) := by show _ ≤ _; exact HB19.out.size
             have HE20 : Hid (EAt Z20 a19 E19) := by rw [hZ]; exact HE19.out.below (below_one _ _)
             clear hZ
             have z0 := cell_of_heap HV20.out 0
             have z1 := cell_of_heap HV20.out 1
             have zf0 := frozen_of_heap HV20.out 0
             have zf1 := frozen_of_heap HV20.out 1
             refine hK.out _ _ (HS11.out _ HB20.out) (fun hHeld => ?_)
             clear hK KK
             try simp only [Act.put, List.setIfInBounds_toArray, List.set_cons_succ]
             try simp only [List.set_cons_zero]
             refine wpAnyH_ready (rs := [34]) (by kernel_rfl) (by simp) ?_
             refine AllReadyH.cons (o := _) rfl (fun KK hK => ?_) AllReadyH.nil
             go_simp
             refine hK.out _ _ (HS11.out _ ((HB20.out.setCell (p := ⟨wc19.heap.size, 0, none⟩) HVG20.out _).setCell (p := ⟨wc19.heap.size, 1, none⟩) HVG20.out _)) (fun hHeld => ?_)
             clear hK KK
             try simp only [Act.put, List.setIfInBounds_toArray, List.set_cons_succ]
             try simp only [List.set_cons_zero]
             (refine takeW (i := 35) (dst := some 9) (v := ?_) rfl rfl (by kernel_rfl) (by kernel_rfl) (by kernel_rfl) (fun _ _ _ h => h) (Or.inl ⟨by rfl, ?_⟩) hHeld ?_; rotate_left; focus (intro w hSw; (try dsimp only at hSw); go_simp; (try with_reducible rfl); done))
             try simp only [Act.put, List.setIfInBounds_toArray, List.set_cons_succ]
             try simp only [List.set_cons_zero]
             refine wpAnyH_done (by kernel_rfl) ?_ _
             have HNE := hid (eat_off_box HV20.out HE20.out)
             have HGN : Hid (GC ((Z20.setCell ⟨wc19.heap.size, 0, none⟩ (.int .i64 m)).setCell ⟨wc19.heap.size, 1, none⟩ (.slice a19 E19.length c19)) (wc19.heap.size) m a19 E19.length c19 E19) :=
               ⟨cell_of_heap (two_putT HV20.out) 0, cell_of_heap (two_putT HV20.out) 1, (HE20.out.set (p := ⟨wc19.heap.size, 0, none⟩) HNE.out _).set (p := ⟨wc19.heap.size, 1, none⟩) HNE.out _⟩
             have HBN : Hid (Below w5.heap.size w5 ((Z20.setCell ⟨wc19.heap.size, 0, none⟩ (.int .i64 m)).setCell ⟨wc19.heap.size, 1, none⟩ (.slice a19 E19.length c19))) := (HB20.out.setCell (p := ⟨wc19.heap.size, 0, none⟩) HVG20.out _).setCell (p := ⟨wc19.heap.size, 1, none⟩) HVG20.out _
             clear hHeld
             go_wp2_with fail
             go_meet
             exact ⟨_, _, _, _, rfl, rfl, HGN, HSL19.out, HSP19.out, HBN.out⟩
            next =>
             go_simp
             obtain ⟨Z21, hZ⟩ := ex_eq (wa18.alloc (zeroG))
             rw [← hZ]
             have HB21 : Hid (Below w5.heap.size w5 Z21) := by rw [hZ]; exact HB18.out.alloc HB18.out.size _
             have HV21 : Hid (Z21.heap[wa18.heap.size]? = some zeroG) := by rw [hZ]; exact heap_alloc_new _ _
             have HVG21 : Hid (w5.heap.size ≤ wa18.heap.size) := by show _ ≤ _; exact HB18.out.size
             have HEA21 : Hid (EAt Z21 aa18 P3) := by rw [hZ]; exact HEA18.out.below (below_one _ _)
             clear hZ
             refine hK.out _ _ (HS11.out _ HB21.out) (fun hHeld => ?_)
             clear hK KK
             try simp only [Act.put, List.setIfInBounds_toArray, List.set_cons_succ]
             try simp only [List.set_cons_zero]
             refine wpAnyH_ready (rs := [29]) (by kernel_rfl) (by simp) ?_
             refine AllReadyH.cons (o := _) rfl (fun KK hK => ?_) AllReadyH.nil
             go_simp
             refine (CN.out aa18 ca18 _ HEA21.out).mono ?_
             rintro e wc22 ⟨v, rfl, er22, N22, E22, a22, c22, rfl, ⟨rfl, rfl, hsp⟩, hsl22, hea22, hb22⟩
             have HB22 : Hid (Below w5.heap.size w5 wc22) := HB21.out.trans (hb22.mono HB21.out.size)
             have HE22 := hid hea22
             have HSL22 := hid hsl22
             have HSP22 := hid hsp
             have HV22 : Hid (wc22.heap[wa18.heap.size]? = some zeroG) := (hb22.block _ (Array.getElem?_eq_some_iff.1 HV21.out).1).trans HV21.out
             clear hb22 hea22 hsl22 hsp
             have z0 := cell_of_heap HV22.out 0
             have z1 := cell_of_heap HV22.out 1
             have zf0 := frozen_of_heap HV22.out 0
             have zf1 := frozen_of_heap HV22.out 1
             refine hK.out _ _ (HS11.out _ HB22.out) (fun hHeld => ?_)
             clear hK KK
             try simp only [Act.put, List.setIfInBounds_toArray, List.set_cons_succ]
             try simp only [List.set_cons_zero]
             (refine takeW (i := 30) (dst := some 88) (v := ?_) rfl rfl (by kernel_rfl) (by kernel_rfl) (by kernel_rfl) (fun _ _ _ h => h) (Or.inl ⟨by rfl, ?_⟩) hHeld ?_; rotate_left; focus (intro w hSw; (try dsimp only at hSw); go_simp; (try with_reducible rfl); done))
             try simp only [Act.put, List.setIfInBounds_toArray, List.set_cons_zero, List.set_cons_succ]
             (refine takeW (i := 31) (dst := some 119) (v := ?_) rfl rfl (by kernel_rfl) (by kernel_rfl) (by kernel_rfl) (fun _ _ _ h => h) (Or.inl ⟨by rfl, ?_⟩) hHeld ?_; rotate_left; focus (intro w hSw; (try dsimp only at hSw); go_simp; (try with_reducible rfl); done))
             try simp only [Act.put, List.setIfInBounds_toArray, List.set_cons_zero, List.set_cons_succ]
             (refine takeW (i := 32) (dst := some 120) (v := ?_) rfl rfl (by kernel_rfl) (by kernel_rfl) (by kernel_rfl) (fun _ _ _ h => h) (Or.inl ⟨by rfl, ?_⟩) hHeld ?_; rotate_left; focus (intro w hSw; (try dsimp only at hSw); go_simp; (try with_reducible rfl); done))
             try simp only [Act.put, List.setIfInBounds_toArray, List.set_cons_zero, List.set_cons_succ]
             refine wpAnyH_ready (rs := [34]) (by kernel_rfl) (by simp) ?_
             refine AllReadyH.cons (o := _) rfl (fun KK hK => ?_) AllReadyH.nil
             go_simp
             refine hK.out _ _ (HS11.out _ ((HB22.out.setCell (p := ⟨wa18.heap.size, 0, none⟩) HVG21.out _).setCell (p := ⟨wa18.heap.size, 1, none⟩) HVG21.out _)) (fun hHeld => ?_)
             clear hK KK
             try simp only [Act.put, List.setIfInBounds_toArray, List.set_cons_succ]
             try simp only [List.set_cons_zero]
             (refine takeW (i := 35) (dst := some 9) (v := ?_) rfl rfl (by kernel_rfl) (by kernel_rfl) (by kernel_rfl) (fun _ _ _ h => h) (Or.inl ⟨by rfl, ?_⟩) hHeld ?_; rotate_left; focus (intro w hSw; (try dsimp only at hSw); go_simp; (try with_reducible rfl); done))
             try simp only [Act.put, List.setIfInBounds_toArray, List.set_cons_succ]
             try simp only [List.set_cons_zero]
             refine wpAnyH_done (by kernel_rfl) ?_ _
             have HNE := hid (eat_off_box HV22.out HE22.out)
             have HGN : Hid (GC ((wc22.setCell ⟨wa18.heap.size, 0, none⟩ (.int .i64 m)).setCell ⟨wa18.heap.size, 1, none⟩ (.slice a22 E22.length c22)) (wa18.heap.size) m a22 E22.length c22 E22) :=
               ⟨cell_of_heap (two_putT HV22.out) 0, cell_of_heap (two_putT HV22.out) 1, (HE22.out.set (p := ⟨wa18.heap.size, 0, none⟩) HNE.out _).set (p := ⟨wa18.heap.size, 1, none⟩) HNE.out _⟩
             have HBN : Hid (Below w5.heap.size w5 ((wc22.setCell ⟨wa18.heap.size, 0, none⟩ (.int .i64 m)).setCell ⟨wa18.heap.size, 1, none⟩ (.slice a22 E22.length c22))) := (HB22.out.setCell (p := ⟨wa18.heap.size, 0, none⟩) HVG21.out _).setCell (p := ⟨wa18.heap.size, 1, none⟩) HVG21.out _
             clear hHeld
             go_wp2_with fail
             go_meet
             exact ⟨_, _, _, _, rfl, rfl, HGN, HSL22.out, HSP22.out, HBN.out⟩
           next =>
            go_simp
            obtain ⟨Z23, hZ⟩ := ex_eq (wa17.alloc (zeroG))
            rw [← hZ]
            have HB23 : Hid (Below w5.heap.size w5 Z23) := by rw [hZ]; exact HB17.out.alloc HB17.out.size _
            have HC23 : Hid (Z23.heap[Z1.heap.size]? = some (sixE a b c)) := by rw [hZ]; exact keepT HC17.out (below_one _ _)
            have HV23 : Hid (Z23.heap[wa17.heap.size]? = some zeroG) := by rw [hZ]; exact heap_alloc_new _ _
            have HVG23 : Hid (w5.heap.size ≤ wa17.heap.size) := by show _ ≤ _; exact HB17.out.size
            have HM23 : Hid (some (wa17.heap.size) ≠ (Value.ownBlock v17)) := fun e => by
              have h := (HO17.out.lt _ e.symm).2
              simp at h
            have HO23 : Hid (Z23.ownsRow w5.heap.size 40 2 v17 K (cellsE ys)) := by
              show World.ownsRow _ _ _ _ _ _ _
              rw [hZ]; exact HO17.out.alloc _
            clear hZ
            refine hK.out _ _ (HS11.out _ HB23.out) (fun hHeld => ?_)
            clear hK KK
            try simp only [Act.put, List.setIfInBounds_toArray, List.set_cons_succ]
            try simp only [List.set_cons_zero]
            refine wpAnyH_ready (rs := [28]) (by kernel_rfl) (by simp) ?_
            refine AllReadyH.cons (o := _) rfl (fun KK hK => ?_) AllReadyH.nil
            refine step_append_any _ rfl (.tmp 94) (.tmp 116) 22 rfl w5.heap.size 40 i0 _ 2 16 Try.underlying22 hi0 hz0 hz1 hz2 rfl (by decide) v17 K (cellsE ys) (by simp [Act.eval]) HO23.out (some ⟨Z1.heap.size, 0, none⟩) 3 3 (sixL a b c) (by simp [Act.eval]) (fun h => by cases h) rfl (news_blkT HC23.out) HO6.out (by unfold maxLen; omega) (by omega) HB23.out.size ?_
            intro v24 wa24 hown hgrow hat
            have HB24 : Hid (Below w5.heap.size w5 wa24) := Below.grown HB23.out hgrow HB23.out.size (fun j hj => (HO23.out.lt j hj).1)
            have HV24 : Hid (wa24.heap[wa17.heap.size]? = some zeroG) := (hgrow.block _ (Array.getElem?_eq_some_iff.1 HV23.out).1 HM23.out).trans HV23.out
            obtain ⟨aa24, ca24, hv24, _, hea24⟩ := eat_own (es := P3) (by
              have h := hown
              have e : cellsE P3 = cellsE ys ++ sixL a b c := by rw [HP3.out]; exact cellsE_three ys a b c
              rw [e, HP3L.out]; exact h)
            subst hv24
            have HEA24 := hid hea24
            clear hea24
            clear hown hgrow hat
            refine hK.out _ _ (HS11.out _ HB24.out) (fun hHeld => ?_)
            clear hK KK
            try simp only [Act.put, List.setIfInBounds_toArray]
            try simp only [List.set_cons_zero]
            refine wpAnyH_ready (rs := [29]) (by kernel_rfl) (by simp) ?_
            refine AllReadyH.cons (o := _) rfl (fun KK hK => ?_) AllReadyH.nil
            go_simp
            refine (CN.out aa24 ca24 _ HEA24.out).mono ?_
            rintro e wc25 ⟨v, rfl, er25, N25, E25, a25, c25, rfl, ⟨rfl, rfl, hsp⟩, hsl25, hea25, hb25⟩
            have HB25 : Hid (Below w5.heap.size w5 wc25) := HB24.out.trans (hb25.mono HB24.out.size)
            have HE25 := hid hea25
            have HSL25 := hid hsl25
            have HSP25 := hid hsp
            have HV25 : Hid (wc25.heap[wa17.heap.size]? = some zeroG) := (hb25.block _ (Array.getElem?_eq_some_iff.1 HV24.out).1).trans HV24.out
            clear hb25 hea25 hsl25 hsp
            have z0 := cell_of_heap HV25.out 0
            have z1 := cell_of_heap HV25.out 1
            have zf0 := frozen_of_heap HV25.out 0
            have zf1 := frozen_of_heap HV25.out 1
            refine hK.out _ _ (HS11.out _ HB25.out) (fun hHeld => ?_)
            clear hK KK
            try simp only [Act.put, List.setIfInBounds_toArray, List.set_cons_succ]
            try simp only [List.set_cons_zero]
            (refine takeW (i := 30) (dst := some 88) (v := ?_) rfl rfl (by kernel_rfl) (by kernel_rfl) (by kernel_rfl) (fun _ _ _ h => h) (Or.inl ⟨by rfl, ?_⟩) hHeld ?_; rotate_left; focus (intro w hSw; (try dsimp only at hSw); go_simp; (try with_reducible rfl); done))
            try simp only [Act.put, List.setIfInBounds_toArray, List.set_cons_zero, List.set_cons_succ]
            (refine takeW (i := 31) (dst := some 119) (v := ?_) rfl rfl (by kernel_rfl) (by kernel_rfl) (by kernel_rfl) (fun _ _ _ h => h) (Or.inl ⟨by rfl, ?_⟩) hHeld ?_; rotate_left; focus (intro w hSw; (try dsimp only at hSw); go_simp; (try with_reducible rfl); done))
            try simp only [Act.put, List.setIfInBounds_toArray, List.set_cons_zero, List.set_cons_succ]
            (refine takeW (i := 32) (dst := some 120) (v := ?_) rfl rfl (by kernel_rfl) (by kernel_rfl) (by kernel_rfl) (fun _ _ _ h => h) (Or.inl ⟨by rfl, ?_⟩) hHeld ?_; rotate_left; focus (intro w hSw; (try dsimp only at hSw); go_simp; (try with_reducible rfl); done))
            try simp only [Act.put, List.setIfInBounds_toArray, List.set_cons_zero, List.set_cons_succ]
            refine wpAnyH_ready (rs := [34]) (by kernel_rfl) (by simp) ?_
            refine AllReadyH.cons (o := _) rfl (fun KK hK => ?_) AllReadyH.nil
            go_simp
            refine hK.out _ _ (HS11.out _ ((HB25.out.setCell (p := ⟨wa17.heap.size, 0, none⟩) HVG23.out _).setCell (p := ⟨wa17.heap.size, 1, none⟩) HVG23.out _)) (fun hHeld => ?_)
            clear hK KK
            try simp only [Act.put, List.setIfInBounds_toArray, List.set_cons_succ]
            try simp only [List.set_cons_zero]
            (refine takeW (i := 35) (dst := some 9) (v := ?_) rfl rfl (by kernel_rfl) (by kernel_rfl) (by kernel_rfl) (fun _ _ _ h => h) (Or.inl ⟨by rfl, ?_⟩) hHeld ?_; rotate_left; focus (intro w hSw; (try dsimp only at hSw); go_simp; (try with_reducible rfl); done))
            try simp only [Act.put, List.setIfInBounds_toArray, List.set_cons_succ]
            try simp only [List.set_cons_zero]
            refine wpAnyH_done (by kernel_rfl) ?_ _
            have HNE := hid (eat_off_box HV25.out HE25.out)
            have HGN : Hid (GC ((wc25.setCell ⟨wa17.heap.size, 0, none⟩ (.int .i64 m)).setCell ⟨wa17.heap.size, 1, none⟩ (.slice a25 E25.length c25)) (wa17.heap.size) m a25 E25.length c25 E25) :=
              ⟨cell_of_heap (two_putT HV25.out) 0, cell_of_heap (two_putT HV25.out) 1, (HE25.out.set (p := ⟨wa17.heap.size, 0, none⟩) HNE.out _).set (p := ⟨wa17.heap.size, 1, none⟩) HNE.out _⟩
            have HBN : Hid (Below w5.heap.size w5 ((wc25.setCell ⟨wa17.heap.size, 0, none⟩ (.int .i64 m)).setCell ⟨wa17.heap.size, 1, none⟩ (.slice a25 E25.length c25))) := (HB25.out.setCell (p := ⟨wa17.heap.size, 0, none⟩) HVG23.out _).setCell (p := ⟨wa17.heap.size, 1, none⟩) HVG23.out _
            clear hHeld
            go_wp2_with fail
            go_meet
            exact ⟨_, _, _, _, rfl, rfl, HGN, HSL25.out, HSP25.out, HBN.out⟩
          next =>
           go_simp
           obtain ⟨Z26, hZ⟩ := ex_eq (Z16.alloc (zeroG))
           rw [← hZ]
           have HB26 : Hid (Below w5.heap.size w5 Z26) := by rw [hZ]; exact HB16.out.alloc HB16.out.size _
           have HC26 : Hid (Z26.heap[Z1.heap.size]? = some (sixE a b c)) := by rw [hZ]; exact keepT HC16.out (below_one _ _)
           have HV26 : Hid (Z26.heap[Z16.heap.size]? = some zeroG) := by rw [hZ]; exact heap_alloc_new _ _
           have HVG26 : Hid (w5.heap.size ≤ Z16.heap.size) := by show _ ≤ _; exact HB16.out.size
           have HM26 : Hid (some (Z16.heap.size) ≠ (Value.ownBlock (.slice (some ⟨w5.heap.size, 0, none⟩) 0 0))) := fun e => by
             have h := (HO16.out.lt _ e.symm).2
             simp at h
           have HO26 : Hid (Z26.ownsRow w5.heap.size 40 2 (.slice (some ⟨w5.heap.size, 0, none⟩) 0 0) 0 []) := by
             show World.ownsRow _ _ _ _ _ _ _
             rw [hZ]; exact HO16.out.alloc _
           clear hZ
           refine hK.out _ _ (HS11.out _ HB26.out) (fun hHeld => ?_)
           clear hK KK
           try simp only [Act.put, List.setIfInBounds_toArray, List.set_cons_succ]
           try simp only [List.set_cons_zero]
           refine wpAnyH_ready (rs := [5]) (by kernel_rfl) (by simp) ?_
           refine AllReadyH.cons (o := _) rfl (fun KK hK => ?_) AllReadyH.nil
           refine step_append_any _ rfl (.tmp 91) (.tmp 93) 22 rfl w5.heap.size 40 i0 _ 2 16 Try.underlying22 hi0 hz0 hz1 hz2 rfl (by decide) (.slice (some ⟨w5.heap.size, 0, none⟩) 0 0) 0 [] (by simp [Act.eval]) HO26.out a2 K c2 (cellsE ys) (by simp [Act.eval]) HNIL.out HCL.out (HNY.out Z26 HB26.out) HOY.out (by unfold maxLen; omega) (by omega) HB26.out.size ?_
           intro v27 wa27 hown hgrow hat
           have HB27 : Hid (Below w5.heap.size w5 wa27) := Below.grown HB26.out hgrow HB26.out.size (fun j hj => (HO26.out.lt j hj).1)
           have HC27 : Hid (wa27.heap[Z1.heap.size]? = some (sixE a b c)) := (hgrow.block _ (Array.getElem?_eq_some_iff.1 HC26.out).1 HN16.out).trans HC26.out
           have HV27 : Hid (wa27.heap[Z16.heap.size]? = some zeroG) := (hgrow.block _ (Array.getElem?_eq_some_iff.1 HV26.out).1 HM26.out).trans HV26.out
           have HO27 : Hid (wa27.ownsRow w5.heap.size 40 2 v27 K (cellsE ys)) := by
             show World.ownsRow _ _ _ _ _ _ _
             have h := hown
             rw [Nat.zero_add, List.nil_append] at h
             exact h
           have HN27 : Hid (some (Z1.heap.size) ≠ (Value.ownBlock v27)) := by
             show _ ≠ _
             rcases hat with h | h
             · rw [h]; exact HN16.out
             · rw [h]
               have h2 := (Array.getElem?_eq_some_iff.1 HC26.out).1
               intro e
               simp at e h2
               omega
           have HM27 : Hid (some (Z16.heap.size) ≠ (Value.ownBlock v27)) := by
             show _ ≠ _
             rcases hat with h | h
             · rw [h]; exact HM26.out
             · rw [h]
               have h2 := (Array.getElem?_eq_some_iff.1 HV26.out).1
               intro e
               simp at e h2
               omega
           clear hown hgrow hat
           refine hK.out _ _ (HS11.out _ HB27.out) (fun hHeld => ?_)
           clear hK KK
           try simp only [Act.put, List.setIfInBounds_toArray]
           try simp only [List.set_cons_zero]
           refine wpAnyH_ready (rs := [28]) (by kernel_rfl) (by simp) ?_
           refine AllReadyH.cons (o := _) rfl (fun KK hK => ?_) AllReadyH.nil
           refine step_append_any _ rfl (.tmp 94) (.tmp 116) 22 rfl w5.heap.size 40 i0 _ 2 16 Try.underlying22 hi0 hz0 hz1 hz2 rfl (by decide) v27 K (cellsE ys) (by simp [Act.eval]) HO27.out (some ⟨Z1.heap.size, 0, none⟩) 3 3 (sixL a b c) (by simp [Act.eval]) (fun h => by cases h) rfl (news_blkT HC27.out) HO6.out (by unfold maxLen; omega) (by omega) HB27.out.size ?_
           intro v28 wa28 hown hgrow hat
           have HB28 : Hid (Below w5.heap.size w5 wa28) := Below.grown HB27.out hgrow HB27.out.size (fun j hj => (HO27.out.lt j hj).1)
           have HV28 : Hid (wa28.heap[Z16.heap.size]? = some zeroG) := (hgrow.block _ (Array.getElem?_eq_some_iff.1 HV27.out).1 HM27.out).trans HV27.out
           obtain ⟨aa28, ca28, hv28, _, hea28⟩ := eat_own (es := P3) (by
             have h := hown
             have e : cellsE P3 = cellsE ys ++ sixL a b c := by rw [HP3.out]; exact cellsE_three ys a b c
             rw [e, HP3L.out]; exact h)
           subst hv28
           have HEA28 := hid hea28
           clear hea28
           clear hown hgrow hat
           refine hK.out _ _ (HS11.out _ HB28.out) (fun hHeld => ?_)
           clear hK KK
           try simp only [Act.put]
           try simp only [List.set_cons_zero]
           refine wpAnyH_ready (rs := [29]) (by kernel_rfl) (by simp) ?_
           refine AllReadyH.cons (o := _) rfl (fun KK hK => ?_) AllReadyH.nil
           go_simp
           refine (CN.out aa28 ca28 _ HEA28.out).mono ?_
           rintro e wc29 ⟨v, rfl, er29, N29, E29, a29, c29, rfl, ⟨rfl, rfl, hsp⟩, hsl29, hea29, hb29⟩
           have HB29 : Hid (Below w5.heap.size w5 wc29) := HB28.out.trans (hb29.mono HB28.out.size)
           have HE29 := hid hea29
           have HSL29 := hid hsl29
           have HSP29 := hid hsp
           have HV29 : Hid (wc29.heap[Z16.heap.size]? = some zeroG) := (hb29.block _ (Array.getElem?_eq_some_iff.1 HV28.out).1).trans HV28.out
           clear hb29 hea29 hsl29 hsp
           have z0 := cell_of_heap HV29.out 0
           have z1 := cell_of_heap HV29.out 1
           have zf0 := frozen_of_heap HV29.out 0
           have zf1 := frozen_of_heap HV29.out 1
           refine hK.out _ _ (HS11.out _ HB29.out) (fun hHeld => ?_)
           clear hK KK
           try simp only [Act.put, List.setIfInBounds_toArray, List.set_cons_succ]
           try simp only [List.set_cons_zero]
           (refine takeW (i := 30) (dst := some 88) (v := ?_) rfl rfl (by kernel_rfl) (by kernel_rfl) (by kernel_rfl) (fun _ _ _ h => h) (Or.inl ⟨by rfl, ?_⟩) hHeld ?_; rotate_left; focus (intro w hSw; (try dsimp only at hSw); go_simp; (try with_reducible rfl); done))
           try simp only [Act.put, List.setIfInBounds_toArray, List.set_cons_zero, List.set_cons_succ]
           (refine takeW (i := 31) (dst := some 119) (v := ?_) rfl rfl (by kernel_rfl) (by kernel_rfl) (by kernel_rfl) (fun _ _ _ h => h) (Or.inl ⟨by rfl, ?_⟩) hHeld ?_; rotate_left; focus (intro w hSw; (try dsimp only at hSw); go_simp; (try with_reducible rfl); done))
           try simp only [Act.put, List.setIfInBounds_toArray, List.set_cons_zero, List.set_cons_succ]
           (refine takeW (i := 32) (dst := some 120) (v := ?_) rfl rfl (by kernel_rfl) (by kernel_rfl) (by kernel_rfl) (fun _ _ _ h => h) (Or.inl ⟨by rfl, ?_⟩) hHeld ?_; rotate_left; focus (intro w hSw; (try dsimp only at hSw); go_simp; (try with_reducible rfl); done))
           try simp only [Act.put, List.setIfInBounds_toArray, List.set_cons_zero, List.set_cons_succ]
           refine wpAnyH_ready (rs := [34]) (by kernel_rfl) (by simp) ?_
           refine AllReadyH.cons (o := _) rfl (fun KK hK => ?_) AllReadyH.nil
           go_simp
           refine hK.out _ _ (HS11.out _ ((HB29.out.setCell (p := ⟨Z16.heap.size, 0, none⟩) HVG26.out _).setCell (p := ⟨Z16.heap.size, 1, none⟩) HVG26.out _)) (fun hHeld => ?_)
           clear hK KK
           try simp only [Act.put, List.setIfInBounds_toArray, List.set_cons_succ]
           try simp only [List.set_cons_zero]
           (refine takeW (i := 35) (dst := some 9) (v := ?_) rfl rfl (by kernel_rfl) (by kernel_rfl) (by kernel_rfl) (fun _ _ _ h => h) (Or.inl ⟨by rfl, ?_⟩) hHeld ?_; rotate_left; focus (intro w hSw; (try dsimp only at hSw); go_simp; (try with_reducible rfl); done))
           try simp only [Act.put, List.setIfInBounds_toArray, List.set_cons_succ]
           try simp only [List.set_cons_zero]
           refine wpAnyH_done (by kernel_rfl) ?_ _
           have HNE := hid (eat_off_box HV29.out HE29.out)
           have HGN : Hid (GC ((wc29.setCell ⟨Z16.heap.size, 0, none⟩ (.int .i64 m)).setCell ⟨Z16.heap.size, 1, none⟩ (.slice a29 E29.length c29)) (Z16.heap.size) m a29 E29.length c29 E29) :=
             ⟨cell_of_heap (two_putT HV29.out) 0, cell_of_heap (two_putT HV29.out) 1, (HE29.out.set (p := ⟨Z16.heap.size, 0, none⟩) HNE.out _).set (p := ⟨Z16.heap.size, 1, none⟩) HNE.out _⟩
           have HBN : Hid (Below w5.heap.size w5 ((wc29.setCell ⟨Z16.heap.size, 0, none⟩ (.int .i64 m)).setCell ⟨Z16.heap.size, 1, none⟩ (.slice a29 E29.length c29))) := (HB29.out.setCell (p := ⟨Z16.heap.size, 0, none⟩) HVG26.out _).setCell (p := ⟨Z16.heap.size, 1, none⟩) HVG26.out _
           clear hHeld
           go_wp2_with fail
           go_meet
           exact ⟨_, _, _, _, rfl, rfl, HGN, HSL29.out, HSP29.out, HBN.out⟩
         next =>
          go_simp
          obtain ⟨Z30, hZ⟩ := ex_eq (Z1.alloc (zeroG))
          rw [← hZ]
          have HB30 : Hid (Below w5.heap.size w5 Z30) := by rw [hZ]; exact HB1.out.alloc HB1.out.size _
          have HV30 : Hid (Z30.heap[Z1.heap.size]? = some zeroG) := by rw [hZ]; exact heap_alloc_new _ _
          have HVG30 : Hid (w5.heap.size ≤ Z1.heap.size) := by show _ ≤ _; exact HB1.out.size
          have HM30 : Hid (some (Z1.heap.size) ≠ (Value.ownBlock (.slice (some ⟨w5.heap.size, 0, none⟩) 0 0))) := fun e => by
            have h := (HO1.out.lt _ e.symm).2
            simp at h
          have HO30 : Hid (Z30.ownsRow w5.heap.size 40 2 (.slice (some ⟨w5.heap.size, 0, none⟩) 0 0) 0 []) := by
            show World.ownsRow _ _ _ _ _ _ _
            rw [hZ]; exact HO1.out.alloc _
          clear hZ
          refine hK.out _ _ (HS11.out _ HB30.out) (fun hHeld => ?_)
          clear hK KK
          try simp only [Act.put, List.setIfInBounds_toArray, List.set_cons_succ]
          try simp only [List.set_cons_zero]
          refine wpAnyH_ready (rs := [5, 27]) (by kernel_rfl) (by simp) ?_
          refine AllReadyH.cons (o := _) rfl (fun KK hK => ?_) (AllReadyH.cons (o := _) rfl (fun KK hK => ?_) AllReadyH.nil)
          next =>
           refine step_append_any _ rfl (.tmp 91) (.tmp 93) 22 rfl w5.heap.size 40 i0 _ 2 16 Try.underlying22 hi0 hz0 hz1 hz2 rfl (by decide) (.slice (some ⟨w5.heap.size, 0, none⟩) 0 0) 0 [] (by simp [Act.eval]) HO30.out a2 K c2 (cellsE ys) (by simp [Act.eval]) HNIL.out HCL.out (HNY.out Z30 HB30.out) HOY.out (by unfold maxLen; omega) (by omega) HB30.out.size ?_
           intro v31 wa31 hown hgrow hat
           have HB31 : Hid (Below w5.heap.size w5 wa31) := Below.grown HB30.out hgrow HB30.out.size (fun j hj => (HO30.out.lt j hj).1)
           have HV31 : Hid (wa31.heap[Z1.heap.size]? = some zeroG) := (hgrow.block _ (Array.getElem?_eq_some_iff.1 HV30.out).1 HM30.out).trans HV30.out
           have HO31 : Hid (wa31.ownsRow w5.heap.size 40 2 v31 K (cellsE ys)) := by
             show World.ownsRow _ _ _ _ _ _ _
             have h := hown
             rw [Nat.zero_add, List.nil_append] at h
             exact h
           have HM31 : Hid (some (Z1.heap.size) ≠ (Value.ownBlock v31)) := by
             show _ ≠ _
             rcases hat with h | h
             · rw [h]; exact HM30.out
             · rw [h]
               have h2 := (Array.getElem?_eq_some_iff.1 HV30.out).1
               intro e
               simp at e h2
               omega
           clear hown hgrow hat
           refine hK.out _ _ (HS11.out _ HB31.out) (fun hHeld => ?_)
           clear hK KK
           try simp only [Act.put, List.setIfInBounds_toArray]
           try simp only [List.set_cons_zero]
           refine wpAnyH_ready (rs := [27]) (by kernel_rfl) (by simp) ?_
           refine AllReadyH.cons (o := _) rfl (fun KK hK => ?_) AllReadyH.nil
           go_simp
           obtain ⟨Z32, hZ⟩ := ex_eq (wa31.alloc (sixE a b c))
           rw [← hZ]
           have HB32 : Hid (Below w5.heap.size w5 Z32) := by rw [hZ]; exact HB31.out.alloc HB31.out.size _
           have HV32 : Hid (Z32.heap[Z1.heap.size]? = some zeroG) := by rw [hZ]; exact keepT HV31.out (below_one _ _)
           have HC32 : Hid (Z32.heap[wa31.heap.size]? = some (sixE a b c)) := by rw [hZ]; exact heap_alloc_new _ _
           have HN32 : Hid (some (wa31.heap.size) ≠ (Value.ownBlock v31)) := fun e => by
             have h := (HO31.out.lt _ e.symm).2
             simp at h
           have HO32 : Hid (Z32.ownsRow w5.heap.size 40 2 v31 K (cellsE ys)) := by
             show World.ownsRow _ _ _ _ _ _ _
             rw [hZ]; exact HO31.out.alloc _
           clear hZ
           refine hK.out _ _ (HS11.out _ HB32.out) (fun hHeld => ?_)
           clear hK KK
           try simp only [Act.put, List.setIfInBounds_toArray, List.set_cons_succ]
           try simp only [List.set_cons_zero]
           refine wpAnyH_ready (rs := [28]) (by kernel_rfl) (by simp) ?_
           refine AllReadyH.cons (o := _) rfl (fun KK hK => ?_) AllReadyH.nil
           refine step_append_any _ rfl (.tmp 94) (.tmp 116) 22 rfl w5.heap.size 40 i0 _ 2 16 Try.underlying22 hi0 hz0 hz1 hz2 rfl (by decide) v31 K (cellsE ys) (by simp [Act.eval]) HO32.out (some ⟨wa31.heap.size, 0, none⟩) 3 3 (sixL a b c) (by simp [Act.eval]) (fun h => by cases h) rfl (news_blkT HC32.out) HO6.out (by unfold maxLen; omega) (by omega) HB32.out.size ?_
           intro v33 wa33 hown hgrow hat
           have HB33 : Hid (Below w5.heap.size w5 wa33) := Below.grown HB32.out hgrow HB32.out.size (fun j hj => (HO32.out.lt j hj).1)
           have HV33 : Hid (wa33.heap[Z1.heap.size]? = some zeroG) := (hgrow.block _ (Array.getElem?_eq_some_iff.1 HV32.out).1 HM31.out).trans HV32.out
           obtain ⟨aa33, ca33, hv33, _, hea33⟩ := eat_own (es := P3) (by
             have h := hown
             have e : cellsE P3 = cellsE ys ++ sixL a b c := by rw [HP3.out]; exact cellsE_three ys a b c
             rw [e, HP3L.out]; exact h)
           subst hv33
           have HEA33 := hid hea33
           clear hea33
           clear hown hgrow hat
           refine hK.out _ _ (HS11.out _ HB33.out) (fun hHeld => ?_)
           clear hK KK
           try simp only [Act.put, List.setIfInBounds_toArray]
           try simp only [List.set_cons_zero]
           refine wpAnyH_ready (rs := [29]) (by kernel_rfl) (by simp) ?_
           refine AllReadyH.cons (o := _) rfl (fun KK hK => ?_) AllReadyH.nil
           go_simp
           refine (CN.out aa33 ca33 _ HEA33.out).mono ?_
           rintro e wc34 ⟨v, rfl, er34, N34, E34, a34, c34, rfl, ⟨rfl, rfl, hsp⟩, hsl34, hea34, hb34⟩
           have HB34 : Hid (Below w5.heap.size w5 wc34) := HB33.out.trans (hb34.mono HB33.out.size)
           have HE34 := hid hea34
           have HSL34 := hid hsl34
           have HSP34 := hid hsp
           have HV34 : Hid (wc34.heap[Z1.heap.size]? = some zeroG) := (hb34.block _ (Array.getElem?_eq_some_iff.1 HV33.out).1).trans HV33.out
           clear hb34 hea34 hsl34 hsp
           have z0 := cell_of_heap HV34.out 0
           have z1 := cell_of_heap HV34.out 1
           have zf0 := frozen_of_heap HV34.out 0
           have zf1 := frozen_of_heap HV34.out 1
           refine hK.out _ _ (HS11.out _ HB34.out) (fun hHeld => ?_)
           clear hK KK
           try simp only [Act.put, List.setIfInBounds_toArray, List.set_cons_succ]
           try simp only [List.set_cons_zero]
           (refine takeW (i := 30) (dst := some 88) (v := ?_) rfl rfl (by kernel_rfl) (by kernel_rfl) (by kernel_rfl) (fun _ _ _ h => h) (Or.inl ⟨by rfl, ?_⟩) hHeld ?_; rotate_left; focus (intro w hSw; (try dsimp only at hSw); go_simp; (try with_reducible rfl); done))
           try simp only [Act.put, List.setIfInBounds_toArray, List.set_cons_zero, List.set_cons_succ]
           (refine takeW (i := 31) (dst := some 119) (v := ?_) rfl rfl (by kernel_rfl) (by kernel_rfl) (by kernel_rfl) (fun _ _ _ h => h) (Or.inl ⟨by rfl, ?_⟩) hHeld ?_; rotate_left; focus (intro w hSw; (try dsimp only at hSw); go_simp; (try with_reducible rfl); done))
           try simp only [Act.put, List.setIfInBounds_toArray, List.set_cons_zero, List.set_cons_succ]
           (refine takeW (i := 32) (dst := some 120) (v := ?_) rfl rfl (by kernel_rfl) (by kernel_rfl) (by kernel_rfl) (fun _ _ _ h => h) (Or.inl ⟨by rfl, ?_⟩) hHeld ?_; rotate_left; focus (intro w hSw; (try dsimp only at hSw); go_simp; (try with_reducible rfl); done))
           try simp only [Act.put, List.setIfInBounds_toArray, List.set_cons_zero, List.set_cons_succ]
           refine wpAnyH_ready (rs := [34]) (by kernel_rfl) (by simp) ?_
           refine AllReadyH.cons (o := _) rfl (fun KK hK => ?_) AllReadyH.nil
           go_simp
           refine hK.out _ _ (HS11.out _ ((HB34.out.setCell (p := ⟨Z1.heap.size, 0, none⟩) HVG30.out _).setCell (p := ⟨Z1.heap.size, 1, none⟩) HVG30.out _)) (fun hHeld => ?_)
           clear hK KK
           try simp only [Act.put, List.setIfInBounds_toArray, List.set_cons_succ]
           try simp only [List.set_cons_zero]
           (refine takeW (i := 35) (dst := some 9) (v := ?_) rfl rfl (by kernel_rfl) (by kernel_rfl) (by kernel_rfl) (fun _ _ _ h => h) (Or.inl ⟨by rfl, ?_⟩) hHeld ?_; rotate_left; focus (intro w hSw; (try dsimp only at hSw); go_simp; (try with_reducible rfl); done))
           try simp only [Act.put, List.setIfInBounds_toArray, List.set_cons_succ]
           try simp only [List.set_cons_zero]
           refine wpAnyH_done (by kernel_rfl) ?_ _
           have HNE := hid (eat_off_box HV34.out HE34.out)
           have HGN : Hid (GC ((wc34.setCell ⟨Z1.heap.size, 0, none⟩ (.int .i64 m)).setCell ⟨Z1.heap.size, 1, none⟩ (.slice a34 E34.length c34)) (Z1.heap.size) m a34 E34.length c34 E34) :=
             ⟨cell_of_heap (two_putT HV34.out) 0, cell_of_heap (two_putT HV34.out) 1, (HE34.out.set (p := ⟨Z1.heap.size, 0, none⟩) HNE.out _).set (p := ⟨Z1.heap.size, 1, none⟩) HNE.out _⟩
           have HBN : Hid (Below w5.heap.size w5 ((wc34.setCell ⟨Z1.heap.size, 0, none⟩ (.int .i64 m)).setCell ⟨Z1.heap.size, 1, none⟩ (.slice a34 E34.length c34))) := (HB34.out.setCell (p := ⟨Z1.heap.size, 0, none⟩) HVG30.out _).setCell (p := ⟨Z1.heap.size, 1, none⟩) HVG30.out _
           clear hHeld
           go_wp2_with fail
           go_meet
           exact ⟨_, _, _, _, rfl, rfl, HGN, HSL34.out, HSP34.out, HBN.out⟩
          next =>
           go_simp
           obtain ⟨Z35, hZ⟩ := ex_eq (Z30.alloc (sixE a b c))
           rw [← hZ]
           have HB35 : Hid (Below w5.heap.size w5 Z35) := by rw [hZ]; exact HB30.out.alloc HB30.out.size _
           have HV35 : Hid (Z35.heap[Z1.heap.size]? = some zeroG) := by rw [hZ]; exact keepT HV30.out (below_one _ _)
           have HC35 : Hid (Z35.heap[Z30.heap.size]? = some (sixE a b c)) := by rw [hZ]; exact heap_alloc_new _ _
           have HN35 : Hid (some (Z30.heap.size) ≠ (Value.ownBlock (.slice (some ⟨w5.heap.size, 0, none⟩) 0 0))) := fun e => by
             have h := (HO30.out.lt _ e.symm).2
             simp at h
           have HO35 : Hid (Z35.ownsRow w5.heap.size 40 2 (.slice (some ⟨w5.heap.size, 0, none⟩) 0 0) 0 []) := by
             show World.ownsRow _ _ _ _ _ _ _
             rw [hZ]; exact HO30.out.alloc _
           clear hZ
           refine hK.out _ _ (HS11.out _ HB35.out) (fun hHeld => ?_)
           clear hK KK
           try simp only [Act.put, List.setIfInBounds_toArray, List.set_cons_succ]
           try simp only [List.set_cons_zero]
           refine wpAnyH_ready (rs := [5]) (by kernel_rfl) (by simp) ?_
           refine AllReadyH.cons (o := _) rfl (fun KK hK => ?_) AllReadyH.nil
           refine step_append_any _ rfl (.tmp 91) (.tmp 93) 22 rfl w5.heap.size 40 i0 _ 2 16 Try.underlying22 hi0 hz0 hz1 hz2 rfl (by decide) (.slice (some ⟨w5.heap.size, 0, none⟩) 0 0) 0 [] (by simp [Act.eval]) HO35.out a2 K c2 (cellsE ys) (by simp [Act.eval]) HNIL.out HCL.out (HNY.out Z35 HB35.out) HOY.out (by unfold maxLen; omega) (by omega) HB35.out.size ?_
           intro v36 wa36 hown hgrow hat
           have HB36 : Hid (Below w5.heap.size w5 wa36) := Below.grown HB35.out hgrow HB35.out.size (fun j hj => (HO35.out.lt j hj).1)
           have HC36 : Hid (wa36.heap[Z30.heap.size]? = some (sixE a b c)) := (hgrow.block _ (Array.getElem?_eq_some_iff.1 HC35.out).1 HN35.out).trans HC35.out
           have HV36 : Hid (wa36.heap[Z1.heap.size]? = some zeroG) := (hgrow.block _ (Array.getElem?_eq_some_iff.1 HV35.out).1 HM30.out).trans HV35.out
           have HO36 : Hid (wa36.ownsRow w5.heap.size 40 2 v36 K (cellsE ys)) := by
             show World.ownsRow _ _ _ _ _ _ _
             have h := hown
             rw [Nat.zero_add, List.nil_append] at h
             exact h
           have HN36 : Hid (some (Z30.heap.size) ≠ (Value.ownBlock v36)) := by
             show _ ≠ _
             rcases hat with h | h
             · rw [h]; exact HN35.out
             · rw [h]
               have h2 := (Array.getElem?_eq_some_iff.1 HC35.out).1
               intro e
               simp at e h2
               omega
           have HM36 : Hid (some (Z1.heap.size) ≠ (Value.ownBlock v36)) := by
             show _ ≠ _
             rcases hat with h | h
             · rw [h]; exact HM30.out
             · rw [h]
               have h2 := (Array.getElem?_eq_some_iff.1 HV35.out).1
               intro e
               simp at e h2
               omega
           clear hown hgrow hat
           refine hK.out _ _ (HS11.out _ HB36.out) (fun hHeld => ?_)
           clear hK KK
           try simp only [Act.put, List.setIfInBounds_toArray]
           try simp only [List.set_cons_zero]
           refine wpAnyH_ready (rs := [28]) (by kernel_rfl) (by simp) ?_
           refine AllReadyH.cons (o := _) rfl (fun KK hK => ?_) AllReadyH.nil
           refine step_append_any _ rfl (.tmp 94) (.tmp 116) 22 rfl w5.heap.size 40 i0 _ 2 16 Try.underlying22 hi0 hz0 hz1 hz2 rfl (by decide) v36 K (cellsE ys) (by simp [Act.eval]) HO36.out (some ⟨Z30.heap.size, 0, none⟩) 3 3 (sixL a b c) (by simp [Act.eval]) (fun h => by cases h) rfl (news_blkT HC36.out) HO6.out (by unfold maxLen; omega) (by omega) HB36.out.size ?_
           intro v37 wa37 hown hgrow hat
           have HB37 : Hid (Below w5.heap.size w5 wa37) := Below.grown HB36.out hgrow HB36.out.size (fun j hj => (HO36.out.lt j hj).1)
           have HV37 : Hid (wa37.heap[Z1.heap.size]? = some zeroG) := (hgrow.block _ (Array.getElem?_eq_some_iff.1 HV36.out).1 HM36.out).trans HV36.out
           obtain ⟨aa37, ca37, hv37, _, hea37⟩ := eat_own (es := P3) (by
             have h := hown
             have e : cellsE P3 = cellsE ys ++ sixL a b c := by rw [HP3.out]; exact cellsE_three ys a b c
             rw [e, HP3L.out]; exact h)
           subst hv37
           have HEA37 := hid hea37
           clear hea37
           clear hown hgrow hat
           refine hK.out _ _ (HS11.out _ HB37.out) (fun hHeld => ?_)
           clear hK KK
           try simp only [Act.put]
           try simp only [List.set_cons_zero]
           refine wpAnyH_ready (rs := [29]) (by kernel_rfl) (by simp) ?_
           refine AllReadyH.cons (o := _) rfl (fun KK hK => ?_) AllReadyH.nil
           go_simp
           refine (CN.out aa37 ca37 _ HEA37.out).mono ?_
           rintro e wc38 ⟨v, rfl, er38, N38, E38, a38, c38, rfl, ⟨rfl, rfl, hsp⟩, hsl38, hea38, hb38⟩
           have HB38 : Hid (Below w5.heap.size w5 wc38) := HB37.out.trans (hb38.mono HB37.out.size)
           have HE38 := hid hea38
           have HSL38 := hid hsl38
           have HSP38 := hid hsp
           have HV38 : Hid (wc38.heap[Z1.heap.size]? = some zeroG) := (hb38.block _ (Array.getElem?_eq_some_iff.1 HV37.out).1).trans HV37.out
           clear hb38 hea38 hsl38 hsp
           have z0 := cell_of_heap HV38.out 0
           have z1 := cell_of_heap HV38.out 1
           have zf0 := frozen_of_heap HV38.out 0
           have zf1 := frozen_of_heap HV38.out 1
           refine hK.out _ _ (HS11.out _ HB38.out) (fun hHeld => ?_)
           clear hK KK
           try simp only [Act.put, List.setIfInBounds_toArray, List.set_cons_succ]
           try simp only [List.set_cons_zero]
           (refine takeW (i := 30) (dst := some 88) (v := ?_) rfl rfl (by kernel_rfl) (by kernel_rfl) (by kernel_rfl) (fun _ _ _ h => h) (Or.inl ⟨by rfl, ?_⟩) hHeld ?_; rotate_left; focus (intro w hSw; (try dsimp only at hSw); go_simp; (try with_reducible rfl); done))
           try simp only [Act.put, List.setIfInBounds_toArray, List.set_cons_zero, List.set_cons_succ]
           (refine takeW (i := 31) (dst := some 119) (v := ?_) rfl rfl (by kernel_rfl) (by kernel_rfl) (by kernel_rfl) (fun _ _ _ h => h) (Or.inl ⟨by rfl, ?_⟩) hHeld ?_; rotate_left; focus (intro w hSw; (try dsimp only at hSw); go_simp; (try with_reducible rfl); done))
           try simp only [Act.put, List.setIfInBounds_toArray, List.set_cons_zero, List.set_cons_succ]
           (refine takeW (i := 32) (dst := some 120) (v := ?_) rfl rfl (by kernel_rfl) (by kernel_rfl) (by kernel_rfl) (fun _ _ _ h => h) (Or.inl ⟨by rfl, ?_⟩) hHeld ?_; rotate_left; focus (intro w hSw; (try dsimp only at hSw); go_simp; (try with_reducible rfl); done))
           try simp only [Act.put, List.setIfInBounds_toArray, List.set_cons_zero, List.set_cons_succ]
           refine wpAnyH_ready (rs := [34]) (by kernel_rfl) (by simp) ?_
           refine AllReadyH.cons (o := _) rfl (fun KK hK => ?_) AllReadyH.nil
           go_simp
           refine hK.out _ _ (HS11.out _ ((HB38.out.setCell (p := ⟨Z1.heap.size, 0, none⟩) HVG30.out _).setCell (p := ⟨Z1.heap.size, 1, none⟩) HVG30.out _)) (fun hHeld => ?_)
           clear hK KK
           try simp only [Act.put, List.setIfInBounds_toArray, List.set_cons_succ]
           try simp only [List.set_cons_zero]
           (refine takeW (i := 35) (dst := some 9) (v := ?_) rfl rfl (by kernel_rfl) (by kernel_rfl) (by kernel_rfl) (fun _ _ _ h => h) (Or.inl ⟨by rfl, ?_⟩) hHeld ?_; rotate_left; focus (intro w hSw; (try dsimp only at hSw); go_simp; (try with_reducible rfl); done))
           try simp only [Act.put, List.setIfInBounds_toArray, List.set_cons_succ]
           try simp only [List.set_cons_zero]
           refine wpAnyH_done (by kernel_rfl) ?_ _
           have HNE := hid (eat_off_box HV38.out HE38.out)
           have HGN : Hid (GC ((wc38.setCell ⟨Z1.heap.size, 0, none⟩ (.int .i64 m)).setCell ⟨Z1.heap.size, 1, none⟩ (.slice a38 E38.length c38)) (Z1.heap.size) m a38 E38.length c38 E38) :=
             ⟨cell_of_heap (two_putT HV38.out) 0, cell_of_heap (two_putT HV38.out) 1, (HE38.out.set (p := ⟨Z1.heap.size, 0, none⟩) HNE.out _).set (p := ⟨Z1.heap.size, 1, none⟩) HNE.out _⟩
           have HBN : Hid (Below w5.heap.size w5 ((wc38.setCell ⟨Z1.heap.size, 0, none⟩ (.int .i64 m)).setCell ⟨Z1.heap.size, 1, none⟩ (.slice a38 E38.length c38))) := (HB38.out.setCell (p := ⟨Z1.heap.size, 0, none⟩) HVG30.out _).setCell (p := ⟨Z1.heap.size, 1, none⟩) HVG30.out _
           clear hHeld
           go_wp2_with fail
           go_meet
           exact ⟨_, _, _, _, rfl, rfl, HGN, HSL38.out, HSP38.out, HBN.out⟩
        next =>
         go_simp
         obtain ⟨Z39, hZ⟩ := ex_eq ((w5.alloc (sixE a b c)).drew)
         rw [← hZ]
         have HB39 : Hid (Below w5.heap.size w5 Z39) := by rw [hZ]; exact (below_one _ _).drew
         have HC39 : Hid (Z39.heap[w5.heap.size]? = some (sixE a b c)) := by rw [hZ]; exact heap_alloc_new _ _
         clear hZ
         refine hK.out _ _ (HS11.out _ HB39.out) (fun hHeld => ?_)
         clear hK KK
         try simp only [Act.put, List.setIfInBounds_toArray, List.set_cons_succ]
         try simp only [List.set_cons_zero]
         refine wpAnyH_ready (rs := [2, 33]) (by kernel_rfl) (by simp) ?_
         refine AllReadyH.cons (o := _) rfl (fun KK hK => ?_) (AllReadyH.cons (o := _) rfl (fun KK hK => ?_) AllReadyH.nil)
         next =>
          go_simp
          obtain ⟨Z40, hZ⟩ := ex_eq (Z39.alloc (Obj.cells #[] 40 (0, 0)))
          rw [← hZ]
          have HB40 : Hid (Below w5.heap.size w5 Z40) := by rw [hZ]; exact HB39.out.alloc HB39.out.size _
          have HO40 : Hid (Z40.ownsRow w5.heap.size 40 2 (.slice (some ⟨Z39.heap.size, 0, none⟩) 0 0) 0 []) := by
            show World.ownsRow _ _ _ _ _ _ _
            rw [hZ]
            exact ⟨rfl, Or.inr ⟨Z39.heap.size, 0, #[], rfl, HB39.out.size, heap_alloc_new _ _, Nat.le_refl _, Nat.zero_le _, rfl, rfl⟩⟩
          have HC40 : Hid (Z40.heap[w5.heap.size]? = some (sixE a b c)) := by rw [hZ]; exact keepT HC39.out (below_one _ _)
          have HN40 : Hid (some (w5.heap.size) ≠ (Value.ownBlock (.slice (some ⟨Z39.heap.size, 0, none⟩) 0 0))) := fun e => by
            have h := (Array.getElem?_eq_some_iff.1 HC39.out).1
            simp [Value.ownBlock] at e h
            omega
          clear hZ
          refine hK.out _ _ (HS11.out _ HB40.out) (fun hHeld => ?_)
          clear hK KK
          try simp only [Act.put, List.setIfInBounds_toArray, List.set_cons_succ]
          try simp only [List.set_cons_zero]
          refine wpAnyH_ready (rs := [5, 33]) (by kernel_rfl) (by simp) ?_
          refine AllReadyH.cons (o := _) rfl (fun KK hK => ?_) (AllReadyH.cons (o := _) rfl (fun KK hK => ?_) AllReadyH.nil)
          next =>
           refine step_append_any _ rfl (.tmp 91) (.tmp 93) 22 rfl w5.heap.size 40 i0 _ 2 16 Try.underlying22 hi0 hz0 hz1 hz2 rfl (by decide) (.slice (some ⟨Z39.heap.size, 0, none⟩) 0 0) 0 [] (by simp [Act.eval]) HO40.out a2 K c2 (cellsE ys) (by simp [Act.eval]) HNIL.out HCL.out (HNY.out Z40 HB40.out) HOY.out (by unfold maxLen; omega) (by omega) HB40.out.size ?_
           intro v41 wa41 hown hgrow hat
           have HB41 : Hid (Below w5.heap.size w5 wa41) := Below.grown HB40.out hgrow HB40.out.size (fun j hj => (HO40.out.lt j hj).1)
           have HC41 : Hid (wa41.heap[w5.heap.size]? = some (sixE a b c)) := (hgrow.block _ (Array.getElem?_eq_some_iff.1 HC40.out).1 HN40.out).trans HC40.out
           have HO41 : Hid (wa41.ownsRow w5.heap.size 40 2 v41 K (cellsE ys)) := by
             show World.ownsRow _ _ _ _ _ _ _
             have h := hown
             rw [Nat.zero_add, List.nil_append] at h
             exact h
           have HN41 : Hid (some (w5.heap.size) ≠ (Value.ownBlock v41)) := by
             show _ ≠ _
             rcases hat with h | h
             · rw [h]; exact HN40.out
             · rw [h]
               have h2 := (Array.getElem?_eq_some_iff.1 HC40.out).1
               intro e
               simp at e h2
               omega
           clear hown hgrow hat
           refine hK.out _ _ (HS11.out _ HB41.out) (fun hHeld => ?_)
           clear hK KK
           try simp only [Act.put, List.setIfInBounds_toArray]
           try simp only [List.set_cons_zero]
           refine wpAnyH_ready (rs := [28, 33]) (by kernel_rfl) (by simp) ?_
           refine AllReadyH.cons (o := _) rfl (fun KK hK => ?_) (AllReadyH.cons (o := _) rfl (fun KK hK => ?_) AllReadyH.nil)
           next =>
            refine step_append_any _ rfl (.tmp 94) (.tmp 116) 22 rfl w5.heap.size 40 i0 _ 2 16 Try.underlying22 hi0 hz0 hz1 hz2 rfl (by decide) v41 K (cellsE ys) (by simp [Act.eval]) HO41.out (some ⟨w5.heap.size, 0, none⟩) 3 3 (sixL a b c) (by simp [Act.eval]) (fun h => by cases h) rfl (news_blkT HC41.out) HO6.out (by unfold maxLen; omega) (by omega) HB41.out.size ?_
            intro v42 wa42 hown hgrow hat
            have HB42 : Hid (Below w5.heap.size w5 wa42) := Below.grown HB41.out hgrow HB41.out.size (fun j hj => (HO41.out.lt j hj).1)
            obtain ⟨aa42, ca42, hv42, _, hea42⟩ := eat_own (es := P3) (by
              have h := hown
              have e : cellsE P3 = cellsE ys ++ sixL a b c := by rw [HP3.out]; exact cellsE_three ys a b c
              rw [e, HP3L.out]; exact h)
            subst hv42
            have HEA42 := hid hea42
            clear hea42
            clear hown hgrow hat
            refine hK.out _ _ (HS11.out _ HB42.out) (fun hHeld => ?_)
            clear hK KK
            try simp only [Act.put]
            try simp only [List.set_cons_zero]
            refine wpAnyH_ready (rs := [29, 33]) (by kernel_rfl) (by simp) ?_
            refine AllReadyH.cons (o := _) rfl (fun KK hK => ?_) (AllReadyH.cons (o := _) rfl (fun KK hK => ?_) AllReadyH.nil)
            next =>
             go_simp
             refine (CN.out aa42 ca42 _ HEA42.out).mono ?_
             rintro e wc43 ⟨v, rfl, er43, N43, E43, a43, c43, rfl, ⟨rfl, rfl, hsp⟩, hsl43, hea43, hb43⟩
             have HB43 : Hid (Below w5.heap.size w5 wc43) := HB42.out.trans (hb43.mono HB42.out.size)
             have HE43 := hid hea43
             have HSL43 := hid hsl43
             have HSP43 := hid hsp
             clear hb43 hea43 hsl43 hsp
             refine hK.out _ _ (HS11.out _ HB43.out) (fun hHeld => ?_)
             clear hK KK
             try simp only [Act.put, List.setIfInBounds_toArray, List.set_cons_succ]
             try simp only [List.set_cons_zero]
             (refine takeW (i := 30) (dst := some 88) (v := ?_) rfl rfl (by kernel_rfl) (by kernel_rfl) (by kernel_rfl) (fun _ _ _ h => h) (Or.inl ⟨by rfl, ?_⟩) hHeld ?_; rotate_left; focus (intro w hSw; (try dsimp only at hSw); go_simp; (try with_reducible rfl); done))
             try simp only [Act.put, List.setIfInBounds_toArray, List.set_cons_zero, List.set_cons_succ]
             (refine takeW (i := 31) (dst := some 119) (v := ?_) rfl rfl (by kernel_rfl) (by kernel_rfl) (by kernel_rfl) (fun _ _ _ h => h) (Or.inl ⟨by rfl, ?_⟩) hHeld ?_; rotate_left; focus (intro w hSw; (try dsimp only at hSw); go_simp; (try with_reducible rfl); done))
             try simp only [Act.put, List.setIfInBounds_toArray, List.set_cons_zero, List.set_cons_succ]
             (refine takeW (i := 32) (dst := some 120) (v := ?_) rfl rfl (by kernel_rfl) (by kernel_rfl) (by kernel_rfl) (fun _ _ _ h => h) (Or.inl ⟨by rfl, ?_⟩) hHeld ?_; rotate_left; focus (intro w hSw; (try dsimp only at hSw); go_simp; (try with_reducible rfl); done))
             try simp only [Act.put, List.setIfInBounds_toArray, List.set_cons_zero, List.set_cons_succ]
             refine wpAnyH_ready (rs := [33]) (by kernel_rfl) (by simp) ?_
             refine AllReadyH.cons (o := _) rfl (fun KK hK => ?_) AllReadyH.nil
             go_simp
             obtain ⟨Z44, hZ⟩ := ex_eq (wc43.alloc (zeroG))
             rw [← hZ]
             have HB44 : Hid (Below w5.heap.size w5 Z44) := by rw [hZ]; exact HB43.out.alloc HB43.out.size _
             have HV44 : Hid (Z44.heap[wc43.heap.size]? = some zeroG) := by rw [hZ]; exact heap_alloc_new _ _
             have HVG44 : Hid (w5.heap.size ≤ wc43.heap.size) := by show _ ≤ _; exact HB43.out.size
             have HE44 : Hid (EAt Z44 a43 E43) := by rw [hZ]; exact HE43.out.below (below_one _ _)
             clear hZ
             have z0 := cell_of_heap HV44.out 0
             have z1 := cell_of_heap HV44.out 1
             have zf0 := frozen_of_heap HV44.out 0
             have zf1 := frozen_of_heap HV44.out 1
             refine hK.out _ _ (HS11.out _ HB44.out) (fun hHeld => ?_)
             clear hK KK
             try simp only [Act.put, List.setIfInBounds_toArray, List.set_cons_succ]
             try simp only [List.set_cons_zero]
             refine wpAnyH_ready (rs := [34]) (by kernel_rfl) (by simp) ?_
             refine AllReadyH.cons (o := _) rfl (fun KK hK => ?_) AllReadyH.nil
             go_simp
             refine hK.out _ _ (HS11.out _ ((HB44.out.setCell (p := ⟨wc43.heap.size, 0, none⟩) HVG44.out _).setCell (p := ⟨wc43.heap.size, 1, none⟩) HVG44.out _)) (fun hHeld => ?_)
             clear hK KK
             try simp only [Act.put, List.setIfInBounds_toArray, List.set_cons_succ]
             try simp only [List.set_cons_zero]
             (refine takeW (i := 35) (dst := some 9) (v := ?_) rfl rfl (by kernel_rfl) (by kernel_rfl) (by kernel_rfl) (fun _ _ _ h => h) (Or.inl ⟨by rfl, ?_⟩) hHeld ?_; rotate_left; focus (intro w hSw; (try dsimp only at hSw); go_simp; (try with_reducible rfl); done))
             try simp only [Act.put, List.setIfInBounds_toArray, List.set_cons_succ]
             try simp only [List.set_cons_zero]
             refine wpAnyH_done (by kernel_rfl) ?_ _
             have HNE := hid (eat_off_box HV44.out HE44.out)
             have HGN : Hid (GC ((Z44.setCell ⟨wc43.heap.size, 0, none⟩ (.int .i64 m)).setCell ⟨wc43.heap.size, 1, none⟩ (.slice a43 E43.length c43)) (wc43.heap.size) m a43 E43.length c43 E43) :=
               ⟨cell_of_heap (two_putT HV44.out) 0, cell_of_heap (two_putT HV44.out) 1, (HE44.out.set (p := ⟨wc43.heap.size, 0, none⟩) HNE.out _).set (p := ⟨wc43.heap.size, 1, none⟩) HNE.out _⟩
             have HBN : Hid (Below w5.heap.size w5 ((Z44.setCell ⟨wc43.heap.size, 0, none⟩ (.int .i64 m)).setCell ⟨wc43.heap.size, 1, none⟩ (.slice a43 E43.length c43))) := (HB44.out.setCell (p := ⟨wc43.heap.size, 0, none⟩) HVG44.out _).setCell (p := ⟨wc43.heap.size, 1, none⟩) HVG44.out _
             clear hHeld
             go_wp2_with fail
             go_meet
             exact ⟨_, _, _, _, rfl, rfl, HGN, HSL43.out, HSP43.out, HBN.out⟩
            next =>
             go_simp
             obtain ⟨Z45, hZ⟩ := ex_eq (wa42.alloc (zeroG))
             rw [← hZ]
             have HB45 : Hid (Below w5.heap.size w5 Z45) := by rw [hZ]; exact HB42.out.alloc HB42.out.size _
             have HV45 : Hid (Z45.heap[wa42.heap.size]? = some zeroG) := by rw [hZ]; exact heap_alloc_new _ _
             have HVG45 : Hid (w5.heap.size ≤ wa42.heap.size) := by show _ ≤ _; exact HB42.out.size
             have HEA45 : Hid (EAt Z45 aa42 P3) := by rw [hZ]; exact HEA42.out.below (below_one _ _)
             clear hZ
             refine hK.out _ _ (HS11.out _ HB45.out) (fun hHeld => ?_)
             clear hK KK
             try simp only [Act.put, List.setIfInBounds_toArray, List.set_cons_succ]
             try simp only [List.set_cons_zero]
             refine wpAnyH_ready (rs := [29]) (by kernel_rfl) (by simp) ?_
             refine AllReadyH.cons (o := _) rfl (fun KK hK => ?_) AllReadyH.nil
             go_simp
             refine (CN.out aa42 ca42 _ HEA45.out).mono ?_
             rintro e wc46 ⟨v, rfl, er46, N46, E46, a46, c46, rfl, ⟨rfl, rfl, hsp⟩, hsl46, hea46, hb46⟩
             have HB46 : Hid (Below w5.heap.size w5 wc46) := HB45.out.trans (hb46.mono HB45.out.size)
             have HE46 := hid hea46
             have HSL46 := hid hsl46
             have HSP46 := hid hsp
             have HV46 : Hid (wc46.heap[wa42.heap.size]? = some zeroG) := (hb46.block _ (Array.getElem?_eq_some_iff.1 HV45.out).1).trans HV45.out
             clear hb46 hea46 hsl46 hsp
             have z0 := cell_of_heap HV46.out 0
             have z1 := cell_of_heap HV46.out 1
             have zf0 := frozen_of_heap HV46.out 0
             have zf1 := frozen_of_heap HV46.out 1
             refine hK.out _ _ (HS11.out _ HB46.out) (fun hHeld => ?_)
             clear hK KK
             try simp only [Act.put, List.setIfInBounds_toArray, List.set_cons_succ]
             try simp only [List.set_cons_zero]
             (refine takeW (i := 30) (dst := some 88) (v := ?_) rfl rfl (by kernel_rfl) (by kernel_rfl) (by kernel_rfl) (fun _ _ _ h => h) (Or.inl ⟨by rfl, ?_⟩) hHeld ?_; rotate_left; focus (intro w hSw; (try dsimp only at hSw); go_simp; (try with_reducible rfl); done))
             try simp only [Act.put, List.setIfInBounds_toArray, List.set_cons_zero, List.set_cons_succ]
             (refine takeW (i := 31) (dst := some 119) (v := ?_) rfl rfl (by kernel_rfl) (by kernel_rfl) (by kernel_rfl) (fun _ _ _ h => h) (Or.inl ⟨by rfl, ?_⟩) hHeld ?_; rotate_left; focus (intro w hSw; (try dsimp only at hSw); go_simp; (try with_reducible rfl); done))
             try simp only [Act.put, List.setIfInBounds_toArray, List.set_cons_zero, List.set_cons_succ]
             (refine takeW (i := 32) (dst := some 120) (v := ?_) rfl rfl (by kernel_rfl) (by kernel_rfl) (by kernel_rfl) (fun _ _ _ h => h) (Or.inl ⟨by rfl, ?_⟩) hHeld ?_; rotate_left; focus (intro w hSw; (try dsimp only at hSw); go_simp; (try with_reducible rfl); done))
             try simp only [Act.put, List.setIfInBounds_toArray, List.set_cons_zero, List.set_cons_succ]
             refine wpAnyH_ready (rs := [34]) (by kernel_rfl) (by simp) ?_
             refine AllReadyH.cons (o := _) rfl (fun KK hK => ?_) AllReadyH.nil
             go_simp
             refine hK.out _ _ (HS11.out _ ((HB46.out.setCell (p := ⟨wa42.heap.size, 0, none⟩) HVG45.out _).setCell (p := ⟨wa42.heap.size, 1, none⟩) HVG45.out _)) (fun hHeld => ?_)
             clear hK KK
             try simp only [Act.put, List.setIfInBounds_toArray, List.set_cons_succ]
             try simp only [List.set_cons_zero]
             (refine takeW (i := 35) (dst := some 9) (v := ?_) rfl rfl (by kernel_rfl) (by kernel_rfl) (by kernel_rfl) (fun _ _ _ h => h) (Or.inl ⟨by rfl, ?_⟩) hHeld ?_; rotate_left; focus (intro w hSw; (try dsimp only at hSw); go_simp; (try with_reducible rfl); done))
             try simp only [Act.put, List.setIfInBounds_toArray, List.set_cons_succ]
             try simp only [List.set_cons_zero]
             refine wpAnyH_done (by kernel_rfl) ?_ _
             have HNE := hid (eat_off_box HV46.out HE46.out)
             have HGN : Hid (GC ((wc46.setCell ⟨wa42.heap.size, 0, none⟩ (.int .i64 m)).setCell ⟨wa42.heap.size, 1, none⟩ (.slice a46 E46.length c46)) (wa42.heap.size) m a46 E46.length c46 E46) :=
               ⟨cell_of_heap (two_putT HV46.out) 0, cell_of_heap (two_putT HV46.out) 1, (HE46.out.set (p := ⟨wa42.heap.size, 0, none⟩) HNE.out _).set (p := ⟨wa42.heap.size, 1, none⟩) HNE.out _⟩
             have HBN : Hid (Below w5.heap.size w5 ((wc46.setCell ⟨wa42.heap.size, 0, none⟩ (.int .i64 m)).setCell ⟨wa42.heap.size, 1, none⟩ (.slice a46 E46.length c46))) := (HB46.out.setCell (p := ⟨wa42.heap.size, 0, none⟩) HVG45.out _).setCell (p := ⟨wa42.heap.size, 1, none⟩) HVG45.out _
             clear hHeld
             go_wp2_with fail
             go_meet
             exact ⟨_, _, _, _, rfl, rfl, HGN, HSL46.out, HSP46.out, HBN.out⟩
           next =>
            go_simp
            obtain ⟨Z47, hZ⟩ := ex_eq (wa41.alloc (zeroG))
            rw [← hZ]
            have HB47 : Hid (Below w5.heap.size w5 Z47) := by rw [hZ]; exact HB41.out.alloc HB41.out.size _
            have HC47 : Hid (Z47.heap[w5.heap.size]? = some (sixE a b c)) := by rw [hZ]; exact keepT HC41.out (below_one _ _)
            have HV47 : Hid (Z47.heap[wa41.heap.size]? = some zeroG) := by rw [hZ]; exact heap_alloc_new _ _
            have HVG47 : Hid (w5.heap.size ≤ wa41.heap.size) := by show _ ≤ _; exact HB41.out.size
            have HM47 : Hid (some (wa41.heap.size) ≠ (Value.ownBlock v41)) := fun e => by
              have h := (HO41.out.lt _ e.symm).2
              simp at h
            have HO47 : Hid (Z47.ownsRow w5.heap.size 40 2 v41 K (cellsE ys)) := by
              show World.ownsRow _ _ _ _ _ _ _
              rw [hZ]; exact HO41.out.alloc _
            clear hZ
            refine hK.out _ _ (HS11.out _ HB47.out) (fun hHeld => ?_)
            clear hK KK
            try simp only [Act.put, List.setIfInBounds_toArray, List.set_cons_succ]
            try simp only [List.set_cons_zero]
            refine wpAnyH_ready (rs := [28]) (by kernel_rfl) (by simp) ?_
            refine AllReadyH.cons (o := _) rfl (fun KK hK => ?_) AllReadyH.nil
            refine step_append_any _ rfl (.tmp 94) (.tmp 116) 22 rfl w5.heap.size 40 i0 _ 2 16 Try.underlying22 hi0 hz0 hz1 hz2 rfl (by decide) v41 K (cellsE ys) (by simp [Act.eval]) HO47.out (some ⟨w5.heap.size, 0, none⟩) 3 3 (sixL a b c) (by simp [Act.eval]) (fun h => by cases h) rfl (news_blkT HC47.out) HO6.out (by unfold maxLen; omega) (by omega) HB47.out.size ?_
            intro v48 wa48 hown hgrow hat
            have HB48 : Hid (Below w5.heap.size w5 wa48) := Below.grown HB47.out hgrow HB47.out.size (fun j hj => (HO47.out.lt j hj).1)
            have HV48 : Hid (wa48.heap[wa41.heap.size]? = some zeroG) := (hgrow.block _ (Array.getElem?_eq_some_iff.1 HV47.out).1 HM47.out).trans HV47.out
            obtain ⟨aa48, ca48, hv48, _, hea48⟩ := eat_own (es := P3) (by
              have h := hown
              have e : cellsE P3 = cellsE ys ++ sixL a b c := by rw [HP3.out]; exact cellsE_three ys a b c
              rw [e, HP3L.out]; exact h)
            subst hv48
            have HEA48 := hid hea48
            clear hea48
            clear hown hgrow hat
            refine hK.out _ _ (HS11.out _ HB48.out) (fun hHeld => ?_)
            clear hK KK
            try simp only [Act.put, List.setIfInBounds_toArray]
            try simp only [List.set_cons_zero]
            refine wpAnyH_ready (rs := [29]) (by kernel_rfl) (by simp) ?_
            refine AllReadyH.cons (o := _) rfl (fun KK hK => ?_) AllReadyH.nil
            go_simp
            refine (CN.out aa48 ca48 _ HEA48.out).mono ?_
            rintro e wc49 ⟨v, rfl, er49, N49, E49, a49, c49, rfl, ⟨rfl, rfl, hsp⟩, hsl49, hea49, hb49⟩
            have HB49 : Hid (Below w5.heap.size w5 wc49) := HB48.out.trans (hb49.mono HB48.out.size)
            have HE49 := hid hea49
            have HSL49 := hid hsl49
            have HSP49 := hid hsp
            have HV49 : Hid (wc49.heap[wa41.heap.size]? = some zeroG) := (hb49.block _ (Array.getElem?_eq_some_iff.1 HV48.out).1).trans HV48.out
            clear hb49 hea49 hsl49 hsp
            have z0 := cell_of_heap HV49.out 0
            have z1 := cell_of_heap HV49.out 1
            have zf0 := frozen_of_heap HV49.out 0
            have zf1 := frozen_of_heap HV49.out 1
            refine hK.out _ _ (HS11.out _ HB49.out) (fun hHeld => ?_)
            clear hK KK
            try simp only [Act.put, List.setIfInBounds_toArray, List.set_cons_succ]
            try simp only [List.set_cons_zero]
            (refine takeW (i := 30) (dst := some 88) (v := ?_) rfl rfl (by kernel_rfl) (by kernel_rfl) (by kernel_rfl) (fun _ _ _ h => h) (Or.inl ⟨by rfl, ?_⟩) hHeld ?_; rotate_left; focus (intro w hSw; (try dsimp only at hSw); go_simp; (try with_reducible rfl); done))
            try simp only [Act.put, List.setIfInBounds_toArray, List.set_cons_zero, List.set_cons_succ]
            (refine takeW (i := 31) (dst := some 119) (v := ?_) rfl rfl (by kernel_rfl) (by kernel_rfl) (by kernel_rfl) (fun _ _ _ h => h) (Or.inl ⟨by rfl, ?_⟩) hHeld ?_; rotate_left; focus (intro w hSw; (try dsimp only at hSw); go_simp; (try with_reducible rfl); done))
            try simp only [Act.put, List.setIfInBounds_toArray, List.set_cons_zero, List.set_cons_succ]
            (refine takeW (i := 32) (dst := some 120) (v := ?_) rfl rfl (by kernel_rfl) (by kernel_rfl) (by kernel_rfl) (fun _ _ _ h => h) (Or.inl ⟨by rfl, ?_⟩) hHeld ?_; rotate_left; focus (intro w hSw; (try dsimp only at hSw); go_simp; (try with_reducible rfl); done))
            try simp only [Act.put, List.setIfInBounds_toArray, List.set_cons_zero, List.set_cons_succ]
            refine wpAnyH_ready (rs := [34]) (by kernel_rfl) (by simp) ?_
            refine AllReadyH.cons (o := _) rfl (fun KK hK => ?_) AllReadyH.nil
            go_simp
            refine hK.out _ _ (HS11.out _ ((HB49.out.setCell (p := ⟨wa41.heap.size, 0, none⟩) HVG47.out _).setCell (p := ⟨wa41.heap.size, 1, none⟩) HVG47.out _)) (fun hHeld => ?_)
            clear hK KK
            try simp only [Act.put, List.setIfInBounds_toArray, List.set_cons_succ]
            try simp only [List.set_cons_zero]
            (refine takeW (i := 35) (dst := some 9) (v := ?_) rfl rfl (by kernel_rfl) (by kernel_rfl) (by kernel_rfl) (fun _ _ _ h => h) (Or.inl ⟨by rfl, ?_⟩) hHeld ?_; rotate_left; focus (intro w hSw; (try dsimp only at hSw); go_simp; (try with_reducible rfl); done))
            try simp only [Act.put, List.setIfInBounds_toArray, List.set_cons_succ]
            try simp only [List.set_cons_zero]
            refine wpAnyH_done (by kernel_rfl) ?_ _
            have HNE := hid (eat_off_box HV49.out HE49.out)
            have HGN : Hid (GC ((wc49.setCell ⟨wa41.heap.size, 0, none⟩ (.int .i64 m)).setCell ⟨wa41.heap.size, 1, none⟩ (.slice a49 E49.length c49)) (wa41.heap.size) m a49 E49.length c49 E49) :=
              ⟨cell_of_heap (two_putT HV49.out) 0, cell_of_heap (two_putT HV49.out) 1, (HE49.out.set (p := ⟨wa41.heap.size, 0, none⟩) HNE.out _).set (p := ⟨wa41.heap.size, 1, none⟩) HNE.out _⟩
            have HBN : Hid (Below w5.heap.size w5 ((wc49.setCell ⟨wa41.heap.size, 0, none⟩ (.int .i64 m)).setCell ⟨wa41.heap.size, 1, none⟩ (.slice a49 E49.length c49))) := (HB49.out.setCell (p := ⟨wa41.heap.size, 0, none⟩) HVG47.out _).setCell (p := ⟨wa41.heap.size, 1, none⟩) HVG47.out _
            clear hHeld
            go_wp2_with fail
            go_meet
            exact ⟨_, _, _, _, rfl, rfl, HGN, HSL49.out, HSP49.out, HBN.out⟩
          next =>
           go_simp
           obtain ⟨Z50, hZ⟩ := ex_eq (Z40.alloc (zeroG))
           rw [← hZ]
           have HB50 : Hid (Below w5.heap.size w5 Z50) := by rw [hZ]; exact HB40.out.alloc HB40.out.size _
           have HC50 : Hid (Z50.heap[w5.heap.size]? = some (sixE a b c)) := by rw [hZ]; exact keepT HC40.out (below_one _ _)
           have HV50 : Hid (Z50.heap[Z40.heap.size]? = some zeroG) := by rw [hZ]; exact heap_alloc_new _ _
           have HVG50 : Hid (w5.heap.size ≤ Z40.heap.size) := by show _ ≤ _; exact HB40.out.size
           have HM50 : Hid (some (Z40.heap.size) ≠ (Value.ownBlock (.slice (some ⟨Z39.heap.size, 0, none⟩) 0 0))) := fun e => by
             have h := (HO40.out.lt _ e.symm).2
             simp at h
           have HO50 : Hid (Z50.ownsRow w5.heap.size 40 2 (.slice (some ⟨Z39.heap.size, 0, none⟩) 0 0) 0 []) := by
             show World.ownsRow _ _ _ _ _ _ _
             rw [hZ]; exact HO40.out.alloc _
           clear hZ
           refine hK.out _ _ (HS11.out _ HB50.out) (fun hHeld => ?_)
           clear hK KK
           try simp only [Act.put, List.setIfInBounds_toArray, List.set_cons_succ]
           try simp only [List.set_cons_zero]
           refine wpAnyH_ready (rs := [5]) (by kernel_rfl) (by simp) ?_
           refine AllReadyH.cons (o := _) rfl (fun KK hK => ?_) AllReadyH.nil
           refine step_append_any _ rfl (.tmp 91) (.tmp 93) 22 rfl w5.heap.size 40 i0 _ 2 16 Try.underlying22 hi0 hz0 hz1 hz2 rfl (by decide) (.slice (some ⟨Z39.heap.size, 0, none⟩) 0 0) 0 [] (by simp [Act.eval]) HO50.out a2 K c2 (cellsE ys) (by simp [Act.eval]) HNIL.out HCL.out (HNY.out Z50 HB50.out) HOY.out (by unfold maxLen; omega) (by omega) HB50.out.size ?_
           intro v51 wa51 hown hgrow hat
           have HB51 : Hid (Below w5.heap.size w5 wa51) := Below.grown HB50.out hgrow HB50.out.size (fun j hj => (HO50.out.lt j hj).1)
           have HC51 : Hid (wa51.heap[w5.heap.size]? = some (sixE a b c)) := (hgrow.block _ (Array.getElem?_eq_some_iff.1 HC50.out).1 HN40.out).trans HC50.out
           have HV51 : Hid (wa51.heap[Z40.heap.size]? = some zeroG) := (hgrow.block _ (Array.getElem?_eq_some_iff.1 HV50.out).1 HM50.out).trans HV50.out
           have HO51 : Hid (wa51.ownsRow w5.heap.size 40 2 v51 K (cellsE ys)) := by
             show World.ownsRow _ _ _ _ _ _ _
             have h := hown
             rw [Nat.zero_add, List.nil_append] at h
             exact h
           have HN51 : Hid (some (w5.heap.size) ≠ (Value.ownBlock v51)) := by
             show _ ≠ _
             rcases hat with h | h
             · rw [h]; exact HN40.out
             · rw [h]
               have h2 := (Array.getElem?_eq_some_iff.1 HC50.out).1
               intro e
               simp at e h2
               omega
           have HM51 : Hid (some (Z40.heap.size) ≠ (Value.ownBlock v51)) := by
             show _ ≠ _
             rcases hat with h | h
             · rw [h]; exact HM50.out
             · rw [h]
               have h2 := (Array.getElem?_eq_some_iff.1 HV50.out).1
               intro e
               simp at e h2
               omega
           clear hown hgrow hat
           refine hK.out _ _ (HS11.out _ HB51.out) (fun hHeld => ?_)
           clear hK KK
           try simp only [Act.put, List.setIfInBounds_toArray]
           try simp only [List.set_cons_zero]
           refine wpAnyH_ready (rs := [28]) (by kernel_rfl) (by simp) ?_
           refine AllReadyH.cons (o := _) rfl (fun KK hK => ?_) AllReadyH.nil
           refine step_append_any _ rfl (.tmp 94) (.tmp 116) 22 rfl w5.heap.size 40 i0 _ 2 16 Try.underlying22 hi0 hz0 hz1 hz2 rfl (by decide) v51 K (cellsE ys) (by simp [Act.eval]) HO51.out (some ⟨w5.heap.size, 0, none⟩) 3 3 (sixL a b c) (by simp [Act.eval]) (fun h => by cases h) rfl (news_blkT HC51.out) HO6.out (by unfold maxLen; omega) (by omega) HB51.out.size ?_
           intro v52 wa52 hown hgrow hat
           have HB52 : Hid (Below w5.heap.size w5 wa52) := Below.grown HB51.out hgrow HB51.out.size (fun j hj => (HO51.out.lt j hj).1)
           have HV52 : Hid (wa52.heap[Z40.heap.size]? = some zeroG) := (hgrow.block _ (Array.getElem?_eq_some_iff.1 HV51.out).1 HM51.out).trans HV51.out
           obtain ⟨aa52, ca52, hv52, _, hea52⟩ := eat_own (es := P3) (by
             have h := hown
             have e : cellsE P3 = cellsE ys ++ sixL a b c := by rw [HP3.out]; exact cellsE_three ys a b c
             rw [e, HP3L.out]; exact h)
           subst hv52
           have HEA52 := hid hea52
           clear hea52
           clear hown hgrow hat
           refine hK.out _ _ (HS11.out _ HB52.out) (fun hHeld => ?_)
           clear hK KK
           try simp only [Act.put]
           try simp only [List.set_cons_zero]
           refine wpAnyH_ready (rs := [29]) (by kernel_rfl) (by simp) ?_
           refine AllReadyH.cons (o := _) rfl (fun KK hK => ?_) AllReadyH.nil
           go_simp
           refine (CN.out aa52 ca52 _ HEA52.out).mono ?_
           rintro e wc53 ⟨v, rfl, er53, N53, E53, a53, c53, rfl, ⟨rfl, rfl, hsp⟩, hsl53, hea53, hb53⟩
           have HB53 : Hid (Below w5.heap.size w5 wc53) := HB52.out.trans (hb53.mono HB52.out.size)
           have HE53 := hid hea53
           have HSL53 := hid hsl53
           have HSP53 := hid hsp
           have HV53 : Hid (wc53.heap[Z40.heap.size]? = some zeroG) := (hb53.block _ (Array.getElem?_eq_some_iff.1 HV52.out).1).trans HV52.out
           clear hb53 hea53 hsl53 hsp
           have z0 := cell_of_heap HV53.out 0
           have z1 := cell_of_heap HV53.out 1
           have zf0 := frozen_of_heap HV53.out 0
           have zf1 := frozen_of_heap HV53.out 1
           refine hK.out _ _ (HS11.out _ HB53.out) (fun hHeld => ?_)
           clear hK KK
           try simp only [Act.put, List.setIfInBounds_toArray, List.set_cons_succ]
           try simp only [List.set_cons_zero]
           (refine takeW (i := 30) (dst := some 88) (v := ?_) rfl rfl (by kernel_rfl) (by kernel_rfl) (by kernel_rfl) (fun _ _ _ h => h) (Or.inl ⟨by rfl, ?_⟩) hHeld ?_; rotate_left; focus (intro w hSw; (try dsimp only at hSw); go_simp; (try with_reducible rfl); done))
           try simp only [Act.put, List.setIfInBounds_toArray, List.set_cons_zero, List.set_cons_succ]
           (refine takeW (i := 31) (dst := some 119) (v := ?_) rfl rfl (by kernel_rfl) (by kernel_rfl) (by kernel_rfl) (fun _ _ _ h => h) (Or.inl ⟨by rfl, ?_⟩) hHeld ?_; rotate_left; focus (intro w hSw; (try dsimp only at hSw); go_simp; (try with_reducible rfl); done))
           try simp only [Act.put, List.setIfInBounds_toArray, List.set_cons_zero, List.set_cons_succ]
           (refine takeW (i := 32) (dst := some 120) (v := ?_) rfl rfl (by kernel_rfl) (by kernel_rfl) (by kernel_rfl) (fun _ _ _ h => h) (Or.inl ⟨by rfl, ?_⟩) hHeld ?_; rotate_left; focus (intro w hSw; (try dsimp only at hSw); go_simp; (try with_reducible rfl); done))
           try simp only [Act.put, List.setIfInBounds_toArray, List.set_cons_zero, List.set_cons_succ]
           refine wpAnyH_ready (rs := [34]) (by kernel_rfl) (by simp) ?_
           refine AllReadyH.cons (o := _) rfl (fun KK hK => ?_) AllReadyH.nil
           go_simp
           refine hK.out _ _ (HS11.out _ ((HB53.out.setCell (p := ⟨Z40.heap.size, 0, none⟩) HVG50.out _).setCell (p := ⟨Z40.heap.size, 1, none⟩) HVG50.out _)) (fun hHeld => ?_)
           clear hK KK
           try simp only [Act.put, List.setIfInBounds_toArray, List.set_cons_succ]
           try simp only [List.set_cons_zero]
           (refine takeW (i := 35) (dst := some 9) (v := ?_) rfl rfl (by kernel_rfl) (by kernel_rfl) (by kernel_rfl) (fun _ _ _ h => h) (Or.inl ⟨by rfl, ?_⟩) hHeld ?_; rotate_left; focus (intro w hSw; (try dsimp only at hSw); go_simp; (try with_reducible rfl); done))
           try simp only [Act.put, List.setIfInBounds_toArray, List.set_cons_succ]
           try simp only [List.set_cons_zero]
           refine wpAnyH_done (by kernel_rfl) ?_ _
           have HNE := hid (eat_off_box HV53.out HE53.out)
           have HGN : Hid (GC ((wc53.setCell ⟨Z40.heap.size, 0, none⟩ (.int .i64 m)).setCell ⟨Z40.heap.size, 1, none⟩ (.slice a53 E53.length c53)) (Z40.heap.size) m a53 E53.length c53 E53) :=
             ⟨cell_of_heap (two_putT HV53.out) 0, cell_of_heap (two_putT HV53.out) 1, (HE53.out.set (p := ⟨Z40.heap.size, 0, none⟩) HNE.out _).set (p := ⟨Z40.heap.size, 1, none⟩) HNE.out _⟩
           have HBN : Hid (Below w5.heap.size w5 ((wc53.setCell ⟨Z40.heap.size, 0, none⟩ (.int .i64 m)).setCell ⟨Z40.heap.size, 1, none⟩ (.slice a53 E53.length c53))) := (HB53.out.setCell (p := ⟨Z40.heap.size, 0, none⟩) HVG50.out _).setCell (p := ⟨Z40.heap.size, 1, none⟩) HVG50.out _
           clear hHeld
           go_wp2_with fail
           go_meet
           exact ⟨_, _, _, _, rfl, rfl, HGN, HSL53.out, HSP53.out, HBN.out⟩
         next =>
          go_simp
          obtain ⟨Z54, hZ⟩ := ex_eq (Z39.alloc (zeroG))
          rw [← hZ]
          have HB54 : Hid (Below w5.heap.size w5 Z54) := by rw [hZ]; exact HB39.out.alloc HB39.out.size _
          have HC54 : Hid (Z54.heap[w5.heap.size]? = some (sixE a b c)) := by rw [hZ]; exact keepT HC39.out (below_one _ _)
          have HV54 : Hid (Z54.heap[Z39.heap.size]? = some zeroG) := by rw [hZ]; exact heap_alloc_new _ _
          have HVG54 : Hid (w5.heap.size ≤ Z39.heap.size) := by show _ ≤ _; exact HB39.out.size
          clear hZ
          refine hK.out _ _ (HS11.out _ HB54.out) (fun hHeld => ?_)
          clear hK KK
          try simp only [Act.put, List.setIfInBounds_toArray, List.set_cons_succ]
          try simp only [List.set_cons_zero]
          refine wpAnyH_ready (rs := [2]) (by kernel_rfl) (by simp) ?_
          refine AllReadyH.cons (o := _) rfl (fun KK hK => ?_) AllReadyH.nil
          go_simp
          obtain ⟨Z55, hZ⟩ := ex_eq (Z54.alloc (Obj.cells #[] 40 (0, 0)))
          rw [← hZ]
          have HB55 : Hid (Below w5.heap.size w5 Z55) := by rw [hZ]; exact HB54.out.alloc HB54.out.size _
          have HO55 : Hid (Z55.ownsRow w5.heap.size 40 2 (.slice (some ⟨Z54.heap.size, 0, none⟩) 0 0) 0 []) := by
            show World.ownsRow _ _ _ _ _ _ _
            rw [hZ]
            exact ⟨rfl, Or.inr ⟨Z54.heap.size, 0, #[], rfl, HB54.out.size, heap_alloc_new _ _, Nat.le_refl _, Nat.zero_le _, rfl, rfl⟩⟩
          have HC55 : Hid (Z55.heap[w5.heap.size]? = some (sixE a b c)) := by rw [hZ]; exact keepT HC54.out (below_one _ _)
          have HV55 : Hid (Z55.heap[Z39.heap.size]? = some zeroG) := by rw [hZ]; exact keepT HV54.out (below_one _ _)
          have HN55 : Hid (some (w5.heap.size) ≠ (Value.ownBlock (.slice (some ⟨Z54.heap.size, 0, none⟩) 0 0))) := fun e => by
            have h := (Array.getElem?_eq_some_iff.1 HC54.out).1
            simp [Value.ownBlock] at e h
            omega
          have HM55 : Hid (some (Z39.heap.size) ≠ (Value.ownBlock (.slice (some ⟨Z54.heap.size, 0, none⟩) 0 0))) := fun e => by
            have h := (Array.getElem?_eq_some_iff.1 HV54.out).1
            simp [Value.ownBlock] at e h
            omega
          clear hZ
          refine hK.out _ _ (HS11.out _ HB55.out) (fun hHeld => ?_)
          clear hK KK
          try simp only [Act.put, List.setIfInBounds_toArray, List.set_cons_succ]
          try simp only [List.set_cons_zero]
          refine wpAnyH_ready (rs := [5]) (by kernel_rfl) (by simp) ?_
          refine AllReadyH.cons (o := _) rfl (fun KK hK => ?_) AllReadyH.nil
          refine step_append_any _ rfl (.tmp 91) (.tmp 93) 22 rfl w5.heap.size 40 i0 _ 2 16 Try.underlying22 hi0 hz0 hz1 hz2 rfl (by decide) (.slice (some ⟨Z54.heap.size, 0, none⟩) 0 0) 0 [] (by simp [Act.eval]) HO55.out a2 K c2 (cellsE ys) (by simp [Act.eval]) HNIL.out HCL.out (HNY.out Z55 HB55.out) HOY.out (by unfold maxLen; omega) (by omega) HB55.out.size ?_
          intro v56 wa56 hown hgrow hat
          have HB56 : Hid (Below w5.heap.size w5 wa56) := Below.grown HB55.out hgrow HB55.out.size (fun j hj => (HO55.out.lt j hj).1)
          have HC56 : Hid (wa56.heap[w5.heap.size]? = some (sixE a b c)) := (hgrow.block _ (Array.getElem?_eq_some_iff.1 HC55.out).1 HN55.out).trans HC55.out
          have HV56 : Hid (wa56.heap[Z39.heap.size]? = some zeroG) := (hgrow.block _ (Array.getElem?_eq_some_iff.1 HV55.out).1 HM55.out).trans HV55.out
          have HO56 : Hid (wa56.ownsRow w5.heap.size 40 2 v56 K (cellsE ys)) := by
            show World.ownsRow _ _ _ _ _ _ _
            have h := hown
            rw [Nat.zero_add, List.nil_append] at h
            exact h
          have HN56 : Hid (some (w5.heap.size) ≠ (Value.ownBlock v56)) := by
            show _ ≠ _
            rcases hat with h | h
            · rw [h]; exact HN55.out
            · rw [h]
              have h2 := (Array.getElem?_eq_some_iff.1 HC55.out).1
              intro e
              simp at e h2
              omega
          have HM56 : Hid (some (Z39.heap.size) ≠ (Value.ownBlock v56)) := by
            show _ ≠ _
            rcases hat with h | h
            · rw [h]; exact HM55.out
            · rw [h]
              have h2 := (Array.getElem?_eq_some_iff.1 HV55.out).1
              intro e
              simp at e h2
              omega
          clear hown hgrow hat
          refine hK.out _ _ (HS11.out _ HB56.out) (fun hHeld => ?_)
          clear hK KK
          try simp only [Act.put, List.setIfInBounds_toArray]
          try simp only [List.set_cons_zero]
          refine wpAnyH_ready (rs := [28]) (by kernel_rfl) (by simp) ?_
          refine AllReadyH.cons (o := _) rfl (fun KK hK => ?_) AllReadyH.nil
          refine step_append_any _ rfl (.tmp 94) (.tmp 116) 22 rfl w5.heap.size 40 i0 _ 2 16 Try.underlying22 hi0 hz0 hz1 hz2 rfl (by decide) v56 K (cellsE ys) (by simp [Act.eval]) HO56.out (some ⟨w5.heap.size, 0, none⟩) 3 3 (sixL a b c) (by simp [Act.eval]) (fun h => by cases h) rfl (news_blkT HC56.out) HO6.out (by unfold maxLen; omega) (by omega) HB56.out.size ?_
          intro v57 wa57 hown hgrow hat
          have HB57 : Hid (Below w5.heap.size w5 wa57) := Below.grown HB56.out hgrow HB56.out.size (fun j hj => (HO56.out.lt j hj).1)
          have HV57 : Hid (wa57.heap[Z39.heap.size]? = some zeroG) := (hgrow.block _ (Array.getElem?_eq_some_iff.1 HV56.out).1 HM56.out).trans HV56.out
          obtain ⟨aa57, ca57, hv57, _, hea57⟩ := eat_own (es := P3) (by
            have h := hown
            have e : cellsE P3 = cellsE ys ++ sixL a b c := by rw [HP3.out]; exact cellsE_three ys a b c
            rw [e, HP3L.out]; exact h)
          subst hv57
          have HEA57 := hid hea57
          clear hea57
          clear hown hgrow hat
          refine hK.out _ _ (HS11.out _ HB57.out) (fun hHeld => ?_)
          clear hK KK
          try simp only [Act.put]
          try simp only [List.set_cons_zero]
          refine wpAnyH_ready (rs := [29]) (by kernel_rfl) (by simp) ?_
          refine AllReadyH.cons (o := _) rfl (fun KK hK => ?_) AllReadyH.nil
          go_simp
          refine (CN.out aa57 ca57 _ HEA57.out).mono ?_
          rintro e wc58 ⟨v, rfl, er58, N58, E58, a58, c58, rfl, ⟨rfl, rfl, hsp⟩, hsl58, hea58, hb58⟩
          have HB58 : Hid (Below w5.heap.size w5 wc58) := HB57.out.trans (hb58.mono HB57.out.size)
          have HE58 := hid hea58
          have HSL58 := hid hsl58
          have HSP58 := hid hsp
          have HV58 : Hid (wc58.heap[Z39.heap.size]? = some zeroG) := (hb58.block _ (Array.getElem?_eq_some_iff.1 HV57.out).1).trans HV57.out
          clear hb58 hea58 hsl58 hsp
          have z0 := cell_of_heap HV58.out 0
          have z1 := cell_of_heap HV58.out 1
          have zf0 := frozen_of_heap HV58.out 0
          have zf1 := frozen_of_heap HV58.out 1
          refine hK.out _ _ (HS11.out _ HB58.out) (fun hHeld => ?_)
          clear hK KK
          try simp only [Act.put, List.setIfInBounds_toArray, List.set_cons_succ]
          try simp only [List.set_cons_zero]
          (refine takeW (i := 30) (dst := some 88) (v := ?_) rfl rfl (by kernel_rfl) (by kernel_rfl) (by kernel_rfl) (fun _ _ _ h => h) (Or.inl ⟨by rfl, ?_⟩) hHeld ?_; rotate_left; focus (intro w hSw; (try dsimp only at hSw); go_simp; (try with_reducible rfl); done))
          try simp only [Act.put, List.setIfInBounds_toArray, List.set_cons_zero, List.set_cons_succ]
          (refine takeW (i := 31) (dst := some 119) (v := ?_) rfl rfl (by kernel_rfl) (by kernel_rfl) (by kernel_rfl) (fun _ _ _ h => h) (Or.inl ⟨by rfl, ?_⟩) hHeld ?_; rotate_left; focus (intro w hSw; (try dsimp only at hSw); go_simp; (try with_reducible rfl); done))
          try simp only [Act.put, List.setIfInBounds_toArray, List.set_cons_zero, List.set_cons_succ]
          (refine takeW (i := 32) (dst := some 120) (v := ?_) rfl rfl (by kernel_rfl) (by kernel_rfl) (by kernel_rfl) (fun _ _ _ h => h) (Or.inl ⟨by rfl, ?_⟩) hHeld ?_; rotate_left; focus (intro w hSw; (try dsimp only at hSw); go_simp; (try with_reducible rfl); done))
          try simp only [Act.put, List.setIfInBounds_toArray, List.set_cons_zero, List.set_cons_succ]
          refine wpAnyH_ready (rs := [34]) (by kernel_rfl) (by simp) ?_
          refine AllReadyH.cons (o := _) rfl (fun KK hK => ?_) AllReadyH.nil
          go_simp
          refine hK.out _ _ (HS11.out _ ((HB58.out.setCell (p := ⟨Z39.heap.size, 0, none⟩) HVG54.out _).setCell (p := ⟨Z39.heap.size, 1, none⟩) HVG54.out _)) (fun hHeld => ?_)
          clear hK KK
          try simp only [Act.put, List.setIfInBounds_toArray, List.set_cons_succ]
          try simp only [List.set_cons_zero]
          (refine takeW (i := 35) (dst := some 9) (v := ?_) rfl rfl (by kernel_rfl) (by kernel_rfl) (by kernel_rfl) (fun _ _ _ h => h) (Or.inl ⟨by rfl, ?_⟩) hHeld ?_; rotate_left; focus (intro w hSw; (try dsimp only at hSw); go_simp; (try with_reducible rfl); done))
          try simp only [Act.put, List.setIfInBounds_toArray, List.set_cons_succ]
          try simp only [List.set_cons_zero]
          refine wpAnyH_done (by kernel_rfl) ?_ _
          have HNE := hid (eat_off_box HV58.out HE58.out)
          have HGN : Hid (GC ((wc58.setCell ⟨Z39.heap.size, 0, none⟩ (.int .i64 m)).setCell ⟨Z39.heap.size, 1, none⟩ (.slice a58 E58.length c58)) (Z39.heap.size) m a58 E58.length c58 E58) :=
            ⟨cell_of_heap (two_putT HV58.out) 0, cell_of_heap (two_putT HV58.out) 1, (HE58.out.set (p := ⟨Z39.heap.size, 0, none⟩) HNE.out _).set (p := ⟨Z39.heap.size, 1, none⟩) HNE.out _⟩
          have HBN : Hid (Below w5.heap.size w5 ((wc58.setCell ⟨Z39.heap.size, 0, none⟩ (.int .i64 m)).setCell ⟨Z39.heap.size, 1, none⟩ (.slice a58 E58.length c58))) := (HB58.out.setCell (p := ⟨Z39.heap.size, 0, none⟩) HVG54.out _).setCell (p := ⟨Z39.heap.size, 1, none⟩) HVG54.out _
          clear hHeld
          go_wp2_with fail
          go_meet
          exact ⟨_, _, _, _, rfl, rfl, HGN, HSL58.out, HSP58.out, HBN.out⟩
        next =>
         go_simp
         obtain ⟨Z59, hZ⟩ := ex_eq ((w5.alloc (zeroG)).drew)
         rw [← hZ]
         have HB59 : Hid (Below w5.heap.size w5 Z59) := by rw [hZ]; exact (below_one _ _).drew
         have HV59 : Hid (Z59.heap[w5.heap.size]? = some zeroG) := by rw [hZ]; exact heap_alloc_new _ _
         have HVG59 : Hid (w5.heap.size ≤ w5.heap.size) := by show _ ≤ _; exact Nat.le_refl _
         clear hZ
         refine hK.out _ _ (HS11.out _ HB59.out) (fun hHeld => ?_)
         clear hK KK
         try simp only [Act.put, List.setIfInBounds_toArray, List.set_cons_succ]
         try simp only [List.set_cons_zero]
         refine wpAnyH_ready (rs := [2, 27]) (by kernel_rfl) (by simp) ?_
         refine AllReadyH.cons (o := _) rfl (fun KK hK => ?_) (AllReadyH.cons (o := _) rfl (fun KK hK => ?_) AllReadyH.nil)
         next =>
          go_simp
          obtain ⟨Z60, hZ⟩ := ex_eq (Z59.alloc (Obj.cells #[] 40 (0, 0)))
          rw [← hZ]
          have HB60 : Hid (Below w5.heap.size w5 Z60) := by rw [hZ]; exact HB59.out.alloc HB59.out.size _
          have HO60 : Hid (Z60.ownsRow w5.heap.size 40 2 (.slice (some ⟨Z59.heap.size, 0, none⟩) 0 0) 0 []) := by
            show World.ownsRow _ _ _ _ _ _ _
            rw [hZ]
            exact ⟨rfl, Or.inr ⟨Z59.heap.size, 0, #[], rfl, HB59.out.size, heap_alloc_new _ _, Nat.le_refl _, Nat.zero_le _, rfl, rfl⟩⟩
          have HV60 : Hid (Z60.heap[w5.heap.size]? = some zeroG) := by rw [hZ]; exact keepT HV59.out (below_one _ _)
          have HM60 : Hid (some (w5.heap.size) ≠ (Value.ownBlock (.slice (some ⟨Z59.heap.size, 0, none⟩) 0 0))) := fun e => by
            have h := (Array.getElem?_eq_some_iff.1 HV59.out).1
            simp [Value.ownBlock] at e h
            omega
          clear hZ
          refine hK.out _ _ (HS11.out _ HB60.out) (fun hHeld => ?_)
          clear hK KK
          try simp only [Act.put, List.setIfInBounds_toArray, List.set_cons_succ]
          try simp only [List.set_cons_zero]
          refine wpAnyH_ready (rs := [5, 27]) (by kernel_rfl) (by simp) ?_
          refine AllReadyH.cons (o := _) rfl (fun KK hK => ?_) (AllReadyH.cons (o := _) rfl (fun KK hK => ?_) AllReadyH.nil)
          next =>
           refine step_append_any _ rfl (.tmp 91) (.tmp 93) 22 rfl w5.heap.size 40 i0 _ 2 16 Try.underlying22 hi0 hz0 hz1 hz2 rfl (by decide) (.slice (some ⟨Z59.heap.size, 0, none⟩) 0 0) 0 [] (by simp [Act.eval]) HO60.out a2 K c2 (cellsE ys) (by simp [Act.eval]) HNIL.out HCL.out (HNY.out Z60 HB60.out) HOY.out (by unfold maxLen; omega) (by omega) HB60.out.size ?_
           intro v61 wa61 hown hgrow hat
           have HB61 : Hid (Below w5.heap.size w5 wa61) := Below.grown HB60.out hgrow HB60.out.size (fun j hj => (HO60.out.lt j hj).1)
           have HV61 : Hid (wa61.heap[w5.heap.size]? = some zeroG) := (hgrow.block _ (Array.getElem?_eq_some_iff.1 HV60.out).1 HM60.out).trans HV60.out
           have HO61 : Hid (wa61.ownsRow w5.heap.size 40 2 v61 K (cellsE ys)) := by
             show World.ownsRow _ _ _ _ _ _ _
             have h := hown
             rw [Nat.zero_add, List.nil_append] at h
             exact h
           have HM61 : Hid (some (w5.heap.size) ≠ (Value.ownBlock v61)) := by
             show _ ≠ _
             rcases hat with h | h
             · rw [h]; exact HM60.out
             · rw [h]
               have h2 := (Array.getElem?_eq_some_iff.1 HV60.out).1
               intro e
               simp at e h2
               omega
           clear hown hgrow hat
           refine hK.out _ _ (HS11.out _ HB61.out) (fun hHeld => ?_)
           clear hK KK
           try simp only [Act.put, List.setIfInBounds_toArray]
           try simp only [List.set_cons_zero]
           refine wpAnyH_ready (rs := [27]) (by kernel_rfl) (by simp) ?_
           refine AllReadyH.cons (o := _) rfl (fun KK hK => ?_) AllReadyH.nil
           go_simp
           obtain ⟨Z62, hZ⟩ := ex_eq (wa61.alloc (sixE a b c))
           rw [← hZ]
           have HB62 : Hid (Below w5.heap.size w5 Z62) := by rw [hZ]; exact HB61.out.alloc HB61.out.size _
           have HV62 : Hid (Z62.heap[w5.heap.size]? = some zeroG) := by rw [hZ]; exact keepT HV61.out (below_one _ _)
           have HC62 : Hid (Z62.heap[wa61.heap.size]? = some (sixE a b c)) := by rw [hZ]; exact heap_alloc_new _ _
           have HN62 : Hid (some (wa61.heap.size) ≠ (Value.ownBlock v61)) := fun e => by
             have h := (HO61.out.lt _ e.symm).2
             simp at h
           have HO62 : Hid (Z62.ownsRow w5.heap.size 40 2 v61 K (cellsE ys)) := by
             show World.ownsRow _ _ _ _ _ _ _
             rw [hZ]; exact HO61.out.alloc _
           clear hZ
           refine hK.out _ _ (HS11.out _ HB62.out) (fun hHeld => ?_)
           clear hK KK
           try simp only [Act.put, List.setIfInBounds_toArray, List.set_cons_succ]
           try simp only [List.set_cons_zero]
           refine wpAnyH_ready (rs := [28]) (by kernel_rfl) (by simp) ?_
           refine AllReadyH.cons (o := _) rfl (fun KK hK => ?_) AllReadyH.nil
           refine step_append_any _ rfl (.tmp 94) (.tmp 116) 22 rfl w5.heap.size 40 i0 _ 2 16 Try.underlying22 hi0 hz0 hz1 hz2 rfl (by decide) v61 K (cellsE ys) (by simp [Act.eval]) HO62.out (some ⟨wa61.heap.size, 0, none⟩) 3 3 (sixL a b c) (by simp [Act.eval]) (fun h => by cases h) rfl (news_blkT HC62.out) HO6.out (by unfold maxLen; omega) (by omega) HB62.out.size ?_
           intro v63 wa63 hown hgrow hat
           have HB63 : Hid (Below w5.heap.size w5 wa63) := Below.grown HB62.out hgrow HB62.out.size (fun j hj => (HO62.out.lt j hj).1)
           have HV63 : Hid (wa63.heap[w5.heap.size]? = some zeroG) := (hgrow.block _ (Array.getElem?_eq_some_iff.1 HV62.out).1 HM61.out).trans HV62.out
           obtain ⟨aa63, ca63, hv63, _, hea63⟩ := eat_own (es := P3) (by
             have h := hown
             have e : cellsE P3 = cellsE ys ++ sixL a b c := by rw [HP3.out]; exact cellsE_three ys a b c
             rw [e, HP3L.out]; exact h)
           subst hv63
           have HEA63 := hid hea63
           clear hea63
           clear hown hgrow hat
           refine hK.out _ _ (HS11.out _ HB63.out) (fun hHeld => ?_)
           clear hK KK
           try simp only [Act.put, List.setIfInBounds_toArray]
           try simp only [List.set_cons_zero]
           refine wpAnyH_ready (rs := [29]) (by kernel_rfl) (by simp) ?_
           refine AllReadyH.cons (o := _) rfl (fun KK hK => ?_) AllReadyH.nil
           go_simp
           refine (CN.out aa63 ca63 _ HEA63.out).mono ?_
           rintro e wc64 ⟨v, rfl, er64, N64, E64, a64, c64, rfl, ⟨rfl, rfl, hsp⟩, hsl64, hea64, hb64⟩
           have HB64 : Hid (Below w5.heap.size w5 wc64) := HB63.out.trans (hb64.mono HB63.out.size)
           have HE64 := hid hea64
           have HSL64 := hid hsl64
           have HSP64 := hid hsp
           have HV64 : Hid (wc64.heap[w5.heap.size]? = some zeroG) := (hb64.block _ (Array.getElem?_eq_some_iff.1 HV63.out).1).trans HV63.out
           clear hb64 hea64 hsl64 hsp
           have z0 := cell_of_heap HV64.out 0
           have z1 := cell_of_heap HV64.out 1
           have zf0 := frozen_of_heap HV64.out 0
           have zf1 := frozen_of_heap HV64.out 1
           refine hK.out _ _ (HS11.out _ HB64.out) (fun hHeld => ?_)
           clear hK KK
           try simp only [Act.put, List.setIfInBounds_toArray, List.set_cons_succ]
           try simp only [List.set_cons_zero]
           (refine takeW (i := 30) (dst := some 88) (v := ?_) rfl rfl (by kernel_rfl) (by kernel_rfl) (by kernel_rfl) (fun _ _ _ h => h) (Or.inl ⟨by rfl, ?_⟩) hHeld ?_; rotate_left; focus (intro w hSw; (try dsimp only at hSw); go_simp; (try with_reducible rfl); done))
           try simp only [Act.put, List.setIfInBounds_toArray, List.set_cons_zero, List.set_cons_succ]
           (refine takeW (i := 31) (dst := some 119) (v := ?_) rfl rfl (by kernel_rfl) (by kernel_rfl) (by kernel_rfl) (fun _ _ _ h => h) (Or.inl ⟨by rfl, ?_⟩) hHeld ?_; rotate_left; focus (intro w hSw; (try dsimp only at hSw); go_simp; (try with_reducible rfl); done))
           try simp only [Act.put, List.setIfInBounds_toArray, List.set_cons_zero, List.set_cons_succ]
           (refine takeW (i := 32) (dst := some 120) (v := ?_) rfl rfl (by kernel_rfl) (by kernel_rfl) (by kernel_rfl) (fun _ _ _ h => h) (Or.inl ⟨by rfl, ?_⟩) hHeld ?_; rotate_left; focus (intro w hSw; (try dsimp only at hSw); go_simp; (try with_reducible rfl); done))
           try simp only [Act.put, List.setIfInBounds_toArray, List.set_cons_zero, List.set_cons_succ]
           refine wpAnyH_ready (rs := [34]) (by kernel_rfl) (by simp) ?_
           refine AllReadyH.cons (o := _) rfl (fun KK hK => ?_) AllReadyH.nil
           go_simp
           refine hK.out _ _ (HS11.out _ ((HB64.out.setCell (p := ⟨w5.heap.size, 0, none⟩) HVG59.out _).setCell (p := ⟨w5.heap.size, 1, none⟩) HVG59.out _)) (fun hHeld => ?_)
           clear hK KK
           try simp only [Act.put, List.setIfInBounds_toArray, List.set_cons_succ]
           try simp only [List.set_cons_zero]
           (refine takeW (i := 35) (dst := some 9) (v := ?_) rfl rfl (by kernel_rfl) (by kernel_rfl) (by kernel_rfl) (fun _ _ _ h => h) (Or.inl ⟨by rfl, ?_⟩) hHeld ?_; rotate_left; focus (intro w hSw; (try dsimp only at hSw); go_simp; (try with_reducible rfl); done))
           try simp only [Act.put, List.setIfInBounds_toArray, List.set_cons_succ]
           try simp only [List.set_cons_zero]
           refine wpAnyH_done (by kernel_rfl) ?_ _
           have HNE := hid (eat_off_box HV64.out HE64.out)
           have HGN : Hid (GC ((wc64.setCell ⟨w5.heap.size, 0, none⟩ (.int .i64 m)).setCell ⟨w5.heap.size, 1, none⟩ (.slice a64 E64.length c64)) (w5.heap.size) m a64 E64.length c64 E64) :=
             ⟨cell_of_heap (two_putT HV64.out) 0, cell_of_heap (two_putT HV64.out) 1, (HE64.out.set (p := ⟨w5.heap.size, 0, none⟩) HNE.out _).set (p := ⟨w5.heap.size, 1, none⟩) HNE.out _⟩
           have HBN : Hid (Below w5.heap.size w5 ((wc64.setCell ⟨w5.heap.size, 0, none⟩ (.int .i64 m)).setCell ⟨w5.heap.size, 1, none⟩ (.slice a64 E64.length c64))) := (HB64.out.setCell (p := ⟨w5.heap.size, 0, none⟩) HVG59.out _).setCell (p := ⟨w5.heap.size, 1, none⟩) HVG59.out _
           clear hHeld
           go_wp2_with fail
           go_meet
           exact ⟨_, _, _, _, rfl, rfl, HGN, HSL64.out, HSP64.out, HBN.out⟩
          next =>
           go_simp
           obtain ⟨Z65, hZ⟩ := ex_eq (Z60.alloc (sixE a b c))
           rw [← hZ]
           have HB65 : Hid (Below w5.heap.size w5 Z65) := by rw [hZ]; exact HB60.out.alloc HB60.out.size _
           have HV65 : Hid (Z65.heap[w5.heap.size]? = some zeroG) := by rw [hZ]; exact keepT HV60.out (below_one _ _)
           have HC65 : Hid (Z65.heap[Z60.heap.size]? = some (sixE a b c)) := by rw [hZ]; exact heap_alloc_new _ _
           have HN65 : Hid (some (Z60.heap.size) ≠ (Value.ownBlock (.slice (some ⟨Z59.heap.size, 0, none⟩) 0 0))) := fun e => by
             have h := (HO60.out.lt _ e.symm).2
             simp at h
           have HO65 : Hid (Z65.ownsRow w5.heap.size 40 2 (.slice (some ⟨Z59.heap.size, 0, none⟩) 0 0) 0 []) := by
             show World.ownsRow _ _ _ _ _ _ _
             rw [hZ]; exact HO60.out.alloc _
           clear hZ
           refine hK.out _ _ (HS11.out _ HB65.out) (fun hHeld => ?_)
           clear hK KK
           try simp only [Act.put, List.setIfInBounds_toArray, List.set_cons_succ]
           try simp only [List.set_cons_zero]
           refine wpAnyH_ready (rs := [5]) (by kernel_rfl) (by simp) ?_
           refine AllReadyH.cons (o := _) rfl (fun KK hK => ?_) AllReadyH.nil
           refine step_append_any _ rfl (.tmp 91) (.tmp 93) 22 rfl w5.heap.size 40 i0 _ 2 16 Try.underlying22 hi0 hz0 hz1 hz2 rfl (by decide) (.slice (some ⟨Z59.heap.size, 0, none⟩) 0 0) 0 [] (by simp [Act.eval]) HO65.out a2 K c2 (cellsE ys) (by simp [Act.eval]) HNIL.out HCL.out (HNY.out Z65 HB65.out) HOY.out (by unfold maxLen; omega) (by omega) HB65.out.size ?_
           intro v66 wa66 hown hgrow hat
           have HB66 : Hid (Below w5.heap.size w5 wa66) := Below.grown HB65.out hgrow HB65.out.size (fun j hj => (HO65.out.lt j hj).1)
           have HC66 : Hid (wa66.heap[Z60.heap.size]? = some (sixE a b c)) := (hgrow.block _ (Array.getElem?_eq_some_iff.1 HC65.out).1 HN65.out).trans HC65.out
           have HV66 : Hid (wa66.heap[w5.heap.size]? = some zeroG) := (hgrow.block _ (Array.getElem?_eq_some_iff.1 HV65.out).1 HM60.out).trans HV65.out
           have HO66 : Hid (wa66.ownsRow w5.heap.size 40 2 v66 K (cellsE ys)) := by
             show World.ownsRow _ _ _ _ _ _ _
             have h := hown
             rw [Nat.zero_add, List.nil_append] at h
             exact h
           have HN66 : Hid (some (Z60.heap.size) ≠ (Value.ownBlock v66)) := by
             show _ ≠ _
             rcases hat with h | h
             · rw [h]; exact HN65.out
             · rw [h]
               have h2 := (Array.getElem?_eq_some_iff.1 HC65.out).1
               intro e
               simp at e h2
               omega
           have HM66 : Hid (some (w5.heap.size) ≠ (Value.ownBlock v66)) := by
             show _ ≠ _
             rcases hat with h | h
             · rw [h]; exact HM60.out
             · rw [h]
               have h2 := (Array.getElem?_eq_some_iff.1 HV65.out).1
               intro e
               simp at e h2
               omega
           clear hown hgrow hat
           refine hK.out _ _ (HS11.out _ HB66.out) (fun hHeld => ?_)
           clear hK KK
           try simp only [Act.put, List.setIfInBounds_toArray]
           try simp only [List.set_cons_zero]
           refine wpAnyH_ready (rs := [28]) (by kernel_rfl) (by simp) ?_
           refine AllReadyH.cons (o := _) rfl (fun KK hK => ?_) AllReadyH.nil
           refine step_append_any _ rfl (.tmp 94) (.tmp 116) 22 rfl w5.heap.size 40 i0 _ 2 16 Try.underlying22 hi0 hz0 hz1 hz2 rfl (by decide) v66 K (cellsE ys) (by simp [Act.eval]) HO66.out (some ⟨Z60.heap.size, 0, none⟩) 3 3 (sixL a b c) (by simp [Act.eval]) (fun h => by cases h) rfl (news_blkT HC66.out) HO6.out (by unfold maxLen; omega) (by omega) HB66.out.size ?_
           intro v67 wa67 hown hgrow hat
           have HB67 : Hid (Below w5.heap.size w5 wa67) := Below.grown HB66.out hgrow HB66.out.size (fun j hj => (HO66.out.lt j hj).1)
           have HV67 : Hid (wa67.heap[w5.heap.size]? = some zeroG) := (hgrow.block _ (Array.getElem?_eq_some_iff.1 HV66.out).1 HM66.out).trans HV66.out
           obtain ⟨aa67, ca67, hv67, _, hea67⟩ := eat_own (es := P3) (by
             have h := hown
             have e : cellsE P3 = cellsE ys ++ sixL a b c := by rw [HP3.out]; exact cellsE_three ys a b c
             rw [e, HP3L.out]; exact h)
           subst hv67
           have HEA67 := hid hea67
           clear hea67
           clear hown hgrow hat
           refine hK.out _ _ (HS11.out _ HB67.out) (fun hHeld => ?_)
           clear hK KK
           try simp only [Act.put]
           try simp only [List.set_cons_zero]
           refine wpAnyH_ready (rs := [29]) (by kernel_rfl) (by simp) ?_
           refine AllReadyH.cons (o := _) rfl (fun KK hK => ?_) AllReadyH.nil
           go_simp
           refine (CN.out aa67 ca67 _ HEA67.out).mono ?_
           rintro e wc68 ⟨v, rfl, er68, N68, E68, a68, c68, rfl, ⟨rfl, rfl, hsp⟩, hsl68, hea68, hb68⟩
           have HB68 : Hid (Below w5.heap.size w5 wc68) := HB67.out.trans (hb68.mono HB67.out.size)
           have HE68 := hid hea68
           have HSL68 := hid hsl68
           have HSP68 := hid hsp
           have HV68 : Hid (wc68.heap[w5.heap.size]? = some zeroG) := (hb68.block _ (Array.getElem?_eq_some_iff.1 HV67.out).1).trans HV67.out
           clear hb68 hea68 hsl68 hsp
           have z0 := cell_of_heap HV68.out 0
           have z1 := cell_of_heap HV68.out 1
           have zf0 := frozen_of_heap HV68.out 0
           have zf1 := frozen_of_heap HV68.out 1
           refine hK.out _ _ (HS11.out _ HB68.out) (fun hHeld => ?_)
           clear hK KK
           try simp only [Act.put, List.setIfInBounds_toArray, List.set_cons_succ]
           try simp only [List.set_cons_zero]
           (refine takeW (i := 30) (dst := some 88) (v := ?_) rfl rfl (by kernel_rfl) (by kernel_rfl) (by kernel_rfl) (fun _ _ _ h => h) (Or.inl ⟨by rfl, ?_⟩) hHeld ?_; rotate_left; focus (intro w hSw; (try dsimp only at hSw); go_simp; (try with_reducible rfl); done))
           try simp only [Act.put, List.setIfInBounds_toArray, List.set_cons_zero, List.set_cons_succ]
           (refine takeW (i := 31) (dst := some 119) (v := ?_) rfl rfl (by kernel_rfl) (by kernel_rfl) (by kernel_rfl) (fun _ _ _ h => h) (Or.inl ⟨by rfl, ?_⟩) hHeld ?_; rotate_left; focus (intro w hSw; (try dsimp only at hSw); go_simp; (try with_reducible rfl); done))
           try simp only [Act.put, List.setIfInBounds_toArray, List.set_cons_zero, List.set_cons_succ]
           (refine takeW (i := 32) (dst := some 120) (v := ?_) rfl rfl (by kernel_rfl) (by kernel_rfl) (by kernel_rfl) (fun _ _ _ h => h) (Or.inl ⟨by rfl, ?_⟩) hHeld ?_; rotate_left; focus (intro w hSw; (try dsimp only at hSw); go_simp; (try with_reducible rfl); done))
           try simp only [Act.put, List.setIfInBounds_toArray, List.set_cons_zero, List.set_cons_succ]
           refine wpAnyH_ready (rs := [34]) (by kernel_rfl) (by simp) ?_
           refine AllReadyH.cons (o := _) rfl (fun KK hK => ?_) AllReadyH.nil
           go_simp
           refine hK.out _ _ (HS11.out _ ((HB68.out.setCell (p := ⟨w5.heap.size, 0, none⟩) HVG59.out _).setCell (p := ⟨w5.heap.size, 1, none⟩) HVG59.out _)) (fun hHeld => ?_)
           clear hK KK
           try simp only [Act.put, List.setIfInBounds_toArray, List.set_cons_succ]
           try simp only [List.set_cons_zero]
           (refine takeW (i := 35) (dst := some 9) (v := ?_) rfl rfl (by kernel_rfl) (by kernel_rfl) (by kernel_rfl) (fun _ _ _ h => h) (Or.inl ⟨by rfl, ?_⟩) hHeld ?_; rotate_left; focus (intro w hSw; (try dsimp only at hSw); go_simp; (try with_reducible rfl); done))
           try simp only [Act.put, List.setIfInBounds_toArray, List.set_cons_succ]
           try simp only [List.set_cons_zero]
           refine wpAnyH_done (by kernel_rfl) ?_ _
           have HNE := hid (eat_off_box HV68.out HE68.out)
           have HGN : Hid (GC ((wc68.setCell ⟨w5.heap.size, 0, none⟩ (.int .i64 m)).setCell ⟨w5.heap.size, 1, none⟩ (.slice a68 E68.length c68)) (w5.heap.size) m a68 E68.length c68 E68) :=
             ⟨cell_of_heap (two_putT HV68.out) 0, cell_of_heap (two_putT HV68.out) 1, (HE68.out.set (p := ⟨w5.heap.size, 0, none⟩) HNE.out _).set (p := ⟨w5.heap.size, 1, none⟩) HNE.out _⟩
           have HBN : Hid (Below w5.heap.size w5 ((wc68.setCell ⟨w5.heap.size, 0, none⟩ (.int .i64 m)).setCell ⟨w5.heap.size, 1, none⟩ (.slice a68 E68.length c68))) := (HB68.out.setCell (p := ⟨w5.heap.size, 0, none⟩) HVG59.out _).setCell (p := ⟨w5.heap.size, 1, none⟩) HVG59.out _
           clear hHeld
           go_wp2_with fail
           go_meet
           exact ⟨_, _, _, _, rfl, rfl, HGN, HSL68.out, HSP68.out, HBN.out⟩
         next =>
          go_simp
          obtain ⟨Z69, hZ⟩ := ex_eq (Z59.alloc (sixE a b c))
          rw [← hZ]
          have HB69 : Hid (Below w5.heap.size w5 Z69) := by rw [hZ]; exact HB59.out.alloc HB59.out.size _
          have HV69 : Hid (Z69.heap[w5.heap.size]? = some zeroG) := by rw [hZ]; exact keepT HV59.out (below_one _ _)
          have HC69 : Hid (Z69.heap[Z59.heap.size]? = some (sixE a b c)) := by rw [hZ]; exact heap_alloc_new _ _
          clear hZ
          refine hK.out _ _ (HS11.out _ HB69.out) (fun hHeld => ?_)
          clear hK KK
          try simp only [Act.put, List.setIfInBounds_toArray, List.set_cons_succ]
          try simp only [List.set_cons_zero]
          refine wpAnyH_ready (rs := [2]) (by kernel_rfl) (by simp) ?_
          refine AllReadyH.cons (o := _) rfl (fun KK hK => ?_) AllReadyH.nil
          go_simp
          obtain ⟨Z70, hZ⟩ := ex_eq (Z69.alloc (Obj.cells #[] 40 (0, 0)))
          rw [← hZ]
          have HB70 : Hid (Below w5.heap.size w5 Z70) := by rw [hZ]; exact HB69.out.alloc HB69.out.size _
          have HO70 : Hid (Z70.ownsRow w5.heap.size 40 2 (.slice (some ⟨Z69.heap.size, 0, none⟩) 0 0) 0 []) := by
            show World.ownsRow _ _ _ _ _ _ _
            rw [hZ]
            exact ⟨rfl, Or.inr ⟨Z69.heap.size, 0, #[], rfl, HB69.out.size, heap_alloc_new _ _, Nat.le_refl _, Nat.zero_le _, rfl, rfl⟩⟩
          have HC70 : Hid (Z70.heap[Z59.heap.size]? = some (sixE a b c)) := by rw [hZ]; exact keepT HC69.out (below_one _ _)
          have HV70 : Hid (Z70.heap[w5.heap.size]? = some zeroG) := by rw [hZ]; exact keepT HV69.out (below_one _ _)
          have HN70 : Hid (some (Z59.heap.size) ≠ (Value.ownBlock (.slice (some ⟨Z69.heap.size, 0, none⟩) 0 0))) := fun e => by
            have h := (Array.getElem?_eq_some_iff.1 HC69.out).1
            simp [Value.ownBlock] at e h
            omega
          have HM70 : Hid (some (w5.heap.size) ≠ (Value.ownBlock (.slice (some ⟨Z69.heap.size, 0, none⟩) 0 0))) := fun e => by
            have h := (Array.getElem?_eq_some_iff.1 HV69.out).1
            simp [Value.ownBlock] at e h
            omega
          clear hZ
          refine hK.out _ _ (HS11.out _ HB70.out) (fun hHeld => ?_)
          clear hK KK
          try simp only [Act.put, List.setIfInBounds_toArray, List.set_cons_succ]
          try simp only [List.set_cons_zero]
          refine wpAnyH_ready (rs := [5]) (by kernel_rfl) (by simp) ?_
          refine AllReadyH.cons (o := _) rfl (fun KK hK => ?_) AllReadyH.nil
          refine step_append_any _ rfl (.tmp 91) (.tmp 93) 22 rfl w5.heap.size 40 i0 _ 2 16 Try.underlying22 hi0 hz0 hz1 hz2 rfl (by decide) (.slice (some ⟨Z69.heap.size, 0, none⟩) 0 0) 0 [] (by simp [Act.eval]) HO70.out a2 K c2 (cellsE ys) (by simp [Act.eval]) HNIL.out HCL.out (HNY.out Z70 HB70.out) HOY.out (by unfold maxLen; omega) (by omega) HB70.out.size ?_
          intro v71 wa71 hown hgrow hat
          have HB71 : Hid (Below w5.heap.size w5 wa71) := Below.grown HB70.out hgrow HB70.out.size (fun j hj => (HO70.out.lt j hj).1)
          have HC71 : Hid (wa71.heap[Z59.heap.size]? = some (sixE a b c)) := (hgrow.block _ (Array.getElem?_eq_some_iff.1 HC70.out).1 HN70.out).trans HC70.out
          have HV71 : Hid (wa71.heap[w5.heap.size]? = some zeroG) := (hgrow.block _ (Array.getElem?_eq_some_iff.1 HV70.out).1 HM70.out).trans HV70.out
          have HO71 : Hid (wa71.ownsRow w5.heap.size 40 2 v71 K (cellsE ys)) := by
            show World.ownsRow _ _ _ _ _ _ _
            have h := hown
            rw [Nat.zero_add, List.nil_append] at h
            exact h
          have HN71 : Hid (some (Z59.heap.size) ≠ (Value.ownBlock v71)) := by
            show _ ≠ _
            rcases hat with h | h
            · rw [h]; exact HN70.out
            · rw [h]
              have h2 := (Array.getElem?_eq_some_iff.1 HC70.out).1
              intro e
              simp at e h2
              omega
          have HM71 : Hid (some (w5.heap.size) ≠ (Value.ownBlock v71)) := by
            show _ ≠ _
            rcases hat with h | h
            · rw [h]; exact HM70.out
            · rw [h]
              have h2 := (Array.getElem?_eq_some_iff.1 HV70.out).1
              intro e
              simp at e h2
              omega
          clear hown hgrow hat
          refine hK.out _ _ (HS11.out _ HB71.out) (fun hHeld => ?_)
          clear hK KK
          try simp only [Act.put, List.setIfInBounds_toArray]
          try simp only [List.set_cons_zero]
          refine wpAnyH_ready (rs := [28]) (by kernel_rfl) (by simp) ?_
          refine AllReadyH.cons (o := _) rfl (fun KK hK => ?_) AllReadyH.nil
          refine step_append_any _ rfl (.tmp 94) (.tmp 116) 22 rfl w5.heap.size 40 i0 _ 2 16 Try.underlying22 hi0 hz0 hz1 hz2 rfl (by decide) v71 K (cellsE ys) (by simp [Act.eval]) HO71.out (some ⟨Z59.heap.size, 0, none⟩) 3 3 (sixL a b c) (by simp [Act.eval]) (fun h => by cases h) rfl (news_blkT HC71.out) HO6.out (by unfold maxLen; omega) (by omega) HB71.out.size ?_
          intro v72 wa72 hown hgrow hat
          have HB72 : Hid (Below w5.heap.size w5 wa72) := Below.grown HB71.out hgrow HB71.out.size (fun j hj => (HO71.out.lt j hj).1)
          have HV72 : Hid (wa72.heap[w5.heap.size]? = some zeroG) := (hgrow.block _ (Array.getElem?_eq_some_iff.1 HV71.out).1 HM71.out).trans HV71.out
          obtain ⟨aa72, ca72, hv72, _, hea72⟩ := eat_own (es := P3) (by
            have h := hown
            have e : cellsE P3 = cellsE ys ++ sixL a b c := by rw [HP3.out]; exact cellsE_three ys a b c
            rw [e, HP3L.out]; exact h)
          subst hv72
          have HEA72 := hid hea72
          clear hea72
          clear hown hgrow hat
          refine hK.out _ _ (HS11.out _ HB72.out) (fun hHeld => ?_)
          clear hK KK
          try simp only [Act.put]
          try simp only [List.set_cons_zero]
          refine wpAnyH_ready (rs := [29]) (by kernel_rfl) (by simp) ?_
          refine AllReadyH.cons (o := _) rfl (fun KK hK => ?_) AllReadyH.nil
          go_simp
          refine (CN.out aa72 ca72 _ HEA72.out).mono ?_
          rintro e wc73 ⟨v, rfl, er73, N73, E73, a73, c73, rfl, ⟨rfl, rfl, hsp⟩, hsl73, hea73, hb73⟩
          have HB73 : Hid (Below w5.heap.size w5 wc73) := HB72.out.trans (hb73.mono HB72.out.size)
          have HE73 := hid hea73
          have HSL73 := hid hsl73
          have HSP73 := hid hsp
          have HV73 : Hid (wc73.heap[w5.heap.size]? = some zeroG) := (hb73.block _ (Array.getElem?_eq_some_iff.1 HV72.out).1).trans HV72.out
          clear hb73 hea73 hsl73 hsp
          have z0 := cell_of_heap HV73.out 0
          have z1 := cell_of_heap HV73.out 1
          have zf0 := frozen_of_heap HV73.out 0
          have zf1 := frozen_of_heap HV73.out 1
          refine hK.out _ _ (HS11.out _ HB73.out) (fun hHeld => ?_)
          clear hK KK
          try simp only [Act.put, List.setIfInBounds_toArray, List.set_cons_succ]
          try simp only [List.set_cons_zero]
          (refine takeW (i := 30) (dst := some 88) (v := ?_) rfl rfl (by kernel_rfl) (by kernel_rfl) (by kernel_rfl) (fun _ _ _ h => h) (Or.inl ⟨by rfl, ?_⟩) hHeld ?_; rotate_left; focus (intro w hSw; (try dsimp only at hSw); go_simp; (try with_reducible rfl); done))
          try simp only [Act.put, List.setIfInBounds_toArray, List.set_cons_zero, List.set_cons_succ]
          (refine takeW (i := 31) (dst := some 119) (v := ?_) rfl rfl (by kernel_rfl) (by kernel_rfl) (by kernel_rfl) (fun _ _ _ h => h) (Or.inl ⟨by rfl, ?_⟩) hHeld ?_; rotate_left; focus (intro w hSw; (try dsimp only at hSw); go_simp; (try with_reducible rfl); done))
          try simp only [Act.put, List.setIfInBounds_toArray, List.set_cons_zero, List.set_cons_succ]
          (refine takeW (i := 32) (dst := some 120) (v := ?_) rfl rfl (by kernel_rfl) (by kernel_rfl) (by kernel_rfl) (fun _ _ _ h => h) (Or.inl ⟨by rfl, ?_⟩) hHeld ?_; rotate_left; focus (intro w hSw; (try dsimp only at hSw); go_simp; (try with_reducible rfl); done))
          try simp only [Act.put, List.setIfInBounds_toArray, List.set_cons_zero, List.set_cons_succ]
          refine wpAnyH_ready (rs := [34]) (by kernel_rfl) (by simp) ?_
          refine AllReadyH.cons (o := _) rfl (fun KK hK => ?_) AllReadyH.nil
          go_simp
          refine hK.out _ _ (HS11.out _ ((HB73.out.setCell (p := ⟨w5.heap.size, 0, none⟩) HVG59.out _).setCell (p := ⟨w5.heap.size, 1, none⟩) HVG59.out _)) (fun hHeld => ?_)
          clear hK KK
          try simp only [Act.put, List.setIfInBounds_toArray, List.set_cons_succ]
          try simp only [List.set_cons_zero]
          (refine takeW (i := 35) (dst := some 9) (v := ?_) rfl rfl (by kernel_rfl) (by kernel_rfl) (by kernel_rfl) (fun _ _ _ h => h) (Or.inl ⟨by rfl, ?_⟩) hHeld ?_; rotate_left; focus (intro w hSw; (try dsimp only at hSw); go_simp; (try with_reducible rfl); done))
          try simp only [Act.put, List.setIfInBounds_toArray, List.set_cons_succ]
          try simp only [List.set_cons_zero]
          refine wpAnyH_done (by kernel_rfl) ?_ _
          have HNE := hid (eat_off_box HV73.out HE73.out)
          have HGN : Hid (GC ((wc73.setCell ⟨w5.heap.size, 0, none⟩ (.int .i64 m)).setCell ⟨w5.heap.size, 1, none⟩ (.slice a73 E73.length c73)) (w5.heap.size) m a73 E73.length c73 E73) :=
            ⟨cell_of_heap (two_putT HV73.out) 0, cell_of_heap (two_putT HV73.out) 1, (HE73.out.set (p := ⟨w5.heap.size, 0, none⟩) HNE.out _).set (p := ⟨w5.heap.size, 1, none⟩) HNE.out _⟩
          have HBN : Hid (Below w5.heap.size w5 ((wc73.setCell ⟨w5.heap.size, 0, none⟩ (.int .i64 m)).setCell ⟨w5.heap.size, 1, none⟩ (.slice a73 E73.length c73))) := (HB73.out.setCell (p := ⟨w5.heap.size, 0, none⟩) HVG59.out _).setCell (p := ⟨w5.heap.size, 1, none⟩) HVG59.out _
          clear hHeld
          go_wp2_with fail
          go_meet
          exact ⟨_, _, _, _, rfl, rfl, HGN, HSL73.out, HSP73.out, HBN.out⟩
      case rest =>
        obtain ⟨Bh, Eh, ah, ch, rfl, rfl, hgh, hslh, hnm, hbh⟩ := hcut
        obtain ⟨W11, rfl⟩ : ∃ W11, W11 = wc := ⟨_, rfl⟩
        obtain ⟨hrh, hab3, hac3, hbc3⟩ := three_norm HR.out HYS.out hab hbc hcm (by rw [← HP3.out]; exact hnm.out)
        have HRH := hid hrh
        have HADJ : Hid (Adj Eh a b ∧ Adj Eh a c ∧ Adj Eh b c) := ⟨hab3, hac3, hbc3⟩
        have HGh := hid hgh.out
        have HSLh := hid hslh.out
        have HRW := hid (HROW.out W11 hbh.out)
        have hg5 := block_lt_of_cell HRW.out.1
        have HBW := hid (HGW.out W11 hbh.out).2
        clear hrh hab3 hac3 hbc3 hgh hslh hnm hbh HROW HGW CN HNIL HCL HNY HOY HO6 HS11 HP3 HP3L
        have HM2 : Hid (m1 = m1 - 1 + 1) := by show _ = _; have := HM1.out; omega
        have hmm := HM1.out
        have HMM := hid hmm
        clear hmm
        obtain ⟨c1, hc1⟩ : ∃ c1, c = c1 + 1 := ⟨c - 1, by omega⟩
        have n1 : (c : Int) - 1 = (c1 : Int) := by omega
        have r5 : IntKind.i64.wrap (c1 : Int) = (c1 : Int) := by rw [IntKind.wrap_i64]; omega
        have HC1 := hid hc1
        have hcm1 : c < m1 + 1 := by have := HM1.out; omega
        have hm31 : m1 ≤ 29 := by have := HM1.out; omega
        clear hc1
        have HSK : Hid (∀ X, Below W11.heap.size W11 X → X.cell? ⟨Bh, 0, none⟩ = some (.int .i64 (m : Int)) ∧ X.cell? ⟨Bh, 1, none⟩ = some (.slice ah Eh.length ch) ∧ X.cell? ⟨g5, 0, none⟩ = some (.int .i64 a) ∧ X.cell? ⟨g5, 1, none⟩ = some (.int .i64 b) ∧ X.cell? ⟨g5, 2, none⟩ = some (.int .i64 c)) := fun X hX => ⟨(HGh.out.on hX).n0, (HGh.out.on hX).e0, (hX.cell (p := ⟨g5, 0, none⟩) hg5).trans HRW.out.1, (hX.cell (p := ⟨g5, 1, none⟩) hg5).trans HRW.out.2.1, (hX.cell (p := ⟨g5, 2, none⟩) hg5).trans HRW.out.2.2⟩
        have CK : Hid (∀ X, GC X Bh (m : Int) ah Eh.length ch Eh → Calls Try.prog 17 #[.agg #[.int .i64 (m : Int), .slice ah Eh.length ch], .int .i64 a, .int .i64 b] X fun e w' => ∃ u, e = .returned u ∧ SubTold (fun er N E' => er = 0 ∧ N = ((m1 : Int) : Int) ∧ ConE m Eh a b E') X w' u) := fun X hX => (HO.out.con m ah ch Eh a b true X (by have := HRH.out.2.2.1; omega) HSLh.out.w hX.at_ ⟨fun _ => HRH.out, fun _ => rfl⟩).mono fun e w' ⟨u, hu, ht⟩ => ⟨u, hu, ht.imp fun er N E' h => con_okT (lo := a) (hi := b) h HRH.out HADJ.out.1 (by omega) (by omega) HM1.out⟩
        go_upto_region 12 with fail
        go_cut [10, 11] from 121 to 131 (fun v8 v9 wx => ∃ Bn En an cn, v8 = .pointer (some ⟨Bn, 0, none⟩) ∧ v9 = .int .i64 0 ∧ Hid (GC wx Bn (m1 : Int) an En.length cn En) ∧ Hid (Sl an cn En.length) ∧ Hid (ConE m Eh a b En) ∧ Hid (Below W11.heap.size W11 wx))
        case first =>
          refine wp_region_held_drew (S := (fun X => X.cell? ⟨Bh, 0, none⟩ = some (.int .i64 (m : Int)) ∧ X.cell? ⟨Bh, 1, none⟩ = some (.slice ah Eh.length ch) ∧ X.cell? ⟨g5, 0, none⟩ = some (.int .i64 a) ∧ X.cell? ⟨g5, 1, none⟩ = some (.int .i64 b) ∧ X.cell? ⟨g5, 2, none⟩ = some (.int .i64 c))) (by kernel_rfl) (HSK.out _ (Below.refl _ _).drew) (fun hHeld => ?_)
          (refine takeW (i := 0) (dst := some 122) (v := ?_) rfl rfl (by kernel_rfl) (by kernel_rfl) (by kernel_rfl) (fun _ _ _ h => h) (Or.inl ⟨by rfl, ?_⟩) hHeld ?_; rotate_left; focus (intro w hSw; (try dsimp only at hSw); go_simp; (try with_reducible rfl); done))
          try simp only [Act.put, List.setIfInBounds_toArray, List.set_cons_zero, List.set_cons_succ]
          (refine takeW (i := 1) (dst := some 123) (v := ?_) rfl rfl (by kernel_rfl) (by kernel_rfl) (by kernel_rfl) (fun _ _ _ h => h) (Or.inl ⟨by rfl, ?_⟩) hHeld ?_; rotate_left; focus (intro w hSw; (try dsimp only at hSw); go_simp; (try with_reducible rfl); done))
          try simp only [Act.put, List.setIfInBounds_toArray, List.set_cons_zero, List.set_cons_succ]
          (refine takeW (i := 2) (dst := some 124) (v := ?_) rfl rfl (by kernel_rfl) (by kernel_rfl) (by kernel_rfl) (fun _ _ _ h => h) (Or.inl ⟨by rfl, ?_⟩) hHeld ?_; rotate_left; focus (intro w hSw; (try dsimp only at hSw); go_simp; (try with_reducible rfl); done))
          try simp only [Act.put, List.setIfInBounds_toArray, List.set_cons_zero, List.set_cons_succ]
          (refine takeW (i := 3) (dst := some 125) (v := ?_) rfl rfl (by kernel_rfl) (by kernel_rfl) (by kernel_rfl) (fun _ _ _ h => h) (Or.inl ⟨by rfl, ?_⟩) hHeld ?_; rotate_left; focus (intro w hSw; (try dsimp only at hSw); go_simp; (try with_reducible rfl); done))
          try simp only [Act.put, List.setIfInBounds_toArray, List.set_cons_zero, List.set_cons_succ]
          (refine takeW (i := 4) (dst := some 126) (v := ?_) rfl rfl (by kernel_rfl) (by kernel_rfl) (by kernel_rfl) (fun _ _ _ h => h) (Or.inl ⟨by rfl, ?_⟩) hHeld ?_; rotate_left; focus (intro w hSw; (try dsimp only at hSw); go_simp; (try with_reducible rfl); done))
          try simp only [Act.put, List.setIfInBounds_toArray, List.set_cons_zero, List.set_cons_succ]
          (refine takeW (i := 5) (dst := some 127) (v := ?_) rfl rfl (by kernel_rfl) (by kernel_rfl) (by kernel_rfl) (fun _ _ _ h => h) (Or.inl ⟨by rfl, ?_⟩) hHeld ?_; rotate_left; focus (intro w hSw; (try dsimp only at hSw); go_simp; (try with_reducible rfl); done))
          try simp only [Act.put, List.setIfInBounds_toArray, List.set_cons_zero, List.set_cons_succ]
          (refine takeW (i := 6) (dst := some 128) (v := ?_) rfl rfl (by kernel_rfl) (by kernel_rfl) (by kernel_rfl) (fun _ _ _ h => h) (Or.inl ⟨by rfl, ?_⟩) hHeld ?_; rotate_left; focus (intro w hSw; (try dsimp only at hSw); go_simp; (try with_reducible rfl); done))
          try simp only [Act.put, List.setIfInBounds_toArray, List.set_cons_zero, List.set_cons_succ]
          refine wpAnyH_ready (rs := [7, 11]) (by kernel_rfl) (by simp) ?_
          refine AllReadyH.cons (o := _) rfl (fun KK hK => ?_) (AllReadyH.cons (o := _) rfl (fun KK hK => ?_) AllReadyH.nil)
          next =>
           go_simp
           refine (CK.out _ (HGh.out.on (Below.refl W11.heap.size W11).drew)).mono ?_
           rintro e wc74 ⟨v, rfl, er74, N74, E74, a74, c74, rfl, ⟨rfl, rfl, hsp⟩, hsl74, hea74, hb74⟩
           have HB74 : Hid (Below W11.heap.size W11 wc74) := (Below.refl W11.heap.size W11).drew.trans (hb74.mono (Below.refl W11.heap.size W11).drew.size)
           have HE74 := hid hea74
           have HSL74 := hid hsl74
           have HSP74 := hid hsp
           clear hb74 hea74 hsl74 hsp
           refine hK.out _ _ (HSK.out _ HB74.out) (fun hHeld => ?_)
           clear hK KK
           try simp only [Act.put, List.setIfInBounds_toArray, List.set_cons_succ]
           try simp only [List.set_cons_zero]
           (refine takeW (i := 8) (dst := some 121) (v := ?_) rfl rfl (by kernel_rfl) (by kernel_rfl) (by kernel_rfl) (fun _ _ _ h => h) (Or.inl ⟨by rfl, ?_⟩) hHeld ?_; rotate_left; focus (intro w hSw; (try dsimp only at hSw); go_simp; (try with_reducible rfl); done))
           try simp only [Act.put, List.setIfInBounds_toArray, List.set_cons_zero, List.set_cons_succ]
           (refine takeW (i := 9) (dst := some 130) (v := ?_) rfl rfl (by kernel_rfl) (by kernel_rfl) (by kernel_rfl) (fun _ _ _ h => h) (Or.inl ⟨by rfl, ?_⟩) hHeld ?_; rotate_left; focus (intro w hSw; (try dsimp only at hSw); go_simp; (try with_reducible rfl); done))
           try simp only [Act.put, List.setIfInBounds_toArray, List.set_cons_zero, List.set_cons_succ]
           (refine takeW (i := 10) (dst := some 131) (v := ?_) rfl rfl (by kernel_rfl) (by kernel_rfl) (by kernel_rfl) (fun _ _ _ h => h) (Or.inl ⟨by rfl, ?_⟩) hHeld ?_; rotate_left; focus (intro w hSw; (try dsimp only at hSw); go_simp; (try with_reducible rfl); done))
           try simp only [Act.put, List.setIfInBounds_toArray, List.set_cons_zero, List.set_cons_succ]
           refine wpAnyH_ready (rs := [11]) (by kernel_rfl) (by simp) ?_
           refine AllReadyH.cons (o := _) rfl (fun KK hK => ?_) AllReadyH.nil
           go_simp
           obtain ⟨Z75, hZ⟩ := ex_eq (wc74.alloc (zeroG))
           rw [← hZ]
           have HB75 : Hid (Below W11.heap.size W11 Z75) := by rw [hZ]; exact HB74.out.alloc HB74.out.size _
           have HV75 : Hid (Z75.heap[wc74.heap.size]? = some zeroG) := by rw [hZ]; exact heap_alloc_new _ _
           have HVG75 : Hid (W11.heap.size ≤ wc74.heap.size) := by show _ ≤ _; exact HB74.out.size
           have HE75 : Hid (EAt Z75 a74 E74) := by rw [hZ]; exact HE74.out.below (below_one _ _)
           clear hZ
           have z0 := cell_of_heap HV75.out 0
           have z1 := cell_of_heap HV75.out 1
           have zf0 := frozen_of_heap HV75.out 0
           have zf1 := frozen_of_heap HV75.out 1
           refine hK.out _ _ (HSK.out _ HB75.out) (fun hHeld => ?_)
           clear hK KK
           try simp only [Act.put, List.setIfInBounds_toArray, List.set_cons_succ]
           try simp only [List.set_cons_zero]
           refine wpAnyH_ready (rs := [12]) (by kernel_rfl) (by simp) ?_
           refine AllReadyH.cons (o := _) rfl (fun KK hK => ?_) AllReadyH.nil
           go_simp
           refine hK.out _ _ (HSK.out _ ((HB75.out.setCell (p := ⟨wc74.heap.size, 0, none⟩) HVG75.out _).setCell (p := ⟨wc74.heap.size, 1, none⟩) HVG75.out _)) (fun hHeld => ?_)
           clear hK KK
           try simp only [Act.put, List.setIfInBounds_toArray, List.set_cons_succ]
           try simp only [List.set_cons_zero]
           (refine takeW (i := 13) (dst := some 11) (v := ?_) rfl rfl (by kernel_rfl) (by kernel_rfl) (by kernel_rfl) (fun _ _ _ h => h) (Or.inl ⟨by rfl, ?_⟩) hHeld ?_; rotate_left; focus (intro w hSw; (try dsimp only at hSw); go_simp; (try with_reducible rfl); done))
           try simp only [Act.put, List.setIfInBounds_toArray, List.set_cons_succ]
           try simp only [List.set_cons_zero]
           refine wpAnyH_done (by kernel_rfl) ?_ _
           have HNE := hid (eat_off_box HV75.out HE75.out)
           have HGN : Hid (GC ((Z75.setCell ⟨wc74.heap.size, 0, none⟩ (.int .i64 (m1 : Int))).setCell ⟨wc74.heap.size, 1, none⟩ (.slice a74 E74.length c74)) (wc74.heap.size) (m1 : Int) a74 E74.length c74 E74) :=
             ⟨cell_of_heap (two_putT HV75.out) 0, cell_of_heap (two_putT HV75.out) 1, (HE75.out.set (p := ⟨wc74.heap.size, 0, none⟩) HNE.out _).set (p := ⟨wc74.heap.size, 1, none⟩) HNE.out _⟩
           have HBN : Hid (Below W11.heap.size W11 ((Z75.setCell ⟨wc74.heap.size, 0, none⟩ (.int .i64 (m1 : Int))).setCell ⟨wc74.heap.size, 1, none⟩ (.slice a74 E74.length c74))) := (HB75.out.setCell (p := ⟨wc74.heap.size, 0, none⟩) HVG75.out _).setCell (p := ⟨wc74.heap.size, 1, none⟩) HVG75.out _
           clear hHeld
           go_wp2_with fail
           go_meet
           exact ⟨_, _, _, _, rfl, rfl, HGN, HSL74.out, HSP74.out, HBN.out⟩
          next =>
           go_simp
           obtain ⟨Z76, hZ⟩ := ex_eq ((W11.alloc (zeroG)).drew)
           rw [← hZ]
           have HB76 : Hid (Below W11.heap.size W11 Z76) := by rw [hZ]; exact (below_one _ _).drew
           have HV76 : Hid (Z76.heap[W11.heap.size]? = some zeroG) := by rw [hZ]; exact heap_alloc_new _ _
           have HVG76 : Hid (W11.heap.size ≤ W11.heap.size) := by show _ ≤ _; exact Nat.le_refl _
           clear hZ
           refine hK.out _ _ (HSK.out _ HB76.out) (fun hHeld => ?_)
           clear hK KK
           try simp only [Act.put, List.setIfInBounds_toArray, List.set_cons_succ]
           try simp only [List.set_cons_zero]
           refine wpAnyH_ready (rs := [7]) (by kernel_rfl) (by simp) ?_
           refine AllReadyH.cons (o := _) rfl (fun KK hK => ?_) AllReadyH.nil
           go_simp
           refine (CK.out _ (HGh.out.on HB76.out)).mono ?_
           rintro e wc77 ⟨v, rfl, er77, N77, E77, a77, c77, rfl, ⟨rfl, rfl, hsp⟩, hsl77, hea77, hb77⟩
           have HB77 : Hid (Below W11.heap.size W11 wc77) := HB76.out.trans (hb77.mono HB76.out.size)
           have HE77 := hid hea77
           have HSL77 := hid hsl77
           have HSP77 := hid hsp
           have HV77 : Hid (wc77.heap[W11.heap.size]? = some zeroG) := keepT HV76.out hb77
           clear hb77 hea77 hsl77 hsp
           have z0 := cell_of_heap HV77.out 0
           have z1 := cell_of_heap HV77.out 1
           have zf0 := frozen_of_heap HV77.out 0
           have zf1 := frozen_of_heap HV77.out 1
           refine hK.out _ _ (HSK.out _ HB77.out) (fun hHeld => ?_)
           clear hK KK
           try simp only [Act.put, List.setIfInBounds_toArray, List.set_cons_succ]
           try simp only [List.set_cons_zero]
           (refine takeW (i := 8) (dst := some 121) (v := ?_) rfl rfl (by kernel_rfl) (by kernel_rfl) (by kernel_rfl) (fun _ _ _ h => h) (Or.inl ⟨by rfl, ?_⟩) hHeld ?_; rotate_left; focus (intro w hSw; (try dsimp only at hSw); go_simp; (try with_reducible rfl); done))
           try simp only [Act.put, List.setIfInBounds_toArray, List.set_cons_zero, List.set_cons_succ]
           (refine takeW (i := 9) (dst := some 130) (v := ?_) rfl rfl (by kernel_rfl) (by kernel_rfl) (by kernel_rfl) (fun _ _ _ h => h) (Or.inl ⟨by rfl, ?_⟩) hHeld ?_; rotate_left; focus (intro w hSw; (try dsimp only at hSw); go_simp; (try with_reducible rfl); done))
           try simp only [Act.put, List.setIfInBounds_toArray, List.set_cons_zero, List.set_cons_succ]
           (refine takeW (i := 10) (dst := some 131) (v := ?_) rfl rfl (by kernel_rfl) (by kernel_rfl) (by kernel_rfl) (fun _ _ _ h => h) (Or.inl ⟨by rfl, ?_⟩) hHeld ?_; rotate_left; focus (intro w hSw; (try dsimp only at hSw); go_simp; (try with_reducible rfl); done))
           try simp only [Act.put, List.setIfInBounds_toArray, List.set_cons_zero, List.set_cons_succ]
           refine wpAnyH_ready (rs := [12]) (by kernel_rfl) (by simp) ?_
           refine AllReadyH.cons (o := _) rfl (fun KK hK => ?_) AllReadyH.nil
           go_simp
           refine hK.out _ _ (HSK.out _ ((HB77.out.setCell (p := ⟨W11.heap.size, 0, none⟩) HVG76.out _).setCell (p := ⟨W11.heap.size, 1, none⟩) HVG76.out _)) (fun hHeld => ?_)
           clear hK KK
           try simp only [Act.put, List.setIfInBounds_toArray, List.set_cons_succ]
           try simp only [List.set_cons_zero]
           (refine takeW (i := 13) (dst := some 11) (v := ?_) rfl rfl (by kernel_rfl) (by kernel_rfl) (by kernel_rfl) (fun _ _ _ h => h) (Or.inl ⟨by rfl, ?_⟩) hHeld ?_; rotate_left; focus (intro w hSw; (try dsimp only at hSw); go_simp; (try with_reducible rfl); done))
           try simp only [Act.put, List.setIfInBounds_toArray, List.set_cons_succ]
           try simp only [List.set_cons_zero]
           refine wpAnyH_done (by kernel_rfl) ?_ _
           have HNE := hid (eat_off_box HV77.out HE77.out)
           have HGN : Hid (GC ((wc77.setCell ⟨W11.heap.size, 0, none⟩ (.int .i64 (m1 : Int))).setCell ⟨W11.heap.size, 1, none⟩ (.slice a77 E77.length c77)) (W11.heap.size) (m1 : Int) a77 E77.length c77 E77) :=
             ⟨cell_of_heap (two_putT HV77.out) 0, cell_of_heap (two_putT HV77.out) 1, (HE77.out.set (p := ⟨W11.heap.size, 0, none⟩) HNE.out _).set (p := ⟨W11.heap.size, 1, none⟩) HNE.out _⟩
           have HBN : Hid (Below W11.heap.size W11 ((wc77.setCell ⟨W11.heap.size, 0, none⟩ (.int .i64 (m1 : Int))).setCell ⟨W11.heap.size, 1, none⟩ (.slice a77 E77.length c77))) := (HB77.out.setCell (p := ⟨W11.heap.size, 0, none⟩) HVG76.out _).setCell (p := ⟨W11.heap.size, 1, none⟩) HVG76.out _
           clear hHeld
           go_wp2_with fail
           go_meet
           exact ⟨_, _, _, _, rfl, rfl, HGN, HSL77.out, HSP77.out, HBN.out⟩
        case rest =>
          obtain ⟨B12, E12, a12, c12, rfl, rfl, hg, hsl, hsp, hb⟩ := hcut
          obtain ⟨W12, rfl⟩ : ∃ W12, W12 = wc := ⟨_, rfl⟩
          have HG12 := hid hg.out
          have HSL12 := hid hsl.out
          have HSP12 := hid hsp.out
          replace HGh := hid (HGh.out.on hb.out)
          replace HBW := hid (HBW.out.trans (hb.out.mono HBW.out.size))
          replace HRW := hid (⟨(hb.out.cell (p := ⟨g5, 0, none⟩) hg5).trans HRW.out.1, (hb.out.cell (p := ⟨g5, 1, none⟩) hg5).trans HRW.out.2.1, (hb.out.cell (p := ⟨g5, 2, none⟩) hg5).trans HRW.out.2.2⟩ : W12.cell? ⟨g5, 0, none⟩ = some (.int .i64 a) ∧ W12.cell? ⟨g5, 1, none⟩ = some (.int .i64 b) ∧ W12.cell? ⟨g5, 2, none⟩ = some (.int .i64 c))
          replace hg5 := block_lt_of_cell HRW.out.1
          clear hg hsl hsp hb HSK CK
          have HR12 : Hid (RightG m1 E12) := by
            have h := con_right HRH.out (lo := a) (hi := b) (by omega) (by omega) HADJ.out.1 HSP12.out
            rw [show m - 1 = m1 by have := HM1.out; omega] at h
            exact h
          obtain ⟨hac1, _, _⟩ := (fun (h : Adj E12 a ((c - 1 : Nat) : Int) ∧ True ∧ True) => h) ⟨adj_first HRH.out hab hbc hcm HADJ.out.2.1 HSP12.out, trivial, trivial⟩
          have HAC1 : Hid (Adj E12 a c1) := by
            show Adj _ _ _
            have e : c - 1 = c1 := by have := HC1.out; omega
            rw [e] at hac1; exact hac1
          have hac' : a < c1 := by have := HC1.out; omega
          clear hac1
          have HSK : Hid (∀ X, Below W12.heap.size W12 X → X.cell? ⟨B12, 0, none⟩ = some (.int .i64 (m1 : Int)) ∧ X.cell? ⟨B12, 1, none⟩ = some (.slice a12 E12.length c12) ∧ X.cell? ⟨g5, 0, none⟩ = some (.int .i64 a) ∧ X.cell? ⟨g5, 1, none⟩ = some (.int .i64 b) ∧ X.cell? ⟨g5, 2, none⟩ = some (.int .i64 c)) := fun X hX => ⟨(HG12.out.on hX).n0, (HG12.out.on hX).e0, (hX.cell (p := ⟨g5, 0, none⟩) hg5).trans HRW.out.1, (hX.cell (p := ⟨g5, 1, none⟩) hg5).trans HRW.out.2.1, (hX.cell (p := ⟨g5, 2, none⟩) hg5).trans HRW.out.2.2⟩
          have CK : Hid (∀ X, GC X B12 (m1 : Int) a12 E12.length c12 E12 → Calls Try.prog 17 #[.agg #[.int .i64 (m1 : Int), .slice a12 E12.length c12], .int .i64 a, .int .i64 c1] X fun e w' => ∃ u, e = .returned u ∧ SubTold (fun er N E' => er = 0 ∧ N = (((m1 - 1 : Nat) : Int) : Int) ∧ ConE m1 E12 a c1 E') X w' u) := fun X hX => (HO.out.con m1 a12 c12 E12 a c1 true X (by have := HR12.out.2.2.1; omega) HSL12.out.w hX.at_ ⟨fun _ => HR12.out, fun _ => rfl⟩).mono fun e w' ⟨u, hu, ht⟩ => ⟨u, hu, ht.imp fun er N E' h => con_okT (lo := a) (hi := c1) h HR12.out HAC1.out (by omega) (by omega) HM2.out⟩
          go_upto_region 13 with fail
          go_cut [12, 13] from 132 to 143 (fun v8 v9 wx => ∃ Bn En an cn, v8 = .pointer (some ⟨Bn, 0, none⟩) ∧ v9 = .int .i64 0 ∧ Hid (GC wx Bn ((m1 - 1 : Nat) : Int) an En.length cn En) ∧ Hid (Sl an cn En.length) ∧ Hid (ConE m1 E12 a c1 En) ∧ Hid (Below W12.heap.size W12 wx))
          case first =>
            refine wp_region_held_drew (S := (fun X => X.cell? ⟨B12, 0, none⟩ = some (.int .i64 (m1 : Int)) ∧ X.cell? ⟨B12, 1, none⟩ = some (.slice a12 E12.length c12) ∧ X.cell? ⟨g5, 0, none⟩ = some (.int .i64 a) ∧ X.cell? ⟨g5, 1, none⟩ = some (.int .i64 b) ∧ X.cell? ⟨g5, 2, none⟩ = some (.int .i64 c))) (by kernel_rfl) (HSK.out _ (Below.refl _ _).drew) (fun hHeld => ?_)
            (refine takeW (i := 0) (dst := some 133) (v := ?_) rfl rfl (by kernel_rfl) (by kernel_rfl) (by kernel_rfl) (fun _ _ _ h => h) (Or.inl ⟨by rfl, ?_⟩) hHeld ?_; rotate_left; focus (intro w hSw; (try dsimp only at hSw); go_simp; (try with_reducible rfl); done))
            try simp only [Act.put, List.setIfInBounds_toArray, List.set_cons_zero, List.set_cons_succ]
            (refine takeW (i := 1) (dst := some 134) (v := ?_) rfl rfl (by kernel_rfl) (by kernel_rfl) (by kernel_rfl) (fun _ _ _ h => h) (Or.inl ⟨by rfl, ?_⟩) hHeld ?_; rotate_left; focus (intro w hSw; (try dsimp only at hSw); go_simp; (try with_reducible rfl); done))
            try simp only [Act.put, List.setIfInBounds_toArray, List.set_cons_zero, List.set_cons_succ]
            (refine takeW (i := 2) (dst := some 135) (v := ?_) rfl rfl (by kernel_rfl) (by kernel_rfl) (by kernel_rfl) (fun _ _ _ h => h) (Or.inl ⟨by rfl, ?_⟩) hHeld ?_; rotate_left; focus (intro w hSw; (try dsimp only at hSw); go_simp; (try with_reducible rfl); done))
            try simp only [Act.put, List.setIfInBounds_toArray, List.set_cons_zero, List.set_cons_succ]
            (refine takeW (i := 3) (dst := some 136) (v := ?_) rfl rfl (by kernel_rfl) (by kernel_rfl) (by kernel_rfl) (fun _ _ _ h => h) (Or.inl ⟨by rfl, ?_⟩) hHeld ?_; rotate_left; focus (intro w hSw; (try dsimp only at hSw); go_simp; (try with_reducible rfl); done))
            try simp only [Act.put, List.setIfInBounds_toArray, List.set_cons_zero, List.set_cons_succ]
            (refine takeW (i := 4) (dst := some 137) (v := ?_) rfl rfl (by kernel_rfl) (by kernel_rfl) (by kernel_rfl) (fun _ _ _ h => h) (Or.inl ⟨by rfl, ?_⟩) hHeld ?_; rotate_left; focus (intro w hSw; (try dsimp only at hSw); go_simp; (try with_reducible rfl); done))
            try simp only [Act.put, List.setIfInBounds_toArray, List.set_cons_zero, List.set_cons_succ]
            (refine takeW (i := 5) (dst := some 138) (v := ?_) rfl rfl (by kernel_rfl) (by kernel_rfl) (by kernel_rfl) (fun _ _ _ h => h) (Or.inl ⟨by rfl, ?_⟩) hHeld ?_; rotate_left; focus (intro w hSw; (try dsimp only at hSw); go_simp; (try with_reducible rfl); done))
            try simp only [Act.put, List.setIfInBounds_toArray, List.set_cons_zero, List.set_cons_succ]
            (refine takeW (i := 6) (dst := some 139) (v := ?_) rfl rfl (by kernel_rfl) (by kernel_rfl) (by kernel_rfl) (fun _ _ _ h => h) (Or.inl ⟨by rfl, ?_⟩) hHeld ?_; rotate_left; focus (intro w hSw; (try dsimp only at hSw); go_simp; (try with_reducible rfl); done))
            try simp only [Act.put, List.setIfInBounds_toArray, List.set_cons_zero, List.set_cons_succ]
            (refine takeW (i := 7) (dst := some 140) (v := ?_) rfl rfl (by kernel_rfl) (by kernel_rfl) (by kernel_rfl) (fun _ _ _ h => h) (Or.inl ⟨by rfl, ?_⟩) hHeld ?_; rotate_left; focus (intro w hSw; (try dsimp only at hSw); go_simp; (try with_reducible rfl); done))
            try simp only [Act.put, List.setIfInBounds_toArray, List.set_cons_zero, List.set_cons_succ]
            refine wpAnyH_ready (rs := [8, 12]) (by kernel_rfl) (by simp) ?_
            refine AllReadyH.cons (o := _) rfl (fun KK hK => ?_) (AllReadyH.cons (o := _) rfl (fun KK hK => ?_) AllReadyH.nil)
            next =>
             go_simp
             refine (CK.out _ (HG12.out.on (Below.refl W12.heap.size W12).drew)).mono ?_
             rintro e wc78 ⟨v, rfl, er78, N78, E78, a78, c78, rfl, ⟨rfl, rfl, hsp⟩, hsl78, hea78, hb78⟩
             have HB78 : Hid (Below W12.heap.size W12 wc78) := (Below.refl W12.heap.size W12).drew.trans (hb78.mono (Below.refl W12.heap.size W12).drew.size)
             have HE78 := hid hea78
             have HSL78 := hid hsl78
             have HSP78 := hid hsp
             clear hb78 hea78 hsl78 hsp
             refine hK.out _ _ (HSK.out _ HB78.out) (fun hHeld => ?_)
             clear hK KK
             try simp only [Act.put, List.setIfInBounds_toArray, List.set_cons_succ]
             try simp only [List.set_cons_zero]
             (refine takeW (i := 9) (dst := some 132) (v := ?_) rfl rfl (by kernel_rfl) (by kernel_rfl) (by kernel_rfl) (fun _ _ _ h => h) (Or.inl ⟨by rfl, ?_⟩) hHeld ?_; rotate_left; focus (intro w hSw; (try dsimp only at hSw); go_simp; (try with_reducible rfl); done))
             try simp only [Act.put, List.setIfInBounds_toArray, List.set_cons_zero, List.set_cons_succ]
             (refine takeW (i := 10) (dst := some 142) (v := ?_) rfl rfl (by kernel_rfl) (by kernel_rfl) (by kernel_rfl) (fun _ _ _ h => h) (Or.inl ⟨by rfl, ?_⟩) hHeld ?_; rotate_left; focus (intro w hSw; (try dsimp only at hSw); go_simp; (try with_reducible rfl); done))
             try simp only [Act.put, List.setIfInBounds_toArray, List.set_cons_zero, List.set_cons_succ]
             (refine takeW (i := 11) (dst := some 143) (v := ?_) rfl rfl (by kernel_rfl) (by kernel_rfl) (by kernel_rfl) (fun _ _ _ h => h) (Or.inl ⟨by rfl, ?_⟩) hHeld ?_; rotate_left; focus (intro w hSw; (try dsimp only at hSw); go_simp; (try with_reducible rfl); done))
             try simp only [Act.put, List.setIfInBounds_toArray, List.set_cons_zero, List.set_cons_succ]
             refine wpAnyH_ready (rs := [12]) (by kernel_rfl) (by simp) ?_
             refine AllReadyH.cons (o := _) rfl (fun KK hK => ?_) AllReadyH.nil
             go_simp
             obtain ⟨Z79, hZ⟩ := ex_eq (wc78.alloc (zeroG))
             rw [← hZ]
             have HB79 : Hid (Below W12.heap.size W12 Z79) := by rw [hZ]; exact HB78.out.alloc HB78.out.size _
             have HV79 : Hid (Z79.heap[wc78.heap.size]? = some zeroG) := by rw [hZ]; exact heap_alloc_new _ _
             have HVG79 : Hid (W12.heap.size ≤ wc78.heap.size) := by show _ ≤ _; exact HB78.out.size
             have HE79 : Hid (EAt Z79 a78 E78) := by rw [hZ]; exact HE78.out.below (below_one _ _)
             clear hZ
             have z0 := cell_of_heap HV79.out 0
             have z1 := cell_of_heap HV79.out 1
             have zf0 := frozen_of_heap HV79.out 0
             have zf1 := frozen_of_heap HV79.out 1
             refine hK.out _ _ (HSK.out _ HB79.out) (fun hHeld => ?_)
             clear hK KK
             try simp only [Act.put, List.setIfInBounds_toArray, List.set_cons_succ]
             try simp only [List.set_cons_zero]
             refine wpAnyH_ready (rs := [13]) (by kernel_rfl) (by simp) ?_
             refine AllReadyH.cons (o := _) rfl (fun KK hK => ?_) AllReadyH.nil
             go_simp
             refine hK.out _ _ (HSK.out _ ((HB79.out.setCell (p := ⟨wc78.heap.size, 0, none⟩) HVG79.out _).setCell (p := ⟨wc78.heap.size, 1, none⟩) HVG79.out _)) (fun hHeld => ?_)
             clear hK KK
             try simp only [Act.put, List.setIfInBounds_toArray, List.set_cons_succ]
             try simp only [List.set_cons_zero]
             (refine takeW (i := 14) (dst := some 13) (v := ?_) rfl rfl (by kernel_rfl) (by kernel_rfl) (by kernel_rfl) (fun _ _ _ h => h) (Or.inl ⟨by rfl, ?_⟩) hHeld ?_; rotate_left; focus (intro w hSw; (try dsimp only at hSw); go_simp; (try with_reducible rfl); done))
             try simp only [Act.put, List.setIfInBounds_toArray, List.set_cons_succ]
             try simp only [List.set_cons_zero]
             refine wpAnyH_done (by kernel_rfl) ?_ _
             have HNE := hid (eat_off_box HV79.out HE79.out)
             have HGN : Hid (GC ((Z79.setCell ⟨wc78.heap.size, 0, none⟩ (.int .i64 ((m1 - 1 : Nat) : Int))).setCell ⟨wc78.heap.size, 1, none⟩ (.slice a78 E78.length c78)) (wc78.heap.size) ((m1 - 1 : Nat) : Int) a78 E78.length c78 E78) :=
               ⟨cell_of_heap (two_putT HV79.out) 0, cell_of_heap (two_putT HV79.out) 1, (HE79.out.set (p := ⟨wc78.heap.size, 0, none⟩) HNE.out _).set (p := ⟨wc78.heap.size, 1, none⟩) HNE.out _⟩
             have HBN : Hid (Below W12.heap.size W12 ((Z79.setCell ⟨wc78.heap.size, 0, none⟩ (.int .i64 ((m1 - 1 : Nat) : Int))).setCell ⟨wc78.heap.size, 1, none⟩ (.slice a78 E78.length c78))) := (HB79.out.setCell (p := ⟨wc78.heap.size, 0, none⟩) HVG79.out _).setCell (p := ⟨wc78.heap.size, 1, none⟩) HVG79.out _
             clear hHeld
             go_wp2_with fail
             go_meet
             exact ⟨_, _, _, _, rfl, rfl, HGN, HSL78.out, HSP78.out, HBN.out⟩
            next =>
             go_simp
             obtain ⟨Z80, hZ⟩ := ex_eq ((W12.alloc (zeroG)).drew)
             rw [← hZ]
             have HB80 : Hid (Below W12.heap.size W12 Z80) := by rw [hZ]; exact (below_one _ _).drew
             have HV80 : Hid (Z80.heap[W12.heap.size]? = some zeroG) := by rw [hZ]; exact heap_alloc_new _ _
             have HVG80 : Hid (W12.heap.size ≤ W12.heap.size) := by show _ ≤ _; exact Nat.le_refl _
             clear hZ
             refine hK.out _ _ (HSK.out _ HB80.out) (fun hHeld => ?_)
             clear hK KK
             try simp only [Act.put, List.setIfInBounds_toArray, List.set_cons_succ]
             try simp only [List.set_cons_zero]
             refine wpAnyH_ready (rs := [8]) (by kernel_rfl) (by simp) ?_
             refine AllReadyH.cons (o := _) rfl (fun KK hK => ?_) AllReadyH.nil
             go_simp
             refine (CK.out _ (HG12.out.on HB80.out)).mono ?_
             rintro e wc81 ⟨v, rfl, er81, N81, E81, a81, c81, rfl, ⟨rfl, rfl, hsp⟩, hsl81, hea81, hb81⟩
             have HB81 : Hid (Below W12.heap.size W12 wc81) := HB80.out.trans (hb81.mono HB80.out.size)
             have HE81 := hid hea81
             have HSL81 := hid hsl81
             have HSP81 := hid hsp
             have HV81 : Hid (wc81.heap[W12.heap.size]? = some zeroG) := keepT HV80.out hb81
             clear hb81 hea81 hsl81 hsp
             have z0 := cell_of_heap HV81.out 0
             have z1 := cell_of_heap HV81.out 1
             have zf0 := frozen_of_heap HV81.out 0
             have zf1 := frozen_of_heap HV81.out 1
             refine hK.out _ _ (HSK.out _ HB81.out) (fun hHeld => ?_)
             clear hK KK
             try simp only [Act.put, List.setIfInBounds_toArray, List.set_cons_succ]
             try simp only [List.set_cons_zero]
             (refine takeW (i := 9) (dst := some 132) (v := ?_) rfl rfl (by kernel_rfl) (by kernel_rfl) (by kernel_rfl) (fun _ _ _ h => h) (Or.inl ⟨by rfl, ?_⟩) hHeld ?_; rotate_left; focus (intro w hSw; (try dsimp only at hSw); go_simp; (try with_reducible rfl); done))
             try simp only [Act.put, List.setIfInBounds_toArray, List.set_cons_zero, List.set_cons_succ]
             (refine takeW (i := 10) (dst := some 142) (v := ?_) rfl rfl (by kernel_rfl) (by kernel_rfl) (by kernel_rfl) (fun _ _ _ h => h) (Or.inl ⟨by rfl, ?_⟩) hHeld ?_; rotate_left; focus (intro w hSw; (try dsimp only at hSw); go_simp; (try with_reducible rfl); done))
             try simp only [Act.put, List.setIfInBounds_toArray, List.set_cons_zero, List.set_cons_succ]
             (refine takeW (i := 11) (dst := some 143) (v := ?_) rfl rfl (by kernel_rfl) (by kernel_rfl) (by kernel_rfl) (fun _ _ _ h => h) (Or.inl ⟨by rfl, ?_⟩) hHeld ?_; rotate_left; focus (intro w hSw; (try dsimp only at hSw); go_simp; (try with_reducible rfl); done))
             try simp only [Act.put, List.setIfInBounds_toArray, List.set_cons_zero, List.set_cons_succ]
             refine wpAnyH_ready (rs := [13]) (by kernel_rfl) (by simp) ?_
             refine AllReadyH.cons (o := _) rfl (fun KK hK => ?_) AllReadyH.nil
             go_simp
             refine hK.out _ _ (HSK.out _ ((HB81.out.setCell (p := ⟨W12.heap.size, 0, none⟩) HVG80.out _).setCell (p := ⟨W12.heap.size, 1, none⟩) HVG80.out _)) (fun hHeld => ?_)
             clear hK KK
             try simp only [Act.put, List.setIfInBounds_toArray, List.set_cons_succ]
             try simp only [List.set_cons_zero]
             (refine takeW (i := 14) (dst := some 13) (v := ?_) rfl rfl (by kernel_rfl) (by kernel_rfl) (by kernel_rfl) (fun _ _ _ h => h) (Or.inl ⟨by rfl, ?_⟩) hHeld ?_; rotate_left; focus (intro w hSw; (try dsimp only at hSw); go_simp; (try with_reducible rfl); done))
             try simp only [Act.put, List.setIfInBounds_toArray, List.set_cons_succ]
             try simp only [List.set_cons_zero]
             refine wpAnyH_done (by kernel_rfl) ?_ _
             have HNE := hid (eat_off_box HV81.out HE81.out)
             have HGN : Hid (GC ((wc81.setCell ⟨W12.heap.size, 0, none⟩ (.int .i64 ((m1 - 1 : Nat) : Int))).setCell ⟨W12.heap.size, 1, none⟩ (.slice a81 E81.length c81)) (W12.heap.size) ((m1 - 1 : Nat) : Int) a81 E81.length c81 E81) :=
               ⟨cell_of_heap (two_putT HV81.out) 0, cell_of_heap (two_putT HV81.out) 1, (HE81.out.set (p := ⟨W12.heap.size, 0, none⟩) HNE.out _).set (p := ⟨W12.heap.size, 1, none⟩) HNE.out _⟩
             have HBN : Hid (Below W12.heap.size W12 ((wc81.setCell ⟨W12.heap.size, 0, none⟩ (.int .i64 ((m1 - 1 : Nat) : Int))).setCell ⟨W12.heap.size, 1, none⟩ (.slice a81 E81.length c81))) := (HB81.out.setCell (p := ⟨W12.heap.size, 0, none⟩) HVG80.out _).setCell (p := ⟨W12.heap.size, 1, none⟩) HVG80.out _
             clear hHeld
             go_wp2_with fail
             go_meet
             exact ⟨_, _, _, _, rfl, rfl, HGN, HSL81.out, HSP81.out, HBN.out⟩
          case rest =>
            obtain ⟨B13, E13, a13, c13, rfl, rfl, hg, hsl, hsp, hb⟩ := hcut
            obtain ⟨W13, rfl⟩ : ∃ W13, W13 = wc := ⟨_, rfl⟩
            have HG13 := hid hg.out
            have HSL13 := hid hsl.out
            have HSP13 := hid hsp.out
            replace HGh := hid (HGh.out.on hb.out)
            replace HBW := hid (HBW.out.trans (hb.out.mono HBW.out.size))
            replace HRW := hid (⟨(hb.out.cell (p := ⟨g5, 0, none⟩) hg5).trans HRW.out.1, (hb.out.cell (p := ⟨g5, 1, none⟩) hg5).trans HRW.out.2.1, (hb.out.cell (p := ⟨g5, 2, none⟩) hg5).trans HRW.out.2.2⟩ : W13.cell? ⟨g5, 0, none⟩ = some (.int .i64 a) ∧ W13.cell? ⟨g5, 1, none⟩ = some (.int .i64 b) ∧ W13.cell? ⟨g5, 2, none⟩ = some (.int .i64 c))
            replace hg5 := block_lt_of_cell HRW.out.1
            clear hg hsl hsp hb HSK CK
            clear HR12 HSL12 HG12
            have HSK : Hid (∀ X, Below W13.heap.size W13 X → X.cell? ⟨Bh, 0, none⟩ = some (.int .i64 (m : Int)) ∧ X.cell? ⟨Bh, 1, none⟩ = some (.slice ah Eh.length ch) ∧ X.cell? ⟨g5, 0, none⟩ = some (.int .i64 a) ∧ X.cell? ⟨g5, 1, none⟩ = some (.int .i64 b) ∧ X.cell? ⟨g5, 2, none⟩ = some (.int .i64 c)) := fun X hX => ⟨(HGh.out.on hX).n0, (HGh.out.on hX).e0, (hX.cell (p := ⟨g5, 0, none⟩) hg5).trans HRW.out.1, (hX.cell (p := ⟨g5, 1, none⟩) hg5).trans HRW.out.2.1, (hX.cell (p := ⟨g5, 2, none⟩) hg5).trans HRW.out.2.2⟩
            have CK : Hid (∀ X, GC X Bh (m : Int) ah Eh.length ch Eh → Calls Try.prog 17 #[.agg #[.int .i64 (m : Int), .slice ah Eh.length ch], .int .i64 a, .int .i64 c] X fun e w' => ∃ u, e = .returned u ∧ SubTold (fun er N E' => er = 0 ∧ N = ((m1 : Int) : Int) ∧ ConE m Eh a c E') X w' u) := fun X hX => (HO.out.con m ah ch Eh a c true X (by have := HRH.out.2.2.1; omega) HSLh.out.w hX.at_ ⟨fun _ => HRH.out, fun _ => rfl⟩).mono fun e w' ⟨u, hu, ht⟩ => ⟨u, hu, ht.imp fun er N E' h => con_okT (lo := a) (hi := c) h HRH.out HADJ.out.2.1 (by omega) (by omega) HM1.out⟩
            go_upto_region 14 with fail
            go_cut [14, 15] from 144 to 154 (fun v8 v9 wx => ∃ Bn En an cn, v8 = .pointer (some ⟨Bn, 0, none⟩) ∧ v9 = .int .i64 0 ∧ Hid (GC wx Bn (m1 : Int) an En.length cn En) ∧ Hid (Sl an cn En.length) ∧ Hid (ConE m Eh a c En) ∧ Hid (Below W13.heap.size W13 wx))
            case first =>
              refine wp_region_held_drew (S := (fun X => X.cell? ⟨Bh, 0, none⟩ = some (.int .i64 (m : Int)) ∧ X.cell? ⟨Bh, 1, none⟩ = some (.slice ah Eh.length ch) ∧ X.cell? ⟨g5, 0, none⟩ = some (.int .i64 a) ∧ X.cell? ⟨g5, 1, none⟩ = some (.int .i64 b) ∧ X.cell? ⟨g5, 2, none⟩ = some (.int .i64 c))) (by kernel_rfl) (HSK.out _ (Below.refl _ _).drew) (fun hHeld => ?_)
              (refine takeW (i := 0) (dst := some 145) (v := ?_) rfl rfl (by kernel_rfl) (by kernel_rfl) (by kernel_rfl) (fun _ _ _ h => h) (Or.inl ⟨by rfl, ?_⟩) hHeld ?_; rotate_left; focus (intro w hSw; (try dsimp only at hSw); go_simp; (try with_reducible rfl); done))
              try simp only [Act.put, List.setIfInBounds_toArray, List.set_cons_zero, List.set_cons_succ]
              (refine takeW (i := 1) (dst := some 146) (v := ?_) rfl rfl (by kernel_rfl) (by kernel_rfl) (by kernel_rfl) (fun _ _ _ h => h) (Or.inl ⟨by rfl, ?_⟩) hHeld ?_; rotate_left; focus (intro w hSw; (try dsimp only at hSw); go_simp; (try with_reducible rfl); done))
              try simp only [Act.put, List.setIfInBounds_toArray, List.set_cons_zero, List.set_cons_succ]
              (refine takeW (i := 2) (dst := some 147) (v := ?_) rfl rfl (by kernel_rfl) (by kernel_rfl) (by kernel_rfl) (fun _ _ _ h => h) (Or.inl ⟨by rfl, ?_⟩) hHeld ?_; rotate_left; focus (intro w hSw; (try dsimp only at hSw); go_simp; (try with_reducible rfl); done))
              try simp only [Act.put, List.setIfInBounds_toArray, List.set_cons_zero, List.set_cons_succ]
              (refine takeW (i := 3) (dst := some 148) (v := ?_) rfl rfl (by kernel_rfl) (by kernel_rfl) (by kernel_rfl) (fun _ _ _ h => h) (Or.inl ⟨by rfl, ?_⟩) hHeld ?_; rotate_left; focus (intro w hSw; (try dsimp only at hSw); go_simp; (try with_reducible rfl); done))
              try simp only [Act.put, List.setIfInBounds_toArray, List.set_cons_zero, List.set_cons_succ]
              (refine takeW (i := 4) (dst := some 149) (v := ?_) rfl rfl (by kernel_rfl) (by kernel_rfl) (by kernel_rfl) (fun _ _ _ h => h) (Or.inl ⟨by rfl, ?_⟩) hHeld ?_; rotate_left; focus (intro w hSw; (try dsimp only at hSw); go_simp; (try with_reducible rfl); done))
              try simp only [Act.put, List.setIfInBounds_toArray, List.set_cons_zero, List.set_cons_succ]
              (refine takeW (i := 5) (dst := some 150) (v := ?_) rfl rfl (by kernel_rfl) (by kernel_rfl) (by kernel_rfl) (fun _ _ _ h => h) (Or.inl ⟨by rfl, ?_⟩) hHeld ?_; rotate_left; focus (intro w hSw; (try dsimp only at hSw); go_simp; (try with_reducible rfl); done))
              try simp only [Act.put, List.setIfInBounds_toArray, List.set_cons_zero, List.set_cons_succ]
              (refine takeW (i := 6) (dst := some 151) (v := ?_) rfl rfl (by kernel_rfl) (by kernel_rfl) (by kernel_rfl) (fun _ _ _ h => h) (Or.inl ⟨by rfl, ?_⟩) hHeld ?_; rotate_left; focus (intro w hSw; (try dsimp only at hSw); go_simp; (try with_reducible rfl); done))
              try simp only [Act.put, List.setIfInBounds_toArray, List.set_cons_zero, List.set_cons_succ]
              refine wpAnyH_ready (rs := [7, 11]) (by kernel_rfl) (by simp) ?_
              refine AllReadyH.cons (o := _) rfl (fun KK hK => ?_) (AllReadyH.cons (o := _) rfl (fun KK hK => ?_) AllReadyH.nil)
              next =>
               go_simp
               refine (CK.out _ (HGh.out.on (Below.refl W13.heap.size W13).drew)).mono ?_
               rintro e wc82 ⟨v, rfl, er82, N82, E82, a82, c82, rfl, ⟨rfl, rfl, hsp⟩, hsl82, hea82, hb82⟩
               have HB82 : Hid (Below W13.heap.size W13 wc82) := (Below.refl W13.heap.size W13).drew.trans (hb82.mono (Below.refl W13.heap.size W13).drew.size)
               have HE82 := hid hea82
               have HSL82 := hid hsl82
               have HSP82 := hid hsp
               clear hb82 hea82 hsl82 hsp
               refine hK.out _ _ (HSK.out _ HB82.out) (fun hHeld => ?_)
               clear hK KK
               try simp only [Act.put, List.setIfInBounds_toArray, List.set_cons_succ]
               try simp only [List.set_cons_zero]
               (refine takeW (i := 8) (dst := some 144) (v := ?_) rfl rfl (by kernel_rfl) (by kernel_rfl) (by kernel_rfl) (fun _ _ _ h => h) (Or.inl ⟨by rfl, ?_⟩) hHeld ?_; rotate_left; focus (intro w hSw; (try dsimp only at hSw); go_simp; (try with_reducible rfl); done))
               try simp only [Act.put, List.setIfInBounds_toArray, List.set_cons_zero, List.set_cons_succ]
               (refine takeW (i := 9) (dst := some 153) (v := ?_) rfl rfl (by kernel_rfl) (by kernel_rfl) (by kernel_rfl) (fun _ _ _ h => h) (Or.inl ⟨by rfl, ?_⟩) hHeld ?_; rotate_left; focus (intro w hSw; (try dsimp only at hSw); go_simp; (try with_reducible rfl); done))
               try simp only [Act.put, List.setIfInBounds_toArray, List.set_cons_zero, List.set_cons_succ]
               (refine takeW (i := 10) (dst := some 154) (v := ?_) rfl rfl (by kernel_rfl) (by kernel_rfl) (by kernel_rfl) (fun _ _ _ h => h) (Or.inl ⟨by rfl, ?_⟩) hHeld ?_; rotate_left; focus (intro w hSw; (try dsimp only at hSw); go_simp; (try with_reducible rfl); done))
               try simp only [Act.put, List.setIfInBounds_toArray, List.set_cons_zero, List.set_cons_succ]
               refine wpAnyH_ready (rs := [11]) (by kernel_rfl) (by simp) ?_
               refine AllReadyH.cons (o := _) rfl (fun KK hK => ?_) AllReadyH.nil
               go_simp
               obtain ⟨Z83, hZ⟩ := ex_eq (wc82.alloc (zeroG))
               rw [← hZ]
               have HB83 : Hid (Below W13.heap.size W13 Z83) := by rw [hZ]; exact HB82.out.alloc HB82.out.size _
               have HV83 : Hid (Z83.heap[wc82.heap.size]? = some zeroG) := by rw [hZ]; exact heap_alloc_new _ _
               have HVG83 : Hid (W13.heap.size ≤ wc82.heap.size) := by show _ ≤ _; exact HB82.out.size
               have HE83 : Hid (EAt Z83 a82 E82) := by rw [hZ]; exact HE82.out.below (below_one _ _)
               clear hZ
               have z0 := cell_of_heap HV83.out 0
               have z1 := cell_of_heap HV83.out 1
               have zf0 := frozen_of_heap HV83.out 0
               have zf1 := frozen_of_heap HV83.out 1
               refine hK.out _ _ (HSK.out _ HB83.out) (fun hHeld => ?_)
               clear hK KK
               try simp only [Act.put, List.setIfInBounds_toArray, List.set_cons_succ]
               try simp only [List.set_cons_zero]
               refine wpAnyH_ready (rs := [12]) (by kernel_rfl) (by simp) ?_
               refine AllReadyH.cons (o := _) rfl (fun KK hK => ?_) AllReadyH.nil
               go_simp
               refine hK.out _ _ (HSK.out _ ((HB83.out.setCell (p := ⟨wc82.heap.size, 0, none⟩) HVG83.out _).setCell (p := ⟨wc82.heap.size, 1, none⟩) HVG83.out _)) (fun hHeld => ?_)
               clear hK KK
               try simp only [Act.put, List.setIfInBounds_toArray, List.set_cons_succ]
               try simp only [List.set_cons_zero]
               (refine takeW (i := 13) (dst := some 15) (v := ?_) rfl rfl (by kernel_rfl) (by kernel_rfl) (by kernel_rfl) (fun _ _ _ h => h) (Or.inl ⟨by rfl, ?_⟩) hHeld ?_; rotate_left; focus (intro w hSw; (try dsimp only at hSw); go_simp; (try with_reducible rfl); done))
               try simp only [Act.put, List.setIfInBounds_toArray, List.set_cons_succ]
               try simp only [List.set_cons_zero]
               refine wpAnyH_done (by kernel_rfl) ?_ _
               have HNE := hid (eat_off_box HV83.out HE83.out)
               have HGN : Hid (GC ((Z83.setCell ⟨wc82.heap.size, 0, none⟩ (.int .i64 (m1 : Int))).setCell ⟨wc82.heap.size, 1, none⟩ (.slice a82 E82.length c82)) (wc82.heap.size) (m1 : Int) a82 E82.length c82 E82) :=
                 ⟨cell_of_heap (two_putT HV83.out) 0, cell_of_heap (two_putT HV83.out) 1, (HE83.out.set (p := ⟨wc82.heap.size, 0, none⟩) HNE.out _).set (p := ⟨wc82.heap.size, 1, none⟩) HNE.out _⟩
               have HBN : Hid (Below W13.heap.size W13 ((Z83.setCell ⟨wc82.heap.size, 0, none⟩ (.int .i64 (m1 : Int))).setCell ⟨wc82.heap.size, 1, none⟩ (.slice a82 E82.length c82))) := (HB83.out.setCell (p := ⟨wc82.heap.size, 0, none⟩) HVG83.out _).setCell (p := ⟨wc82.heap.size, 1, none⟩) HVG83.out _
               clear hHeld
               go_wp2_with fail
               go_meet
               exact ⟨_, _, _, _, rfl, rfl, HGN, HSL82.out, HSP82.out, HBN.out⟩
              next =>
               go_simp
               obtain ⟨Z84, hZ⟩ := ex_eq ((W13.alloc (zeroG)).drew)
               rw [← hZ]
               have HB84 : Hid (Below W13.heap.size W13 Z84) := by rw [hZ]; exact (below_one _ _).drew
               have HV84 : Hid (Z84.heap[W13.heap.size]? = some zeroG) := by rw [hZ]; exact heap_alloc_new _ _
               have HVG84 : Hid (W13.heap.size ≤ W13.heap.size) := by show _ ≤ _; exact Nat.le_refl _
               clear hZ
               refine hK.out _ _ (HSK.out _ HB84.out) (fun hHeld => ?_)
               clear hK KK
               try simp only [Act.put, List.setIfInBounds_toArray, List.set_cons_succ]
               try simp only [List.set_cons_zero]
               refine wpAnyH_ready (rs := [7]) (by kernel_rfl) (by simp) ?_
               refine AllReadyH.cons (o := _) rfl (fun KK hK => ?_) AllReadyH.nil
               go_simp
               refine (CK.out _ (HGh.out.on HB84.out)).mono ?_
               rintro e wc85 ⟨v, rfl, er85, N85, E85, a85, c85, rfl, ⟨rfl, rfl, hsp⟩, hsl85, hea85, hb85⟩
               have HB85 : Hid (Below W13.heap.size W13 wc85) := HB84.out.trans (hb85.mono HB84.out.size)
               have HE85 := hid hea85
               have HSL85 := hid hsl85
               have HSP85 := hid hsp
               have HV85 : Hid (wc85.heap[W13.heap.size]? = some zeroG) := keepT HV84.out hb85
               clear hb85 hea85 hsl85 hsp
               have z0 := cell_of_heap HV85.out 0
               have z1 := cell_of_heap HV85.out 1
               have zf0 := frozen_of_heap HV85.out 0
               have zf1 := frozen_of_heap HV85.out 1
               refine hK.out _ _ (HSK.out _ HB85.out) (fun hHeld => ?_)
               clear hK KK
               try simp only [Act.put, List.setIfInBounds_toArray, List.set_cons_succ]
               try simp only [List.set_cons_zero]
               (refine takeW (i := 8) (dst := some 144) (v := ?_) rfl rfl (by kernel_rfl) (by kernel_rfl) (by kernel_rfl) (fun _ _ _ h => h) (Or.inl ⟨by rfl, ?_⟩) hHeld ?_; rotate_left; focus (intro w hSw; (try dsimp only at hSw); go_simp; (try with_reducible rfl); done))
               try simp only [Act.put, List.setIfInBounds_toArray, List.set_cons_zero, List.set_cons_succ]
               (refine takeW (i := 9) (dst := some 153) (v := ?_) rfl rfl (by kernel_rfl) (by kernel_rfl) (by kernel_rfl) (fun _ _ _ h => h) (Or.inl ⟨by rfl, ?_⟩) hHeld ?_; rotate_left; focus (intro w hSw; (try dsimp only at hSw); go_simp; (try with_reducible rfl); done))
               try simp only [Act.put, List.setIfInBounds_toArray, List.set_cons_zero, List.set_cons_succ]
               (refine takeW (i := 10) (dst := some 154) (v := ?_) rfl rfl (by kernel_rfl) (by kernel_rfl) (by kernel_rfl) (fun _ _ _ h => h) (Or.inl ⟨by rfl, ?_⟩) hHeld ?_; rotate_left; focus (intro w hSw; (try dsimp only at hSw); go_simp; (try with_reducible rfl); done))
               try simp only [Act.put, List.setIfInBounds_toArray, List.set_cons_zero, List.set_cons_succ]
               refine wpAnyH_ready (rs := [12]) (by kernel_rfl) (by simp) ?_
               refine AllReadyH.cons (o := _) rfl (fun KK hK => ?_) AllReadyH.nil
               go_simp
               refine hK.out _ _ (HSK.out _ ((HB85.out.setCell (p := ⟨W13.heap.size, 0, none⟩) HVG84.out _).setCell (p := ⟨W13.heap.size, 1, none⟩) HVG84.out _)) (fun hHeld => ?_)
               clear hK KK
               try simp only [Act.put, List.setIfInBounds_toArray, List.set_cons_succ]
               try simp only [List.set_cons_zero]
               (refine takeW (i := 13) (dst := some 15) (v := ?_) rfl rfl (by kernel_rfl) (by kernel_rfl) (by kernel_rfl) (fun _ _ _ h => h) (Or.inl ⟨by rfl, ?_⟩) hHeld ?_; rotate_left; focus (intro w hSw; (try dsimp only at hSw); go_simp; (try with_reducible rfl); done))
               try simp only [Act.put, List.setIfInBounds_toArray, List.set_cons_succ]
               try simp only [List.set_cons_zero]
               refine wpAnyH_done (by kernel_rfl) ?_ _
               have HNE := hid (eat_off_box HV85.out HE85.out)
               have HGN : Hid (GC ((wc85.setCell ⟨W13.heap.size, 0, none⟩ (.int .i64 (m1 : Int))).setCell ⟨W13.heap.size, 1, none⟩ (.slice a85 E85.length c85)) (W13.heap.size) (m1 : Int) a85 E85.length c85 E85) :=
                 ⟨cell_of_heap (two_putT HV85.out) 0, cell_of_heap (two_putT HV85.out) 1, (HE85.out.set (p := ⟨W13.heap.size, 0, none⟩) HNE.out _).set (p := ⟨W13.heap.size, 1, none⟩) HNE.out _⟩
               have HBN : Hid (Below W13.heap.size W13 ((wc85.setCell ⟨W13.heap.size, 0, none⟩ (.int .i64 (m1 : Int))).setCell ⟨W13.heap.size, 1, none⟩ (.slice a85 E85.length c85))) := (HB85.out.setCell (p := ⟨W13.heap.size, 0, none⟩) HVG84.out _).setCell (p := ⟨W13.heap.size, 1, none⟩) HVG84.out _
               clear hHeld
               go_wp2_with fail
               go_meet
               exact ⟨_, _, _, _, rfl, rfl, HGN, HSL85.out, HSP85.out, HBN.out⟩
            case rest =>
              obtain ⟨B14, E14, a14, c14, rfl, rfl, hg, hsl, hsp, hb⟩ := hcut
              obtain ⟨W14, rfl⟩ : ∃ W14, W14 = wc := ⟨_, rfl⟩
              have HG14 := hid hg.out
              have HSL14 := hid hsl.out
              have HSP14 := hid hsp.out
              replace HGh := hid (HGh.out.on hb.out)
              replace HG13 := hid (HG13.out.on hb.out)
              replace HBW := hid (HBW.out.trans (hb.out.mono HBW.out.size))
              replace HRW := hid (⟨(hb.out.cell (p := ⟨g5, 0, none⟩) hg5).trans HRW.out.1, (hb.out.cell (p := ⟨g5, 1, none⟩) hg5).trans HRW.out.2.1, (hb.out.cell (p := ⟨g5, 2, none⟩) hg5).trans HRW.out.2.2⟩ : W14.cell? ⟨g5, 0, none⟩ = some (.int .i64 a) ∧ W14.cell? ⟨g5, 1, none⟩ = some (.int .i64 b) ∧ W14.cell? ⟨g5, 2, none⟩ = some (.int .i64 c))
              replace hg5 := block_lt_of_cell HRW.out.1
              clear hg hsl hsp hb HSK CK
              have HR14 : Hid (RightG m1 E14) := by
                have h := con_right HRH.out (lo := a) (hi := c) (by omega) (by omega) HADJ.out.2.1 HSP14.out
                rw [show m - 1 = m1 by have := HM1.out; omega] at h
                exact h
              have HAB14 : Hid (Adj E14 a b) := (adj_second HRH.out hab hbc hcm HADJ.out.1 HSP14.out)
              have HSK : Hid (∀ X, Below W14.heap.size W14 X → X.cell? ⟨B14, 0, none⟩ = some (.int .i64 (m1 : Int)) ∧ X.cell? ⟨B14, 1, none⟩ = some (.slice a14 E14.length c14) ∧ X.cell? ⟨g5, 0, none⟩ = some (.int .i64 a) ∧ X.cell? ⟨g5, 1, none⟩ = some (.int .i64 b) ∧ X.cell? ⟨g5, 2, none⟩ = some (.int .i64 c)) := fun X hX => ⟨(HG14.out.on hX).n0, (HG14.out.on hX).e0, (hX.cell (p := ⟨g5, 0, none⟩) hg5).trans HRW.out.1, (hX.cell (p := ⟨g5, 1, none⟩) hg5).trans HRW.out.2.1, (hX.cell (p := ⟨g5, 2, none⟩) hg5).trans HRW.out.2.2⟩
              have CK : Hid (∀ X, GC X B14 (m1 : Int) a14 E14.length c14 E14 → Calls Try.prog 17 #[.agg #[.int .i64 (m1 : Int), .slice a14 E14.length c14], .int .i64 b, .int .i64 a] X fun e w' => ∃ u, e = .returned u ∧ SubTold (fun er N E' => er = 0 ∧ N = (((m1 - 1 : Nat) : Int) : Int) ∧ ConE m1 E14 a b E') X w' u) := fun X hX => (HO.out.con m1 a14 c14 E14 b a true X (by have := HR14.out.2.2.1; omega) HSL14.out.w hX.at_ ⟨fun _ => HR14.out, fun _ => rfl⟩).mono fun e w' ⟨u, hu, ht⟩ => ⟨u, hu, ht.imp fun er N E' h => con_okT (lo := a) (hi := b) h HR14.out HAB14.out (by omega) (by omega) HM2.out⟩
              go_upto_region 15 with fail
              go_cut [16, 17] from 155 to 165 (fun v8 v9 wx => ∃ Bn En an cn, v8 = .pointer (some ⟨Bn, 0, none⟩) ∧ v9 = .int .i64 0 ∧ Hid (GC wx Bn ((m1 - 1 : Nat) : Int) an En.length cn En) ∧ Hid (Sl an cn En.length) ∧ Hid (ConE m1 E14 a b En) ∧ Hid (Below W14.heap.size W14 wx))
              case first =>
                refine wp_region_held_drew (S := (fun X => X.cell? ⟨B14, 0, none⟩ = some (.int .i64 (m1 : Int)) ∧ X.cell? ⟨B14, 1, none⟩ = some (.slice a14 E14.length c14) ∧ X.cell? ⟨g5, 0, none⟩ = some (.int .i64 a) ∧ X.cell? ⟨g5, 1, none⟩ = some (.int .i64 b) ∧ X.cell? ⟨g5, 2, none⟩ = some (.int .i64 c))) (by kernel_rfl) (HSK.out _ (Below.refl _ _).drew) (fun hHeld => ?_)
                (refine takeW (i := 0) (dst := some 156) (v := ?_) rfl rfl (by kernel_rfl) (by kernel_rfl) (by kernel_rfl) (fun _ _ _ h => h) (Or.inl ⟨by rfl, ?_⟩) hHeld ?_; rotate_left; focus (intro w hSw; (try dsimp only at hSw); go_simp; (try with_reducible rfl); done))
                try simp only [Act.put, List.setIfInBounds_toArray, List.set_cons_zero, List.set_cons_succ]
                (refine takeW (i := 1) (dst := some 157) (v := ?_) rfl rfl (by kernel_rfl) (by kernel_rfl) (by kernel_rfl) (fun _ _ _ h => h) (Or.inl ⟨by rfl, ?_⟩) hHeld ?_; rotate_left; focus (intro w hSw; (try dsimp only at hSw); go_simp; (try with_reducible rfl); done))
                try simp only [Act.put, List.setIfInBounds_toArray, List.set_cons_zero, List.set_cons_succ]
                (refine takeW (i := 2) (dst := some 158) (v := ?_) rfl rfl (by kernel_rfl) (by kernel_rfl) (by kernel_rfl) (fun _ _ _ h => h) (Or.inl ⟨by rfl, ?_⟩) hHeld ?_; rotate_left; focus (intro w hSw; (try dsimp only at hSw); go_simp; (try with_reducible rfl); done))
                try simp only [Act.put, List.setIfInBounds_toArray, List.set_cons_zero, List.set_cons_succ]
                (refine takeW (i := 3) (dst := some 159) (v := ?_) rfl rfl (by kernel_rfl) (by kernel_rfl) (by kernel_rfl) (fun _ _ _ h => h) (Or.inl ⟨by rfl, ?_⟩) hHeld ?_; rotate_left; focus (intro w hSw; (try dsimp only at hSw); go_simp; (try with_reducible rfl); done))
                try simp only [Act.put, List.setIfInBounds_toArray, List.set_cons_zero, List.set_cons_succ]
                (refine takeW (i := 4) (dst := some 160) (v := ?_) rfl rfl (by kernel_rfl) (by kernel_rfl) (by kernel_rfl) (fun _ _ _ h => h) (Or.inl ⟨by rfl, ?_⟩) hHeld ?_; rotate_left; focus (intro w hSw; (try dsimp only at hSw); go_simp; (try with_reducible rfl); done))
                try simp only [Act.put, List.setIfInBounds_toArray, List.set_cons_zero, List.set_cons_succ]
                (refine takeW (i := 5) (dst := some 161) (v := ?_) rfl rfl (by kernel_rfl) (by kernel_rfl) (by kernel_rfl) (fun _ _ _ h => h) (Or.inl ⟨by rfl, ?_⟩) hHeld ?_; rotate_left; focus (intro w hSw; (try dsimp only at hSw); go_simp; (try with_reducible rfl); done))
                try simp only [Act.put, List.setIfInBounds_toArray, List.set_cons_zero, List.set_cons_succ]
                (refine takeW (i := 6) (dst := some 162) (v := ?_) rfl rfl (by kernel_rfl) (by kernel_rfl) (by kernel_rfl) (fun _ _ _ h => h) (Or.inl ⟨by rfl, ?_⟩) hHeld ?_; rotate_left; focus (intro w hSw; (try dsimp only at hSw); go_simp; (try with_reducible rfl); done))
                try simp only [Act.put, List.setIfInBounds_toArray, List.set_cons_zero, List.set_cons_succ]
                refine wpAnyH_ready (rs := [7, 11]) (by kernel_rfl) (by simp) ?_
                refine AllReadyH.cons (o := _) rfl (fun KK hK => ?_) (AllReadyH.cons (o := _) rfl (fun KK hK => ?_) AllReadyH.nil)
                next =>
                 go_simp
                 refine (CK.out _ (HG14.out.on (Below.refl W14.heap.size W14).drew)).mono ?_
                 rintro e wc86 ⟨v, rfl, er86, N86, E86, a86, c86, rfl, ⟨rfl, rfl, hsp⟩, hsl86, hea86, hb86⟩
                 have HB86 : Hid (Below W14.heap.size W14 wc86) := (Below.refl W14.heap.size W14).drew.trans (hb86.mono (Below.refl W14.heap.size W14).drew.size)
                 have HE86 := hid hea86
                 have HSL86 := hid hsl86
                 have HSP86 := hid hsp
                 clear hb86 hea86 hsl86 hsp
                 refine hK.out _ _ (HSK.out _ HB86.out) (fun hHeld => ?_)
                 clear hK KK
                 try simp only [Act.put, List.setIfInBounds_toArray, List.set_cons_succ]
                 try simp only [List.set_cons_zero]
                 (refine takeW (i := 8) (dst := some 155) (v := ?_) rfl rfl (by kernel_rfl) (by kernel_rfl) (by kernel_rfl) (fun _ _ _ h => h) (Or.inl ⟨by rfl, ?_⟩) hHeld ?_; rotate_left; focus (intro w hSw; (try dsimp only at hSw); go_simp; (try with_reducible rfl); done))
                 try simp only [Act.put, List.setIfInBounds_toArray, List.set_cons_zero, List.set_cons_succ]
                 (refine takeW (i := 9) (dst := some 164) (v := ?_) rfl rfl (by kernel_rfl) (by kernel_rfl) (by kernel_rfl) (fun _ _ _ h => h) (Or.inl ⟨by rfl, ?_⟩) hHeld ?_; rotate_left; focus (intro w hSw; (try dsimp only at hSw); go_simp; (try with_reducible rfl); done))
                 try simp only [Act.put, List.setIfInBounds_toArray, List.set_cons_zero, List.set_cons_succ]
                 (refine takeW (i := 10) (dst := some 165) (v := ?_) rfl rfl (by kernel_rfl) (by kernel_rfl) (by kernel_rfl) (fun _ _ _ h => h) (Or.inl ⟨by rfl, ?_⟩) hHeld ?_; rotate_left; focus (intro w hSw; (try dsimp only at hSw); go_simp; (try with_reducible rfl); done))
                 try simp only [Act.put, List.setIfInBounds_toArray, List.set_cons_zero, List.set_cons_succ]
                 refine wpAnyH_ready (rs := [11]) (by kernel_rfl) (by simp) ?_
                 refine AllReadyH.cons (o := _) rfl (fun KK hK => ?_) AllReadyH.nil
                 go_simp
                 obtain ⟨Z87, hZ⟩ := ex_eq (wc86.alloc (zeroG))
                 rw [← hZ]
                 have HB87 : Hid (Below W14.heap.size W14 Z87) := by rw [hZ]; exact HB86.out.alloc HB86.out.size _
                 have HV87 : Hid (Z87.heap[wc86.heap.size]? = some zeroG) := by rw [hZ]; exact heap_alloc_new _ _
                 have HVG87 : Hid (W14.heap.size ≤ wc86.heap.size) := by show _ ≤ _; exact HB86.out.size
                 have HE87 : Hid (EAt Z87 a86 E86) := by rw [hZ]; exact HE86.out.below (below_one _ _)
                 clear hZ
                 have z0 := cell_of_heap HV87.out 0
                 have z1 := cell_of_heap HV87.out 1
                 have zf0 := frozen_of_heap HV87.out 0
                 have zf1 := frozen_of_heap HV87.out 1
                 refine hK.out _ _ (HSK.out _ HB87.out) (fun hHeld => ?_)
                 clear hK KK
                 try simp only [Act.put, List.setIfInBounds_toArray, List.set_cons_succ]
                 try simp only [List.set_cons_zero]
                 refine wpAnyH_ready (rs := [12]) (by kernel_rfl) (by simp) ?_
                 refine AllReadyH.cons (o := _) rfl (fun KK hK => ?_) AllReadyH.nil
                 go_simp
                 refine hK.out _ _ (HSK.out _ ((HB87.out.setCell (p := ⟨wc86.heap.size, 0, none⟩) HVG87.out _).setCell (p := ⟨wc86.heap.size, 1, none⟩) HVG87.out _)) (fun hHeld => ?_)
                 clear hK KK
                 try simp only [Act.put, List.setIfInBounds_toArray, List.set_cons_succ]
                 try simp only [List.set_cons_zero]
                 (refine takeW (i := 13) (dst := some 17) (v := ?_) rfl rfl (by kernel_rfl) (by kernel_rfl) (by kernel_rfl) (fun _ _ _ h => h) (Or.inl ⟨by rfl, ?_⟩) hHeld ?_; rotate_left; focus (intro w hSw; (try dsimp only at hSw); go_simp; (try with_reducible rfl); done))
                 try simp only [Act.put, List.setIfInBounds_toArray, List.set_cons_succ]
                 try simp only [List.set_cons_zero]
                 refine wpAnyH_done (by kernel_rfl) ?_ _
                 have HNE := hid (eat_off_box HV87.out HE87.out)
                 have HGN : Hid (GC ((Z87.setCell ⟨wc86.heap.size, 0, none⟩ (.int .i64 ((m1 - 1 : Nat) : Int))).setCell ⟨wc86.heap.size, 1, none⟩ (.slice a86 E86.length c86)) (wc86.heap.size) ((m1 - 1 : Nat) : Int) a86 E86.length c86 E86) :=
                   ⟨cell_of_heap (two_putT HV87.out) 0, cell_of_heap (two_putT HV87.out) 1, (HE87.out.set (p := ⟨wc86.heap.size, 0, none⟩) HNE.out _).set (p := ⟨wc86.heap.size, 1, none⟩) HNE.out _⟩
                 have HBN : Hid (Below W14.heap.size W14 ((Z87.setCell ⟨wc86.heap.size, 0, none⟩ (.int .i64 ((m1 - 1 : Nat) : Int))).setCell ⟨wc86.heap.size, 1, none⟩ (.slice a86 E86.length c86))) := (HB87.out.setCell (p := ⟨wc86.heap.size, 0, none⟩) HVG87.out _).setCell (p := ⟨wc86.heap.size, 1, none⟩) HVG87.out _
                 clear hHeld
                 go_wp2_with fail
                 go_meet
                 exact ⟨_, _, _, _, rfl, rfl, HGN, HSL86.out, HSP86.out, HBN.out⟩
                next =>
                 go_simp
                 obtain ⟨Z88, hZ⟩ := ex_eq ((W14.alloc (zeroG)).drew)
                 rw [← hZ]
                 have HB88 : Hid (Below W14.heap.size W14 Z88) := by rw [hZ]; exact (below_one _ _).drew
                 have HV88 : Hid (Z88.heap[W14.heap.size]? = some zeroG) := by rw [hZ]; exact heap_alloc_new _ _
                 have HVG88 : Hid (W14.heap.size ≤ W14.heap.size) := by show _ ≤ _; exact Nat.le_refl _
                 clear hZ
                 refine hK.out _ _ (HSK.out _ HB88.out) (fun hHeld => ?_)
                 clear hK KK
                 try simp only [Act.put, List.setIfInBounds_toArray, List.set_cons_succ]
                 try simp only [List.set_cons_zero]
                 refine wpAnyH_ready (rs := [7]) (by kernel_rfl) (by simp) ?_
                 refine AllReadyH.cons (o := _) rfl (fun KK hK => ?_) AllReadyH.nil
                 go_simp
                 refine (CK.out _ (HG14.out.on HB88.out)).mono ?_
                 rintro e wc89 ⟨v, rfl, er89, N89, E89, a89, c89, rfl, ⟨rfl, rfl, hsp⟩, hsl89, hea89, hb89⟩
                 have HB89 : Hid (Below W14.heap.size W14 wc89) := HB88.out.trans (hb89.mono HB88.out.size)
                 have HE89 := hid hea89
                 have HSL89 := hid hsl89
                 have HSP89 := hid hsp
                 have HV89 : Hid (wc89.heap[W14.heap.size]? = some zeroG) := keepT HV88.out hb89
                 clear hb89 hea89 hsl89 hsp
                 have z0 := cell_of_heap HV89.out 0
                 have z1 := cell_of_heap HV89.out 1
                 have zf0 := frozen_of_heap HV89.out 0
                 have zf1 := frozen_of_heap HV89.out 1
                 refine hK.out _ _ (HSK.out _ HB89.out) (fun hHeld => ?_)
                 clear hK KK
                 try simp only [Act.put, List.setIfInBounds_toArray, List.set_cons_succ]
                 try simp only [List.set_cons_zero]
                 (refine takeW (i := 8) (dst := some 155) (v := ?_) rfl rfl (by kernel_rfl) (by kernel_rfl) (by kernel_rfl) (fun _ _ _ h => h) (Or.inl ⟨by rfl, ?_⟩) hHeld ?_; rotate_left; focus (intro w hSw; (try dsimp only at hSw); go_simp; (try with_reducible rfl); done))
                 try simp only [Act.put, List.setIfInBounds_toArray, List.set_cons_zero, List.set_cons_succ]
                 (refine takeW (i := 9) (dst := some 164) (v := ?_) rfl rfl (by kernel_rfl) (by kernel_rfl) (by kernel_rfl) (fun _ _ _ h => h) (Or.inl ⟨by rfl, ?_⟩) hHeld ?_; rotate_left; focus (intro w hSw; (try dsimp only at hSw); go_simp; (try with_reducible rfl); done))
                 try simp only [Act.put, List.setIfInBounds_toArray, List.set_cons_zero, List.set_cons_succ]
                 (refine takeW (i := 10) (dst := some 165) (v := ?_) rfl rfl (by kernel_rfl) (by kernel_rfl) (by kernel_rfl) (fun _ _ _ h => h) (Or.inl ⟨by rfl, ?_⟩) hHeld ?_; rotate_left; focus (intro w hSw; (try dsimp only at hSw); go_simp; (try with_reducible rfl); done))
                 try simp only [Act.put, List.setIfInBounds_toArray, List.set_cons_zero, List.set_cons_succ]
                 refine wpAnyH_ready (rs := [12]) (by kernel_rfl) (by simp) ?_
                 refine AllReadyH.cons (o := _) rfl (fun KK hK => ?_) AllReadyH.nil
                 go_simp
                 refine hK.out _ _ (HSK.out _ ((HB89.out.setCell (p := ⟨W14.heap.size, 0, none⟩) HVG88.out _).setCell (p := ⟨W14.heap.size, 1, none⟩) HVG88.out _)) (fun hHeld => ?_)
                 clear hK KK
                 try simp only [Act.put, List.setIfInBounds_toArray, List.set_cons_succ]
                 try simp only [List.set_cons_zero]
                 (refine takeW (i := 13) (dst := some 17) (v := ?_) rfl rfl (by kernel_rfl) (by kernel_rfl) (by kernel_rfl) (fun _ _ _ h => h) (Or.inl ⟨by rfl, ?_⟩) hHeld ?_; rotate_left; focus (intro w hSw; (try dsimp only at hSw); go_simp; (try with_reducible rfl); done))
                 try simp only [Act.put, List.setIfInBounds_toArray, List.set_cons_succ]
                 try simp only [List.set_cons_zero]
                 refine wpAnyH_done (by kernel_rfl) ?_ _
                 have HNE := hid (eat_off_box HV89.out HE89.out)
                 have HGN : Hid (GC ((wc89.setCell ⟨W14.heap.size, 0, none⟩ (.int .i64 ((m1 - 1 : Nat) : Int))).setCell ⟨W14.heap.size, 1, none⟩ (.slice a89 E89.length c89)) (W14.heap.size) ((m1 - 1 : Nat) : Int) a89 E89.length c89 E89) :=
                   ⟨cell_of_heap (two_putT HV89.out) 0, cell_of_heap (two_putT HV89.out) 1, (HE89.out.set (p := ⟨W14.heap.size, 0, none⟩) HNE.out _).set (p := ⟨W14.heap.size, 1, none⟩) HNE.out _⟩
                 have HBN : Hid (Below W14.heap.size W14 ((wc89.setCell ⟨W14.heap.size, 0, none⟩ (.int .i64 ((m1 - 1 : Nat) : Int))).setCell ⟨W14.heap.size, 1, none⟩ (.slice a89 E89.length c89))) := (HB89.out.setCell (p := ⟨W14.heap.size, 0, none⟩) HVG88.out _).setCell (p := ⟨W14.heap.size, 1, none⟩) HVG88.out _
                 clear hHeld
                 go_wp2_with fail
                 go_meet
                 exact ⟨_, _, _, _, rfl, rfl, HGN, HSL89.out, HSP89.out, HBN.out⟩
              case rest =>
                obtain ⟨B15, E15, a15, c15, rfl, rfl, hg, hsl, hsp, hb⟩ := hcut
                obtain ⟨W15, rfl⟩ : ∃ W15, W15 = wc := ⟨_, rfl⟩
                have HG15 := hid hg.out
                have HSL15 := hid hsl.out
                have HSP15 := hid hsp.out
                replace HGh := hid (HGh.out.on hb.out)
                replace HG13 := hid (HG13.out.on hb.out)
                replace HBW := hid (HBW.out.trans (hb.out.mono HBW.out.size))
                replace HRW := hid (⟨(hb.out.cell (p := ⟨g5, 0, none⟩) hg5).trans HRW.out.1, (hb.out.cell (p := ⟨g5, 1, none⟩) hg5).trans HRW.out.2.1, (hb.out.cell (p := ⟨g5, 2, none⟩) hg5).trans HRW.out.2.2⟩ : W15.cell? ⟨g5, 0, none⟩ = some (.int .i64 a) ∧ W15.cell? ⟨g5, 1, none⟩ = some (.int .i64 b) ∧ W15.cell? ⟨g5, 2, none⟩ = some (.int .i64 c))
                replace hg5 := block_lt_of_cell HRW.out.1
                clear hg hsl hsp hb HSK CK
                clear HR14 HSL14 HG14
                have HSK : Hid (∀ X, Below W15.heap.size W15 X → X.cell? ⟨Bh, 0, none⟩ = some (.int .i64 (m : Int)) ∧ X.cell? ⟨Bh, 1, none⟩ = some (.slice ah Eh.length ch) ∧ X.cell? ⟨g5, 0, none⟩ = some (.int .i64 a) ∧ X.cell? ⟨g5, 1, none⟩ = some (.int .i64 b) ∧ X.cell? ⟨g5, 2, none⟩ = some (.int .i64 c)) := fun X hX => ⟨(HGh.out.on hX).n0, (HGh.out.on hX).e0, (hX.cell (p := ⟨g5, 0, none⟩) hg5).trans HRW.out.1, (hX.cell (p := ⟨g5, 1, none⟩) hg5).trans HRW.out.2.1, (hX.cell (p := ⟨g5, 2, none⟩) hg5).trans HRW.out.2.2⟩
                have CK : Hid (∀ X, GC X Bh (m : Int) ah Eh.length ch Eh → Calls Try.prog 17 #[.agg #[.int .i64 (m : Int), .slice ah Eh.length ch], .int .i64 c, .int .i64 b] X fun e w' => ∃ u, e = .returned u ∧ SubTold (fun er N E' => er = 0 ∧ N = ((m1 : Int) : Int) ∧ ConE m Eh b c E') X w' u) := fun X hX => (HO.out.con m ah ch Eh c b true X (by have := HRH.out.2.2.1; omega) HSLh.out.w hX.at_ ⟨fun _ => HRH.out, fun _ => rfl⟩).mono fun e w' ⟨u, hu, ht⟩ => ⟨u, hu, ht.imp fun er N E' h => con_okT (lo := b) (hi := c) h HRH.out HADJ.out.2.2 (by omega) (by omega) HM1.out⟩
                go_upto_region 16 with fail
                go_cut [18, 19] from 166 to 176 (fun v8 v9 wx => ∃ Bn En an cn, v8 = .pointer (some ⟨Bn, 0, none⟩) ∧ v9 = .int .i64 0 ∧ Hid (GC wx Bn (m1 : Int) an En.length cn En) ∧ Hid (Sl an cn En.length) ∧ Hid (ConE m Eh b c En) ∧ Hid (Below W15.heap.size W15 wx))
                case first =>
                  refine wp_region_held_drew (S := (fun X => X.cell? ⟨Bh, 0, none⟩ = some (.int .i64 (m : Int)) ∧ X.cell? ⟨Bh, 1, none⟩ = some (.slice ah Eh.length ch) ∧ X.cell? ⟨g5, 0, none⟩ = some (.int .i64 a) ∧ X.cell? ⟨g5, 1, none⟩ = some (.int .i64 b) ∧ X.cell? ⟨g5, 2, none⟩ = some (.int .i64 c))) (by kernel_rfl) (HSK.out _ (Below.refl _ _).drew) (fun hHeld => ?_)
                  (refine takeW (i := 0) (dst := some 167) (v := ?_) rfl rfl (by kernel_rfl) (by kernel_rfl) (by kernel_rfl) (fun _ _ _ h => h) (Or.inl ⟨by rfl, ?_⟩) hHeld ?_; rotate_left; focus (intro w hSw; (try dsimp only at hSw); go_simp; (try with_reducible rfl); done))
                  try simp only [Act.put, List.setIfInBounds_toArray, List.set_cons_zero, List.set_cons_succ]
                  (refine takeW (i := 1) (dst := some 168) (v := ?_) rfl rfl (by kernel_rfl) (by kernel_rfl) (by kernel_rfl) (fun _ _ _ h => h) (Or.inl ⟨by rfl, ?_⟩) hHeld ?_; rotate_left; focus (intro w hSw; (try dsimp only at hSw); go_simp; (try with_reducible rfl); done))
                  try simp only [Act.put, List.setIfInBounds_toArray, List.set_cons_zero, List.set_cons_succ]
                  (refine takeW (i := 2) (dst := some 169) (v := ?_) rfl rfl (by kernel_rfl) (by kernel_rfl) (by kernel_rfl) (fun _ _ _ h => h) (Or.inl ⟨by rfl, ?_⟩) hHeld ?_; rotate_left; focus (intro w hSw; (try dsimp only at hSw); go_simp; (try with_reducible rfl); done))
                  try simp only [Act.put, List.setIfInBounds_toArray, List.set_cons_zero, List.set_cons_succ]
                  (refine takeW (i := 3) (dst := some 170) (v := ?_) rfl rfl (by kernel_rfl) (by kernel_rfl) (by kernel_rfl) (fun _ _ _ h => h) (Or.inl ⟨by rfl, ?_⟩) hHeld ?_; rotate_left; focus (intro w hSw; (try dsimp only at hSw); go_simp; (try with_reducible rfl); done))
                  try simp only [Act.put, List.setIfInBounds_toArray, List.set_cons_zero, List.set_cons_succ]
                  (refine takeW (i := 4) (dst := some 171) (v := ?_) rfl rfl (by kernel_rfl) (by kernel_rfl) (by kernel_rfl) (fun _ _ _ h => h) (Or.inl ⟨by rfl, ?_⟩) hHeld ?_; rotate_left; focus (intro w hSw; (try dsimp only at hSw); go_simp; (try with_reducible rfl); done))
                  try simp only [Act.put, List.setIfInBounds_toArray, List.set_cons_zero, List.set_cons_succ]
                  (refine takeW (i := 5) (dst := some 172) (v := ?_) rfl rfl (by kernel_rfl) (by kernel_rfl) (by kernel_rfl) (fun _ _ _ h => h) (Or.inl ⟨by rfl, ?_⟩) hHeld ?_; rotate_left; focus (intro w hSw; (try dsimp only at hSw); go_simp; (try with_reducible rfl); done))
                  try simp only [Act.put, List.setIfInBounds_toArray, List.set_cons_zero, List.set_cons_succ]
                  (refine takeW (i := 6) (dst := some 173) (v := ?_) rfl rfl (by kernel_rfl) (by kernel_rfl) (by kernel_rfl) (fun _ _ _ h => h) (Or.inl ⟨by rfl, ?_⟩) hHeld ?_; rotate_left; focus (intro w hSw; (try dsimp only at hSw); go_simp; (try with_reducible rfl); done))
                  try simp only [Act.put, List.setIfInBounds_toArray, List.set_cons_zero, List.set_cons_succ]
                  refine wpAnyH_ready (rs := [7, 11]) (by kernel_rfl) (by simp) ?_
                  refine AllReadyH.cons (o := _) rfl (fun KK hK => ?_) (AllReadyH.cons (o := _) rfl (fun KK hK => ?_) AllReadyH.nil)
                  next =>
                   go_simp
                   refine (CK.out _ (HGh.out.on (Below.refl W15.heap.size W15).drew)).mono ?_
                   rintro e wc90 ⟨v, rfl, er90, N90, E90, a90, c90, rfl, ⟨rfl, rfl, hsp⟩, hsl90, hea90, hb90⟩
                   have HB90 : Hid (Below W15.heap.size W15 wc90) := (Below.refl W15.heap.size W15).drew.trans (hb90.mono (Below.refl W15.heap.size W15).drew.size)
                   have HE90 := hid hea90
                   have HSL90 := hid hsl90
                   have HSP90 := hid hsp
                   clear hb90 hea90 hsl90 hsp
                   refine hK.out _ _ (HSK.out _ HB90.out) (fun hHeld => ?_)
                   clear hK KK
                   try simp only [Act.put, List.setIfInBounds_toArray, List.set_cons_succ]
                   try simp only [List.set_cons_zero]
                   (refine takeW (i := 8) (dst := some 166) (v := ?_) rfl rfl (by kernel_rfl) (by kernel_rfl) (by kernel_rfl) (fun _ _ _ h => h) (Or.inl ⟨by rfl, ?_⟩) hHeld ?_; rotate_left; focus (intro w hSw; (try dsimp only at hSw); go_simp; (try with_reducible rfl); done))
                   try simp only [Act.put, List.setIfInBounds_toArray, List.set_cons_zero, List.set_cons_succ]
                   (refine takeW (i := 9) (dst := some 175) (v := ?_) rfl rfl (by kernel_rfl) (by kernel_rfl) (by kernel_rfl) (fun _ _ _ h => h) (Or.inl ⟨by rfl, ?_⟩) hHeld ?_; rotate_left; focus (intro w hSw; (try dsimp only at hSw); go_simp; (try with_reducible rfl); done))
                   try simp only [Act.put, List.setIfInBounds_toArray, List.set_cons_zero, List.set_cons_succ]
                   (refine takeW (i := 10) (dst := some 176) (v := ?_) rfl rfl (by kernel_rfl) (by kernel_rfl) (by kernel_rfl) (fun _ _ _ h => h) (Or.inl ⟨by rfl, ?_⟩) hHeld ?_; rotate_left; focus (intro w hSw; (try dsimp only at hSw); go_simp; (try with_reducible rfl); done))
                   try simp only [Act.put, List.setIfInBounds_toArray, List.set_cons_zero, List.set_cons_succ]
                   refine wpAnyH_ready (rs := [11]) (by kernel_rfl) (by simp) ?_
                   refine AllReadyH.cons (o := _) rfl (fun KK hK => ?_) AllReadyH.nil
                   go_simp
                   obtain ⟨Z91, hZ⟩ := ex_eq (wc90.alloc (zeroG))
                   rw [← hZ]
                   have HB91 : Hid (Below W15.heap.size W15 Z91) := by rw [hZ]; exact HB90.out.alloc HB90.out.size _
                   have HV91 : Hid (Z91.heap[wc90.heap.size]? = some zeroG) := by rw [hZ]; exact heap_alloc_new _ _
                   have HVG91 : Hid (W15.heap.size ≤ wc90.heap.size) := by show _ ≤ _; exact HB90.out.size
                   have HE91 : Hid (EAt Z91 a90 E90) := by rw [hZ]; exact HE90.out.below (below_one _ _)
                   clear hZ
                   have z0 := cell_of_heap HV91.out 0
                   have z1 := cell_of_heap HV91.out 1
                   have zf0 := frozen_of_heap HV91.out 0
                   have zf1 := frozen_of_heap HV91.out 1
                   refine hK.out _ _ (HSK.out _ HB91.out) (fun hHeld => ?_)
                   clear hK KK
                   try simp only [Act.put, List.setIfInBounds_toArray, List.set_cons_succ]
                   try simp only [List.set_cons_zero]
                   refine wpAnyH_ready (rs := [12]) (by kernel_rfl) (by simp) ?_
                   refine AllReadyH.cons (o := _) rfl (fun KK hK => ?_) AllReadyH.nil
                   go_simp
                   refine hK.out _ _ (HSK.out _ ((HB91.out.setCell (p := ⟨wc90.heap.size, 0, none⟩) HVG91.out _).setCell (p := ⟨wc90.heap.size, 1, none⟩) HVG91.out _)) (fun hHeld => ?_)
                   clear hK KK
                   try simp only [Act.put, List.setIfInBounds_toArray, List.set_cons_succ]
                   try simp only [List.set_cons_zero]
                   (refine takeW (i := 13) (dst := some 19) (v := ?_) rfl rfl (by kernel_rfl) (by kernel_rfl) (by kernel_rfl) (fun _ _ _ h => h) (Or.inl ⟨by rfl, ?_⟩) hHeld ?_; rotate_left; focus (intro w hSw; (try dsimp only at hSw); go_simp; (try with_reducible rfl); done))
                   try simp only [Act.put, List.setIfInBounds_toArray, List.set_cons_succ]
                   try simp only [List.set_cons_zero]
                   refine wpAnyH_done (by kernel_rfl) ?_ _
                   have HNE := hid (eat_off_box HV91.out HE91.out)
                   have HGN : Hid (GC ((Z91.setCell ⟨wc90.heap.size, 0, none⟩ (.int .i64 (m1 : Int))).setCell ⟨wc90.heap.size, 1, none⟩ (.slice a90 E90.length c90)) (wc90.heap.size) (m1 : Int) a90 E90.length c90 E90) :=
                     ⟨cell_of_heap (two_putT HV91.out) 0, cell_of_heap (two_putT HV91.out) 1, (HE91.out.set (p := ⟨wc90.heap.size, 0, none⟩) HNE.out _).set (p := ⟨wc90.heap.size, 1, none⟩) HNE.out _⟩
                   have HBN : Hid (Below W15.heap.size W15 ((Z91.setCell ⟨wc90.heap.size, 0, none⟩ (.int .i64 (m1 : Int))).setCell ⟨wc90.heap.size, 1, none⟩ (.slice a90 E90.length c90))) := (HB91.out.setCell (p := ⟨wc90.heap.size, 0, none⟩) HVG91.out _).setCell (p := ⟨wc90.heap.size, 1, none⟩) HVG91.out _
                   clear hHeld
                   go_wp2_with fail
                   go_meet
                   exact ⟨_, _, _, _, rfl, rfl, HGN, HSL90.out, HSP90.out, HBN.out⟩
                  next =>
                   go_simp
                   obtain ⟨Z92, hZ⟩ := ex_eq ((W15.alloc (zeroG)).drew)
                   rw [← hZ]
                   have HB92 : Hid (Below W15.heap.size W15 Z92) := by rw [hZ]; exact (below_one _ _).drew
                   have HV92 : Hid (Z92.heap[W15.heap.size]? = some zeroG) := by rw [hZ]; exact heap_alloc_new _ _
                   have HVG92 : Hid (W15.heap.size ≤ W15.heap.size) := by show _ ≤ _; exact Nat.le_refl _
                   clear hZ
                   refine hK.out _ _ (HSK.out _ HB92.out) (fun hHeld => ?_)
                   clear hK KK
                   try simp only [Act.put, List.setIfInBounds_toArray, List.set_cons_succ]
                   try simp only [List.set_cons_zero]
                   refine wpAnyH_ready (rs := [7]) (by kernel_rfl) (by simp) ?_
                   refine AllReadyH.cons (o := _) rfl (fun KK hK => ?_) AllReadyH.nil
                   go_simp
                   refine (CK.out _ (HGh.out.on HB92.out)).mono ?_
                   rintro e wc93 ⟨v, rfl, er93, N93, E93, a93, c93, rfl, ⟨rfl, rfl, hsp⟩, hsl93, hea93, hb93⟩
                   have HB93 : Hid (Below W15.heap.size W15 wc93) := HB92.out.trans (hb93.mono HB92.out.size)
                   have HE93 := hid hea93
                   have HSL93 := hid hsl93
                   have HSP93 := hid hsp
                   have HV93 : Hid (wc93.heap[W15.heap.size]? = some zeroG) := keepT HV92.out hb93
                   clear hb93 hea93 hsl93 hsp
                   have z0 := cell_of_heap HV93.out 0
                   have z1 := cell_of_heap HV93.out 1
                   have zf0 := frozen_of_heap HV93.out 0
                   have zf1 := frozen_of_heap HV93.out 1
                   refine hK.out _ _ (HSK.out _ HB93.out) (fun hHeld => ?_)
                   clear hK KK
                   try simp only [Act.put, List.setIfInBounds_toArray, List.set_cons_succ]
                   try simp only [List.set_cons_zero]
                   (refine takeW (i := 8) (dst := some 166) (v := ?_) rfl rfl (by kernel_rfl) (by kernel_rfl) (by kernel_rfl) (fun _ _ _ h => h) (Or.inl ⟨by rfl, ?_⟩) hHeld ?_; rotate_left; focus (intro w hSw; (try dsimp only at hSw); go_simp; (try with_reducible rfl); done))
                   try simp only [Act.put, List.setIfInBounds_toArray, List.set_cons_zero, List.set_cons_succ]
                   (refine takeW (i := 9) (dst := some 175) (v := ?_) rfl rfl (by kernel_rfl) (by kernel_rfl) (by kernel_rfl) (fun _ _ _ h => h) (Or.inl ⟨by rfl, ?_⟩) hHeld ?_; rotate_left; focus (intro w hSw; (try dsimp only at hSw); go_simp; (try with_reducible rfl); done))
                   try simp only [Act.put, List.setIfInBounds_toArray, List.set_cons_zero, List.set_cons_succ]
                   (refine takeW (i := 10) (dst := some 176) (v := ?_) rfl rfl (by kernel_rfl) (by kernel_rfl) (by kernel_rfl) (fun _ _ _ h => h) (Or.inl ⟨by rfl, ?_⟩) hHeld ?_; rotate_left; focus (intro w hSw; (try dsimp only at hSw); go_simp; (try with_reducible rfl); done))
                   try simp only [Act.put, List.setIfInBounds_toArray, List.set_cons_zero, List.set_cons_succ]
                   refine wpAnyH_ready (rs := [12]) (by kernel_rfl) (by simp) ?_
                   refine AllReadyH.cons (o := _) rfl (fun KK hK => ?_) AllReadyH.nil
                   go_simp
                   refine hK.out _ _ (HSK.out _ ((HB93.out.setCell (p := ⟨W15.heap.size, 0, none⟩) HVG92.out _).setCell (p := ⟨W15.heap.size, 1, none⟩) HVG92.out _)) (fun hHeld => ?_)
                   clear hK KK
                   try simp only [Act.put, List.setIfInBounds_toArray, List.set_cons_succ]
                   try simp only [List.set_cons_zero]
                   (refine takeW (i := 13) (dst := some 19) (v := ?_) rfl rfl (by kernel_rfl) (by kernel_rfl) (by kernel_rfl) (fun _ _ _ h => h) (Or.inl ⟨by rfl, ?_⟩) hHeld ?_; rotate_left; focus (intro w hSw; (try dsimp only at hSw); go_simp; (try with_reducible rfl); done))
                   try simp only [Act.put, List.setIfInBounds_toArray, List.set_cons_succ]
                   try simp only [List.set_cons_zero]
                   refine wpAnyH_done (by kernel_rfl) ?_ _
                   have HNE := hid (eat_off_box HV93.out HE93.out)
                   have HGN : Hid (GC ((wc93.setCell ⟨W15.heap.size, 0, none⟩ (.int .i64 (m1 : Int))).setCell ⟨W15.heap.size, 1, none⟩ (.slice a93 E93.length c93)) (W15.heap.size) (m1 : Int) a93 E93.length c93 E93) :=
                     ⟨cell_of_heap (two_putT HV93.out) 0, cell_of_heap (two_putT HV93.out) 1, (HE93.out.set (p := ⟨W15.heap.size, 0, none⟩) HNE.out _).set (p := ⟨W15.heap.size, 1, none⟩) HNE.out _⟩
                   have HBN : Hid (Below W15.heap.size W15 ((wc93.setCell ⟨W15.heap.size, 0, none⟩ (.int .i64 (m1 : Int))).setCell ⟨W15.heap.size, 1, none⟩ (.slice a93 E93.length c93))) := (HB93.out.setCell (p := ⟨W15.heap.size, 0, none⟩) HVG92.out _).setCell (p := ⟨W15.heap.size, 1, none⟩) HVG92.out _
                   clear hHeld
                   go_wp2_with fail
                   go_meet
                   exact ⟨_, _, _, _, rfl, rfl, HGN, HSL93.out, HSP93.out, HBN.out⟩
                case rest =>
                  obtain ⟨B16, E16, a16, c16, rfl, rfl, hg, hsl, hsp, hb⟩ := hcut
                  obtain ⟨W16, rfl⟩ : ∃ W16, W16 = wc := ⟨_, rfl⟩
                  have HG16 := hid hg.out
                  have HSL16 := hid hsl.out
                  have HSP16 := hid hsp.out
                  replace HG13 := hid (HG13.out.on hb.out)
                  replace HG15 := hid (HG15.out.on hb.out)
                  replace HBW := hid (HBW.out.trans (hb.out.mono HBW.out.size))
                  replace HRW := hid (⟨(hb.out.cell (p := ⟨g5, 0, none⟩) hg5).trans HRW.out.1, (hb.out.cell (p := ⟨g5, 1, none⟩) hg5).trans HRW.out.2.1, (hb.out.cell (p := ⟨g5, 2, none⟩) hg5).trans HRW.out.2.2⟩ : W16.cell? ⟨g5, 0, none⟩ = some (.int .i64 a) ∧ W16.cell? ⟨g5, 1, none⟩ = some (.int .i64 b) ∧ W16.cell? ⟨g5, 2, none⟩ = some (.int .i64 c))
                  replace hg5 := block_lt_of_cell HRW.out.1
                  clear hg hsl hsp hb HSK CK
                  have HR16 : Hid (RightG m1 E16) := by
                    have h := con_right HRH.out (lo := b) (hi := c) (by omega) (by omega) HADJ.out.2.2 HSP16.out
                    rw [show m - 1 = m1 by have := HM1.out; omega] at h
                    exact h
                  have HAB16 : Hid (Adj E16 a b) := (adj_third HRH.out hab hbc hcm HADJ.out.1 HSP16.out)
                  clear HGh HSLh
                  have HSK : Hid (∀ X, Below W16.heap.size W16 X → X.cell? ⟨B16, 0, none⟩ = some (.int .i64 (m1 : Int)) ∧ X.cell? ⟨B16, 1, none⟩ = some (.slice a16 E16.length c16) ∧ X.cell? ⟨g5, 0, none⟩ = some (.int .i64 a) ∧ X.cell? ⟨g5, 1, none⟩ = some (.int .i64 b) ∧ X.cell? ⟨g5, 2, none⟩ = some (.int .i64 c)) := fun X hX => ⟨(HG16.out.on hX).n0, (HG16.out.on hX).e0, (hX.cell (p := ⟨g5, 0, none⟩) hg5).trans HRW.out.1, (hX.cell (p := ⟨g5, 1, none⟩) hg5).trans HRW.out.2.1, (hX.cell (p := ⟨g5, 2, none⟩) hg5).trans HRW.out.2.2⟩
                  have CK : Hid (∀ X, GC X B16 (m1 : Int) a16 E16.length c16 E16 → Calls Try.prog 17 #[.agg #[.int .i64 (m1 : Int), .slice a16 E16.length c16], .int .i64 a, .int .i64 b] X fun e w' => ∃ u, e = .returned u ∧ SubTold (fun er N E' => er = 0 ∧ N = (((m1 - 1 : Nat) : Int) : Int) ∧ ConE m1 E16 a b E') X w' u) := fun X hX => (HO.out.con m1 a16 c16 E16 a b true X (by have := HR16.out.2.2.1; omega) HSL16.out.w hX.at_ ⟨fun _ => HR16.out, fun _ => rfl⟩).mono fun e w' ⟨u, hu, ht⟩ => ⟨u, hu, ht.imp fun er N E' h => con_okT (lo := a) (hi := b) h HR16.out HAB16.out (by omega) (by omega) HM2.out⟩
                  go_upto_region 17 with fail
                  go_cut [20, 21] from 177 to 187 (fun v8 v9 wx => ∃ Bn En an cn, v8 = .pointer (some ⟨Bn, 0, none⟩) ∧ v9 = .int .i64 0 ∧ Hid (GC wx Bn ((m1 - 1 : Nat) : Int) an En.length cn En) ∧ Hid (Sl an cn En.length) ∧ Hid (ConE m1 E16 a b En) ∧ Hid (Below W16.heap.size W16 wx))
                  case first =>
                    refine wp_region_held_drew (S := (fun X => X.cell? ⟨B16, 0, none⟩ = some (.int .i64 (m1 : Int)) ∧ X.cell? ⟨B16, 1, none⟩ = some (.slice a16 E16.length c16) ∧ X.cell? ⟨g5, 0, none⟩ = some (.int .i64 a) ∧ X.cell? ⟨g5, 1, none⟩ = some (.int .i64 b) ∧ X.cell? ⟨g5, 2, none⟩ = some (.int .i64 c))) (by kernel_rfl) (HSK.out _ (Below.refl _ _).drew) (fun hHeld => ?_)
                    (refine takeW (i := 0) (dst := some 178) (v := ?_) rfl rfl (by kernel_rfl) (by kernel_rfl) (by kernel_rfl) (fun _ _ _ h => h) (Or.inl ⟨by rfl, ?_⟩) hHeld ?_; rotate_left; focus (intro w hSw; (try dsimp only at hSw); go_simp; (try with_reducible rfl); done))
                    try simp only [Act.put, List.setIfInBounds_toArray, List.set_cons_zero, List.set_cons_succ]
                    (refine takeW (i := 1) (dst := some 179) (v := ?_) rfl rfl (by kernel_rfl) (by kernel_rfl) (by kernel_rfl) (fun _ _ _ h => h) (Or.inl ⟨by rfl, ?_⟩) hHeld ?_; rotate_left; focus (intro w hSw; (try dsimp only at hSw); go_simp; (try with_reducible rfl); done))
                    try simp only [Act.put, List.setIfInBounds_toArray, List.set_cons_zero, List.set_cons_succ]
                    (refine takeW (i := 2) (dst := some 180) (v := ?_) rfl rfl (by kernel_rfl) (by kernel_rfl) (by kernel_rfl) (fun _ _ _ h => h) (Or.inl ⟨by rfl, ?_⟩) hHeld ?_; rotate_left; focus (intro w hSw; (try dsimp only at hSw); go_simp; (try with_reducible rfl); done))
                    try simp only [Act.put, List.setIfInBounds_toArray, List.set_cons_zero, List.set_cons_succ]
                    (refine takeW (i := 3) (dst := some 181) (v := ?_) rfl rfl (by kernel_rfl) (by kernel_rfl) (by kernel_rfl) (fun _ _ _ h => h) (Or.inl ⟨by rfl, ?_⟩) hHeld ?_; rotate_left; focus (intro w hSw; (try dsimp only at hSw); go_simp; (try with_reducible rfl); done))
                    try simp only [Act.put, List.setIfInBounds_toArray, List.set_cons_zero, List.set_cons_succ]
                    (refine takeW (i := 4) (dst := some 182) (v := ?_) rfl rfl (by kernel_rfl) (by kernel_rfl) (by kernel_rfl) (fun _ _ _ h => h) (Or.inl ⟨by rfl, ?_⟩) hHeld ?_; rotate_left; focus (intro w hSw; (try dsimp only at hSw); go_simp; (try with_reducible rfl); done))
                    try simp only [Act.put, List.setIfInBounds_toArray, List.set_cons_zero, List.set_cons_succ]
                    (refine takeW (i := 5) (dst := some 183) (v := ?_) rfl rfl (by kernel_rfl) (by kernel_rfl) (by kernel_rfl) (fun _ _ _ h => h) (Or.inl ⟨by rfl, ?_⟩) hHeld ?_; rotate_left; focus (intro w hSw; (try dsimp only at hSw); go_simp; (try with_reducible rfl); done))
                    try simp only [Act.put, List.setIfInBounds_toArray, List.set_cons_zero, List.set_cons_succ]
                    (refine takeW (i := 6) (dst := some 184) (v := ?_) rfl rfl (by kernel_rfl) (by kernel_rfl) (by kernel_rfl) (fun _ _ _ h => h) (Or.inl ⟨by rfl, ?_⟩) hHeld ?_; rotate_left; focus (intro w hSw; (try dsimp only at hSw); go_simp; (try with_reducible rfl); done))
                    try simp only [Act.put, List.setIfInBounds_toArray, List.set_cons_zero, List.set_cons_succ]
                    refine wpAnyH_ready (rs := [7, 11]) (by kernel_rfl) (by simp) ?_
                    refine AllReadyH.cons (o := _) rfl (fun KK hK => ?_) (AllReadyH.cons (o := _) rfl (fun KK hK => ?_) AllReadyH.nil)
                    next =>
                     go_simp
                     refine (CK.out _ (HG16.out.on (Below.refl W16.heap.size W16).drew)).mono ?_
                     rintro e wc94 ⟨v, rfl, er94, N94, E94, a94, c94, rfl, ⟨rfl, rfl, hsp⟩, hsl94, hea94, hb94⟩
                     have HB94 : Hid (Below W16.heap.size W16 wc94) := (Below.refl W16.heap.size W16).drew.trans (hb94.mono (Below.refl W16.heap.size W16).drew.size)
                     have HE94 := hid hea94
                     have HSL94 := hid hsl94
                     have HSP94 := hid hsp
                     clear hb94 hea94 hsl94 hsp
                     refine hK.out _ _ (HSK.out _ HB94.out) (fun hHeld => ?_)
                     clear hK KK
                     try simp only [Act.put, List.setIfInBounds_toArray, List.set_cons_succ]
                     try simp only [List.set_cons_zero]
                     (refine takeW (i := 8) (dst := some 177) (v := ?_) rfl rfl (by kernel_rfl) (by kernel_rfl) (by kernel_rfl) (fun _ _ _ h => h) (Or.inl ⟨by rfl, ?_⟩) hHeld ?_; rotate_left; focus (intro w hSw; (try dsimp only at hSw); go_simp; (try with_reducible rfl); done))
                     try simp only [Act.put, List.setIfInBounds_toArray, List.set_cons_zero, List.set_cons_succ]
                     (refine takeW (i := 9) (dst := some 186) (v := ?_) rfl rfl (by kernel_rfl) (by kernel_rfl) (by kernel_rfl) (fun _ _ _ h => h) (Or.inl ⟨by rfl, ?_⟩) hHeld ?_; rotate_left; focus (intro w hSw; (try dsimp only at hSw); go_simp; (try with_reducible rfl); done))
                     try simp only [Act.put, List.setIfInBounds_toArray, List.set_cons_zero, List.set_cons_succ]
                     (refine takeW (i := 10) (dst := some 187) (v := ?_) rfl rfl (by kernel_rfl) (by kernel_rfl) (by kernel_rfl) (fun _ _ _ h => h) (Or.inl ⟨by rfl, ?_⟩) hHeld ?_; rotate_left; focus (intro w hSw; (try dsimp only at hSw); go_simp; (try with_reducible rfl); done))
                     try simp only [Act.put, List.setIfInBounds_toArray, List.set_cons_zero, List.set_cons_succ]
                     refine wpAnyH_ready (rs := [11]) (by kernel_rfl) (by simp) ?_
                     refine AllReadyH.cons (o := _) rfl (fun KK hK => ?_) AllReadyH.nil
                     go_simp
                     obtain ⟨Z95, hZ⟩ := ex_eq (wc94.alloc (zeroG))
                     rw [← hZ]
                     have HB95 : Hid (Below W16.heap.size W16 Z95) := by rw [hZ]; exact HB94.out.alloc HB94.out.size _
                     have HV95 : Hid (Z95.heap[wc94.heap.size]? = some zeroG) := by rw [hZ]; exact heap_alloc_new _ _
                     have HVG95 : Hid (W16.heap.size ≤ wc94.heap.size) := by show _ ≤ _; exact HB94.out.size
                     have HE95 : Hid (EAt Z95 a94 E94) := by rw [hZ]; exact HE94.out.below (below_one _ _)
                     clear hZ
                     have z0 := cell_of_heap HV95.out 0
                     have z1 := cell_of_heap HV95.out 1
                     have zf0 := frozen_of_heap HV95.out 0
                     have zf1 := frozen_of_heap HV95.out 1
                     refine hK.out _ _ (HSK.out _ HB95.out) (fun hHeld => ?_)
                     clear hK KK
                     try simp only [Act.put, List.setIfInBounds_toArray, List.set_cons_succ]
                     try simp only [List.set_cons_zero]
                     refine wpAnyH_ready (rs := [12]) (by kernel_rfl) (by simp) ?_
                     refine AllReadyH.cons (o := _) rfl (fun KK hK => ?_) AllReadyH.nil
                     go_simp
                     refine hK.out _ _ (HSK.out _ ((HB95.out.setCell (p := ⟨wc94.heap.size, 0, none⟩) HVG95.out _).setCell (p := ⟨wc94.heap.size, 1, none⟩) HVG95.out _)) (fun hHeld => ?_)
                     clear hK KK
                     try simp only [Act.put, List.setIfInBounds_toArray, List.set_cons_succ]
                     try simp only [List.set_cons_zero]
                     (refine takeW (i := 13) (dst := some 21) (v := ?_) rfl rfl (by kernel_rfl) (by kernel_rfl) (by kernel_rfl) (fun _ _ _ h => h) (Or.inl ⟨by rfl, ?_⟩) hHeld ?_; rotate_left; focus (intro w hSw; (try dsimp only at hSw); go_simp; (try with_reducible rfl); done))
                     try simp only [Act.put, List.setIfInBounds_toArray, List.set_cons_succ]
                     try simp only [List.set_cons_zero]
                     refine wpAnyH_done (by kernel_rfl) ?_ _
                     have HNE := hid (eat_off_box HV95.out HE95.out)
                     have HGN : Hid (GC ((Z95.setCell ⟨wc94.heap.size, 0, none⟩ (.int .i64 ((m1 - 1 : Nat) : Int))).setCell ⟨wc94.heap.size, 1, none⟩ (.slice a94 E94.length c94)) (wc94.heap.size) ((m1 - 1 : Nat) : Int) a94 E94.length c94 E94) :=
                       ⟨cell_of_heap (two_putT HV95.out) 0, cell_of_heap (two_putT HV95.out) 1, (HE95.out.set (p := ⟨wc94.heap.size, 0, none⟩) HNE.out _).set (p := ⟨wc94.heap.size, 1, none⟩) HNE.out _⟩
                     have HBN : Hid (Below W16.heap.size W16 ((Z95.setCell ⟨wc94.heap.size, 0, none⟩ (.int .i64 ((m1 - 1 : Nat) : Int))).setCell ⟨wc94.heap.size, 1, none⟩ (.slice a94 E94.length c94))) := (HB95.out.setCell (p := ⟨wc94.heap.size, 0, none⟩) HVG95.out _).setCell (p := ⟨wc94.heap.size, 1, none⟩) HVG95.out _
                     clear hHeld
                     go_wp2_with fail
                     go_meet
                     exact ⟨_, _, _, _, rfl, rfl, HGN, HSL94.out, HSP94.out, HBN.out⟩
                    next =>
                     go_simp
                     obtain ⟨Z96, hZ⟩ := ex_eq ((W16.alloc (zeroG)).drew)
                     rw [← hZ]
                     have HB96 : Hid (Below W16.heap.size W16 Z96) := by rw [hZ]; exact (below_one _ _).drew
                     have HV96 : Hid (Z96.heap[W16.heap.size]? = some zeroG) := by rw [hZ]; exact heap_alloc_new _ _
                     have HVG96 : Hid (W16.heap.size ≤ W16.heap.size) := by show _ ≤ _; exact Nat.le_refl _
                     clear hZ
                     refine hK.out _ _ (HSK.out _ HB96.out) (fun hHeld => ?_)
                     clear hK KK
                     try simp only [Act.put, List.setIfInBounds_toArray, List.set_cons_succ]
                     try simp only [List.set_cons_zero]
                     refine wpAnyH_ready (rs := [7]) (by kernel_rfl) (by simp) ?_
                     refine AllReadyH.cons (o := _) rfl (fun KK hK => ?_) AllReadyH.nil
                     go_simp
                     refine (CK.out _ (HG16.out.on HB96.out)).mono ?_
                     rintro e wc97 ⟨v, rfl, er97, N97, E97, a97, c97, rfl, ⟨rfl, rfl, hsp⟩, hsl97, hea97, hb97⟩
                     have HB97 : Hid (Below W16.heap.size W16 wc97) := HB96.out.trans (hb97.mono HB96.out.size)
                     have HE97 := hid hea97
                     have HSL97 := hid hsl97
                     have HSP97 := hid hsp
                     have HV97 : Hid (wc97.heap[W16.heap.size]? = some zeroG) := keepT HV96.out hb97
                     clear hb97 hea97 hsl97 hsp
                     have z0 := cell_of_heap HV97.out 0
                     have z1 := cell_of_heap HV97.out 1
                     have zf0 := frozen_of_heap HV97.out 0
                     have zf1 := frozen_of_heap HV97.out 1
                     refine hK.out _ _ (HSK.out _ HB97.out) (fun hHeld => ?_)
                     clear hK KK
                     try simp only [Act.put, List.setIfInBounds_toArray, List.set_cons_succ]
                     try simp only [List.set_cons_zero]
                     (refine takeW (i := 8) (dst := some 177) (v := ?_) rfl rfl (by kernel_rfl) (by kernel_rfl) (by kernel_rfl) (fun _ _ _ h => h) (Or.inl ⟨by rfl, ?_⟩) hHeld ?_; rotate_left; focus (intro w hSw; (try dsimp only at hSw); go_simp; (try with_reducible rfl); done))
                     try simp only [Act.put, List.setIfInBounds_toArray, List.set_cons_zero, List.set_cons_succ]
                     (refine takeW (i := 9) (dst := some 186) (v := ?_) rfl rfl (by kernel_rfl) (by kernel_rfl) (by kernel_rfl) (fun _ _ _ h => h) (Or.inl ⟨by rfl, ?_⟩) hHeld ?_; rotate_left; focus (intro w hSw; (try dsimp only at hSw); go_simp; (try with_reducible rfl); done))
                     try simp only [Act.put, List.setIfInBounds_toArray, List.set_cons_zero, List.set_cons_succ]
                     (refine takeW (i := 10) (dst := some 187) (v := ?_) rfl rfl (by kernel_rfl) (by kernel_rfl) (by kernel_rfl) (fun _ _ _ h => h) (Or.inl ⟨by rfl, ?_⟩) hHeld ?_; rotate_left; focus (intro w hSw; (try dsimp only at hSw); go_simp; (try with_reducible rfl); done))
                     try simp only [Act.put, List.setIfInBounds_toArray, List.set_cons_zero, List.set_cons_succ]
                     refine wpAnyH_ready (rs := [12]) (by kernel_rfl) (by simp) ?_
                     refine AllReadyH.cons (o := _) rfl (fun KK hK => ?_) AllReadyH.nil
                     go_simp
                     refine hK.out _ _ (HSK.out _ ((HB97.out.setCell (p := ⟨W16.heap.size, 0, none⟩) HVG96.out _).setCell (p := ⟨W16.heap.size, 1, none⟩) HVG96.out _)) (fun hHeld => ?_)
                     clear hK KK
                     try simp only [Act.put, List.setIfInBounds_toArray, List.set_cons_succ]
                     try simp only [List.set_cons_zero]
                     (refine takeW (i := 13) (dst := some 21) (v := ?_) rfl rfl (by kernel_rfl) (by kernel_rfl) (by kernel_rfl) (fun _ _ _ h => h) (Or.inl ⟨by rfl, ?_⟩) hHeld ?_; rotate_left; focus (intro w hSw; (try dsimp only at hSw); go_simp; (try with_reducible rfl); done))
                     try simp only [Act.put, List.setIfInBounds_toArray, List.set_cons_succ]
                     try simp only [List.set_cons_zero]
                     refine wpAnyH_done (by kernel_rfl) ?_ _
                     have HNE := hid (eat_off_box HV97.out HE97.out)
                     have HGN : Hid (GC ((wc97.setCell ⟨W16.heap.size, 0, none⟩ (.int .i64 ((m1 - 1 : Nat) : Int))).setCell ⟨W16.heap.size, 1, none⟩ (.slice a97 E97.length c97)) (W16.heap.size) ((m1 - 1 : Nat) : Int) a97 E97.length c97 E97) :=
                       ⟨cell_of_heap (two_putT HV97.out) 0, cell_of_heap (two_putT HV97.out) 1, (HE97.out.set (p := ⟨W16.heap.size, 0, none⟩) HNE.out _).set (p := ⟨W16.heap.size, 1, none⟩) HNE.out _⟩
                     have HBN : Hid (Below W16.heap.size W16 ((wc97.setCell ⟨W16.heap.size, 0, none⟩ (.int .i64 ((m1 - 1 : Nat) : Int))).setCell ⟨W16.heap.size, 1, none⟩ (.slice a97 E97.length c97))) := (HB97.out.setCell (p := ⟨W16.heap.size, 0, none⟩) HVG96.out _).setCell (p := ⟨W16.heap.size, 1, none⟩) HVG96.out _
                     clear hHeld
                     go_wp2_with fail
                     go_meet
                     exact ⟨_, _, _, _, rfl, rfl, HGN, HSL97.out, HSP97.out, HBN.out⟩
                  case rest =>
                    obtain ⟨B17, E17, a17, c17, rfl, rfl, hg, hsl, hsp, hb⟩ := hcut
                    obtain ⟨W17, rfl⟩ : ∃ W17, W17 = wc := ⟨_, rfl⟩
                    have HG17 := hid hg.out
                    have HSL17 := hid hsl.out
                    have HSP17 := hid hsp.out
                    replace HG13 := hid (HG13.out.on hb.out)
                    replace HG15 := hid (HG15.out.on hb.out)
                    replace HBW := hid (HBW.out.trans (hb.out.mono HBW.out.size))
                    replace HRW := hid (⟨(hb.out.cell (p := ⟨g5, 0, none⟩) hg5).trans HRW.out.1, (hb.out.cell (p := ⟨g5, 1, none⟩) hg5).trans HRW.out.2.1, (hb.out.cell (p := ⟨g5, 2, none⟩) hg5).trans HRW.out.2.2⟩ : W17.cell? ⟨g5, 0, none⟩ = some (.int .i64 a) ∧ W17.cell? ⟨g5, 1, none⟩ = some (.int .i64 b) ∧ W17.cell? ⟨g5, 2, none⟩ = some (.int .i64 c))
                    replace hg5 := block_lt_of_cell HRW.out.1
                    clear hg hsl hsp hb HSK CK
                    clear HR16 HSL16 HG16
                    have hc1e : c - 1 = c1 := by have := HC1.out; omega
                    have hm1e : m - 1 = m1 := by have := HM1.out; omega
                    have h13 : ConE (m - 1) E12 a (c - 1) E13 := by rw [hc1e, hm1e]; exact HSP13.out
                    have h15 : ConE (m - 1) E14 a b E15 := by rw [hm1e]; exact HSP15.out
                    have h17 : ConE (m - 1) E16 a b E17 := by rw [hm1e]; exact HSP17.out
                    obtain ⟨e1, e2⟩ := three_one HRH.out hab hbc hcm HADJ.out.1 HADJ.out.2.1 HADJ.out.2.2 HSP12.out HSP14.out HSP16.out h13 h15 h17
                    clear h13 h15 h17 hc1e hm1e
                    have HE1 := hid e1
                    have HE2 := hid e2
                    have hlen : E13.length ≤ 1000000 := Nat.le_trans (con_lenT hac' HSP13.out) (con_cap HRH.out hab (by omega) HADJ.out.1 HSP12.out)
                    clear e1 e2 HSP12 HSP13 HSP14 HSP15 HSP16 HSP17 HRH HADJ HRW hg5 HAB14 HAB16 HAC1
                    have CS1 : Hid (∀ X, GC X B13 ((m1 - 1 : Nat) : Int) a13 E13.length c13 E13 → GC X B15 ((m1 - 1 : Nat) : Int) a15 E15.length c15 E15 → Calls Try.prog 14 #[.agg #[.int .i64 ((m1 - 1 : Nat) : Int), .slice a13 E13.length c13], .agg #[.int .i64 ((m1 - 1 : Nat) : Int), .slice a15 E15.length c15]] X fun e w' => e = .returned (.bool true) ∧ Below X.heap.size X w') := fun X h3 h4 => sameGraph_any _ _ a13 a15 c13 c15 E13 E15 true X hlen h3.at_ h4.at_ ⟨fun _ => ⟨rfl, HE1.out⟩, fun _ => rfl⟩
                    have CS2 : Hid (∀ X, GC X B13 ((m1 - 1 : Nat) : Int) a13 E13.length c13 E13 → GC X B17 ((m1 - 1 : Nat) : Int) a17 E17.length c17 E17 → Calls Try.prog 14 #[.agg #[.int .i64 ((m1 - 1 : Nat) : Int), .slice a13 E13.length c13], .agg #[.int .i64 ((m1 - 1 : Nat) : Int), .slice a17 E17.length c17]] X fun e w' => e = .returned (.bool true) ∧ Below X.heap.size X w') := fun X h3 h4 => sameGraph_any _ _ a13 a17 c13 c17 E13 E17 true X hlen h3.at_ h4.at_ ⟨fun _ => ⟨rfl, HE2.out⟩, fun _ => rfl⟩
                    obtain ⟨x0, x1⟩ := HG13.out.cells
                    obtain ⟨y0, y1⟩ := HG15.out.cells
                    clear hlen
                    go_wp2_with fail
                    refine (CS1.out W17 HG13.out HG15.out).mono ?_
                    rintro e w8 ⟨rfl, hb8⟩
                    replace HG13 := hid (HG13.out.on hb8)
                    replace HG17 := hid (HG17.out.on hb8)
                    have HB8 : Hid (Below w.heap.size w w8) := HBW.out.trans (hb8.mono HBW.out.size)
                    clear hb8 CS1 x0 x1 y0 y1 HG15 HBW
                    obtain ⟨x0, x1⟩ := HG13.out.cells
                    obtain ⟨y0, y1⟩ := HG17.out.cells
                    go_wp2_with fail
                    refine (CS2.out w8 HG13.out HG17.out).mono ?_
                    rintro e w9 ⟨rfl, hb9⟩
                    have HB9 : Hid (Below w.heap.size w w9) := HB8.out.trans (hb9.mono HB8.out.size)
                    clear hb9 CS2 x0 x1 y0 y1
                    go_wp2
                    go_ret
                    exact ⟨rfl, HB9.out⟩
end Go.Proofs.Ytagigeieoijciaa
