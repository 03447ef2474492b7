/-
  The law SubCounts over any calls that keep their contracts.
-/
import Derived.Test.YtagigeieoijciaaLSLeaves
import Derived.Test.YtagigeieoijciaaB18
namespace Go.Proofs.Ytagigeieoijciaa
open Go.RowKit Go.Lib

theorem one_put {w : World} {b : Nat} {x y v : Value} {T : TypeId} (h : w.heap[b]? = some (.cells #[x, y] T (0, 0))) : (w.setCell ⟨b, 0, none⟩ v).heap[b]? = some (.cells #[v, y] T (0, 0)) := by
  rw [heap_setCell_same w b 0 _ _ v h]; rfl
theorem two_put {w : World} {b : Nat} {x y u v : Value} {T : TypeId} (h : w.heap[b]? = some (.cells #[x, y] T (0, 0))) : ((w.setCell ⟨b, 0, none⟩ u).setCell ⟨b, 1, none⟩ v).heap[b]? = some (.cells #[u, v] T (0, 0)) := box_put (one_put h)
theorem ConS.okN {m m1 A B : Nat} {es : List (Int × Int)} {er N : Int} {E : List (Int × Int)} (h : ConS m es B A er N E) (hR : RightG m es) (hadj : Adj es A B) (hlt : A < B) (hh : B < m) (hm : m = m1 + 1) : er = 0 ∧ N = m1 ∧ E.length + 1 + ((nbL (A : Int) es).filter (fun w : Int => decide ((B : Int) ∈ nbL w es))).length = es.length ∧ RightG m1 E := by
  rcases h with ⟨h1, _⟩ | ⟨_, h2, _⟩ | ⟨_, _, h3, _⟩ | ⟨_, _, _, h1, h2, h3⟩
  · exact absurd hR h1
  · exact absurd ⟨⟨by omega, by omega⟩, by omega, by omega⟩ h2
  · exact absurd hadj.symm h3
  · have e1 : (min (B : Int) (A : Int)).toNat = A := by omega
    have e2 : (max (B : Int) (A : Int)).toNat = B := by omega
    rw [e1, e2] at h3
    have h3' : ConE m es A B E := by simpa using h3
    have h4 := con_right hR hlt hh hadj h3'
    rw [show m - 1 = m1 by omega] at h4
    exact ⟨h1, by omega, con_count hR hlt hh hadj h3', h4⟩

set_option maxHeartbeats 4000000 in
set_option maxRecDepth 100000 in
theorem subCounts_law (O : SubOps) (n : Int) (a : Option Addr) (len cap : Nat) (l : List (Int × Int)) (x : Int) (w : World) (hl : len = l.length) (hE : EAt w a l) :
    Calls Try.prog 6 #[.agg #[.int .i64 n, .slice a len cap], .int .i64 x] w fun e w' => e = .returned (.bool true) ∧ Below w.heap.size w w' := by
  have HO := hid O
  obtain ⟨W0, hW0⟩ := ex_eq (w.alloc (.cells #[.int .i64 n, .slice a len cap] 24))
  have hB0 : Below w.heap.size w W0 := by rw [hW0]; exact below_one _ _
  have hs0 : W0.heap.size = w.heap.size + 1 := by rw [hW0]; simp
  have HO0 : Hid (W0.heap[w.heap.size]? = some (.cells #[.int .i64 n, .slice a len cap] 24)) := by
    show _ = _
    rw [hW0]; exact heap_alloc_new _ _
  have HEX : Hid (∀ X, Below w.heap.size w X → EAt X a l) := fun X h => hE.below h
  have HL := hid hl
  have HW0 := hid hW0
  have HB0 := hid hB0
  clear O hl hE hW0 hB0
  go_enter Try.func6, Try.ntmps6
  go_wp2_with fail
  rw [← HW0.out]
  refine (sshown_any HO.out _).mono ?_
  rintro e w1 ⟨rfl, hb1⟩
  have hbw1 : Below w.heap.size w w1 := HB0.out.trans (hb1.mono (by omega))
  have o1 := (hb1.block w.heap.size (by omega)).trans HO0.out
  have x0 := cell_of_heap o1 0
  have x1 := cell_of_heap o1 1
  have CA := hid (net_any n a len cap l 30 w1 (by omega) HL.out (HEX.out w1 hbw1))
  have HB1 := hid hbw1
  clear hb1 hbw1 o1 HO0 hs0 HB0 HW0 HEX HL
  go_wp2_with fail
  refine CA.out.mono ?_
  rintro e w2 ⟨m, ys, a2, c2, rfl, hm30, hR, hys, hsl, hE2, hb2⟩
  obtain ⟨K, hK⟩ := ex_eq ys.length
  rw [← hK]
  have HK := hid hK
  obtain ⟨V2, hV2⟩ := ex_eq (w2.alloc (.cells #[.int .i64 m, .slice a2 K c2] 27))
  have HGg : Hid (GC V2 w2.heap.size m a2 K c2 ys) := by
    show GC V2 _ _ _ _ _ _
    rw [hV2]; exact gc_new6 hE2
  have HB : Hid (Below w.heap.size w V2) := by
    have h1 : Below w2.heap.size w2 V2 := by rw [hV2]; exact below_one _ _
    have h2 : Below w.heap.size w w2 := HB1.out.trans (hb2.mono HB1.out.size)
    exact h2.trans (h1.mono h2.size)
  have HV2 := hid hV2
  have HR := hid hR
  have HSL := hid hsl
  have hK3 : K ≤ 300 := by omega
  have HYS : Hid (ys.length ≤ 300) := hys
  have CD : Hid (∀ v X, GC X w2.heap.size m a2 K c2 ys → Calls Try.prog 15 #[.agg #[.int .i64 m, .slice a2 K c2], .int .i64 v] X fun e w' => ∃ u, e = .returned u ∧ SubTold (DelS m ys v) X w' u) := fun v X hX => by
    have := HO.out.del m a2 c2 ys v true X (by omega) HSL.out.w hX.at_ ⟨fun _ => HR.out, fun _ => rfl⟩
    rw [← hK] at this
    exact this
  have CC : Hid (∀ u v X, GC X w2.heap.size m a2 K c2 ys → Calls Try.prog 17 #[.agg #[.int .i64 m, .slice a2 K c2], .int .i64 u, .int .i64 v] X fun e w' => ∃ z, e = .returned z ∧ SubTold (ConS m ys u v) X w' z) := fun u v X hX => by
    have := HO.out.con m a2 c2 ys u v true X (by omega) HSL.out.w hX.at_ ⟨fun _ => HR.out, fun _ => rfl⟩
    rw [← hK] at this
    exact this
  clear hK hV2 hE2 hb2 hR hys hsl CA x0 x1 HB1
  go_upto_region 3 with fail
  rw [← HV2.out]
  clear HV2
  obtain ⟨g0, g1⟩ := HGg.out.cells
  by_cases hK0 : K = 0
  · subst hK0
    go_wp2
    go_ret
    exact ⟨rfl, HB.out⟩
  have hK1 : ((K : Int) == 0) = false := beq_eq_false_iff_ne.2 (by omega)
  have hK2 : ¬ (K : Int) = 0 := by omega
  have hK4 : ¬ K = 0 := hK0
  obtain ⟨j, hj, hjK⟩ := rnd_of x (m := K) (by omega)
  have hjr : j < ys.length := by rw [← HK.out]; exact hjK
  obtain ⟨gE, oE, rfl, hgE, hcs⟩ := HGg.out.at_.at hjr
  obtain ⟨A, hA⟩ : ∃ A : Nat, ys[j].1 = (A : Int) := ⟨ys[j].1.toNat, by have := HR.out.2.2.2.1 _ (List.getElem_mem hjr); omega⟩
  obtain ⟨B, hBe⟩ : ∃ B : Nat, ys[j].2 = (B : Int) := ⟨ys[j].2.toNat, by have := HR.out.2.2.2.1 _ (List.getElem_mem hjr); omega⟩
  have hAB : A < B ∧ B < m := by have := HR.out.2.2.2.1 _ (List.getElem_mem hjr); omega
  have HADJ : Hid (Adj ys A B) := Or.inl (by rw [← hA, ← hBe]; exact List.getElem_mem hjr)
  have HSE : Hid (∀ X, Below V2.heap.size V2 X → X.cell? ⟨w2.heap.size, 0, none⟩ = some (.int .i64 m) ∧ X.cell? ⟨w2.heap.size, 1, none⟩ = some (.slice (some ⟨gE, oE, none⟩) K c2) ∧ X.cell? ⟨gE, oE + j * 2, none⟩ = some (.int .i64 A) ∧ X.cell? ⟨gE, oE + j * 2 + 1, none⟩ = some (.int .i64 B)) := fun X hX => by
    have d := hcs X hX j hjr
    rw [hA, hBe] at d
    have hg := HGg.out.on hX
    exact ⟨hg.n0, hg.e0, d.1, d.2⟩
  have q1 : (j : Int) < (K : Int) := by omega
  clear hcs hjr hA hBe
  go_upto_region 5 with fail
  refine wp_region_held_drew (S := (fun X => X.cell? ⟨w2.heap.size, 0, none⟩ = some (.int .i64 m) ∧ X.cell? ⟨w2.heap.size, 1, none⟩ = some (.slice (some ⟨gE, oE, none⟩) K c2) ∧ X.cell? ⟨gE, oE + j * 2, none⟩ = some (.int .i64 A) ∧ X.cell? ⟨gE, oE + j * 2 + 1, none⟩ = some (.int .i64 B))) (by kernel_rfl) (HSE.out V2.drew (Below.refl _ _).drew) (fun hHeld => ?_)
  (refine takeW (i := 0) (dst := some 23) (v := ?_) rfl rfl (by kernel_rfl) (by kernel_rfl) (by kernel_rfl) (fun _ _ _ h => h) (Or.inl ⟨by rfl, ?_⟩) hHeld ?_; rotate_left; focus (intro w hSw; (try dsimp only at hSw); go_simp; (try with_reducible rfl); done))
  try simp only [Act.put, List.setIfInBounds_toArray, List.set_cons_zero, List.set_cons_succ]
  (refine takeW (i := 1) (dst := some 24) (v := ?_) rfl rfl (by kernel_rfl) (by kernel_rfl) (by kernel_rfl) (fun _ _ _ h => h) (Or.inl ⟨by rfl, ?_⟩) hHeld ?_; rotate_left; focus (intro w hSw; (try dsimp only at hSw); go_simp; (try with_reducible rfl); done))
  try simp only [Act.put, List.setIfInBounds_toArray, List.set_cons_zero, List.set_cons_succ]
  (refine takeW (i := 2) (dst := some 25) (v := ?_) rfl rfl (by kernel_rfl) (by kernel_rfl) (by kernel_rfl) (fun _ _ _ h => h) (Or.inl ⟨by rfl, ?_⟩) hHeld ?_; rotate_left; focus (intro w hSw; (try dsimp only at hSw); go_simp; (try with_reducible rfl); done))
  try simp only [Act.put, List.setIfInBounds_toArray, List.set_cons_zero, List.set_cons_succ]
  (refine takeW (i := 3) (dst := some 26) (v := ?_) rfl rfl (by kernel_rfl) (by kernel_rfl) (by kernel_rfl) (fun _ _ _ h => h) (Or.inl ⟨by rfl, ?_⟩) hHeld ?_; rotate_left; focus (intro w hSw; (try dsimp only at hSw); go_simp; (try with_reducible rfl); done))
  try simp only [Act.put, List.setIfInBounds_toArray, List.set_cons_zero, List.set_cons_succ]
  (refine takeW (i := 4) (dst := some 27) (v := ?_) rfl rfl (by kernel_rfl) (by kernel_rfl) (by kernel_rfl) (fun _ _ _ h => h) (Or.inl ⟨by rfl, ?_⟩) hHeld ?_; rotate_left; focus (intro w hSw; (try dsimp only at hSw); go_simp; (try with_reducible rfl); done))
  try simp only [Act.put, List.setIfInBounds_toArray, List.set_cons_zero, List.set_cons_succ]
  (refine takeW (i := 5) (dst := some 28) (v := ?_) rfl rfl (by kernel_rfl) (by kernel_rfl) (by kernel_rfl) (fun _ _ _ h => h) (Or.inl ⟨by rfl, ?_⟩) hHeld ?_; rotate_left; focus (intro w hSw; (try dsimp only at hSw); go_simp; (try with_reducible rfl); done))
  try simp only [Act.put, List.setIfInBounds_toArray, List.set_cons_zero, List.set_cons_succ]
  (refine takeW (i := 6) (dst := some 29) (v := ?_) rfl rfl (by kernel_rfl) (by kernel_rfl) (by kernel_rfl) (fun _ _ _ h => h) (Or.inl ⟨by rfl, ?_⟩) hHeld ?_; rotate_left; focus (intro w hSw; (try dsimp only at hSw); go_simp; (try with_reducible rfl); done))
  try simp only [Act.put, List.setIfInBounds_toArray, List.set_cons_zero, List.set_cons_succ]
  (refine takeW (i := 7) (dst := some 30) (v := ?_) rfl rfl (by kernel_rfl) (by kernel_rfl) (by kernel_rfl) (fun _ _ _ h => h) (Or.inl ⟨by rfl, ?_⟩) hHeld ?_; rotate_left; focus (intro w hSw; (try dsimp only at hSw); go_simp; (try with_reducible rfl); done))
  try simp only [Act.put, List.setIfInBounds_toArray, List.set_cons_zero, List.set_cons_succ]
  (refine takeW (i := 8) (dst := some 31) (v := ?_) rfl rfl (by kernel_rfl) (by kernel_rfl) (by kernel_rfl) (fun _ _ _ h => h) (Or.inl ⟨by rfl, ?_⟩) hHeld ?_; rotate_left; focus (intro w hSw; (try dsimp only at hSw); go_simp; (try with_reducible rfl); done))
  try simp only [Act.put, List.setIfInBounds_toArray, List.set_cons_zero, List.set_cons_succ]
  (refine takeW (i := 9) (dst := some 32) (v := ?_) rfl rfl (by kernel_rfl) (by kernel_rfl) (by kernel_rfl) (fun _ _ _ h => h) (Or.inl ⟨by rfl, ?_⟩) hHeld ?_; rotate_left; focus (intro w hSw; (try dsimp only at hSw); go_simp; (try with_reducible rfl); done))
  try simp only [Act.put, List.setIfInBounds_toArray, List.set_cons_zero, List.set_cons_succ]
  refine wpAnyH_ready (rs := [10]) (by kernel_rfl) (by simp) ?_
  refine AllReadyH.cons (o := _) rfl (fun KK hK => ?_) AllReadyH.nil
  go_simp
  obtain ⟨Z, hZ⟩ := ex_eq ((V2.alloc (Obj.cells #[.int .i64 0, .int .i64 0] 40)).drew)
  rw [← hZ]
  have hbZ : Below V2.heap.size V2 Z := by rw [hZ]; exact (below_one _ _).drew
  have hoZ : Z.heap[V2.heap.size]? = some (.cells #[.int .i64 0, .int .i64 0] 40 (0, 0)) := by
    rw [hZ]
    exact heap_alloc_new V2 (.cells #[.int .i64 0, .int .i64 0] 40)
  have z0 := cell_of_heap hoZ 0
  have z1 := cell_of_heap hoZ 1
  have zf0 := frozen_of_heap hoZ 0
  have zf1 := frozen_of_heap hoZ 1
  have HbZ := hid hbZ
  have HoZ := hid hoZ
  clear hZ hoZ
  refine hK.out _ _ (HSE.out _ hbZ) (fun hHeld => ?_)
  clear hbZ
  clear hK KK
  try simp only [Act.put]
  try simp only [List.setIfInBounds_toArray]
  try simp only [List.set_cons_succ]
  try simp only [List.set_cons_zero]
  refine wpAnyH_ready (rs := [11]) (by kernel_rfl) (by simp) ?_
  refine AllReadyH.cons (o := _) rfl (fun KK hK => ?_) AllReadyH.nil
  go_simp
  refine hK.out _ _ (HSE.out _ ((HbZ.out.setCell (p := ⟨V2.heap.size, 0, none⟩) (Nat.le_refl _) _).setCell (p := ⟨V2.heap.size, 1, none⟩) (Nat.le_refl _) _)) (fun hHeld => ?_)
  clear hK KK
  try simp only [Act.put]
  try simp only [List.setIfInBounds_toArray]
  try simp only [List.set_cons_succ]
  try simp only [List.set_cons_zero]
  refine wpAnyH_done (by kernel_rfl) ?_ _
  obtain ⟨V3, hV3⟩ := ex_eq ((Z.setCell ⟨V2.heap.size, 0, none⟩ (.int .i64 A)).setCell ⟨V2.heap.size, 1, none⟩ (.int .i64 B))
  rw [← hV3]
  have hb3 : Below V2.heap.size V2 V3 := by rw [hV3]; exact (HbZ.out.setCell (p := ⟨V2.heap.size, 0, none⟩) (Nat.le_refl _) _).setCell (p := ⟨V2.heap.size, 1, none⟩) (Nat.le_refl _) _
  have HY : Hid (V3.heap[V2.heap.size]? = some (.cells #[.int .i64 A, .int .i64 B] 40 (0, 0))) := by
    show _ = _
    rw [hV3]; exact two_put HoZ.out
  have HB3 : Hid (Below w.heap.size w V3) := HB.out.trans (hb3.mono HB.out.size)
  have HS3 : Hid (∀ X, Below V3.heap.size V3 X → GC X w2.heap.size m (some ⟨gE, oE, none⟩) K c2 ys ∧ X.heap[V2.heap.size]? = some (.cells #[.int .i64 A, .int .i64 B] 40 (0, 0)) ∧ Below w.heap.size w X) := fun X hX => by
    have hz : V2.heap.size < V3.heap.size := (Array.getElem?_eq_some_iff.1 HY.out).1
    exact ⟨HGg.out.on (hb3.trans (hX.mono hb3.size)), (hX.block _ hz).trans HY.out, HB3.out.trans (hX.mono HB3.out.size)⟩
  clear hHeld HSE hV3 hb3 z0 z1 zf0 zf1 HbZ HoZ g0 g1 hj
  have hy3 := HS3.out V3 (Below.refl _ _)
  obtain ⟨g0, g1⟩ := hy3.1.cells
  have y0 := cell_of_heap hy3.2.1 0
  have y1 := cell_of_heap hy3.2.1 1
  obtain ⟨Ln, hLn⟩ := ex_eq (nbL (A : Int) ys)
  have CN : Hid (∀ (v : Int) X, GC X w2.heap.size m (some ⟨gE, oE, none⟩) K c2 ys → Calls Try.prog 21 #[.agg #[.int .i64 m, .slice (some ⟨gE, oE, none⟩) K c2], .int .i64 v] X fun e w' => ∃ a' cap', e = .returned (.slice a' (nbL v ys).length cap') ∧ IAt w' a' (nbL v ys) ∧ Below X.heap.size X w') := fun v X hX => by
    have := near_any m (some ⟨gE, oE, none⟩) c2 ys v true (nbL v ys) X (by have := HYS.out; omega) hX.at_ ⟨fun _ => HR.out, fun _ => rfl⟩ (by rw [if_pos rfl])
    rw [← HK.out] at this
    exact this
  have CH : Hid (∀ (u v : Int) X, GC X w2.heap.size m (some ⟨gE, oE, none⟩) K c2 ys → Calls Try.prog 22 #[.agg #[.int .i64 m, .slice (some ⟨gE, oE, none⟩) K c2], .int .i64 u, .int .i64 v] X fun e w' => e = .returned (.bool (decide (v ∈ nbL u ys))) ∧ Below X.heap.size X w') := fun u v X hX => by
    have := has_any m (some ⟨gE, oE, none⟩) c2 ys u v true (nbL u ys) X (by have := HYS.out; omega) hX.at_ ⟨fun _ => HR.out, fun _ => rfl⟩ (by rw [if_pos rfl])
    rw [← HK.out] at this
    exact this
  have C4 := hid (CN.out A V3 hy3.1)
  obtain ⟨M, hM⟩ := ex_eq (nbL (A : Int) ys).length
  rw [← hM] at C4
  have hMl : M ≤ 300 := by rw [hM]; exact Nat.le_trans (nbL_len _ _) HYS.out
  have HM := hid hM
  clear hM hy3 hLn
  go_wp2_with fail
  refine C4.out.mono ?_
  rintro e w4 ⟨aN, cN, rfl, hI4, hb4⟩
  have HI : Hid (∀ X, Below w4.heap.size w4 X → IAt X aN (nbL (A : Int) ys)) := fun X hX => hI4.below hX
  have HB4 := hid hb4
  clear hI4 hb4 C4 g0 g1 y0 y1
  go_wp2
  go_loopg [9, 10] M (fun Gh c i wz => ∃ k : Nat, k ≤ M ∧ M - k ≤ Gh ∧ i = .int .i64 k ∧ c = .int .i64 (((nbL (A : Int) ys).take k).filter (fun w : Int => decide ((B : Int) ∈ nbL w ys))).length ∧ Hid (Below w4.heap.size w4 wz))
  case atStart => exact ⟨0, Nat.zero_le _, by omega, rfl, rfl, Below.refl _ _⟩
  case round =>
    obtain ⟨k, hk, hGh, rfl, rfl, hbr⟩ := hrel
    have hb3r : Below V3.heap.size V3 wr := HB4.out.trans (hbr.out.mono HB4.out.size)
    by_cases hlt : k < M
    · have hkr : k < (nbL (A : Int) ys).length := by rw [← HM.out]; exact hlt
      obtain ⟨gN, oN, rfl, hgN, hcN⟩ := HI.out wr hbr.out (by omega)
      have d0 := hcN k hkr
      obtain ⟨z, hz⟩ := ex_eq (nbL (A : Int) ys)[k]
      rw [← hz] at d0
      have q2 : (k : Int) < (M : Int) := by omega
      have HZX : Hid ((nbL (A : Int) ys).take (k + 1) = (nbL (A : Int) ys).take k ++ [z]) := by
        show _ = _
        rw [hz]; exact (List.take_append_getElem hkr).symm
      obtain ⟨c, hc⟩ := ex_eq (((nbL (A : Int) ys).take k).filter (fun w : Int => decide ((B : Int) ∈ nbL w ys))).length
      have hcl : c ≤ k := by
        rw [hc]
        exact Nat.le_trans (List.length_filter_le _ _) (by rw [List.length_take]; omega)
      have HC := hid hc
      rw [← hc]
      have hbd : Below V3.heap.size V3 wr.drew := hb3r.drew
      have HSR : Hid (∀ w5, Below wr.drew.heap.size wr.drew w5 → w5.cell? ⟨w2.heap.size, 0, none⟩ = some (.int .i64 m) ∧ w5.cell? ⟨w2.heap.size, 1, none⟩ = some (.slice (some ⟨gE, oE, none⟩) K c2) ∧ w5.cell? ⟨V2.heap.size, 1, none⟩ = some (.int .i64 B) ∧ w5.cell? ⟨gN, oN + k, none⟩ = some (.int .i64 z)) := fun w5 h5 => by
        have hz3 := HS3.out w5 (hbd.trans (h5.mono hbd.size))
        exact ⟨hz3.1.n0, hz3.1.e0, cell_of_heap hz3.2.1 1, (h5.cell (p := ⟨gN, oN + k, none⟩) hgN).trans d0⟩
      have HBR : Hid (∀ w5, Below wr.drew.heap.size wr.drew w5 → Below w4.heap.size w4 w5) := fun w5 h5 => hbr.out.drew.trans (h5.mono hbr.out.drew.size)
      have CH5 := hid (CH.out z B wr.drew (HS3.out _ hbd).1)
      obtain ⟨r, hr⟩ := ex_eq (decide ((B : Int) ∈ nbL z ys))
      rw [← hr] at CH5
      have HRR := hid hr
      clear hcN hz hc hb3r hbd d0 hr hkr
      go_upto_region 11 with fail
      refine wp_region_held_drew (S := (fun X => X.cell? ⟨w2.heap.size, 0, none⟩ = some (.int .i64 m) ∧ X.cell? ⟨w2.heap.size, 1, none⟩ = some (.slice (some ⟨gE, oE, none⟩) K c2) ∧ X.cell? ⟨V2.heap.size, 1, none⟩ = some (.int .i64 B) ∧ X.cell? ⟨gN, oN + k, none⟩ = some (.int .i64 z))) (by kernel_rfl) (HSR.out wr.drew (Below.refl _ _)) (fun hHeld => ?_)
      (refine takeW (i := 0) (dst := some 43) (v := ?_) rfl rfl (by kernel_rfl) (by kernel_rfl) (by kernel_rfl) (fun _ _ _ h => h) (Or.inl ⟨by rfl, ?_⟩) hHeld ?_; rotate_left; focus (intro w hSw; (try dsimp only at hSw); go_simp; (try with_reducible rfl); done))
      try simp only [Act.put, List.setIfInBounds_toArray, List.set_cons_zero, List.set_cons_succ]
      (refine takeW (i := 1) (dst := some 44) (v := ?_) rfl rfl (by kernel_rfl) (by kernel_rfl) (by kernel_rfl) (fun _ _ _ h => h) (Or.inl ⟨by rfl, ?_⟩) hHeld ?_; rotate_left; focus (intro w hSw; (try dsimp only at hSw); go_simp; (try with_reducible rfl); done))
      try simp only [Act.put, List.setIfInBounds_toArray, List.set_cons_zero, List.set_cons_succ]
      (refine takeW (i := 2) (dst := some 45) (v := ?_) rfl rfl (by kernel_rfl) (by kernel_rfl) (by kernel_rfl) (fun _ _ _ h => h) (Or.inl ⟨by rfl, ?_⟩) hHeld ?_; rotate_left; focus (intro w hSw; (try dsimp only at hSw); go_simp; (try with_reducible rfl); done))
      try simp only [Act.put, List.setIfInBounds_toArray, List.set_cons_zero, List.set_cons_succ]
      (refine takeW (i := 3) (dst := some 46) (v := ?_) rfl rfl (by kernel_rfl) (by kernel_rfl) (by kernel_rfl) (fun _ _ _ h => h) (Or.inl ⟨by rfl, ?_⟩) hHeld ?_; rotate_left; focus (intro w hSw; (try dsimp only at hSw); go_simp; (try with_reducible rfl); done))
      try simp only [Act.put, List.setIfInBounds_toArray, List.set_cons_zero, List.set_cons_succ]
      (refine takeW (i := 4) (dst := some 47) (v := ?_) rfl rfl (by kernel_rfl) (by kernel_rfl) (by kernel_rfl) (fun _ _ _ h => h) (Or.inl ⟨by rfl, ?_⟩) hHeld ?_; rotate_left; focus (intro w hSw; (try dsimp only at hSw); go_simp; (try with_reducible rfl); done))
      try simp only [Act.put, List.setIfInBounds_toArray, List.set_cons_zero, List.set_cons_succ]
      (refine takeW (i := 5) (dst := some 48) (v := ?_) rfl rfl (by kernel_rfl) (by kernel_rfl) (by kernel_rfl) (fun _ _ _ h => h) (Or.inl ⟨by rfl, ?_⟩) hHeld ?_; rotate_left; focus (intro w hSw; (try dsimp only at hSw); go_simp; (try with_reducible rfl); done))
      try simp only [Act.put, List.setIfInBounds_toArray, List.set_cons_zero, List.set_cons_succ]
      (refine takeW (i := 6) (dst := some 49) (v := ?_) rfl rfl (by kernel_rfl) (by kernel_rfl) (by kernel_rfl) (fun _ _ _ h => h) (Or.inl ⟨by rfl, ?_⟩) hHeld ?_; rotate_left; focus (intro w hSw; (try dsimp only at hSw); go_simp; (try with_reducible rfl); done))
      try simp only [Act.put, List.setIfInBounds_toArray, List.set_cons_zero, List.set_cons_succ]
      refine wpAnyH_ready (rs := [7]) (by kernel_rfl) (by simp) ?_
      refine AllReadyH.cons (o := _) rfl (fun KK hK => ?_) AllReadyH.nil
      go_simp
      refine CH5.out.mono ?_
      rintro e w5 ⟨rfl, hb5⟩
      have hS5 := HSR.out w5 hb5
      have HB5 := hid (HBR.out w5 hb5)
      refine hK.out _ _ hS5 (fun hHeld => ?_)
      clear hS5 hb5
      clear hK KK
      try simp only [Act.put]
      try simp only [List.setIfInBounds_toArray]
      try simp only [List.set_cons_succ]
      try simp only [List.set_cons_zero]
      refine wpAnyH_done (by kernel_rfl) ?_ _
      clear hHeld HSR HBR CH5 hbr
      have HNX : Hid (((((nbL (A : Int) ys).take (k + 1)).filter (fun w : Int => decide ((B : Int) ∈ nbL w ys))).length) = c + (if r = true then 1 else 0)) := by
        show _ = _
        rw [HZX.out, List.filter_append, List.length_append, ← HC.out]
        congr 1
        have hr := HRR.out
        cases r with
        | true => simp [← hr]
        | false => simp [← hr]
      clear HZX HC HRR
      cases r with
      | true =>
        have HNY : Hid (((((nbL (A : Int) ys).take (k + 1)).filter (fun w : Int => decide ((B : Int) ∈ nbL w ys))).length : Int) = (c : Int) + 1) := by
          show _ = _
          rw [HNX.out]; simp
        have q3 : IntKind.i64.wrap ((c : Int) + 1) = (c : Int) + 1 := by rw [IntKind.wrap_i64]; omega
        clear HNX
        go_wp2
        go_roundg (M - (k + 1))
        case measure => omega
        case rel => exact ⟨k + 1, by omega, Nat.le_refl _, by go_num, by rw [HNY.out], HB5⟩
      | false =>
        have HNY : Hid (((((nbL (A : Int) ys).take (k + 1)).filter (fun w : Int => decide ((B : Int) ∈ nbL w ys))).length : Int) = (c : Int)) := by
          show _ = _
          rw [HNX.out]; simp
        clear HNX
        go_wp2
        go_roundg (M - (k + 1))
        case measure => omega
        case rel => exact ⟨k + 1, by omega, Nat.le_refl _, by go_num, by rw [HNY.out], HB5⟩
    · obtain rfl : k = M := by omega
      have hb3r : Below V3.heap.size V3 wr := HB4.out.trans (hbr.out.mono HB4.out.size)
      obtain ⟨hg, hy, hbw⟩ := HS3.out wr hb3r
      have HGg' := hid hg
      have HB' := hid hbw
      have HYB := hid hy
      have HBW : Hid (Below wr.heap.size wr wr) := Below.refl _ _
      obtain ⟨cB, hcB⟩ := ex_eq (((nbL (A : Int) ys).take k).filter (fun w : Int => decide ((B : Int) ∈ nbL w ys))).length
      have HCB : Hid (cB = ((nbL (A : Int) ys).filter (fun w : Int => decide ((B : Int) ∈ nbL w ys))).length) := by
        show _ = _
        rw [hcB, HM.out, List.take_length]
      rw [← hcB]
      obtain ⟨m1, hm1⟩ : ∃ m1 : Nat, m = m1 + 1 := ⟨m - 1, by omega⟩
      have HM1 := hid hm1
      clear hcB hbr hb3r hg hy hbw HS3 HB3 hm1 HB HGg HY CH
      obtain ⟨g0, g1⟩ := HGg'.out.cells
      have y0 := cell_of_heap HYB.out 0
      have y1 := cell_of_heap HYB.out 1
      go_wp2_with fail
      refine (CC.out B A wr HGg'.out).mono ?_
      rintro e w5 ⟨v, rfl, er5, N5, E5, a5, c5, rfl, hS5, hsl5, hea5, hb5⟩
      obtain ⟨V5, hV5⟩ := ex_eq (w5.alloc (.cells #[.int .i64 N5, .slice a5 E5.length c5] 27))
      have hbV5 : Below wr.heap.size wr V5 := by rw [hV5]; exact hb5.alloc hb5.size _
      have HG5 : Hid (GC V5 w5.heap.size N5 a5 E5.length c5 E5) := by
        show GC _ _ _ _ _ _ _
        rw [hV5]; exact gc_new6 hea5
      replace HGg' := hid (HGg'.out.on hbV5)
      replace HBW : Hid (Below wr.heap.size wr V5) := HBW.out.trans (hbV5.mono HBW.out.size)
      replace HYB := hid ((hbV5.block _ (Array.getElem?_eq_some_iff.1 HYB.out).1).trans HYB.out)
      have HSL5 := hid hsl5
      have HV5 := hid hV5
      have hS := hS5
      clear hV5 hbV5 hsl5 hea5 hb5 hS5
      obtain ⟨rfl, rfl, hcnt5, hr5⟩ := hS.okN HR.out HADJ.out hAB.1 hAB.2 HM1.out
      obtain ⟨LC, hLC⟩ := ex_eq E5.length
      have HLC := hid hLC
      have HR5 := hid hr5
      have HC5 : Hid (LC + 1 + cB = K) := by
        show _ = _
        rw [hLC, HCB.out, HK.out]; exact hcnt5
      rw [← hLC] at HG5 HV5 ⊢
      clear hS hLC hr5 hcnt5 g0 g1 y0 y1 HCB
      obtain ⟨g0, g1⟩ := HGg'.out.cells
      have y1 := cell_of_heap HYB.out 1
      go_upto_region 14 with fail
      rw [← HV5.out]
      clear HV5
      go_wp2_with fail
      refine (CD.out B V5 HGg'.out).mono ?_
      rintro e w6 ⟨v, rfl, er6, N6, E6, a6, c6, rfl, hS6, hsl6, hea6, hb6⟩
      obtain ⟨V6, hV6⟩ := ex_eq (w6.alloc (.cells #[.int .i64 N6, .slice a6 E6.length c6] 27))
      have hbV6 : Below V5.heap.size V5 V6 := by rw [hV6]; exact hb6.alloc hb6.size _
      have HG6 : Hid (GC V6 w6.heap.size N6 a6 E6.length c6 E6) := by
        show GC _ _ _ _ _ _ _
        rw [hV6]; exact gc_new6 hea6
      replace HGg' := hid (HGg'.out.on hbV6)
      replace HG5 := hid (HG5.out.on hbV6)
      replace HBW : Hid (Below wr.heap.size wr V6) := HBW.out.trans (hbV6.mono HBW.out.size)
      replace HYB := hid ((hbV6.block _ (Array.getElem?_eq_some_iff.1 HYB.out).1).trans HYB.out)
      have HSL6 := hid hsl6
      have HV6 := hid hV6
      have hS := hS6
      clear hV6 hbV6 hsl6 hea6 hb6 hS6
      obtain ⟨rfl, rfl, hi6, hr6⟩ := hS.okN HR.out hAB.2 HM1.out
      obtain ⟨LD, hLD⟩ := ex_eq E6.length
      have HLD := hid hLD
      have HR6 := hid hr6
      obtain ⟨MB, hMB⟩ := ex_eq (nbL (B : Int) ys).length
      have HC6 : Hid (LD + MB = K) := by
        show _ = _
        rw [hLD, hMB, HK.out]; exact del_count HR.out hAB.2 hi6
      rw [← hLD] at HG6 HV6 ⊢
      have CNB := hid (CN.out B)
      rw [← hMB] at CNB
      have CR5 : Hid (∀ X, GC X w5.heap.size m1 a5 LC c5 E5 → Calls Try.prog 23 #[.agg #[.int .i64 m1, .slice a5 LC c5]] X fun e w' => e = .returned (.bool true) ∧ Below X.heap.size X w') := fun X hX => by
        rw [HLC.out]; exact right_any m1 a5 c5 E5 true X (by have := HR5.out.2.2.1; omega) hX.at_ ⟨fun _ => HR5.out, fun _ => rfl⟩
      have CR6 : Hid (∀ X, GC X w6.heap.size m1 a6 LD c6 E6 → Calls Try.prog 23 #[.agg #[.int .i64 m1, .slice a6 LD c6]] X fun e w' => e = .returned (.bool true) ∧ Below X.heap.size X w') := fun X hX => by
        rw [HLD.out]; exact right_any m1 a6 c6 E6 true X (by have := HR6.out.2.2.1; omega) hX.at_ ⟨fun _ => HR6.out, fun _ => rfl⟩
      obtain ⟨K1, hK1⟩ : ∃ K1, K = K1 + 1 := ⟨K - 1, by omega⟩
      have n1 : (m : Int) - 1 = (m1 : Int) := by have := HM1.out; omega
      have n2 : (K : Int) - 1 = (K1 : Int) := by omega
      have n3 : (K1 : Int) - (cB : Int) = (LC : Int) := by have := HC5.out; omega
      have n4 : (K : Int) - (MB : Int) = (LD : Int) := by have := HC6.out; omega
      have r1 : IntKind.i64.wrap (m1 : Int) = (m1 : Int) := by have := HM1.out; rw [IntKind.wrap_i64]; omega
      have r2 : IntKind.i64.wrap (K1 : Int) = (K1 : Int) := by rw [IntKind.wrap_i64]; omega
      have r3 : IntKind.i64.wrap (LC : Int) = (LC : Int) := by have := HC5.out; rw [IntKind.wrap_i64]; omega
      have r4 : IntKind.i64.wrap (LD : Int) = (LD : Int) := by have := HC6.out; rw [IntKind.wrap_i64]; omega
      have HALL : Hid (∀ X, Below V6.drew.heap.size V6.drew X → GC X w2.heap.size m (some ⟨gE, oE, none⟩) K c2 ys ∧ GC X w5.heap.size m1 a5 LC c5 E5 ∧ GC X w6.heap.size m1 a6 LD c6 E6 ∧ X.cell? ⟨V2.heap.size, 1, none⟩ = some (.int .i64 B) ∧ Below w.heap.size w X) := fun X hX => by
        have hX' : Below V6.heap.size V6 X := (Below.refl _ _).drew.trans (hX.mono (by simp))
        refine ⟨HGg'.out.on hX', HG5.out.on hX', HG6.out.on hX', ?_, HB'.out.trans ((HBW.out.trans (hX'.mono HBW.out.size)).mono HB'.out.size)⟩
        have hy := (hX'.block _ (Array.getElem?_eq_some_iff.1 HYB.out).1).trans HYB.out
        exact cell_of_heap hy 1
      have HSS : Hid (∀ X, Below V6.drew.heap.size V6.drew X → X.cell? ⟨w2.heap.size, 0, none⟩ = some (.int .i64 m) ∧ X.cell? ⟨w2.heap.size, 1, none⟩ = some (.slice (some ⟨gE, oE, none⟩) K c2) ∧ X.cell? ⟨w5.heap.size, 0, none⟩ = some (.int .i64 m1) ∧ X.cell? ⟨w5.heap.size, 1, none⟩ = some (.slice a5 LC c5) ∧ X.cell? ⟨w6.heap.size, 0, none⟩ = some (.int .i64 m1) ∧ X.cell? ⟨w6.heap.size, 1, none⟩ = some (.slice a6 LD c6) ∧ X.cell? ⟨V2.heap.size, 1, none⟩ = some (.int .i64 B)) := fun X hX => by
        obtain ⟨h1, h2, h3, h4, _⟩ := HALL.out X hX
        exact ⟨h1.n0, h1.e0, h2.n0, h2.e0, h3.n0, h3.e0, h4⟩
      clear hS hLD hr6 hi6 hMB g0 g1 y1 HGg' HG5 HG6 HYB HBW HB' hK1 CN CC CD HC5 HC6 HM1 HLC HLD HR5 HR6
      go_upto_region 15 with fail
      rw [← HV6.out]
      clear HV6
      refine wp_region_held_drew (S := (fun X => X.cell? ⟨w2.heap.size, 0, none⟩ = some (.int .i64 m) ∧ X.cell? ⟨w2.heap.size, 1, none⟩ = some (.slice (some ⟨gE, oE, none⟩) K c2) ∧ X.cell? ⟨w5.heap.size, 0, none⟩ = some (.int .i64 m1) ∧ X.cell? ⟨w5.heap.size, 1, none⟩ = some (.slice a5 LC c5) ∧ X.cell? ⟨w6.heap.size, 0, none⟩ = some (.int .i64 m1) ∧ X.cell? ⟨w6.heap.size, 1, none⟩ = some (.slice a6 LD c6) ∧ X.cell? ⟨V2.heap.size, 1, none⟩ = some (.int .i64 B))) (by kernel_rfl) (HSS.out V6.drew (Below.refl _ _)) (fun hHeld => ?_)
      (refine takeW (i := 0) (dst := some 69) (v := ?_) rfl rfl (by kernel_rfl) (by kernel_rfl) (by kernel_rfl) (fun _ _ _ h => h) (Or.inl ⟨by rfl, ?_⟩) hHeld ?_; rotate_left; focus (intro w hSw; (try dsimp only at hSw); go_simp; (try with_reducible rfl); done))
      try simp only [Act.put, List.setIfInBounds_toArray, List.set_cons_zero, List.set_cons_succ]
      (refine takeW (i := 1) (dst := some 70) (v := ?_) rfl rfl (by kernel_rfl) (by kernel_rfl) (by kernel_rfl) (fun _ _ _ h => h) (Or.inl ⟨by rfl, ?_⟩) hHeld ?_; rotate_left; focus (intro w hSw; (try dsimp only at hSw); go_simp; (try with_reducible rfl); done))
      try simp only [Act.put, List.setIfInBounds_toArray, List.set_cons_zero, List.set_cons_succ]
      first | refine takeW (i := 2) (dst := some 71) (v := undef) rfl rfl (by kernel_rfl) (by kernel_rfl) (by kernel_rfl) (fun _ _ _ h => h) (Or.inr ⟨by rfl, rfl⟩) hHeld ?_ | (refine takeW (i := 2) (dst := some 71) (v := ?_) rfl rfl (by kernel_rfl) (by kernel_rfl) (by kernel_rfl) (fun _ _ _ h => h) (Or.inl ⟨by rfl, ?_⟩) hHeld ?_; rotate_left; focus (intro w hSw; (try dsimp only at hSw); go_simp; (try with_reducible rfl); done))
      try simp only [Act.put, List.setIfInBounds_toArray, List.set_cons_zero, List.set_cons_succ]
      first | refine takeW (i := 3) (dst := some 72) (v := undef) rfl rfl (by kernel_rfl) (by kernel_rfl) (by kernel_rfl) (fun _ _ _ h => h) (Or.inr ⟨by rfl, rfl⟩) hHeld ?_ | (refine takeW (i := 3) (dst := some 72) (v := ?_) rfl rfl (by kernel_rfl) (by kernel_rfl) (by kernel_rfl) (fun _ _ _ h => h) (Or.inl ⟨by rfl, ?_⟩) hHeld ?_; rotate_left; focus (intro w hSw; (try dsimp only at hSw); go_simp; (try with_reducible rfl); done))
      try simp only [Act.put, List.setIfInBounds_toArray, List.set_cons_zero, List.set_cons_succ]
      (refine takeW (i := 4) (dst := some 73) (v := ?_) rfl rfl (by kernel_rfl) (by kernel_rfl) (by kernel_rfl) (fun _ _ _ h => h) (Or.inl ⟨by rfl, ?_⟩) hHeld ?_; rotate_left; focus (intro w hSw; (try dsimp only at hSw); go_simp; (try with_reducible rfl); done))
      try simp only [Act.put, List.setIfInBounds_toArray, List.set_cons_zero, List.set_cons_succ]
      (refine takeW (i := 5) (dst := some 74) (v := ?_) rfl rfl (by kernel_rfl) (by kernel_rfl) (by kernel_rfl) (fun _ _ _ h => h) (Or.inl ⟨by rfl, ?_⟩) hHeld ?_; rotate_left; focus (intro w hSw; (try dsimp only at hSw); go_simp; (try with_reducible rfl); done))
      try simp only [Act.put, List.setIfInBounds_toArray, List.set_cons_zero, List.set_cons_succ]
      first | refine takeW (i := 6) (dst := some 75) (v := undef) rfl rfl (by kernel_rfl) (by kernel_rfl) (by kernel_rfl) (fun _ _ _ h => h) (Or.inr ⟨by rfl, rfl⟩) hHeld ?_ | (refine takeW (i := 6) (dst := some 75) (v := ?_) rfl rfl (by kernel_rfl) (by kernel_rfl) (by kernel_rfl) (fun _ _ _ h => h) (Or.inl ⟨by rfl, ?_⟩) hHeld ?_; rotate_left; focus (intro w hSw; (try dsimp only at hSw); go_simp; (try with_reducible rfl); done))
      try simp only [Act.put, List.setIfInBounds_toArray, List.set_cons_zero, List.set_cons_succ]
      first | refine takeW (i := 7) (dst := some 76) (v := undef) rfl rfl (by kernel_rfl) (by kernel_rfl) (by kernel_rfl) (fun _ _ _ h => h) (Or.inr ⟨by rfl, rfl⟩) hHeld ?_ | (refine takeW (i := 7) (dst := some 76) (v := ?_) rfl rfl (by kernel_rfl) (by kernel_rfl) (by kernel_rfl) (fun _ _ _ h => h) (Or.inl ⟨by rfl, ?_⟩) hHeld ?_; rotate_left; focus (intro w hSw; (try dsimp only at hSw); go_simp; (try with_reducible rfl); done))
      try simp only [Act.put, List.setIfInBounds_toArray, List.set_cons_zero, List.set_cons_succ]
      (refine takeW (i := 8) (dst := some 77) (v := ?_) rfl rfl (by kernel_rfl) (by kernel_rfl) (by kernel_rfl) (fun _ _ _ h => h) (Or.inl ⟨by rfl, ?_⟩) hHeld ?_; rotate_left; focus (intro w hSw; (try dsimp only at hSw); go_simp; (try with_reducible rfl); done))
      try simp only [Act.put, List.setIfInBounds_toArray, List.set_cons_zero, List.set_cons_succ]
      (refine takeW (i := 9) (dst := some 78) (v := ?_) rfl rfl (by kernel_rfl) (by kernel_rfl) (by kernel_rfl) (fun _ _ _ h => h) (Or.inl ⟨by rfl, ?_⟩) hHeld ?_; rotate_left; focus (intro w hSw; (try dsimp only at hSw); go_simp; (try with_reducible rfl); done))
      try simp only [Act.put, List.setIfInBounds_toArray, List.set_cons_zero, List.set_cons_succ]
      first | refine takeW (i := 10) (dst := some 79) (v := undef) rfl rfl (by kernel_rfl) (by kernel_rfl) (by kernel_rfl) (fun _ _ _ h => h) (Or.inr ⟨by rfl, rfl⟩) hHeld ?_ | (refine takeW (i := 10) (dst := some 79) (v := ?_) rfl rfl (by kernel_rfl) (by kernel_rfl) (by kernel_rfl) (fun _ _ _ h => h) (Or.inl ⟨by rfl, ?_⟩) hHeld ?_; rotate_left; focus (intro w hSw; (try dsimp only at hSw); go_simp; (try with_reducible rfl); done))
      try simp only [Act.put, List.setIfInBounds_toArray, List.set_cons_zero, List.set_cons_succ]
      first | refine takeW (i := 11) (dst := some 80) (v := undef) rfl rfl (by kernel_rfl) (by kernel_rfl) (by kernel_rfl) (fun _ _ _ h => h) (Or.inr ⟨by rfl, rfl⟩) hHeld ?_ | (refine takeW (i := 11) (dst := some 80) (v := ?_) rfl rfl (by kernel_rfl) (by kernel_rfl) (by kernel_rfl) (fun _ _ _ h => h) (Or.inl ⟨by rfl, ?_⟩) hHeld ?_; rotate_left; focus (intro w hSw; (try dsimp only at hSw); go_simp; (try with_reducible rfl); done))
      try simp only [Act.put, List.setIfInBounds_toArray, List.set_cons_zero, List.set_cons_succ]
      first | refine takeW (i := 12) (dst := some 81) (v := undef) rfl rfl (by kernel_rfl) (by kernel_rfl) (by kernel_rfl) (fun _ _ _ h => h) (Or.inr ⟨by rfl, rfl⟩) hHeld ?_ | (refine takeW (i := 12) (dst := some 81) (v := ?_) rfl rfl (by kernel_rfl) (by kernel_rfl) (by kernel_rfl) (fun _ _ _ h => h) (Or.inl ⟨by rfl, ?_⟩) hHeld ?_; rotate_left; focus (intro w hSw; (try dsimp only at hSw); go_simp; (try with_reducible rfl); done))
      try simp only [Act.put, List.setIfInBounds_toArray, List.set_cons_zero, List.set_cons_succ]
      first | refine takeW (i := 13) (dst := some 82) (v := undef) rfl rfl (by kernel_rfl) (by kernel_rfl) (by kernel_rfl) (fun _ _ _ h => h) (Or.inr ⟨by rfl, rfl⟩) hHeld ?_ | (refine takeW (i := 13) (dst := some 82) (v := ?_) rfl rfl (by kernel_rfl) (by kernel_rfl) (by kernel_rfl) (fun _ _ _ h => h) (Or.inl ⟨by rfl, ?_⟩) hHeld ?_; rotate_left; focus (intro w hSw; (try dsimp only at hSw); go_simp; (try with_reducible rfl); done))
      try simp only [Act.put, List.setIfInBounds_toArray, List.set_cons_zero, List.set_cons_succ]
      first | refine takeW (i := 14) (dst := some 83) (v := undef) rfl rfl (by kernel_rfl) (by kernel_rfl) (by kernel_rfl) (fun _ _ _ h => h) (Or.inr ⟨by rfl, rfl⟩) hHeld ?_ | (refine takeW (i := 14) (dst := some 83) (v := ?_) rfl rfl (by kernel_rfl) (by kernel_rfl) (by kernel_rfl) (fun _ _ _ h => h) (Or.inl ⟨by rfl, ?_⟩) hHeld ?_; rotate_left; focus (intro w hSw; (try dsimp only at hSw); go_simp; (try with_reducible rfl); done))
      try simp only [Act.put, List.setIfInBounds_toArray, List.set_cons_zero, List.set_cons_succ]
      first | refine takeW (i := 15) (dst := some 84) (v := undef) rfl rfl (by kernel_rfl) (by kernel_rfl) (by kernel_rfl) (fun _ _ _ h => h) (Or.inr ⟨by rfl, rfl⟩) hHeld ?_ | (refine takeW (i := 15) (dst := some 84) (v := ?_) rfl rfl (by kernel_rfl) (by kernel_rfl) (by kernel_rfl) (fun _ _ _ h => h) (Or.inl ⟨by rfl, ?_⟩) hHeld ?_; rotate_left; focus (intro w hSw; (try dsimp only at hSw); go_simp; (try with_reducible rfl); done))
      try simp only [Act.put, List.setIfInBounds_toArray, List.set_cons_zero, List.set_cons_succ]
      (refine takeW (i := 16) (dst := some 85) (v := ?_) rfl rfl (by kernel_rfl) (by kernel_rfl) (by kernel_rfl) (fun _ _ _ h => h) (Or.inl ⟨by rfl, ?_⟩) hHeld ?_; rotate_left; focus (intro w hSw; (try dsimp only at hSw); go_simp; (try with_reducible rfl); done))
      try simp only [Act.put, List.setIfInBounds_toArray, List.set_cons_zero, List.set_cons_succ]
      (refine takeW (i := 17) (dst := some 86) (v := ?_) rfl rfl (by kernel_rfl) (by kernel_rfl) (by kernel_rfl) (fun _ _ _ h => h) (Or.inl ⟨by rfl, ?_⟩) hHeld ?_; rotate_left; focus (intro w hSw; (try dsimp only at hSw); go_simp; (try with_reducible rfl); done))
      try simp only [Act.put, List.setIfInBounds_toArray, List.set_cons_zero, List.set_cons_succ]
      first | refine takeW (i := 18) (dst := some 87) (v := undef) rfl rfl (by kernel_rfl) (by kernel_rfl) (by kernel_rfl) (fun _ _ _ h => h) (Or.inr ⟨by rfl, rfl⟩) hHeld ?_ | (refine takeW (i := 18) (dst := some 87) (v := ?_) rfl rfl (by kernel_rfl) (by kernel_rfl) (by kernel_rfl) (fun _ _ _ h => h) (Or.inl ⟨by rfl, ?_⟩) hHeld ?_; rotate_left; focus (intro w hSw; (try dsimp only at hSw); go_simp; (try with_reducible rfl); done))
      try simp only [Act.put, List.setIfInBounds_toArray, List.set_cons_zero, List.set_cons_succ]
      first | refine takeW (i := 19) (dst := some 88) (v := undef) rfl rfl (by kernel_rfl) (by kernel_rfl) (by kernel_rfl) (fun _ _ _ h => h) (Or.inr ⟨by rfl, rfl⟩) hHeld ?_ | (refine takeW (i := 19) (dst := some 88) (v := ?_) rfl rfl (by kernel_rfl) (by kernel_rfl) (by kernel_rfl) (fun _ _ _ h => h) (Or.inl ⟨by rfl, ?_⟩) hHeld ?_; rotate_left; focus (intro w hSw; (try dsimp only at hSw); go_simp; (try with_reducible rfl); done))
      try simp only [Act.put, List.setIfInBounds_toArray, List.set_cons_zero, List.set_cons_succ]
      first | refine takeW (i := 20) (dst := some 89) (v := undef) rfl rfl (by kernel_rfl) (by kernel_rfl) (by kernel_rfl) (fun _ _ _ h => h) (Or.inr ⟨by rfl, rfl⟩) hHeld ?_ | (refine takeW (i := 20) (dst := some 89) (v := ?_) rfl rfl (by kernel_rfl) (by kernel_rfl) (by kernel_rfl) (fun _ _ _ h => h) (Or.inl ⟨by rfl, ?_⟩) hHeld ?_; rotate_left; focus (intro w hSw; (try dsimp only at hSw); go_simp; (try with_reducible rfl); done))
      try simp only [Act.put, List.setIfInBounds_toArray, List.set_cons_zero, List.set_cons_succ]
      first | refine takeW (i := 21) (dst := some 90) (v := undef) rfl rfl (by kernel_rfl) (by kernel_rfl) (by kernel_rfl) (fun _ _ _ h => h) (Or.inr ⟨by rfl, rfl⟩) hHeld ?_ | (refine takeW (i := 21) (dst := some 90) (v := ?_) rfl rfl (by kernel_rfl) (by kernel_rfl) (by kernel_rfl) (fun _ _ _ h => h) (Or.inl ⟨by rfl, ?_⟩) hHeld ?_; rotate_left; focus (intro w hSw; (try dsimp only at hSw); go_simp; (try with_reducible rfl); done))
      try simp only [Act.put, List.setIfInBounds_toArray, List.set_cons_zero, List.set_cons_succ]
      first | refine takeW (i := 22) (dst := some 91) (v := undef) rfl rfl (by kernel_rfl) (by kernel_rfl) (by kernel_rfl) (fun _ _ _ h => h) (Or.inr ⟨by rfl, rfl⟩) hHeld ?_ | (refine takeW (i := 22) (dst := some 91) (v := ?_) rfl rfl (by kernel_rfl) (by kernel_rfl) (by kernel_rfl) (fun _ _ _ h => h) (Or.inl ⟨by rfl, ?_⟩) hHeld ?_; rotate_left; focus (intro w hSw; (try dsimp only at hSw); go_simp; (try with_reducible rfl); done))
      try simp only [Act.put, List.setIfInBounds_toArray, List.set_cons_zero, List.set_cons_succ]
      first | refine takeW (i := 23) (dst := some 92) (v := undef) rfl rfl (by kernel_rfl) (by kernel_rfl) (by kernel_rfl) (fun _ _ _ h => h) (Or.inr ⟨by rfl, rfl⟩) hHeld ?_ | (refine takeW (i := 23) (dst := some 92) (v := ?_) rfl rfl (by kernel_rfl) (by kernel_rfl) (by kernel_rfl) (fun _ _ _ h => h) (Or.inl ⟨by rfl, ?_⟩) hHeld ?_; rotate_left; focus (intro w hSw; (try dsimp only at hSw); go_simp; (try with_reducible rfl); done))
      try simp only [Act.put, List.setIfInBounds_toArray, List.set_cons_zero, List.set_cons_succ]
      (refine takeW (i := 24) (dst := some 93) (v := ?_) rfl rfl (by kernel_rfl) (by kernel_rfl) (by kernel_rfl) (fun _ _ _ h => h) (Or.inl ⟨by rfl, ?_⟩) hHeld ?_; rotate_left; focus (intro w hSw; (try dsimp only at hSw); go_simp; (try with_reducible rfl); done))
      try simp only [Act.put, List.setIfInBounds_toArray, List.set_cons_zero, List.set_cons_succ]
      (refine takeW (i := 25) (dst := some 94) (v := ?_) rfl rfl (by kernel_rfl) (by kernel_rfl) (by kernel_rfl) (fun _ _ _ h => h) (Or.inl ⟨by rfl, ?_⟩) hHeld ?_; rotate_left; focus (intro w hSw; (try dsimp only at hSw); go_simp; (try with_reducible rfl); done))
      try simp only [Act.put, List.setIfInBounds_toArray, List.set_cons_zero, List.set_cons_succ]
      first | refine takeW (i := 26) (dst := some 95) (v := undef) rfl rfl (by kernel_rfl) (by kernel_rfl) (by kernel_rfl) (fun _ _ _ h => h) (Or.inr ⟨by rfl, rfl⟩) hHeld ?_ | (refine takeW (i := 26) (dst := some 95) (v := ?_) rfl rfl (by kernel_rfl) (by kernel_rfl) (by kernel_rfl) (fun _ _ _ h => h) (Or.inl ⟨by rfl, ?_⟩) hHeld ?_; rotate_left; focus (intro w hSw; (try dsimp only at hSw); go_simp; (try with_reducible rfl); done))
      try simp only [Act.put, List.setIfInBounds_toArray, List.set_cons_zero, List.set_cons_succ]
      first | refine takeW (i := 27) (dst := some 96) (v := undef) rfl rfl (by kernel_rfl) (by kernel_rfl) (by kernel_rfl) (fun _ _ _ h => h) (Or.inr ⟨by rfl, rfl⟩) hHeld ?_ | (refine takeW (i := 27) (dst := some 96) (v := ?_) rfl rfl (by kernel_rfl) (by kernel_rfl) (by kernel_rfl) (fun _ _ _ h => h) (Or.inl ⟨by rfl, ?_⟩) hHeld ?_; rotate_left; focus (intro w hSw; (try dsimp only at hSw); go_simp; (try with_reducible rfl); done))
      try simp only [Act.put, List.setIfInBounds_toArray, List.set_cons_zero, List.set_cons_succ]
      first | refine takeW (i := 28) (dst := some 97) (v := undef) rfl rfl (by kernel_rfl) (by kernel_rfl) (by kernel_rfl) (fun _ _ _ h => h) (Or.inr ⟨by rfl, rfl⟩) hHeld ?_ | (refine takeW (i := 28) (dst := some 97) (v := ?_) rfl rfl (by kernel_rfl) (by kernel_rfl) (by kernel_rfl) (fun _ _ _ h => h) (Or.inl ⟨by rfl, ?_⟩) hHeld ?_; rotate_left; focus (intro w hSw; (try dsimp only at hSw); go_simp; (try with_reducible rfl); done))
      try simp only [Act.put, List.setIfInBounds_toArray, List.set_cons_zero, List.set_cons_succ]
      first | refine takeW (i := 29) (dst := some 98) (v := undef) rfl rfl (by kernel_rfl) (by kernel_rfl) (by kernel_rfl) (fun _ _ _ h => h) (Or.inr ⟨by rfl, rfl⟩) hHeld ?_ | (refine takeW (i := 29) (dst := some 98) (v := ?_) rfl rfl (by kernel_rfl) (by kernel_rfl) (by kernel_rfl) (fun _ _ _ h => h) (Or.inl ⟨by rfl, ?_⟩) hHeld ?_; rotate_left; focus (intro w hSw; (try dsimp only at hSw); go_simp; (try with_reducible rfl); done))
      try simp only [Act.put, List.setIfInBounds_toArray, List.set_cons_zero, List.set_cons_succ]
      first | refine takeW (i := 30) (dst := some 99) (v := undef) rfl rfl (by kernel_rfl) (by kernel_rfl) (by kernel_rfl) (fun _ _ _ h => h) (Or.inr ⟨by rfl, rfl⟩) hHeld ?_ | (refine takeW (i := 30) (dst := some 99) (v := ?_) rfl rfl (by kernel_rfl) (by kernel_rfl) (by kernel_rfl) (fun _ _ _ h => h) (Or.inl ⟨by rfl, ?_⟩) hHeld ?_; rotate_left; focus (intro w hSw; (try dsimp only at hSw); go_simp; (try with_reducible rfl); done))
      try simp only [Act.put, List.setIfInBounds_toArray, List.set_cons_zero, List.set_cons_succ]
      first | refine takeW (i := 31) (dst := some 100) (v := undef) rfl rfl (by kernel_rfl) (by kernel_rfl) (by kernel_rfl) (fun _ _ _ h => h) (Or.inr ⟨by rfl, rfl⟩) hHeld ?_ | (refine takeW (i := 31) (dst := some 100) (v := ?_) rfl rfl (by kernel_rfl) (by kernel_rfl) (by kernel_rfl) (fun _ _ _ h => h) (Or.inl ⟨by rfl, ?_⟩) hHeld ?_; rotate_left; focus (intro w hSw; (try dsimp only at hSw); go_simp; (try with_reducible rfl); done))
      try simp only [Act.put, List.setIfInBounds_toArray, List.set_cons_zero, List.set_cons_succ]
      first | refine takeW (i := 32) (dst := some 101) (v := undef) rfl rfl (by kernel_rfl) (by kernel_rfl) (by kernel_rfl) (fun _ _ _ h => h) (Or.inr ⟨by rfl, rfl⟩) hHeld ?_ | (refine takeW (i := 32) (dst := some 101) (v := ?_) rfl rfl (by kernel_rfl) (by kernel_rfl) (by kernel_rfl) (fun _ _ _ h => h) (Or.inl ⟨by rfl, ?_⟩) hHeld ?_; rotate_left; focus (intro w hSw; (try dsimp only at hSw); go_simp; (try with_reducible rfl); done))
      try simp only [Act.put, List.setIfInBounds_toArray, List.set_cons_zero, List.set_cons_succ]
      first | refine takeW (i := 33) (dst := some 102) (v := undef) rfl rfl (by kernel_rfl) (by kernel_rfl) (by kernel_rfl) (fun _ _ _ h => h) (Or.inr ⟨by rfl, rfl⟩) hHeld ?_ | (refine takeW (i := 33) (dst := some 102) (v := ?_) rfl rfl (by kernel_rfl) (by kernel_rfl) (by kernel_rfl) (fun _ _ _ h => h) (Or.inl ⟨by rfl, ?_⟩) hHeld ?_; rotate_left; focus (intro w hSw; (try dsimp only at hSw); go_simp; (try with_reducible rfl); done))
      try simp only [Act.put, List.setIfInBounds_toArray, List.set_cons_zero, List.set_cons_succ]
      first | refine takeW (i := 34) (dst := some 103) (v := undef) rfl rfl (by kernel_rfl) (by kernel_rfl) (by kernel_rfl) (fun _ _ _ h => h) (Or.inr ⟨by rfl, rfl⟩) hHeld ?_ | (refine takeW (i := 34) (dst := some 103) (v := ?_) rfl rfl (by kernel_rfl) (by kernel_rfl) (by kernel_rfl) (fun _ _ _ h => h) (Or.inl ⟨by rfl, ?_⟩) hHeld ?_; rotate_left; focus (intro w hSw; (try dsimp only at hSw); go_simp; (try with_reducible rfl); done))
      try simp only [Act.put, List.setIfInBounds_toArray, List.set_cons_zero, List.set_cons_succ]
      first | refine takeW (i := 35) (dst := some 104) (v := undef) rfl rfl (by kernel_rfl) (by kernel_rfl) (by kernel_rfl) (fun _ _ _ h => h) (Or.inr ⟨by rfl, rfl⟩) hHeld ?_ | (refine takeW (i := 35) (dst := some 104) (v := ?_) rfl rfl (by kernel_rfl) (by kernel_rfl) (by kernel_rfl) (fun _ _ _ h => h) (Or.inl ⟨by rfl, ?_⟩) hHeld ?_; rotate_left; focus (intro w hSw; (try dsimp only at hSw); go_simp; (try with_reducible rfl); done))
      try simp only [Act.put, List.setIfInBounds_toArray, List.set_cons_zero, List.set_cons_succ]
      (refine takeW (i := 36) (dst := some 105) (v := ?_) rfl rfl (by kernel_rfl) (by kernel_rfl) (by kernel_rfl) (fun _ _ _ h => h) (Or.inl ⟨by rfl, ?_⟩) hHeld ?_; rotate_left; focus (intro w hSw; (try dsimp only at hSw); go_simp; (try with_reducible rfl); done))
      try simp only [Act.put, List.setIfInBounds_toArray, List.set_cons_zero, List.set_cons_succ]
      (refine takeW (i := 37) (dst := some 106) (v := ?_) rfl rfl (by kernel_rfl) (by kernel_rfl) (by kernel_rfl) (fun _ _ _ h => h) (Or.inl ⟨by rfl, ?_⟩) hHeld ?_; rotate_left; focus (intro w hSw; (try dsimp only at hSw); go_simp; (try with_reducible rfl); done))
      try simp only [Act.put, List.setIfInBounds_toArray, List.set_cons_zero, List.set_cons_succ]
      first | refine takeW (i := 38) (dst := some 107) (v := undef) rfl rfl (by kernel_rfl) (by kernel_rfl) (by kernel_rfl) (fun _ _ _ h => h) (Or.inr ⟨by rfl, rfl⟩) hHeld ?_ | (refine takeW (i := 38) (dst := some 107) (v := ?_) rfl rfl (by kernel_rfl) (by kernel_rfl) (by kernel_rfl) (fun _ _ _ h => h) (Or.inl ⟨by rfl, ?_⟩) hHeld ?_; rotate_left; focus (intro w hSw; (try dsimp only at hSw); go_simp; (try with_reducible rfl); done))
      try simp only [Act.put, List.setIfInBounds_toArray, List.set_cons_zero, List.set_cons_succ]
      first | refine takeW (i := 39) (dst := some 108) (v := undef) rfl rfl (by kernel_rfl) (by kernel_rfl) (by kernel_rfl) (fun _ _ _ h => h) (Or.inr ⟨by rfl, rfl⟩) hHeld ?_ | (refine takeW (i := 39) (dst := some 108) (v := ?_) rfl rfl (by kernel_rfl) (by kernel_rfl) (by kernel_rfl) (fun _ _ _ h => h) (Or.inl ⟨by rfl, ?_⟩) hHeld ?_; rotate_left; focus (intro w hSw; (try dsimp only at hSw); go_simp; (try with_reducible rfl); done))
      try simp only [Act.put, List.setIfInBounds_toArray, List.set_cons_zero, List.set_cons_succ]
      first | refine takeW (i := 40) (dst := some 109) (v := undef) rfl rfl (by kernel_rfl) (by kernel_rfl) (by kernel_rfl) (fun _ _ _ h => h) (Or.inr ⟨by rfl, rfl⟩) hHeld ?_ | (refine takeW (i := 40) (dst := some 109) (v := ?_) rfl rfl (by kernel_rfl) (by kernel_rfl) (by kernel_rfl) (fun _ _ _ h => h) (Or.inl ⟨by rfl, ?_⟩) hHeld ?_; rotate_left; focus (intro w hSw; (try dsimp only at hSw); go_simp; (try with_reducible rfl); done))
      try simp only [Act.put, List.setIfInBounds_toArray, List.set_cons_zero, List.set_cons_succ]
      first | refine takeW (i := 41) (dst := some 110) (v := undef) rfl rfl (by kernel_rfl) (by kernel_rfl) (by kernel_rfl) (fun _ _ _ h => h) (Or.inr ⟨by rfl, rfl⟩) hHeld ?_ | (refine takeW (i := 41) (dst := some 110) (v := ?_) rfl rfl (by kernel_rfl) (by kernel_rfl) (by kernel_rfl) (fun _ _ _ h => h) (Or.inl ⟨by rfl, ?_⟩) hHeld ?_; rotate_left; focus (intro w hSw; (try dsimp only at hSw); go_simp; (try with_reducible rfl); done))
      try simp only [Act.put, List.setIfInBounds_toArray, List.set_cons_zero, List.set_cons_succ]
      first | refine takeW (i := 42) (dst := some 111) (v := undef) rfl rfl (by kernel_rfl) (by kernel_rfl) (by kernel_rfl) (fun _ _ _ h => h) (Or.inr ⟨by rfl, rfl⟩) hHeld ?_ | (refine takeW (i := 42) (dst := some 111) (v := ?_) rfl rfl (by kernel_rfl) (by kernel_rfl) (by kernel_rfl) (fun _ _ _ h => h) (Or.inl ⟨by rfl, ?_⟩) hHeld ?_; rotate_left; focus (intro w hSw; (try dsimp only at hSw); go_simp; (try with_reducible rfl); done))
      try simp only [Act.put, List.setIfInBounds_toArray, List.set_cons_zero, List.set_cons_succ]
      first | refine takeW (i := 43) (dst := some 112) (v := undef) rfl rfl (by kernel_rfl) (by kernel_rfl) (by kernel_rfl) (fun _ _ _ h => h) (Or.inr ⟨by rfl, rfl⟩) hHeld ?_ | (refine takeW (i := 43) (dst := some 112) (v := ?_) rfl rfl (by kernel_rfl) (by kernel_rfl) (by kernel_rfl) (fun _ _ _ h => h) (Or.inl ⟨by rfl, ?_⟩) hHeld ?_; rotate_left; focus (intro w hSw; (try dsimp only at hSw); go_simp; (try with_reducible rfl); done))
      try simp only [Act.put, List.setIfInBounds_toArray, List.set_cons_zero, List.set_cons_succ]
      first | refine takeW (i := 44) (dst := some 113) (v := undef) rfl rfl (by kernel_rfl) (by kernel_rfl) (by kernel_rfl) (fun _ _ _ h => h) (Or.inr ⟨by rfl, rfl⟩) hHeld ?_ | (refine takeW (i := 44) (dst := some 113) (v := ?_) rfl rfl (by kernel_rfl) (by kernel_rfl) (by kernel_rfl) (fun _ _ _ h => h) (Or.inl ⟨by rfl, ?_⟩) hHeld ?_; rotate_left; focus (intro w hSw; (try dsimp only at hSw); go_simp; (try with_reducible rfl); done))
      try simp only [Act.put, List.setIfInBounds_toArray, List.set_cons_zero, List.set_cons_succ]
      first | refine takeW (i := 45) (dst := some 114) (v := undef) rfl rfl (by kernel_rfl) (by kernel_rfl) (by kernel_rfl) (fun _ _ _ h => h) (Or.inr ⟨by rfl, rfl⟩) hHeld ?_ | (refine takeW (i := 45) (dst := some 114) (v := ?_) rfl rfl (by kernel_rfl) (by kernel_rfl) (by kernel_rfl) (fun _ _ _ h => h) (Or.inl ⟨by rfl, ?_⟩) hHeld ?_; rotate_left; focus (intro w hSw; (try dsimp only at hSw); go_simp; (try with_reducible rfl); done))
      try simp only [Act.put, List.setIfInBounds_toArray, List.set_cons_zero, List.set_cons_succ]
      first | refine takeW (i := 46) (dst := some 115) (v := undef) rfl rfl (by kernel_rfl) (by kernel_rfl) (by kernel_rfl) (fun _ _ _ h => h) (Or.inr ⟨by rfl, rfl⟩) hHeld ?_ | (refine takeW (i := 46) (dst := some 115) (v := ?_) rfl rfl (by kernel_rfl) (by kernel_rfl) (by kernel_rfl) (fun _ _ _ h => h) (Or.inl ⟨by rfl, ?_⟩) hHeld ?_; rotate_left; focus (intro w hSw; (try dsimp only at hSw); go_simp; (try with_reducible rfl); done))
      try simp only [Act.put, List.setIfInBounds_toArray, List.set_cons_zero, List.set_cons_succ]
      refine wpAnyH_ready (rs := [47]) (by kernel_rfl) (by simp) ?_
      refine AllReadyH.cons (o := _) rfl (fun KK hK => ?_) AllReadyH.nil
      go_simp
      refine (CNB.out _ (HALL.out _ (Below.refl _ _)).1).mono ?_
      rintro e w7 ⟨a7, c7, rfl, _, hb7⟩
      have hb7 : Below V6.drew.heap.size V6.drew w7 := hb7
      have HBB7 := hid hb7
      have hS7 := HSS.out w7 hb7
      refine hK.out _ _ hS7 (fun hHeld => ?_)
      clear hS7 hb7
      clear hK KK
      try simp only [Act.put]
      try simp only [List.setIfInBounds_toArray]
      try simp only [List.set_cons_succ]
      try simp only [List.set_cons_zero]
      first | refine takeW (i := 48) (dst := some 117) (v := undef) rfl rfl (by kernel_rfl) (by kernel_rfl) (by kernel_rfl) (fun _ _ _ h => h) (Or.inr ⟨by rfl, rfl⟩) hHeld ?_ | (refine takeW (i := 48) (dst := some 117) (v := ?_) rfl rfl (by kernel_rfl) (by kernel_rfl) (by kernel_rfl) (fun _ _ _ h => h) (Or.inl ⟨by rfl, ?_⟩) hHeld ?_; rotate_left; focus (intro w hSw; (try dsimp only at hSw); go_simp; (try with_reducible rfl); done))
      try simp only [Act.put, List.setIfInBounds_toArray, List.set_cons_zero, List.set_cons_succ]
      first | refine takeW (i := 49) (dst := some 118) (v := undef) rfl rfl (by kernel_rfl) (by kernel_rfl) (by kernel_rfl) (fun _ _ _ h => h) (Or.inr ⟨by rfl, rfl⟩) hHeld ?_ | (refine takeW (i := 49) (dst := some 118) (v := ?_) rfl rfl (by kernel_rfl) (by kernel_rfl) (by kernel_rfl) (fun _ _ _ h => h) (Or.inl ⟨by rfl, ?_⟩) hHeld ?_; rotate_left; focus (intro w hSw; (try dsimp only at hSw); go_simp; (try with_reducible rfl); done))
      try simp only [Act.put, List.setIfInBounds_toArray, List.set_cons_zero, List.set_cons_succ]
      first | refine takeW (i := 50) (dst := some 119) (v := undef) rfl rfl (by kernel_rfl) (by kernel_rfl) (by kernel_rfl) (fun _ _ _ h => h) (Or.inr ⟨by rfl, rfl⟩) hHeld ?_ | (refine takeW (i := 50) (dst := some 119) (v := ?_) rfl rfl (by kernel_rfl) (by kernel_rfl) (by kernel_rfl) (fun _ _ _ h => h) (Or.inl ⟨by rfl, ?_⟩) hHeld ?_; rotate_left; focus (intro w hSw; (try dsimp only at hSw); go_simp; (try with_reducible rfl); done))
      try simp only [Act.put, List.setIfInBounds_toArray, List.set_cons_zero, List.set_cons_succ]
      (refine takeW (i := 51) (dst := some 120) (v := ?_) rfl rfl (by kernel_rfl) (by kernel_rfl) (by kernel_rfl) (fun _ _ _ h => h) (Or.inl ⟨by rfl, ?_⟩) hHeld ?_; rotate_left; focus (intro w hSw; (try dsimp only at hSw); go_simp; (try with_reducible rfl); done))
      try simp only [Act.put, List.setIfInBounds_toArray, List.set_cons_zero, List.set_cons_succ]
      (refine takeW (i := 52) (dst := some 121) (v := ?_) rfl rfl (by kernel_rfl) (by kernel_rfl) (by kernel_rfl) (fun _ _ _ h => h) (Or.inl ⟨by rfl, ?_⟩) hHeld ?_; rotate_left; focus (intro w hSw; (try dsimp only at hSw); go_simp; (try with_reducible rfl); done))
      try simp only [Act.put, List.setIfInBounds_toArray, List.set_cons_zero, List.set_cons_succ]
      first | refine takeW (i := 53) (dst := some 122) (v := undef) rfl rfl (by kernel_rfl) (by kernel_rfl) (by kernel_rfl) (fun _ _ _ h => h) (Or.inr ⟨by rfl, rfl⟩) hHeld ?_ | (refine takeW (i := 53) (dst := some 122) (v := ?_) rfl rfl (by kernel_rfl) (by kernel_rfl) (by kernel_rfl) (fun _ _ _ h => h) (Or.inl ⟨by rfl, ?_⟩) hHeld ?_; rotate_left; focus (intro w hSw; (try dsimp only at hSw); go_simp; (try with_reducible rfl); done))
      try simp only [Act.put, List.setIfInBounds_toArray, List.set_cons_zero, List.set_cons_succ]
      refine wpAnyH_ready (rs := [54]) (by kernel_rfl) (by simp) ?_
      refine AllReadyH.cons (o := _) rfl (fun KK hK => ?_) AllReadyH.nil
      go_simp
      refine (CR5.out _ (HALL.out _ HBB7.out).2.1).mono ?_
      rintro e w8 ⟨rfl, hb8⟩
      have hb8 : Below V6.drew.heap.size V6.drew w8 := HBB7.out.trans (hb8.mono HBB7.out.size)
      have HBB8 := hid hb8
      have hS8 := HSS.out w8 hb8
      refine hK.out _ _ hS8 (fun hHeld => ?_)
      clear hS8 hb8
      clear hK KK
      try simp only [Act.put]
      try simp only [List.setIfInBounds_toArray]
      try simp only [List.set_cons_succ]
      try simp only [List.set_cons_zero]
      (refine takeW (i := 55) (dst := some 124) (v := ?_) rfl rfl (by kernel_rfl) (by kernel_rfl) (by kernel_rfl) (fun _ _ _ h => h) (Or.inl ⟨by rfl, ?_⟩) hHeld ?_; rotate_left; focus (intro w hSw; (try dsimp only at hSw); go_simp; (try with_reducible rfl); done))
      try simp only [Act.put, List.setIfInBounds_toArray, List.set_cons_zero, List.set_cons_succ]
      (refine takeW (i := 56) (dst := some 125) (v := ?_) rfl rfl (by kernel_rfl) (by kernel_rfl) (by kernel_rfl) (fun _ _ _ h => h) (Or.inl ⟨by rfl, ?_⟩) hHeld ?_; rotate_left; focus (intro w hSw; (try dsimp only at hSw); go_simp; (try with_reducible rfl); done))
      try simp only [Act.put, List.setIfInBounds_toArray, List.set_cons_zero, List.set_cons_succ]
      first | refine takeW (i := 57) (dst := some 126) (v := undef) rfl rfl (by kernel_rfl) (by kernel_rfl) (by kernel_rfl) (fun _ _ _ h => h) (Or.inr ⟨by rfl, rfl⟩) hHeld ?_ | (refine takeW (i := 57) (dst := some 126) (v := ?_) rfl rfl (by kernel_rfl) (by kernel_rfl) (by kernel_rfl) (fun _ _ _ h => h) (Or.inl ⟨by rfl, ?_⟩) hHeld ?_; rotate_left; focus (intro w hSw; (try dsimp only at hSw); go_simp; (try with_reducible rfl); done))
      try simp only [Act.put, List.setIfInBounds_toArray, List.set_cons_zero, List.set_cons_succ]
      refine wpAnyH_ready (rs := [58]) (by kernel_rfl) (by simp) ?_
      refine AllReadyH.cons (o := _) rfl (fun KK hK => ?_) AllReadyH.nil
      go_simp
      refine (CR6.out _ (HALL.out _ HBB8.out).2.2.1).mono ?_
      rintro e w9 ⟨rfl, hb9⟩
      have hb9 : Below V6.drew.heap.size V6.drew w9 := HBB8.out.trans (hb9.mono HBB8.out.size)
      have HBB9 := hid hb9
      have hS9 := HSS.out w9 hb9
      refine hK.out _ _ hS9 (fun hHeld => ?_)
      clear hS9 hb9
      clear hK KK
      try simp only [Act.put]
      try simp only [List.setIfInBounds_toArray]
      try simp only [List.set_cons_succ]
      try simp only [List.set_cons_zero]
      (refine takeW (i := 59) (dst := some 128) (v := ?_) rfl rfl (by kernel_rfl) (by kernel_rfl) (by kernel_rfl) (fun _ _ _ h => h) (Or.inl ⟨by rfl, ?_⟩) hHeld ?_; rotate_left; focus (intro w hSw; (try dsimp only at hSw); go_simp; (try with_reducible rfl); done))
      try simp only [Act.put, List.setIfInBounds_toArray, List.set_cons_zero, List.set_cons_succ]
      (refine takeW (i := 60) (dst := some 4) (v := ?_) rfl rfl (by kernel_rfl) (by kernel_rfl) (by kernel_rfl) (fun _ _ _ h => h) (Or.inl ⟨by rfl, ?_⟩) hHeld ?_; rotate_left; focus (intro w hSw; (try dsimp only at hSw); go_simp; (try with_reducible rfl); done))
      try simp only [Act.put]
      try simp only [List.setIfInBounds_toArray]
      try simp only [List.set_cons_succ]
      try simp only [List.set_cons_zero]
      refine wpAnyH_done (by kernel_rfl) ?_ _
      have HEND := hid (HALL.out _ HBB9.out).2.2.2.2
      clear hHeld HALL HSS HBB7 HBB8 HBB9 CNB CR5 CR6
      go_wp2
      go_ret
      exact ⟨rfl, HEND.out⟩
end Go.Proofs.Ytagigeieoijciaa
