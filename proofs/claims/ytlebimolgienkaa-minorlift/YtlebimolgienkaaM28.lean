/-
  The law MinorLift.
-/
import Derived.Test.YtlebimolgienkaaM23
import Derived.Test.YtlebimolgienkaaM26
import Derived.Test.YtlebimolgienkaaM13
import Derived.Deep.DeepCutAuto
namespace Go.Proofs.Ytlebimolgienkaa
open Go.RowKit Go.Lib
theorem con_ok8 {m lo hi : Nat} {es E : List (Int × Int)} {er N : Int} (hR : RightG m es) (hlt : lo < hi) (hh : hi < m) (hadj : Adj es lo hi) (h : ConS m es lo hi er N E) : er = 0 ∧ N = (m : Int) - 1 ∧ ConE m es lo hi E ∧ RightG ((m : Int) - 1) E := by
  rcases h with ⟨h1, _⟩ | ⟨_, h2, _⟩ | ⟨_, _, h3, _⟩ | ⟨_, _, _, h4, h5, h6⟩
  · exact absurd hR h1
  · exact absurd ⟨⟨by omega, by omega⟩, ⟨by omega, by omega⟩⟩ h2
  · exact absurd hadj h3
  · have h7 : ConE m es lo hi E := by
      rw [show (min (lo : Int) (hi : Int)).toNat = lo by omega, show (max (lo : Int) (hi : Int)).toNat = hi by omega] at h6
      simpa using h6
    refine ⟨h4, h5, h7, ?_⟩
    have := con_right hR hlt hh hadj h7
    rw [show ((m : Int) - 1) = ((m - 1 : Nat) : Int) by omega]
    exact this
theorem liftL_len (x y : Int) (Ss : List (List Int)) : (liftL x y Ss).length = Ss.length := by unfold liftL; split <;> simp
theorem liftL_each {x y : Int} {Ss : List (List Int)} {k : Nat} (h : ∀ S ∈ Ss, S.length ≤ k) : ∀ S ∈ liftL x y Ss, S.length ≤ k + 1 := fun S hS => by
  unfold liftL at hS
  split at hS
  · have := h S hS; omega
  · obtain ⟨T, hT, rfl⟩ := List.mem_map.1 hS
    have := h T hT
    unfold liftS
    rw [List.length_append, List.length_map]
    split <;> simp <;> omega

set_option maxHeartbeats 8000000 in
set_option maxRecDepth 100000 in
theorem minorLift_law (n : Int) (a : Option Addr) (len cap : Nat) (l : List (Int × Int)) (x : Int) (kk : Int) (am : Option Addr) (lm cm : Nat) (LM : List (List Int)) (w : World) (hl : len = l.length) (hE : EAt w a l) (hM : CameR w am lm cm LM) :
    Calls Try.prog 8 #[.agg #[.int .i64 n, .slice a len cap], .int .i64 x, .agg #[.int .i64 kk, .slice am lm cm]] w fun e w' => e = .returned (.bool true) ∧ Below w.heap.size w w' := by
  obtain ⟨b, hbb⟩ := ex_eq w.heap.size
  obtain ⟨W0, hW0, hs0, hO0, hO1, hB0⟩ := new_two w (.cells #[.int .i64 n, .slice a len cap] 24) (.cells #[.int .i64 kk, .slice am lm cm] 39)
  rw [← hbb] at hs0 hO0 hO1 hB0
  have HBB0 := hid hbb
  have HK0 : Hid (∀ X, Below W0.heap.size W0 X → (X.cell? ⟨b, 0, none⟩ = some (.int .i64 n) ∧ X.cell? ⟨b, 1, none⟩ = some (.slice a len cap)) ∧ (X.cell? ⟨b + 1, 0, none⟩ = some (.int .i64 kk) ∧ X.cell? ⟨b + 1, 1, none⟩ = some (.slice am lm cm)) ∧ CameR X am lm cm LM ∧ EAt X a l ∧ Below b w X) := fun X hX => by
    have o0 := (hX.block b (by omega)).trans hO0
    have o1 := (hX.block (b + 1) (by omega)).trans hO1
    have hbx : Below b w X := hB0.trans (hX.mono (by omega))
    have hbx' : Below w.heap.size w X := by rw [← hbb]; exact hbx
    exact ⟨⟨cell_of_heap o0 0, cell_of_heap o0 1⟩, ⟨cell_of_heap o1 0, cell_of_heap o1 1⟩, hM.belowM hbx', hE.below hbx', hbx⟩
  have HL := hid hl
  have HW0 := hid hW0
  have hz0 : w.heap.size ≤ W0.heap.size := by omega
  clear hl hE hM hW0 hB0 hO0 hO1 hbb hz0
  go_enter Try.func8, Try.ntmps8
  go_wp2_with fail
  rw [← HW0.out]
  refine (mshown_any _).mono ?_
  rintro e w1 ⟨rfl, hb1⟩
  rw [← HBB0.out]
  obtain ⟨⟨x0, x1⟩, _, _, hE1, _⟩ := HK0.out w1 hb1
  have CA := hid (net_any n a len cap l 20 w1 (by omega) HL.out hE1)
  have HB1 := hid hb1
  clear hb1 HW0 hE1
  go_wp2_with fail
  refine CA.out.mono ?_
  rintro e w2 ⟨m, ys, a2, c2, rfl, hm20, hR, hys, hsl, hE2, hb2⟩
  obtain ⟨K, hK⟩ := ex_eq ys.length
  rw [← hK]
  have HK := hid hK
  obtain ⟨B, hBB⟩ := ex_eq w2.heap.size
  obtain ⟨V2, hV2⟩ := ex_eq (w2.alloc (.cells #[.int .i64 m, .slice a2 K c2] 26))
  have HG2 : Hid (GC V2 B m a2 K c2 ys) := by
    show GC V2 _ _ _ _ _ _
    rw [hV2, hBB]; exact gc_new8 hE2
  have HX2 : Hid (Below W0.heap.size W0 V2) := by
    have h1 : Below w2.heap.size w2 V2 := by rw [hV2]; exact below_one _ _
    have h2 : Below W0.heap.size W0 w2 := HB1.out.trans (hb2.mono HB1.out.size)
    exact h2.trans (h1.mono h2.size)
  have HV2 := hid hV2
  have HBB := hid hBB
  have HR := hid hR
  have HSL := hid hsl
  have hK3 : K ≤ 300 := by omega
  clear hK hV2 hE2 hb2 hR hys hsl CA x0 x1 HB1 hBB
  go_upto_region 3 with fail
  rw [← HV2.out, ← HBB.out]
  clear HV2 HBB
  obtain ⟨g0, g1⟩ := HG2.out.cells
  have hsB : B < V2.heap.size := block_lt_of_cell g0
  have HF8 : Hid (∀ X, Below V2.heap.size V2 X → Below w.heap.size w X) := fun X hX => by
    rw [← HBB0.out]; exact (HK0.out X (HX2.out.trans (hX.mono (HX2.out.size)))).2.2.2.2
  by_cases hK0 : K = 0
  · subst hK0
    go_wp2
    go_ret
    exact ⟨rfl, HF8.out V2 (Below.refl _ _)⟩
  have hK5 : ((K : Int) == 0) = false := beq_eq_false_iff_ne.2 (by omega)
  have hK6 : ¬ (K : Int) = 0 := by omega
  obtain ⟨p, hp, hpK⟩ := rnd_of x (m := K) (by omega)
  have hkr : p < ys.length := by rw [← HK.out]; exact hpK
  obtain ⟨ge, oe, hga, hge, hcs⟩ := HG2.out.at_.at hkr
  have hin := HR.out.2.2.2.1 _ (List.getElem_mem hkr)
  obtain ⟨lo, hlo⟩ : ∃ lo : Nat, ys[p].1 = (lo : Int) := ⟨ys[p].1.toNat, by omega⟩
  obtain ⟨hi, hhi⟩ : ∃ hi : Nat, ys[p].2 = (hi : Int) := ⟨ys[p].2.toNat, by omega⟩
  have d := hcs V2 (Below.refl _ _) p hkr
  rw [hlo, hhi] at d
  rw [hlo, hhi] at hin
  obtain ⟨d0, d1⟩ := d
  have hmem : ((lo : Int), (hi : Int)) ∈ ys := by rw [← hlo, ← hhi]; exact List.getElem_mem hkr
  have hlt : lo < hi := by omega
  have hhm : hi < m := by omega
  have HADJ : Hid (Adj ys lo hi) := Or.inl hmem
  have q1 : (p : Int) < (K : Int) := by omega
  obtain ⟨Y, hY⟩ := ex_eq V2.heap.size
  obtain ⟨V4, hV4⟩ := ex_eq (V2.alloc (.cells #[.int .i64 lo, .int .i64 hi] 56)).drew
  have hb24 : Below V2.heap.size V2 V4 := by rw [hV4]; exact (below_one _ _).drew
  have hy0 : V4.cell? ⟨Y, 0, none⟩ = some (.int .i64 lo) := by rw [hV4, hY]; exact cell_of_heap (heap_alloc_new V2 _) 0
  have hy1 : V4.cell? ⟨Y, 1, none⟩ = some (.int .i64 hi) := by rw [hV4, hY]; exact cell_of_heap (heap_alloc_new V2 _) 1
  have HKEEP : Hid (∀ X, Below V4.heap.size V4 X → X.cell? ⟨Y, 0, none⟩ = some (.int .i64 lo) ∧ X.cell? ⟨Y, 1, none⟩ = some (.int .i64 hi)) := fun X hX =>
    ⟨(hX.cell (p := ⟨Y, 0, none⟩) (block_lt_of_cell hy0)).trans hy0, (hX.cell (p := ⟨Y, 1, none⟩) (block_lt_of_cell hy1)).trans hy1⟩
  have HX4 : Hid (Below W0.heap.size W0 V4) := HX2.out.trans (hb24.mono HX2.out.size)
  have HY4 := hid hb24
  have HV4 := hid hV4
  have HYY := hid hY
  have HGA := hid hga
  obtain ⟨ea, hea⟩ := ex_eq a2
  rw [hga] at g1
  clear hV4 hY hy0 hy1 hb24 hcs hlo hhi hmem hin hkr hea
  go_upto_region 5 with fail
  rw [HGA.out]
  go_cut [9] from 21 to 30 (fun v wx => v = .pointer (some ⟨V2.heap.size, 0, none⟩) ∧ wx = V4)
  case first =>
    go_wp2_with fail
    go_region
    all_goals
      go_wp2_with fail
      go_meet
      case rel => exact ⟨rfl, HV4.out.symm⟩
  case rest =>
    obtain ⟨rfl, hwc⟩ := hcut
    rw [hwc, ← HYY.out, ← HGA.out]
    clear hwc d0 d1 g0 g1 hp hga hsB hge
    have CS := hid (small_any kk am lm cm LM V4 (HK0.out V4 HX4.out).2.2.1)
    obtain ⟨_, ⟨m0, m1⟩, _, _, _⟩ := HK0.out V4 HX4.out
    go_wp2_with fail
    refine CS.out.mono ?_
    rintro e w5 ⟨v5, rfl, ht5⟩
    obtain ⟨a5, c5, rfl, hL5, hb5⟩ := ht5.at
    have hl6 := smallR_len LM
    have HEA := hid (@smallR_each LM)
    obtain ⟨Ss, hSs⟩ := ex_eq (smallR LM)
    rw [← hSs] at hL5 hl6 HEA ⊢
    obtain ⟨M5, hM5⟩ := ex_eq Ss.length
    rw [← hM5] at hl6 ⊢
    have HM5 := hid hM5
    obtain ⟨B5, hB5⟩ := ex_eq w5.heap.size
    obtain ⟨V5, hV5⟩ := ex_eq (w5.alloc (.cells #[.int .i64 kk, .slice a5 M5 c5] 40))
    have HMC5 : Hid (MC V5 B5 kk a5 M5 c5 Ss) := by
      show MC V5 _ _ _ _ _ _
      rw [hV5, hB5]; exact mc_new hL5
    have hbV : Below V4.heap.size V4 V5 := by
      have h1 : Below w5.heap.size w5 V5 := by rw [hV5]; exact below_one _ _
      exact hb5.trans (h1.mono hb5.size)
    have HXV := hid hbV
    have HX5 : Hid (Below W0.heap.size W0 V5) := HX4.out.trans (hbV.mono HX4.out.size)
    have HV5 := hid hV5
    have HB5 := hid hB5
    clear ht5 hL5 hb5 hSs hM5 hB5 hV5 hbV CS m0 m1
    go_upto_region 7 with fail
    rw [← HV5.out, ← HB5.out]
    clear HV5 HB5
    have HG5 := hid (HG2.out.on (HY4.out.trans (HXV.out.mono HY4.out.size)))
    obtain ⟨k0, k1⟩ := HG5.out.cells
    obtain ⟨y0, y1⟩ := HKEEP.out V5 HXV.out
    have C7 := hid (sub_con_any m a2 c2 ys lo hi true V5 (by rw [← HK.out]; omega) HG5.out.at_ ⟨fun _ => HR.out, fun _ => rfl⟩)
    rw [← HK.out] at C7
    go_wp2_with fail
    refine C7.out.mono ?_
    rintro e w6 ⟨u, rfl, hsub⟩
    obtain ⟨er, N6, E6, a6, c6, rfl, hds, hsl6, hE6, hb6⟩ := hsub
    obtain ⟨rfl, hN6, hind, hR6⟩ := con_ok8 HR.out hlt hhm HADJ.out hds
    obtain ⟨n6, hn6⟩ := ex_eq N6
    subst hn6
    rw [← hN6] at hR6
    obtain ⟨Z, hZ⟩ := ex_eq E6.length
    rw [← hZ]
    have HZ := hid hZ
    have HR6 := hid hR6
    have HIND := hid hind
    have HN6 := hid hN6
    obtain ⟨V7, hV7⟩ := ex_eq (w6.alloc (.cells #[.int .i64 n6, .slice a6 Z c6] 26))
    obtain ⟨B7, hB7⟩ := ex_eq w6.heap.size
    have HH7 : Hid (GC V7 B7 n6 a6 Z c6 E6) := by
      show GC _ _ _ _ _ _ _
      rw [hV7, hB7]; exact gc_new8 hE6
    have hb57 : Below V5.heap.size V5 V7 := by rw [hV7]; exact hb6.alloc hb6.size _
    have HG7 := hid (HG5.out.on hb57)
    have HMC7 := hid (HMC5.out.on hb57)
    have HY47 : Hid (Below V4.heap.size V4 V7) := HXV.out.trans (hb57.mono HXV.out.size)
    have HY7 : Hid (Below V2.heap.size V2 V7) := HY4.out.trans (HY47.out.mono HY4.out.size)
    have HV7 := hid hV7
    have HB7 := hid hB7
    clear hZ hds hsl6 hE6 hb6 hR6 hind hN6 hV7 hB7 C7 k0 k1 hb57 y0 y1
    go_upto_region 8 with fail
    rw [← HV7.out, ← HB7.out]
    clear HV7 HB7
    obtain ⟨VD, hVD⟩ := ex_eq V7.drew
    have hbd : Below V7.heap.size V7 VD := by rw [hVD]; exact (Below.refl _ _).drew
    have HSS : Hid (∀ X, Below VD.heap.size VD X → X.cell? ⟨B, 0, none⟩ = some (.int .i64 m) ∧ X.cell? ⟨B, 1, none⟩ = some (.slice a2 K c2) ∧ X.cell? ⟨B5, 0, none⟩ = some (.int .i64 kk) ∧ X.cell? ⟨B5, 1, none⟩ = some (.slice a5 M5 c5) ∧ X.cell? ⟨B7, 0, none⟩ = some (.int .i64 n6) ∧ X.cell? ⟨B7, 1, none⟩ = some (.slice a6 Z c6) ∧ X.cell? ⟨Y, 0, none⟩ = some (.int .i64 lo) ∧ X.cell? ⟨Y, 1, none⟩ = some (.int .i64 hi)) := fun X hX => by
      have hb := hbd.trans (hX.mono hbd.size)
      have z1 := HG7.out.on hb
      have z2 := HMC7.out.on hb
      have z3 := HH7.out.on hb
      exact ⟨z1.n0, z1.e0, z2.c0, z2.c1, z3.n0, z3.e0, (HKEEP.out X (HY47.out.trans (hb.mono HY47.out.size))).1, (HKEEP.out X (HY47.out.trans (hb.mono HY47.out.size))).2⟩
    have HF9 : Hid (∀ X, Below VD.heap.size VD X → Below w.heap.size w X) := fun X hX => HF8.out X (HY7.out.trans ((hbd.trans (hX.mono hbd.size)).mono HY7.out.size))
    obtain ⟨r4, hr4⟩ := boolR_of (ModelL n6 E6 kk Ss)
    have CT := hid (check_any n6 a6 c6 E6 true kk a5 c5 Ss r4 VD (by have := HR6.out.2.2.1; omega) (HH7.out.on hbd).at_ ⟨fun _ => HR6.out, fun _ => rfl⟩ (by rw [← HM5.out]; omega) (fun S hS => Nat.le_trans (HEA.out S hS) (by decide)) (HMC7.out.on hbd).at_ hr4)
    rw [← HZ.out, ← HM5.out] at CT
    have HR4 := hid hr4
    have hS : (fun X : World => X.cell? ⟨B, 0, none⟩ = some (.int .i64 m) ∧ X.cell? ⟨B, 1, none⟩ = some (.slice a2 K c2) ∧ X.cell? ⟨B5, 0, none⟩ = some (.int .i64 kk) ∧ X.cell? ⟨B5, 1, none⟩ = some (.slice a5 M5 c5) ∧ X.cell? ⟨B7, 0, none⟩ = some (.int .i64 n6) ∧ X.cell? ⟨B7, 1, none⟩ = some (.slice a6 Z c6) ∧ X.cell? ⟨Y, 0, none⟩ = some (.int .i64 lo) ∧ X.cell? ⟨Y, 1, none⟩ = some (.int .i64 hi)) VD := HSS.out VD (Below.refl _ _)
    have HVD := hid hVD
    have HBD := hid hbd
    clear hr4 hVD hbd
    go_upto_region 8 with fail
    cases r4 with
    | false =>
      refine wp_region_held_drew (S := (fun X : World => X.cell? ⟨B, 0, none⟩ = some (.int .i64 m) ∧ X.cell? ⟨B, 1, none⟩ = some (.slice a2 K c2) ∧ X.cell? ⟨B5, 0, none⟩ = some (.int .i64 kk) ∧ X.cell? ⟨B5, 1, none⟩ = some (.slice a5 M5 c5) ∧ X.cell? ⟨B7, 0, none⟩ = some (.int .i64 n6) ∧ X.cell? ⟨B7, 1, none⟩ = some (.slice a6 Z c6) ∧ X.cell? ⟨Y, 0, none⟩ = some (.int .i64 lo) ∧ X.cell? ⟨Y, 1, none⟩ = some (.int .i64 hi))) (by kernel_rfl) (by rw [← HVD.out]; exact hS) (fun hHeld => ?_)
      rw [← HVD.out] at hHeld ⊢
      (refine takeW (i := 0) (dst := some 42) (v := ?_) rfl rfl (by kernel_rfl) (by kernel_rfl) (by kernel_rfl) (fun _ _ _ h => h) (Or.inl ⟨by rfl, ?_⟩) hHeld ?_; rotate_left; focus (intro w hSw; (try dsimp only at hSw); go_simp; (try with_reducible rfl); done))
      try simp only [Act.put, List.setIfInBounds_toArray, List.set_cons_zero, List.set_cons_succ]
      (refine takeW (i := 1) (dst := some 43) (v := ?_) rfl rfl (by kernel_rfl) (by kernel_rfl) (by kernel_rfl) (fun _ _ _ h => h) (Or.inl ⟨by rfl, ?_⟩) hHeld ?_; rotate_left; focus (intro w hSw; (try dsimp only at hSw); go_simp; (try with_reducible rfl); done))
      try simp only [Act.put, List.setIfInBounds_toArray, List.set_cons_zero, List.set_cons_succ]
      first | refine takeW (i := 2) (dst := some 44) (v := undef) rfl rfl (by kernel_rfl) (by kernel_rfl) (by kernel_rfl) (fun _ _ _ h => h) (Or.inr ⟨by rfl, rfl⟩) hHeld ?_ | (refine takeW (i := 2) (dst := some 44) (v := ?_) rfl rfl (by kernel_rfl) (by kernel_rfl) (by kernel_rfl) (fun _ _ _ h => h) (Or.inl ⟨by rfl, ?_⟩) hHeld ?_; rotate_left; focus (intro w hSw; (try dsimp only at hSw); go_simp; (try with_reducible rfl); done))
      try simp only [Act.put, List.setIfInBounds_toArray, List.set_cons_zero, List.set_cons_succ]
      first | refine takeW (i := 3) (dst := some 45) (v := undef) rfl rfl (by kernel_rfl) (by kernel_rfl) (by kernel_rfl) (fun _ _ _ h => h) (Or.inr ⟨by rfl, rfl⟩) hHeld ?_ | (refine takeW (i := 3) (dst := some 45) (v := ?_) rfl rfl (by kernel_rfl) (by kernel_rfl) (by kernel_rfl) (fun _ _ _ h => h) (Or.inl ⟨by rfl, ?_⟩) hHeld ?_; rotate_left; focus (intro w hSw; (try dsimp only at hSw); go_simp; (try with_reducible rfl); done))
      try simp only [Act.put, List.setIfInBounds_toArray, List.set_cons_zero, List.set_cons_succ]
      (refine takeW (i := 4) (dst := some 46) (v := ?_) rfl rfl (by kernel_rfl) (by kernel_rfl) (by kernel_rfl) (fun _ _ _ h => h) (Or.inl ⟨by rfl, ?_⟩) hHeld ?_; rotate_left; focus (intro w hSw; (try dsimp only at hSw); go_simp; (try with_reducible rfl); done))
      try simp only [Act.put, List.setIfInBounds_toArray, List.set_cons_zero, List.set_cons_succ]
      (refine takeW (i := 5) (dst := some 47) (v := ?_) rfl rfl (by kernel_rfl) (by kernel_rfl) (by kernel_rfl) (fun _ _ _ h => h) (Or.inl ⟨by rfl, ?_⟩) hHeld ?_; rotate_left; focus (intro w hSw; (try dsimp only at hSw); go_simp; (try with_reducible rfl); done))
      try simp only [Act.put, List.setIfInBounds_toArray, List.set_cons_zero, List.set_cons_succ]
      first | refine takeW (i := 6) (dst := some 48) (v := undef) rfl rfl (by kernel_rfl) (by kernel_rfl) (by kernel_rfl) (fun _ _ _ h => h) (Or.inr ⟨by rfl, rfl⟩) hHeld ?_ | (refine takeW (i := 6) (dst := some 48) (v := ?_) rfl rfl (by kernel_rfl) (by kernel_rfl) (by kernel_rfl) (fun _ _ _ h => h) (Or.inl ⟨by rfl, ?_⟩) hHeld ?_; rotate_left; focus (intro w hSw; (try dsimp only at hSw); go_simp; (try with_reducible rfl); done))
      try simp only [Act.put, List.setIfInBounds_toArray, List.set_cons_zero, List.set_cons_succ]
      first | refine takeW (i := 7) (dst := some 49) (v := undef) rfl rfl (by kernel_rfl) (by kernel_rfl) (by kernel_rfl) (fun _ _ _ h => h) (Or.inr ⟨by rfl, rfl⟩) hHeld ?_ | (refine takeW (i := 7) (dst := some 49) (v := ?_) rfl rfl (by kernel_rfl) (by kernel_rfl) (by kernel_rfl) (fun _ _ _ h => h) (Or.inl ⟨by rfl, ?_⟩) hHeld ?_; rotate_left; focus (intro w hSw; (try dsimp only at hSw); go_simp; (try with_reducible rfl); done))
      try simp only [Act.put, List.setIfInBounds_toArray, List.set_cons_zero, List.set_cons_succ]
      refine wpAnyH_ready (rs := [8]) (by kernel_rfl) (by simp) ?_
      refine AllReadyH.cons (o := _) rfl (fun KK hK => ?_) AllReadyH.nil
      go_simp
      refine CT.out.mono ?_
      rintro e y1 ⟨rfl, hb⟩
      have hS1 := HSS.out y1 hb
      have HY1 := hid hb
      clear hb
      refine hK.out _ _ hS1 (fun hHeld => ?_)
      clear hK KK
      try simp only [Act.put]
      try simp only [List.setIfInBounds_toArray]
      try simp only [List.set_cons_succ]
      try simp only [List.set_cons_zero]
      first | refine takeW (i := 9) (dst := some 51) (v := undef) rfl rfl (by kernel_rfl) (by kernel_rfl) (by kernel_rfl) (fun _ _ _ h => h) (Or.inr ⟨by rfl, rfl⟩) hHeld ?_ | (refine takeW (i := 9) (dst := some 51) (v := ?_) rfl rfl (by kernel_rfl) (by kernel_rfl) (by kernel_rfl) (fun _ _ _ h => h) (Or.inl ⟨by rfl, ?_⟩) hHeld ?_; rotate_left; focus (intro w hSw; (try dsimp only at hSw); go_simp; (try with_reducible rfl); done))
      try simp only [Act.put, List.setIfInBounds_toArray, List.set_cons_zero, List.set_cons_succ]
      first | refine takeW (i := 10) (dst := some 52) (v := undef) rfl rfl (by kernel_rfl) (by kernel_rfl) (by kernel_rfl) (fun _ _ _ h => h) (Or.inr ⟨by rfl, rfl⟩) hHeld ?_ | (refine takeW (i := 10) (dst := some 52) (v := ?_) rfl rfl (by kernel_rfl) (by kernel_rfl) (by kernel_rfl) (fun _ _ _ h => h) (Or.inl ⟨by rfl, ?_⟩) hHeld ?_; rotate_left; focus (intro w hSw; (try dsimp only at hSw); go_simp; (try with_reducible rfl); done))
      try simp only [Act.put, List.setIfInBounds_toArray, List.set_cons_zero, List.set_cons_succ]
      first | refine takeW (i := 11) (dst := some 53) (v := undef) rfl rfl (by kernel_rfl) (by kernel_rfl) (by kernel_rfl) (fun _ _ _ h => h) (Or.inr ⟨by rfl, rfl⟩) hHeld ?_ | (refine takeW (i := 11) (dst := some 53) (v := ?_) rfl rfl (by kernel_rfl) (by kernel_rfl) (by kernel_rfl) (fun _ _ _ h => h) (Or.inl ⟨by rfl, ?_⟩) hHeld ?_; rotate_left; focus (intro w hSw; (try dsimp only at hSw); go_simp; (try with_reducible rfl); done))
      try simp only [Act.put, List.setIfInBounds_toArray, List.set_cons_zero, List.set_cons_succ]
      first | refine takeW (i := 12) (dst := some 54) (v := undef) rfl rfl (by kernel_rfl) (by kernel_rfl) (by kernel_rfl) (fun _ _ _ h => h) (Or.inr ⟨by rfl, rfl⟩) hHeld ?_ | (refine takeW (i := 12) (dst := some 54) (v := ?_) rfl rfl (by kernel_rfl) (by kernel_rfl) (by kernel_rfl) (fun _ _ _ h => h) (Or.inl ⟨by rfl, ?_⟩) hHeld ?_; rotate_left; focus (intro w hSw; (try dsimp only at hSw); go_simp; (try with_reducible rfl); done))
      try simp only [Act.put, List.setIfInBounds_toArray, List.set_cons_zero, List.set_cons_succ]
      first | refine takeW (i := 13) (dst := some 55) (v := undef) rfl rfl (by kernel_rfl) (by kernel_rfl) (by kernel_rfl) (fun _ _ _ h => h) (Or.inr ⟨by rfl, rfl⟩) hHeld ?_ | (refine takeW (i := 13) (dst := some 55) (v := ?_) rfl rfl (by kernel_rfl) (by kernel_rfl) (by kernel_rfl) (fun _ _ _ h => h) (Or.inl ⟨by rfl, ?_⟩) hHeld ?_; rotate_left; focus (intro w hSw; (try dsimp only at hSw); go_simp; (try with_reducible rfl); done))
      try simp only [Act.put, List.setIfInBounds_toArray, List.set_cons_zero, List.set_cons_succ]
      first | refine takeW (i := 14) (dst := some 56) (v := undef) rfl rfl (by kernel_rfl) (by kernel_rfl) (by kernel_rfl) (fun _ _ _ h => h) (Or.inr ⟨by rfl, rfl⟩) hHeld ?_ | (refine takeW (i := 14) (dst := some 56) (v := ?_) rfl rfl (by kernel_rfl) (by kernel_rfl) (by kernel_rfl) (fun _ _ _ h => h) (Or.inl ⟨by rfl, ?_⟩) hHeld ?_; rotate_left; focus (intro w hSw; (try dsimp only at hSw); go_simp; (try with_reducible rfl); done))
      try simp only [Act.put, List.setIfInBounds_toArray, List.set_cons_zero, List.set_cons_succ]
      first | refine takeW (i := 15) (dst := some 57) (v := undef) rfl rfl (by kernel_rfl) (by kernel_rfl) (by kernel_rfl) (fun _ _ _ h => h) (Or.inr ⟨by rfl, rfl⟩) hHeld ?_ | (refine takeW (i := 15) (dst := some 57) (v := ?_) rfl rfl (by kernel_rfl) (by kernel_rfl) (by kernel_rfl) (fun _ _ _ h => h) (Or.inl ⟨by rfl, ?_⟩) hHeld ?_; rotate_left; focus (intro w hSw; (try dsimp only at hSw); go_simp; (try with_reducible rfl); done))
      try simp only [Act.put, List.setIfInBounds_toArray, List.set_cons_zero, List.set_cons_succ]
      first | refine takeW (i := 16) (dst := some 58) (v := undef) rfl rfl (by kernel_rfl) (by kernel_rfl) (by kernel_rfl) (fun _ _ _ h => h) (Or.inr ⟨by rfl, rfl⟩) hHeld ?_ | (refine takeW (i := 16) (dst := some 58) (v := ?_) rfl rfl (by kernel_rfl) (by kernel_rfl) (by kernel_rfl) (fun _ _ _ h => h) (Or.inl ⟨by rfl, ?_⟩) hHeld ?_; rotate_left; focus (intro w hSw; (try dsimp only at hSw); go_simp; (try with_reducible rfl); done))
      try simp only [Act.put, List.setIfInBounds_toArray, List.set_cons_zero, List.set_cons_succ]
      first | refine takeW (i := 17) (dst := some 59) (v := undef) rfl rfl (by kernel_rfl) (by kernel_rfl) (by kernel_rfl) (fun _ _ _ h => h) (Or.inr ⟨by rfl, rfl⟩) hHeld ?_ | (refine takeW (i := 17) (dst := some 59) (v := ?_) rfl rfl (by kernel_rfl) (by kernel_rfl) (by kernel_rfl) (fun _ _ _ h => h) (Or.inl ⟨by rfl, ?_⟩) hHeld ?_; rotate_left; focus (intro w hSw; (try dsimp only at hSw); go_simp; (try with_reducible rfl); done))
      try simp only [Act.put, List.setIfInBounds_toArray, List.set_cons_zero, List.set_cons_succ]
      first | refine takeW (i := 18) (dst := some 60) (v := undef) rfl rfl (by kernel_rfl) (by kernel_rfl) (by kernel_rfl) (fun _ _ _ h => h) (Or.inr ⟨by rfl, rfl⟩) hHeld ?_ | (refine takeW (i := 18) (dst := some 60) (v := ?_) rfl rfl (by kernel_rfl) (by kernel_rfl) (by kernel_rfl) (fun _ _ _ h => h) (Or.inl ⟨by rfl, ?_⟩) hHeld ?_; rotate_left; focus (intro w hSw; (try dsimp only at hSw); go_simp; (try with_reducible rfl); done))
      try simp only [Act.put, List.setIfInBounds_toArray, List.set_cons_zero, List.set_cons_succ]
      first | refine takeW (i := 19) (dst := some 61) (v := undef) rfl rfl (by kernel_rfl) (by kernel_rfl) (by kernel_rfl) (fun _ _ _ h => h) (Or.inr ⟨by rfl, rfl⟩) hHeld ?_ | (refine takeW (i := 19) (dst := some 61) (v := ?_) rfl rfl (by kernel_rfl) (by kernel_rfl) (by kernel_rfl) (fun _ _ _ h => h) (Or.inl ⟨by rfl, ?_⟩) hHeld ?_; rotate_left; focus (intro w hSw; (try dsimp only at hSw); go_simp; (try with_reducible rfl); done))
      try simp only [Act.put, List.setIfInBounds_toArray, List.set_cons_zero, List.set_cons_succ]
      (refine takeW (i := 20) (dst := some 62) (v := ?_) rfl rfl (by kernel_rfl) (by kernel_rfl) (by kernel_rfl) (fun _ _ _ h => h) (Or.inl ⟨by rfl, ?_⟩) hHeld ?_; rotate_left; focus (intro w hSw; (try dsimp only at hSw); go_simp; (try with_reducible rfl); done))
      try simp only [Act.put, List.setIfInBounds_toArray, List.set_cons_zero, List.set_cons_succ]
      (refine takeW (i := 21) (dst := some 6) (v := ?_) rfl rfl (by kernel_rfl) (by kernel_rfl) (by kernel_rfl) (fun _ _ _ h => h) (Or.inl ⟨by rfl, ?_⟩) hHeld ?_; rotate_left; focus (intro w hSw; (try dsimp only at hSw); go_simp; (try with_reducible rfl); done))
      try simp only [Act.put]
      try simp only [List.setIfInBounds_toArray]
      try simp only [List.set_cons_succ]
      try simp only [List.set_cons_zero]
      refine wpAnyH_done (by kernel_rfl) ?_ _
      have HFF := hid (HF9.out y1 HY1.out)
      clear hHeld hS HSS CT HY1
      go_wp2
      go_ret
      exact ⟨rfl, HFF.out⟩
    | true =>
      have HMO := hid (HR4.out.1 rfl)
      have CD : Hid (∀ X, Below VD.heap.size VD X → Calls Try.prog 23 #[.agg #[.int .i64 kk, .slice a5 M5 c5], .int .i64 hi, .int .i64 lo] X fun e w' => ∃ u, e = .returned u ∧ ModTold kk (liftL hi lo Ss) X w' u) := fun X hX => by
        rw [HM5.out]
        exact lift_any kk a5 c5 Ss hi lo X (by rw [← HM5.out]; omega) (fun S hS => Nat.le_trans (HEA.out S hS) (by decide)) (HMC7.out.on (HBD.out.trans (hX.mono HBD.out.size))).at_ HMO.out.inR
      have CV : Hid (∀ X a8 c8, Below VD.heap.size VD X → LLAt X a8 (liftL hi lo Ss) → Calls Try.prog 20 #[.agg #[.int .i64 m, .slice a2 K c2], .agg #[.int .i64 kk, .slice a8 (liftL hi lo Ss).length c8]] X fun e w' => e = .returned (.bool true) ∧ Below X.heap.size X w') := fun X a8 c8 hX hL8 => by
        rw [HK.out]
        exact check_any m a2 c2 ys true kk a8 c8 (liftL hi lo Ss) true X (by rw [← HK.out]; omega) (HG7.out.on (HBD.out.trans (hX.mono HBD.out.size))).at_ ⟨fun _ => HR.out, fun _ => rfl⟩ (by rw [liftL_len, ← HM5.out]; omega) (fun S hS => Nat.le_trans (liftL_each HEA.out S hS) (by decide)) hL8 ⟨fun _ => (by rw [liftL_swap]; exact model_lift HR.out hlt hhm HADJ.out HIND.out (by rw [← HN6.out]; exact HMO.out)), fun _ => rfl⟩
      refine wp_region_held_drew (S := (fun X : World => X.cell? ⟨B, 0, none⟩ = some (.int .i64 m) ∧ X.cell? ⟨B, 1, none⟩ = some (.slice a2 K c2) ∧ X.cell? ⟨B5, 0, none⟩ = some (.int .i64 kk) ∧ X.cell? ⟨B5, 1, none⟩ = some (.slice a5 M5 c5) ∧ X.cell? ⟨B7, 0, none⟩ = some (.int .i64 n6) ∧ X.cell? ⟨B7, 1, none⟩ = some (.slice a6 Z c6) ∧ X.cell? ⟨Y, 0, none⟩ = some (.int .i64 lo) ∧ X.cell? ⟨Y, 1, none⟩ = some (.int .i64 hi))) (by kernel_rfl) (by rw [← HVD.out]; exact hS) (fun hHeld => ?_)
      rw [← HVD.out] at hHeld ⊢
      (refine takeW (i := 0) (dst := some 42) (v := ?_) rfl rfl (by kernel_rfl) (by kernel_rfl) (by kernel_rfl) (fun _ _ _ h => h) (Or.inl ⟨by rfl, ?_⟩) hHeld ?_; rotate_left; focus (intro w hSw; (try dsimp only at hSw); go_simp; (try with_reducible rfl); done))
      try simp only [Act.put, List.setIfInBounds_toArray, List.set_cons_zero, List.set_cons_succ]
      (refine takeW (i := 1) (dst := some 43) (v := ?_) rfl rfl (by kernel_rfl) (by kernel_rfl) (by kernel_rfl) (fun _ _ _ h => h) (Or.inl ⟨by rfl, ?_⟩) hHeld ?_; rotate_left; focus (intro w hSw; (try dsimp only at hSw); go_simp; (try with_reducible rfl); done))
      try simp only [Act.put, List.setIfInBounds_toArray, List.set_cons_zero, List.set_cons_succ]
      first | refine takeW (i := 2) (dst := some 44) (v := undef) rfl rfl (by kernel_rfl) (by kernel_rfl) (by kernel_rfl) (fun _ _ _ h => h) (Or.inr ⟨by rfl, rfl⟩) hHeld ?_ | (refine takeW (i := 2) (dst := some 44) (v := ?_) rfl rfl (by kernel_rfl) (by kernel_rfl) (by kernel_rfl) (fun _ _ _ h => h) (Or.inl ⟨by rfl, ?_⟩) hHeld ?_; rotate_left; focus (intro w hSw; (try dsimp only at hSw); go_simp; (try with_reducible rfl); done))
      try simp only [Act.put, List.setIfInBounds_toArray, List.set_cons_zero, List.set_cons_succ]
      first | refine takeW (i := 3) (dst := some 45) (v := undef) rfl rfl (by kernel_rfl) (by kernel_rfl) (by kernel_rfl) (fun _ _ _ h => h) (Or.inr ⟨by rfl, rfl⟩) hHeld ?_ | (refine takeW (i := 3) (dst := some 45) (v := ?_) rfl rfl (by kernel_rfl) (by kernel_rfl) (by kernel_rfl) (fun _ _ _ h => h) (Or.inl ⟨by rfl, ?_⟩) hHeld ?_; rotate_left; focus (intro w hSw; (try dsimp only at hSw); go_simp; (try with_reducible rfl); done))
      try simp only [Act.put, List.setIfInBounds_toArray, List.set_cons_zero, List.set_cons_succ]
      (refine takeW (i := 4) (dst := some 46) (v := ?_) rfl rfl (by kernel_rfl) (by kernel_rfl) (by kernel_rfl) (fun _ _ _ h => h) (Or.inl ⟨by rfl, ?_⟩) hHeld ?_; rotate_left; focus (intro w hSw; (try dsimp only at hSw); go_simp; (try with_reducible rfl); done))
      try simp only [Act.put, List.setIfInBounds_toArray, List.set_cons_zero, List.set_cons_succ]
      (refine takeW (i := 5) (dst := some 47) (v := ?_) rfl rfl (by kernel_rfl) (by kernel_rfl) (by kernel_rfl) (fun _ _ _ h => h) (Or.inl ⟨by rfl, ?_⟩) hHeld ?_; rotate_left; focus (intro w hSw; (try dsimp only at hSw); go_simp; (try with_reducible rfl); done))
      try simp only [Act.put, List.setIfInBounds_toArray, List.set_cons_zero, List.set_cons_succ]
      first | refine takeW (i := 6) (dst := some 48) (v := undef) rfl rfl (by kernel_rfl) (by kernel_rfl) (by kernel_rfl) (fun _ _ _ h => h) (Or.inr ⟨by rfl, rfl⟩) hHeld ?_ | (refine takeW (i := 6) (dst := some 48) (v := ?_) rfl rfl (by kernel_rfl) (by kernel_rfl) (by kernel_rfl) (fun _ _ _ h => h) (Or.inl ⟨by rfl, ?_⟩) hHeld ?_; rotate_left; focus (intro w hSw; (try dsimp only at hSw); go_simp; (try with_reducible rfl); done))
      try simp only [Act.put, List.setIfInBounds_toArray, List.set_cons_zero, List.set_cons_succ]
      first | refine takeW (i := 7) (dst := some 49) (v := undef) rfl rfl (by kernel_rfl) (by kernel_rfl) (by kernel_rfl) (fun _ _ _ h => h) (Or.inr ⟨by rfl, rfl⟩) hHeld ?_ | (refine takeW (i := 7) (dst := some 49) (v := ?_) rfl rfl (by kernel_rfl) (by kernel_rfl) (by kernel_rfl) (fun _ _ _ h => h) (Or.inl ⟨by rfl, ?_⟩) hHeld ?_; rotate_left; focus (intro w hSw; (try dsimp only at hSw); go_simp; (try with_reducible rfl); done))
      try simp only [Act.put, List.setIfInBounds_toArray, List.set_cons_zero, List.set_cons_succ]
      refine wpAnyH_ready (rs := [8]) (by kernel_rfl) (by simp) ?_
      refine AllReadyH.cons (o := _) rfl (fun KK hK => ?_) AllReadyH.nil
      go_simp
      refine CT.out.mono ?_
      rintro e y1 ⟨rfl, hb⟩
      have hS1 := HSS.out y1 hb
      have HY1 := hid hb
      clear hb
      refine hK.out _ _ hS1 (fun hHeld => ?_)
      clear hK KK
      try simp only [Act.put]
      try simp only [List.setIfInBounds_toArray]
      try simp only [List.set_cons_succ]
      try simp only [List.set_cons_zero]
      first | refine takeW (i := 9) (dst := some 51) (v := undef) rfl rfl (by kernel_rfl) (by kernel_rfl) (by kernel_rfl) (fun _ _ _ h => h) (Or.inr ⟨by rfl, rfl⟩) hHeld ?_ | (refine takeW (i := 9) (dst := some 51) (v := ?_) rfl rfl (by kernel_rfl) (by kernel_rfl) (by kernel_rfl) (fun _ _ _ h => h) (Or.inl ⟨by rfl, ?_⟩) hHeld ?_; rotate_left; focus (intro w hSw; (try dsimp only at hSw); go_simp; (try with_reducible rfl); done))
      try simp only [Act.put, List.setIfInBounds_toArray, List.set_cons_zero, List.set_cons_succ]
      first | refine takeW (i := 10) (dst := some 52) (v := undef) rfl rfl (by kernel_rfl) (by kernel_rfl) (by kernel_rfl) (fun _ _ _ h => h) (Or.inr ⟨by rfl, rfl⟩) hHeld ?_ | (refine takeW (i := 10) (dst := some 52) (v := ?_) rfl rfl (by kernel_rfl) (by kernel_rfl) (by kernel_rfl) (fun _ _ _ h => h) (Or.inl ⟨by rfl, ?_⟩) hHeld ?_; rotate_left; focus (intro w hSw; (try dsimp only at hSw); go_simp; (try with_reducible rfl); done))
      try simp only [Act.put, List.setIfInBounds_toArray, List.set_cons_zero, List.set_cons_succ]
      first | refine takeW (i := 11) (dst := some 53) (v := undef) rfl rfl (by kernel_rfl) (by kernel_rfl) (by kernel_rfl) (fun _ _ _ h => h) (Or.inr ⟨by rfl, rfl⟩) hHeld ?_ | (refine takeW (i := 11) (dst := some 53) (v := ?_) rfl rfl (by kernel_rfl) (by kernel_rfl) (by kernel_rfl) (fun _ _ _ h => h) (Or.inl ⟨by rfl, ?_⟩) hHeld ?_; rotate_left; focus (intro w hSw; (try dsimp only at hSw); go_simp; (try with_reducible rfl); done))
      try simp only [Act.put, List.setIfInBounds_toArray, List.set_cons_zero, List.set_cons_succ]
      first | refine takeW (i := 12) (dst := some 54) (v := undef) rfl rfl (by kernel_rfl) (by kernel_rfl) (by kernel_rfl) (fun _ _ _ h => h) (Or.inr ⟨by rfl, rfl⟩) hHeld ?_ | (refine takeW (i := 12) (dst := some 54) (v := ?_) rfl rfl (by kernel_rfl) (by kernel_rfl) (by kernel_rfl) (fun _ _ _ h => h) (Or.inl ⟨by rfl, ?_⟩) hHeld ?_; rotate_left; focus (intro w hSw; (try dsimp only at hSw); go_simp; (try with_reducible rfl); done))
      try simp only [Act.put, List.setIfInBounds_toArray, List.set_cons_zero, List.set_cons_succ]
      first | refine takeW (i := 13) (dst := some 55) (v := undef) rfl rfl (by kernel_rfl) (by kernel_rfl) (by kernel_rfl) (fun _ _ _ h => h) (Or.inr ⟨by rfl, rfl⟩) hHeld ?_ | (refine takeW (i := 13) (dst := some 55) (v := ?_) rfl rfl (by kernel_rfl) (by kernel_rfl) (by kernel_rfl) (fun _ _ _ h => h) (Or.inl ⟨by rfl, ?_⟩) hHeld ?_; rotate_left; focus (intro w hSw; (try dsimp only at hSw); go_simp; (try with_reducible rfl); done))
      try simp only [Act.put, List.setIfInBounds_toArray, List.set_cons_zero, List.set_cons_succ]
      first | refine takeW (i := 14) (dst := some 56) (v := undef) rfl rfl (by kernel_rfl) (by kernel_rfl) (by kernel_rfl) (fun _ _ _ h => h) (Or.inr ⟨by rfl, rfl⟩) hHeld ?_ | (refine takeW (i := 14) (dst := some 56) (v := ?_) rfl rfl (by kernel_rfl) (by kernel_rfl) (by kernel_rfl) (fun _ _ _ h => h) (Or.inl ⟨by rfl, ?_⟩) hHeld ?_; rotate_left; focus (intro w hSw; (try dsimp only at hSw); go_simp; (try with_reducible rfl); done))
      try simp only [Act.put, List.setIfInBounds_toArray, List.set_cons_zero, List.set_cons_succ]
      first | refine takeW (i := 15) (dst := some 57) (v := undef) rfl rfl (by kernel_rfl) (by kernel_rfl) (by kernel_rfl) (fun _ _ _ h => h) (Or.inr ⟨by rfl, rfl⟩) hHeld ?_ | (refine takeW (i := 15) (dst := some 57) (v := ?_) rfl rfl (by kernel_rfl) (by kernel_rfl) (by kernel_rfl) (fun _ _ _ h => h) (Or.inl ⟨by rfl, ?_⟩) hHeld ?_; rotate_left; focus (intro w hSw; (try dsimp only at hSw); go_simp; (try with_reducible rfl); done))
      try simp only [Act.put, List.setIfInBounds_toArray, List.set_cons_zero, List.set_cons_succ]
      first | refine takeW (i := 16) (dst := some 58) (v := undef) rfl rfl (by kernel_rfl) (by kernel_rfl) (by kernel_rfl) (fun _ _ _ h => h) (Or.inr ⟨by rfl, rfl⟩) hHeld ?_ | (refine takeW (i := 16) (dst := some 58) (v := ?_) rfl rfl (by kernel_rfl) (by kernel_rfl) (by kernel_rfl) (fun _ _ _ h => h) (Or.inl ⟨by rfl, ?_⟩) hHeld ?_; rotate_left; focus (intro w hSw; (try dsimp only at hSw); go_simp; (try with_reducible rfl); done))
      try simp only [Act.put, List.setIfInBounds_toArray, List.set_cons_zero, List.set_cons_succ]
      refine wpAnyH_ready (rs := [17]) (by kernel_rfl) (by simp) ?_
      refine AllReadyH.cons (o := _) rfl (fun KK hK => ?_) AllReadyH.nil
      go_simp
      refine (CD.out y1 HY1.out).mono ?_
      rintro e y2 ⟨u, rfl, hm⟩
      obtain ⟨a8, c8, rfl, hL8, hb⟩ := hm.at
      have hby2 := HY1.out.trans (hb.mono HY1.out.size)
      have hS2 := HSS.out y2 hby2
      have HY2 := hid hby2
      have CU := hid (CV.out y2 a8 c8 hby2 hL8)
      clear hb hm hL8 hby2
      refine hK.out _ _ hS2 (fun hHeld => ?_)
      clear hK KK
      try simp only [Act.put]
      try simp only [List.setIfInBounds_toArray]
      try simp only [List.set_cons_succ]
      try simp only [List.set_cons_zero]
      refine wpAnyH_ready (rs := [18]) (by kernel_rfl) (by simp) ?_
      refine AllReadyH.cons (o := _) rfl (fun KK hK => ?_) AllReadyH.nil
      go_simp
      refine CU.out.mono ?_
      rintro e y3 ⟨rfl, hb⟩
      have hby3 := HY2.out.trans (hb.mono HY2.out.size)
      have hS3 := HSS.out y3 hby3
      have HY3 := hid hby3
      clear hb hby3
      refine hK.out _ _ hS3 (fun hHeld => ?_)
      clear hK KK
      try simp only [Act.put]
      try simp only [List.setIfInBounds_toArray]
      try simp only [List.set_cons_succ]
      try simp only [List.set_cons_zero]
      first | refine takeW (i := 19) (dst := some 61) (v := undef) rfl rfl (by kernel_rfl) (by kernel_rfl) (by kernel_rfl) (fun _ _ _ h => h) (Or.inr ⟨by rfl, rfl⟩) hHeld ?_ | (refine takeW (i := 19) (dst := some 61) (v := ?_) rfl rfl (by kernel_rfl) (by kernel_rfl) (by kernel_rfl) (fun _ _ _ h => h) (Or.inl ⟨by rfl, ?_⟩) hHeld ?_; rotate_left; focus (intro w hSw; (try dsimp only at hSw); go_simp; (try with_reducible rfl); done))
      try simp only [Act.put, List.setIfInBounds_toArray, List.set_cons_zero, List.set_cons_succ]
      (refine takeW (i := 20) (dst := some 62) (v := ?_) rfl rfl (by kernel_rfl) (by kernel_rfl) (by kernel_rfl) (fun _ _ _ h => h) (Or.inl ⟨by rfl, ?_⟩) hHeld ?_; rotate_left; focus (intro w hSw; (try dsimp only at hSw); go_simp; (try with_reducible rfl); done))
      try simp only [Act.put, List.setIfInBounds_toArray, List.set_cons_zero, List.set_cons_succ]
      (refine takeW (i := 21) (dst := some 6) (v := ?_) rfl rfl (by kernel_rfl) (by kernel_rfl) (by kernel_rfl) (fun _ _ _ h => h) (Or.inl ⟨by rfl, ?_⟩) hHeld ?_; rotate_left; focus (intro w hSw; (try dsimp only at hSw); go_simp; (try with_reducible rfl); done))
      try simp only [Act.put]
      try simp only [List.setIfInBounds_toArray]
      try simp only [List.set_cons_succ]
      try simp only [List.set_cons_zero]
      refine wpAnyH_done (by kernel_rfl) ?_ _
      have HFF := hid (HF9.out y3 HY3.out)
      clear hHeld hS HSS CT HY1 HY2 HY3 CD CU CV
      go_wp2
      go_ret
      exact ⟨rfl, HFF.out⟩
end Go.Proofs.Ytlebimolgienkaa
