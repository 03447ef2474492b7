/-
  The law MinorDrop.
-/
import Derived.Test.YtlebimolgienkaaM23
import Derived.Test.YtlebimolgienkaaM26
import Derived.Test.YtlebimolgienkaaM13
namespace Go.Proofs.Ytlebimolgienkaa
open Go.RowKit Go.Lib
theorem del_ok8 {m p : Nat} {es E : List (Int × Int)} {er N : Int} (hR : RightG m es) (hp : p < m) (h : DelS m es p er N E) : er = 0 ∧ N = (m : Int) - 1 ∧ IndE es (othL m p) E ∧ RightG ((m : Int) - 1) E := by
  rcases h with ⟨h1, _⟩ | ⟨_, h2, _⟩ | ⟨_, _, h3, h4, h5⟩
  · exact absurd hR h1
  · exact absurd (by omega) h2
  · have h6 : IndE es (othL m p) E := by simpa using h5
    refine ⟨h3, h4, h6, ?_⟩
    have := h6.right hR (othL_nodup _ _) (by rw [othL_len hp]; have := hR.2.1; omega)
    rw [othL_len hp] at this
    rw [show ((m : Int) - 1) = ((m - 1 : Nat) : Int) by omega]
    exact this
theorem dropL_len (v : Int) (Ss : List (List Int)) : (dropL v Ss).length = Ss.length := by unfold dropL; split <;> simp
theorem dropL_each {v : Int} {Ss : List (List Int)} {k : Nat} (h : ∀ S ∈ Ss, S.length ≤ k) : ∀ S ∈ dropL v Ss, S.length ≤ k := fun S hS => by
  unfold dropL at hS
  split at hS
  · exact h S hS
  · obtain ⟨T, hT, rfl⟩ := List.mem_map.1 hS
    rw [List.length_map]; exact h T hT

set_option maxHeartbeats 8000000 in
set_option maxRecDepth 100000 in
theorem minorDrop_law (n : Int) (a : Option Addr) (len cap : Nat) (l : List (Int × Int)) (x : Int) (kk : Int) (am : Option Addr) (lm cm : Nat) (LM : List (List Int)) (w : World) (hl : len = l.length) (hE : EAt w a l) (hM : CameR w am lm cm LM) :
    Calls Try.prog 9 #[.agg #[.int .i64 n, .slice a len cap], .int .i64 x, .agg #[.int .i64 kk, .slice am lm cm]] w fun e w' => e = .returned (.bool true) ∧ Below w.heap.size w w' := by
  obtain ⟨b, hbb⟩ := ex_eq w.heap.size
  obtain ⟨W0, hW0, hs0, hO0, hO1, hB0⟩ := new_two w (.cells #[.int .i64 n, .slice a len cap] 24) (.cells #[.int .i64 kk, .slice am lm cm] 39)
  rw [← hbb] at hs0 hO0 hO1 hB0
  have HBB0 := hid hbb
  have HK0 : Hid (∀ X, Below W0.heap.size W0 X → (X.cell? ⟨b, 0, none⟩ = some (.int .i64 n) ∧ X.cell? ⟨b, 1, none⟩ = some (.slice a len cap)) ∧ (X.cell? ⟨b + 1, 0, none⟩ = some (.int .i64 kk) ∧ X.cell? ⟨b + 1, 1, none⟩ = some (.slice am lm cm)) ∧ CameR X am lm cm LM ∧ EAt X a l ∧ Below b w X) := fun X hX => by
    have o0 := (hX.block b (by omega)).trans hO0
    have o1 := (hX.block (b + 1) (by omega)).trans hO1
    have hbx : Below b w X := hB0.trans (hX.mono (by omega))
    have hbx' : Below w.heap.size w X := by rw [← hbb]; exact hbx
    exact ⟨⟨cell_of_heap o0 0, cell_of_heap o0 1⟩, ⟨cell_of_heap o1 0, cell_of_heap o1 1⟩, hM.belowM hbx', hE.below hbx', hbx⟩
  have HL := hid hl
  have HW0 := hid hW0
  have hz0 : w.heap.size ≤ W0.heap.size := by omega
  clear hl hE hM hW0 hB0 hO0 hO1 hbb hz0
  go_enter Try.func9, Try.ntmps9
  go_wp2_with fail
  rw [← HW0.out]
  refine (mshown_any _).mono ?_
  rintro e w1 ⟨rfl, hb1⟩
  rw [← HBB0.out]
  obtain ⟨⟨x0, x1⟩, _, _, hE1, _⟩ := HK0.out w1 hb1
  have CA := hid (net_any n a len cap l 20 w1 (by omega) HL.out hE1)
  have HB1 := hid hb1
  clear hb1 HW0 hE1
  go_wp2_with fail
  refine CA.out.mono ?_
  rintro e w2 ⟨m, ys, a2, c2, rfl, hm20, hR, hys, hsl, hE2, hb2⟩
  obtain ⟨K, hK⟩ := ex_eq ys.length
  rw [← hK]
  have HK := hid hK
  obtain ⟨B, hBB⟩ := ex_eq w2.heap.size
  obtain ⟨V2, hV2⟩ := ex_eq (w2.alloc (.cells #[.int .i64 m, .slice a2 K c2] 26))
  have HG2 : Hid (GC V2 B m a2 K c2 ys) := by
    show GC V2 _ _ _ _ _ _
    rw [hV2, hBB]; exact gc_new8 hE2
  have HX2 : Hid (Below W0.heap.size W0 V2) := by
    have h1 : Below w2.heap.size w2 V2 := by rw [hV2]; exact below_one _ _
    have h2 : Below W0.heap.size W0 w2 := HB1.out.trans (hb2.mono HB1.out.size)
    exact h2.trans (h1.mono h2.size)
  have HV2 := hid hV2
  have HBB := hid hBB
  have HR := hid hR
  have HSL := hid hsl
  have hK3 : K ≤ 300 := by omega
  clear hK hV2 hE2 hb2 hR hys hsl CA x0 x1 HB1 hBB
  go_upto_region 3 with fail
  rw [← HV2.out, ← HBB.out]
  clear HV2 HBB
  obtain ⟨g0, g1⟩ := HG2.out.cells
  have hsB : B < V2.heap.size := block_lt_of_cell g0
  have HF8 : Hid (∀ X, Below V2.heap.size V2 X → Below w.heap.size w X) := fun X hX => by
    rw [← HBB0.out]; exact (HK0.out X (HX2.out.trans (hX.mono (HX2.out.size)))).2.2.2.2
  by_cases hm0 : m = 0
  · subst hm0
    go_wp2
    go_ret
    exact ⟨rfl, HF8.out V2 (Below.refl _ _)⟩
  have hm5 : ¬ (m : Int) = 0 := by omega
  have hm6 : ((m : Int) == 0) = false := by simp; omega
  obtain ⟨p, hp, hpm⟩ := rnd_of x (m := m) (by omega)
  have CS := hid (small_any kk am lm cm LM V2 (HK0.out V2 HX2.out).2.2.1)
  obtain ⟨_, ⟨m0, m1⟩, _, _, _⟩ := HK0.out V2 HX2.out
  go_wp2_with fail
  refine CS.out.mono ?_
  rintro e w5 ⟨v5, rfl, ht5⟩
  obtain ⟨a5, c5, rfl, hL5, hb5⟩ := ht5.at
  have hl6 := smallR_len LM
  have HEA := hid (@smallR_each LM)
  obtain ⟨Ss, hSs⟩ := ex_eq (smallR LM)
  rw [← hSs] at hL5 hl6 HEA ⊢
  obtain ⟨M5, hM5⟩ := ex_eq Ss.length
  rw [← hM5] at hl6 ⊢
  have HM5 := hid hM5
  obtain ⟨B5, hB5⟩ := ex_eq w5.heap.size
  obtain ⟨V5, hV5⟩ := ex_eq (w5.alloc (.cells #[.int .i64 kk, .slice a5 M5 c5] 40))
  have HMC5 : Hid (MC V5 B5 kk a5 M5 c5 Ss) := by
    show MC V5 _ _ _ _ _ _
    rw [hV5, hB5]; exact mc_new hL5
  have hbV : Below V2.heap.size V2 V5 := by
    have h1 : Below w5.heap.size w5 V5 := by rw [hV5]; exact below_one _ _
    exact hb5.trans (h1.mono hb5.size)
  have HXV := hid hbV
  have HX5 : Hid (Below W0.heap.size W0 V5) := HX2.out.trans (hbV.mono HX2.out.size)
  have HV5 := hid hV5
  have HB5 := hid hB5
  clear ht5 hL5 hb5 hSs hM5 hB5 hV5 hbV CS m0 m1
  go_upto_region 7 with fail
  rw [← HV5.out, ← HB5.out]
  clear HV5 HB5
  clear hp g0 g1
  have HG5 := hid (HG2.out.on HXV.out)
  obtain ⟨k0, k1⟩ := HG5.out.cells
  have C7 := hid (sub_del_any m a2 c2 ys p true V5 (by rw [← HK.out]; omega) HG5.out.at_ ⟨fun _ => HR.out, fun _ => rfl⟩)
  rw [← HK.out] at C7
  go_wp2_with fail
  refine C7.out.mono ?_
  rintro e w6 ⟨u, rfl, hsub⟩
  obtain ⟨er, N6, E6, a6, c6, rfl, hds, hsl6, hE6, hb6⟩ := hsub
  obtain ⟨rfl, hN6, hind, hR6⟩ := del_ok8 HR.out hpm hds
  obtain ⟨n6, hn6⟩ := ex_eq N6
  subst hn6
  rw [← hN6] at hR6
  obtain ⟨Z, hZ⟩ := ex_eq E6.length
  rw [← hZ]
  have HZ := hid hZ
  have HR6 := hid hR6
  have HIND := hid hind
  have HN6 := hid hN6
  obtain ⟨V7, hV7⟩ := ex_eq (w6.alloc (.cells #[.int .i64 n6, .slice a6 Z c6] 26))
  obtain ⟨B7, hB7⟩ := ex_eq w6.heap.size
  have HH7 : Hid (GC V7 B7 n6 a6 Z c6 E6) := by
    show GC _ _ _ _ _ _ _
    rw [hV7, hB7]; exact gc_new8 hE6
  have hb57 : Below V5.heap.size V5 V7 := by rw [hV7]; exact hb6.alloc hb6.size _
  have HG7 := hid (HG5.out.on hb57)
  have HMC7 := hid (HMC5.out.on hb57)
  have HY7 : Hid (Below V2.heap.size V2 V7) := HXV.out.trans (hb57.mono HXV.out.size)
  have HV7 := hid hV7
  have HB7 := hid hB7
  clear hZ hds hsl6 hE6 hb6 hR6 hind hN6 hV7 hB7 C7 k0 k1 hb57
  go_upto_region 8 with fail
  rw [← HV7.out, ← HB7.out]
  clear HV7 HB7
  obtain ⟨VD, hVD⟩ := ex_eq V7.drew
  have hbd : Below V7.heap.size V7 VD := by rw [hVD]; exact (Below.refl _ _).drew
  have HSS : Hid (∀ X, Below VD.heap.size VD X → X.cell? ⟨B, 0, none⟩ = some (.int .i64 m) ∧ X.cell? ⟨B, 1, none⟩ = some (.slice a2 K c2) ∧ X.cell? ⟨B5, 0, none⟩ = some (.int .i64 kk) ∧ X.cell? ⟨B5, 1, none⟩ = some (.slice a5 M5 c5) ∧ X.cell? ⟨B7, 0, none⟩ = some (.int .i64 n6) ∧ X.cell? ⟨B7, 1, none⟩ = some (.slice a6 Z c6)) := fun X hX => by
    have hb := hbd.trans (hX.mono hbd.size)
    have z1 := HG7.out.on hb
    have z2 := HMC7.out.on hb
    have z3 := HH7.out.on hb
    exact ⟨z1.n0, z1.e0, z2.c0, z2.c1, z3.n0, z3.e0⟩
  have HF9 : Hid (∀ X, Below VD.heap.size VD X → Below w.heap.size w X) := fun X hX => HF8.out X (HY7.out.trans ((hbd.trans (hX.mono hbd.size)).mono HY7.out.size))
  obtain ⟨r4, hr4⟩ := boolR_of (ModelL n6 E6 kk Ss)
  have CT := hid (check_any n6 a6 c6 E6 true kk a5 c5 Ss r4 VD (by have := HR6.out.2.2.1; omega) (HH7.out.on hbd).at_ ⟨fun _ => HR6.out, fun _ => rfl⟩ (by rw [← HM5.out]; omega) (fun S hS => Nat.le_trans (HEA.out S hS) (by decide)) (HMC7.out.on hbd).at_ hr4)
  rw [← HZ.out, ← HM5.out] at CT
  have HR4 := hid hr4
  have hS : (fun X : World => X.cell? ⟨B, 0, none⟩ = some (.int .i64 m) ∧ X.cell? ⟨B, 1, none⟩ = some (.slice a2 K c2) ∧ X.cell? ⟨B5, 0, none⟩ = some (.int .i64 kk) ∧ X.cell? ⟨B5, 1, none⟩ = some (.slice a5 M5 c5) ∧ X.cell? ⟨B7, 0, none⟩ = some (.int .i64 n6) ∧ X.cell? ⟨B7, 1, none⟩ = some (.slice a6 Z c6)) VD := HSS.out VD (Below.refl _ _)
  have HVD := hid hVD
  have HBD := hid hbd
  clear hr4 hVD hbd
  go_upto_region 8 with fail
  cases r4 with
  | false =>
    refine wp_region_held_drew (S := (fun X : World => X.cell? ⟨B, 0, none⟩ = some (.int .i64 m) ∧ X.cell? ⟨B, 1, none⟩ = some (.slice a2 K c2) ∧ X.cell? ⟨B5, 0, none⟩ = some (.int .i64 kk) ∧ X.cell? ⟨B5, 1, none⟩ = some (.slice a5 M5 c5) ∧ X.cell? ⟨B7, 0, none⟩ = some (.int .i64 n6) ∧ X.cell? ⟨B7, 1, none⟩ = some (.slice a6 Z c6))) (by kernel_rfl) (by rw [← HVD.out]; exact hS) (fun hHeld => ?_)
    rw [← HVD.out] at hHeld ⊢
    (refine takeW (i := 0) (dst := some 32) (v := ?_) rfl rfl (by kernel_rfl) (by kernel_rfl) (by kernel_rfl) (fun _ _ _ h => h) (Or.inl ⟨by rfl, ?_⟩) hHeld ?_; rotate_left; focus (intro w hSw; (try dsimp only at hSw); go_simp; (try with_reducible rfl); done))
    try simp only [Act.put, List.setIfInBounds_toArray, List.set_cons_zero, List.set_cons_succ]
    (refine takeW (i := 1) (dst := some 33) (v := ?_) rfl rfl (by kernel_rfl) (by kernel_rfl) (by kernel_rfl) (fun _ _ _ h => h) (Or.inl ⟨by rfl, ?_⟩) hHeld ?_; rotate_left; focus (intro w hSw; (try dsimp only at hSw); go_simp; (try with_reducible rfl); done))
    try simp only [Act.put, List.setIfInBounds_toArray, List.set_cons_zero, List.set_cons_succ]
    first | refine takeW (i := 2) (dst := some 34) (v := undef) rfl rfl (by kernel_rfl) (by kernel_rfl) (by kernel_rfl) (fun _ _ _ h => h) (Or.inr ⟨by rfl, rfl⟩) hHeld ?_ | (refine takeW (i := 2) (dst := some 34) (v := ?_) rfl rfl (by kernel_rfl) (by kernel_rfl) (by kernel_rfl) (fun _ _ _ h => h) (Or.inl ⟨by rfl, ?_⟩) hHeld ?_; rotate_left; focus (intro w hSw; (try dsimp only at hSw); go_simp; (try with_reducible rfl); done))
    try simp only [Act.put, List.setIfInBounds_toArray, List.set_cons_zero, List.set_cons_succ]
    first | refine takeW (i := 3) (dst := some 35) (v := undef) rfl rfl (by kernel_rfl) (by kernel_rfl) (by kernel_rfl) (fun _ _ _ h => h) (Or.inr ⟨by rfl, rfl⟩) hHeld ?_ | (refine takeW (i := 3) (dst := some 35) (v := ?_) rfl rfl (by kernel_rfl) (by kernel_rfl) (by kernel_rfl) (fun _ _ _ h => h) (Or.inl ⟨by rfl, ?_⟩) hHeld ?_; rotate_left; focus (intro w hSw; (try dsimp only at hSw); go_simp; (try with_reducible rfl); done))
    try simp only [Act.put, List.setIfInBounds_toArray, List.set_cons_zero, List.set_cons_succ]
    (refine takeW (i := 4) (dst := some 36) (v := ?_) rfl rfl (by kernel_rfl) (by kernel_rfl) (by kernel_rfl) (fun _ _ _ h => h) (Or.inl ⟨by rfl, ?_⟩) hHeld ?_; rotate_left; focus (intro w hSw; (try dsimp only at hSw); go_simp; (try with_reducible rfl); done))
    try simp only [Act.put, List.setIfInBounds_toArray, List.set_cons_zero, List.set_cons_succ]
    (refine takeW (i := 5) (dst := some 37) (v := ?_) rfl rfl (by kernel_rfl) (by kernel_rfl) (by kernel_rfl) (fun _ _ _ h => h) (Or.inl ⟨by rfl, ?_⟩) hHeld ?_; rotate_left; focus (intro w hSw; (try dsimp only at hSw); go_simp; (try with_reducible rfl); done))
    try simp only [Act.put, List.setIfInBounds_toArray, List.set_cons_zero, List.set_cons_succ]
    first | refine takeW (i := 6) (dst := some 38) (v := undef) rfl rfl (by kernel_rfl) (by kernel_rfl) (by kernel_rfl) (fun _ _ _ h => h) (Or.inr ⟨by rfl, rfl⟩) hHeld ?_ | (refine takeW (i := 6) (dst := some 38) (v := ?_) rfl rfl (by kernel_rfl) (by kernel_rfl) (by kernel_rfl) (fun _ _ _ h => h) (Or.inl ⟨by rfl, ?_⟩) hHeld ?_; rotate_left; focus (intro w hSw; (try dsimp only at hSw); go_simp; (try with_reducible rfl); done))
    try simp only [Act.put, List.setIfInBounds_toArray, List.set_cons_zero, List.set_cons_succ]
    first | refine takeW (i := 7) (dst := some 39) (v := undef) rfl rfl (by kernel_rfl) (by kernel_rfl) (by kernel_rfl) (fun _ _ _ h => h) (Or.inr ⟨by rfl, rfl⟩) hHeld ?_ | (refine takeW (i := 7) (dst := some 39) (v := ?_) rfl rfl (by kernel_rfl) (by kernel_rfl) (by kernel_rfl) (fun _ _ _ h => h) (Or.inl ⟨by rfl, ?_⟩) hHeld ?_; rotate_left; focus (intro w hSw; (try dsimp only at hSw); go_simp; (try with_reducible rfl); done))
    try simp only [Act.put, List.setIfInBounds_toArray, List.set_cons_zero, List.set_cons_succ]
    refine wpAnyH_ready (rs := [8]) (by kernel_rfl) (by simp) ?_
    refine AllReadyH.cons (o := _) rfl (fun KK hK => ?_) AllReadyH.nil
    go_simp
    refine CT.out.mono ?_
    rintro e y1 ⟨rfl, hb⟩
    have hS1 := HSS.out y1 hb
    have HY1 := hid hb
    clear hb
    refine hK.out _ _ hS1 (fun hHeld => ?_)
    clear hK KK
    try simp only [Act.put]
    try simp only [List.setIfInBounds_toArray]
    try simp only [List.set_cons_succ]
    try simp only [List.set_cons_zero]
    first | refine takeW (i := 9) (dst := some 41) (v := undef) rfl rfl (by kernel_rfl) (by kernel_rfl) (by kernel_rfl) (fun _ _ _ h => h) (Or.inr ⟨by rfl, rfl⟩) hHeld ?_ | (refine takeW (i := 9) (dst := some 41) (v := ?_) rfl rfl (by kernel_rfl) (by kernel_rfl) (by kernel_rfl) (fun _ _ _ h => h) (Or.inl ⟨by rfl, ?_⟩) hHeld ?_; rotate_left; focus (intro w hSw; (try dsimp only at hSw); go_simp; (try with_reducible rfl); done))
    try simp only [Act.put, List.setIfInBounds_toArray, List.set_cons_zero, List.set_cons_succ]
    first | refine takeW (i := 10) (dst := some 42) (v := undef) rfl rfl (by kernel_rfl) (by kernel_rfl) (by kernel_rfl) (fun _ _ _ h => h) (Or.inr ⟨by rfl, rfl⟩) hHeld ?_ | (refine takeW (i := 10) (dst := some 42) (v := ?_) rfl rfl (by kernel_rfl) (by kernel_rfl) (by kernel_rfl) (fun _ _ _ h => h) (Or.inl ⟨by rfl, ?_⟩) hHeld ?_; rotate_left; focus (intro w hSw; (try dsimp only at hSw); go_simp; (try with_reducible rfl); done))
    try simp only [Act.put, List.setIfInBounds_toArray, List.set_cons_zero, List.set_cons_succ]
    first | refine takeW (i := 11) (dst := some 43) (v := undef) rfl rfl (by kernel_rfl) (by kernel_rfl) (by kernel_rfl) (fun _ _ _ h => h) (Or.inr ⟨by rfl, rfl⟩) hHeld ?_ | (refine takeW (i := 11) (dst := some 43) (v := ?_) rfl rfl (by kernel_rfl) (by kernel_rfl) (by kernel_rfl) (fun _ _ _ h => h) (Or.inl ⟨by rfl, ?_⟩) hHeld ?_; rotate_left; focus (intro w hSw; (try dsimp only at hSw); go_simp; (try with_reducible rfl); done))
    try simp only [Act.put, List.setIfInBounds_toArray, List.set_cons_zero, List.set_cons_succ]
    first | refine takeW (i := 12) (dst := some 44) (v := undef) rfl rfl (by kernel_rfl) (by kernel_rfl) (by kernel_rfl) (fun _ _ _ h => h) (Or.inr ⟨by rfl, rfl⟩) hHeld ?_ | (refine takeW (i := 12) (dst := some 44) (v := ?_) rfl rfl (by kernel_rfl) (by kernel_rfl) (by kernel_rfl) (fun _ _ _ h => h) (Or.inl ⟨by rfl, ?_⟩) hHeld ?_; rotate_left; focus (intro w hSw; (try dsimp only at hSw); go_simp; (try with_reducible rfl); done))
    try simp only [Act.put, List.setIfInBounds_toArray, List.set_cons_zero, List.set_cons_succ]
    first | refine takeW (i := 13) (dst := some 45) (v := undef) rfl rfl (by kernel_rfl) (by kernel_rfl) (by kernel_rfl) (fun _ _ _ h => h) (Or.inr ⟨by rfl, rfl⟩) hHeld ?_ | (refine takeW (i := 13) (dst := some 45) (v := ?_) rfl rfl (by kernel_rfl) (by kernel_rfl) (by kernel_rfl) (fun _ _ _ h => h) (Or.inl ⟨by rfl, ?_⟩) hHeld ?_; rotate_left; focus (intro w hSw; (try dsimp only at hSw); go_simp; (try with_reducible rfl); done))
    try simp only [Act.put, List.setIfInBounds_toArray, List.set_cons_zero, List.set_cons_succ]
    first | refine takeW (i := 14) (dst := some 46) (v := undef) rfl rfl (by kernel_rfl) (by kernel_rfl) (by kernel_rfl) (fun _ _ _ h => h) (Or.inr ⟨by rfl, rfl⟩) hHeld ?_ | (refine takeW (i := 14) (dst := some 46) (v := ?_) rfl rfl (by kernel_rfl) (by kernel_rfl) (by kernel_rfl) (fun _ _ _ h => h) (Or.inl ⟨by rfl, ?_⟩) hHeld ?_; rotate_left; focus (intro w hSw; (try dsimp only at hSw); go_simp; (try with_reducible rfl); done))
    try simp only [Act.put, List.setIfInBounds_toArray, List.set_cons_zero, List.set_cons_succ]
    first | refine takeW (i := 15) (dst := some 47) (v := undef) rfl rfl (by kernel_rfl) (by kernel_rfl) (by kernel_rfl) (fun _ _ _ h => h) (Or.inr ⟨by rfl, rfl⟩) hHeld ?_ | (refine takeW (i := 15) (dst := some 47) (v := ?_) rfl rfl (by kernel_rfl) (by kernel_rfl) (by kernel_rfl) (fun _ _ _ h => h) (Or.inl ⟨by rfl, ?_⟩) hHeld ?_; rotate_left; focus (intro w hSw; (try dsimp only at hSw); go_simp; (try with_reducible rfl); done))
    try simp only [Act.put, List.setIfInBounds_toArray, List.set_cons_zero, List.set_cons_succ]
    first | refine takeW (i := 16) (dst := some 48) (v := undef) rfl rfl (by kernel_rfl) (by kernel_rfl) (by kernel_rfl) (fun _ _ _ h => h) (Or.inr ⟨by rfl, rfl⟩) hHeld ?_ | (refine takeW (i := 16) (dst := some 48) (v := ?_) rfl rfl (by kernel_rfl) (by kernel_rfl) (by kernel_rfl) (fun _ _ _ h => h) (Or.inl ⟨by rfl, ?_⟩) hHeld ?_; rotate_left; focus (intro w hSw; (try dsimp only at hSw); go_simp; (try with_reducible rfl); done))
    try simp only [Act.put, List.setIfInBounds_toArray, List.set_cons_zero, List.set_cons_succ]
    (refine takeW (i := 17) (dst := some 49) (v := ?_) rfl rfl (by kernel_rfl) (by kernel_rfl) (by kernel_rfl) (fun _ _ _ h => h) (Or.inl ⟨by rfl, ?_⟩) hHeld ?_; rotate_left; focus (intro w hSw; (try dsimp only at hSw); go_simp; (try with_reducible rfl); done))
    try simp only [Act.put, List.setIfInBounds_toArray, List.set_cons_zero, List.set_cons_succ]
    (refine takeW (i := 18) (dst := some 6) (v := ?_) rfl rfl (by kernel_rfl) (by kernel_rfl) (by kernel_rfl) (fun _ _ _ h => h) (Or.inl ⟨by rfl, ?_⟩) hHeld ?_; rotate_left; focus (intro w hSw; (try dsimp only at hSw); go_simp; (try with_reducible rfl); done))
    try simp only [Act.put]
    try simp only [List.setIfInBounds_toArray]
    try simp only [List.set_cons_succ]
    try simp only [List.set_cons_zero]
    refine wpAnyH_done (by kernel_rfl) ?_ _
    have HFF := hid (HF9.out y1 HY1.out)
    clear hHeld hS HSS CT HY1
    go_wp2
    go_ret
    exact ⟨rfl, HFF.out⟩
  | true =>
    have HMO := hid (HR4.out.1 rfl)
    have CD : Hid (∀ X, Below VD.heap.size VD X → Calls Try.prog 25 #[.agg #[.int .i64 kk, .slice a5 M5 c5], .int .i64 p] X fun e w' => ∃ u, e = .returned u ∧ ModTold kk (dropL p Ss) X w' u) := fun X hX => by
      rw [HM5.out]
      exact drop_any kk a5 c5 Ss p X (by rw [← HM5.out]; omega) (fun S hS => Nat.le_trans (HEA.out S hS) (by decide)) (HMC7.out.on (HBD.out.trans (hX.mono HBD.out.size))).at_ HMO.out.inR
    have CV : Hid (∀ X a8 c8, Below VD.heap.size VD X → LLAt X a8 (dropL p Ss) → Calls Try.prog 20 #[.agg #[.int .i64 m, .slice a2 K c2], .agg #[.int .i64 kk, .slice a8 (dropL p Ss).length c8]] X fun e w' => e = .returned (.bool true) ∧ Below X.heap.size X w') := fun X a8 c8 hX hL8 => by
      rw [HK.out]
      exact check_any m a2 c2 ys true kk a8 c8 (dropL p Ss) true X (by rw [← HK.out]; omega) (HG7.out.on (HBD.out.trans (hX.mono HBD.out.size))).at_ ⟨fun _ => HR.out, fun _ => rfl⟩ (by rw [dropL_len, ← HM5.out]; omega) (fun S hS => Nat.le_trans (dropL_each HEA.out S hS) (by decide)) hL8 ⟨fun _ => model_drop HR.out hpm HIND.out (by rw [← HN6.out]; exact HMO.out), fun _ => rfl⟩
    refine wp_region_held_drew (S := (fun X : World => X.cell? ⟨B, 0, none⟩ = some (.int .i64 m) ∧ X.cell? ⟨B, 1, none⟩ = some (.slice a2 K c2) ∧ X.cell? ⟨B5, 0, none⟩ = some (.int .i64 kk) ∧ X.cell? ⟨B5, 1, none⟩ = some (.slice a5 M5 c5) ∧ X.cell? ⟨B7, 0, none⟩ = some (.int .i64 n6) ∧ X.cell? ⟨B7, 1, none⟩ = some (.slice a6 Z c6))) (by kernel_rfl) (by rw [← HVD.out]; exact hS) (fun hHeld => ?_)
    rw [← HVD.out] at hHeld ⊢
    (refine takeW (i := 0) (dst := some 32) (v := ?_) rfl rfl (by kernel_rfl) (by kernel_rfl) (by kernel_rfl) (fun _ _ _ h => h) (Or.inl ⟨by rfl, ?_⟩) hHeld ?_; rotate_left; focus (intro w hSw; (try dsimp only at hSw); go_simp; (try with_reducible rfl); done))
    try simp only [Act.put, List.setIfInBounds_toArray, List.set_cons_zero, List.set_cons_succ]
    (refine takeW (i := 1) (dst := some 33) (v := ?_) rfl rfl (by kernel_rfl) (by kernel_rfl) (by kernel_rfl) (fun _ _ _ h => h) (Or.inl ⟨by rfl, ?_⟩) hHeld ?_; rotate_left; focus (intro w hSw; (try dsimp only at hSw); go_simp; (try with_reducible rfl); done))
    try simp only [Act.put, List.setIfInBounds_toArray, List.set_cons_zero, List.set_cons_succ]
    first | refine takeW (i := 2) (dst := some 34) (v := undef) rfl rfl (by kernel_rfl) (by kernel_rfl) (by kernel_rfl) (fun _ _ _ h => h) (Or.inr ⟨by rfl, rfl⟩) hHeld ?_ | (refine takeW (i := 2) (dst := some 34) (v := ?_) rfl rfl (by kernel_rfl) (by kernel_rfl) (by kernel_rfl) (fun _ _ _ h => h) (Or.inl ⟨by rfl, ?_⟩) hHeld ?_; rotate_left; focus (intro w hSw; (try dsimp only at hSw); go_simp; (try with_reducible rfl); done))
    try simp only [Act.put, List.setIfInBounds_toArray, List.set_cons_zero, List.set_cons_succ]
    first | refine takeW (i := 3) (dst := some 35) (v := undef) rfl rfl (by kernel_rfl) (by kernel_rfl) (by kernel_rfl) (fun _ _ _ h => h) (Or.inr ⟨by rfl, rfl⟩) hHeld ?_ | (refine takeW (i := 3) (dst := some 35) (v := ?_) rfl rfl (by kernel_rfl) (by kernel_rfl) (by kernel_rfl) (fun _ _ _ h => h) (Or.inl ⟨by rfl, ?_⟩) hHeld ?_; rotate_left; focus (intro w hSw; (try dsimp only at hSw); go_simp; (try with_reducible rfl); done))
    try simp only [Act.put, List.setIfInBounds_toArray, List.set_cons_zero, List.set_cons_succ]
    (refine takeW (i := 4) (dst := some 36) (v := ?_) rfl rfl (by kernel_rfl) (by kernel_rfl) (by kernel_rfl) (fun _ _ _ h => h) (Or.inl ⟨by rfl, ?_⟩) hHeld ?_; rotate_left; focus (intro w hSw; (try dsimp only at hSw); go_simp; (try with_reducible rfl); done))
    try simp only [Act.put, List.setIfInBounds_toArray, List.set_cons_zero, List.set_cons_succ]
    (refine takeW (i := 5) (dst := some 37) (v := ?_) rfl rfl (by kernel_rfl) (by kernel_rfl) (by kernel_rfl) (fun _ _ _ h => h) (Or.inl ⟨by rfl, ?_⟩) hHeld ?_; rotate_left; focus (intro w hSw; (try dsimp only at hSw); go_simp; (try with_reducible rfl); done))
    try simp only [Act.put, List.setIfInBounds_toArray, List.set_cons_zero, List.set_cons_succ]
    first | refine takeW (i := 6) (dst := some 38) (v := undef) rfl rfl (by kernel_rfl) (by kernel_rfl) (by kernel_rfl) (fun _ _ _ h => h) (Or.inr ⟨by rfl, rfl⟩) hHeld ?_ | (refine takeW (i := 6) (dst := some 38) (v := ?_) rfl rfl (by kernel_rfl) (by kernel_rfl) (by kernel_rfl) (fun _ _ _ h => h) (Or.inl ⟨by rfl, ?_⟩) hHeld ?_; rotate_left; focus (intro w hSw; (try dsimp only at hSw); go_simp; (try with_reducible rfl); done))
    try simp only [Act.put, List.setIfInBounds_toArray, List.set_cons_zero, List.set_cons_succ]
    first | refine takeW (i := 7) (dst := some 39) (v := undef) rfl rfl (by kernel_rfl) (by kernel_rfl) (by kernel_rfl) (fun _ _ _ h => h) (Or.inr ⟨by rfl, rfl⟩) hHeld ?_ | (refine takeW (i := 7) (dst := some 39) (v := ?_) rfl rfl (by kernel_rfl) (by kernel_rfl) (by kernel_rfl) (fun _ _ _ h => h) (Or.inl ⟨by rfl, ?_⟩) hHeld ?_; rotate_left; focus (intro w hSw; (try dsimp only at hSw); go_simp; (try with_reducible rfl); done))
    try simp only [Act.put, List.setIfInBounds_toArray, List.set_cons_zero, List.set_cons_succ]
    refine wpAnyH_ready (rs := [8]) (by kernel_rfl) (by simp) ?_
    refine AllReadyH.cons (o := _) rfl (fun KK hK => ?_) AllReadyH.nil
    go_simp
    refine CT.out.mono ?_
    rintro e y1 ⟨rfl, hb⟩
    have hS1 := HSS.out y1 hb
    have HY1 := hid hb
    clear hb
    refine hK.out _ _ hS1 (fun hHeld => ?_)
    clear hK KK
    try simp only [Act.put]
    try simp only [List.setIfInBounds_toArray]
    try simp only [List.set_cons_succ]
    try simp only [List.set_cons_zero]
    first | refine takeW (i := 9) (dst := some 41) (v := undef) rfl rfl (by kernel_rfl) (by kernel_rfl) (by kernel_rfl) (fun _ _ _ h => h) (Or.inr ⟨by rfl, rfl⟩) hHeld ?_ | (refine takeW (i := 9) (dst := some 41) (v := ?_) rfl rfl (by kernel_rfl) (by kernel_rfl) (by kernel_rfl) (fun _ _ _ h => h) (Or.inl ⟨by rfl, ?_⟩) hHeld ?_; rotate_left; focus (intro w hSw; (try dsimp only at hSw); go_simp; (try with_reducible rfl); done))
    try simp only [Act.put, List.setIfInBounds_toArray, List.set_cons_zero, List.set_cons_succ]
    first | refine takeW (i := 10) (dst := some 42) (v := undef) rfl rfl (by kernel_rfl) (by kernel_rfl) (by kernel_rfl) (fun _ _ _ h => h) (Or.inr ⟨by rfl, rfl⟩) hHeld ?_ | (refine takeW (i := 10) (dst := some 42) (v := ?_) rfl rfl (by kernel_rfl) (by kernel_rfl) (by kernel_rfl) (fun _ _ _ h => h) (Or.inl ⟨by rfl, ?_⟩) hHeld ?_; rotate_left; focus (intro w hSw; (try dsimp only at hSw); go_simp; (try with_reducible rfl); done))
    try simp only [Act.put, List.setIfInBounds_toArray, List.set_cons_zero, List.set_cons_succ]
    first | refine takeW (i := 11) (dst := some 43) (v := undef) rfl rfl (by kernel_rfl) (by kernel_rfl) (by kernel_rfl) (fun _ _ _ h => h) (Or.inr ⟨by rfl, rfl⟩) hHeld ?_ | (refine takeW (i := 11) (dst := some 43) (v := ?_) rfl rfl (by kernel_rfl) (by kernel_rfl) (by kernel_rfl) (fun _ _ _ h => h) (Or.inl ⟨by rfl, ?_⟩) hHeld ?_; rotate_left; focus (intro w hSw; (try dsimp only at hSw); go_simp; (try with_reducible rfl); done))
    try simp only [Act.put, List.setIfInBounds_toArray, List.set_cons_zero, List.set_cons_succ]
    first | refine takeW (i := 12) (dst := some 44) (v := undef) rfl rfl (by kernel_rfl) (by kernel_rfl) (by kernel_rfl) (fun _ _ _ h => h) (Or.inr ⟨by rfl, rfl⟩) hHeld ?_ | (refine takeW (i := 12) (dst := some 44) (v := ?_) rfl rfl (by kernel_rfl) (by kernel_rfl) (by kernel_rfl) (fun _ _ _ h => h) (Or.inl ⟨by rfl, ?_⟩) hHeld ?_; rotate_left; focus (intro w hSw; (try dsimp only at hSw); go_simp; (try with_reducible rfl); done))
    try simp only [Act.put, List.setIfInBounds_toArray, List.set_cons_zero, List.set_cons_succ]
    first | refine takeW (i := 13) (dst := some 45) (v := undef) rfl rfl (by kernel_rfl) (by kernel_rfl) (by kernel_rfl) (fun _ _ _ h => h) (Or.inr ⟨by rfl, rfl⟩) hHeld ?_ | (refine takeW (i := 13) (dst := some 45) (v := ?_) rfl rfl (by kernel_rfl) (by kernel_rfl) (by kernel_rfl) (fun _ _ _ h => h) (Or.inl ⟨by rfl, ?_⟩) hHeld ?_; rotate_left; focus (intro w hSw; (try dsimp only at hSw); go_simp; (try with_reducible rfl); done))
    try simp only [Act.put, List.setIfInBounds_toArray, List.set_cons_zero, List.set_cons_succ]
    refine wpAnyH_ready (rs := [14]) (by kernel_rfl) (by simp) ?_
    refine AllReadyH.cons (o := _) rfl (fun KK hK => ?_) AllReadyH.nil
    go_simp
    refine (CD.out y1 HY1.out).mono ?_
    rintro e y2 ⟨u, rfl, hm⟩
    obtain ⟨a8, c8, rfl, hL8, hb⟩ := hm.at
    have hby2 := HY1.out.trans (hb.mono HY1.out.size)
    have hS2 := HSS.out y2 hby2
    have HY2 := hid hby2
    have CU := hid (CV.out y2 a8 c8 hby2 hL8)
    clear hb hm hL8 hby2
    refine hK.out _ _ hS2 (fun hHeld => ?_)
    clear hK KK
    try simp only [Act.put]
    try simp only [List.setIfInBounds_toArray]
    try simp only [List.set_cons_succ]
    try simp only [List.set_cons_zero]
    refine wpAnyH_ready (rs := [15]) (by kernel_rfl) (by simp) ?_
    refine AllReadyH.cons (o := _) rfl (fun KK hK => ?_) AllReadyH.nil
    go_simp
    refine CU.out.mono ?_
    rintro e y3 ⟨rfl, hb⟩
    have hby3 := HY2.out.trans (hb.mono HY2.out.size)
    have hS3 := HSS.out y3 hby3
    have HY3 := hid hby3
    clear hb hby3
    refine hK.out _ _ hS3 (fun hHeld => ?_)
    clear hK KK
    try simp only [Act.put]
    try simp only [List.setIfInBounds_toArray]
    try simp only [List.set_cons_succ]
    try simp only [List.set_cons_zero]
    first | refine takeW (i := 16) (dst := some 48) (v := undef) rfl rfl (by kernel_rfl) (by kernel_rfl) (by kernel_rfl) (fun _ _ _ h => h) (Or.inr ⟨by rfl, rfl⟩) hHeld ?_ | (refine takeW (i := 16) (dst := some 48) (v := ?_) rfl rfl (by kernel_rfl) (by kernel_rfl) (by kernel_rfl) (fun _ _ _ h => h) (Or.inl ⟨by rfl, ?_⟩) hHeld ?_; rotate_left; focus (intro w hSw; (try dsimp only at hSw); go_simp; (try with_reducible rfl); done))
    try simp only [Act.put, List.setIfInBounds_toArray, List.set_cons_zero, List.set_cons_succ]
    (refine takeW (i := 17) (dst := some 49) (v := ?_) rfl rfl (by kernel_rfl) (by kernel_rfl) (by kernel_rfl) (fun _ _ _ h => h) (Or.inl ⟨by rfl, ?_⟩) hHeld ?_; rotate_left; focus (intro w hSw; (try dsimp only at hSw); go_simp; (try with_reducible rfl); done))
    try simp only [Act.put, List.setIfInBounds_toArray, List.set_cons_zero, List.set_cons_succ]
    (refine takeW (i := 18) (dst := some 6) (v := ?_) rfl rfl (by kernel_rfl) (by kernel_rfl) (by kernel_rfl) (fun _ _ _ h => h) (Or.inl ⟨by rfl, ?_⟩) hHeld ?_; rotate_left; focus (intro w hSw; (try dsimp only at hSw); go_simp; (try with_reducible rfl); done))
    try simp only [Act.put]
    try simp only [List.setIfInBounds_toArray]
    try simp only [List.set_cons_succ]
    try simp only [List.set_cons_zero]
    refine wpAnyH_done (by kernel_rfl) ?_ _
    have HFF := hid (HF9.out y3 HY3.out)
    clear hHeld hS HSS CT HY1 HY2 HY3 CD CU CV
    go_wp2
    go_ret
    exact ⟨rfl, HFF.out⟩
end Go.Proofs.Ytlebimolgienkaa
