/-
  The law MinorCheck.
-/
import Derived.Test.YtlebimolgienkaaC18
import Derived.Test.YtlebimolgienkaaC21
import Derived.Lib.Walk
namespace Go.Proofs.Ytlebimolgienkaa
open Go.RowKit Go.Lib

set_option maxHeartbeats 8000000 in
set_option maxRecDepth 100000 in
theorem minorCheck_law (n : Int) (a : Option Addr) (len cap : Nat) (l : List (Int × Int)) (kk : Int) (am : Option Addr) (lm cm : Nat) (LM : List (List Int)) (w : World) (hl : len = l.length) (hE : EAt w a l) (hM : CameR w am lm cm LM) :
    Calls Try.prog 4 #[.agg #[.int .i64 n, .slice a len cap], .agg #[.int .i64 kk, .slice am lm cm]] w fun e w' => e = .returned (.bool true) ∧ Below w.heap.size w w' := by
  obtain ⟨b, hbb⟩ := ex_eq w.heap.size
  obtain ⟨W0, hW0, hs0, hO0, hO1, hB0⟩ := new_two w (.cells #[.int .i64 n, .slice a len cap] 24) (.cells #[.int .i64 kk, .slice am lm cm] 39)
  rw [← hbb] at hs0 hO0 hO1 hB0
  have HBB0 := hid hbb
  have HK0 : Hid (∀ X, Below W0.heap.size W0 X → (X.cell? ⟨b, 0, none⟩ = some (.int .i64 n) ∧ X.cell? ⟨b, 1, none⟩ = some (.slice a len cap)) ∧ (X.cell? ⟨b + 1, 0, none⟩ = some (.int .i64 kk) ∧ X.cell? ⟨b + 1, 1, none⟩ = some (.slice am lm cm)) ∧ CameR X am lm cm LM ∧ EAt X a l ∧ Below b w X) := fun X hX => by
    have o0 := (hX.block b (by omega)).trans hO0
    have o1 := (hX.block (b + 1) (by omega)).trans hO1
    have hbx : Below b w X := hB0.trans (hX.mono (by omega))
    have hbx' : Below w.heap.size w X := by rw [← hbb]; exact hbx
    exact ⟨⟨cell_of_heap o0 0, cell_of_heap o0 1⟩, ⟨cell_of_heap o1 0, cell_of_heap o1 1⟩, hM.belowM hbx', hE.below hbx', hbx⟩
  have HL := hid hl
  have HW0 := hid hW0
  have hz0 : w.heap.size ≤ W0.heap.size := by omega
  clear hl hE hM hW0 hB0 hO0 hO1 hbb hz0
  go_enter Try.func4, Try.ntmps4
  go_wp2_with fail
  rw [← HW0.out]
  refine (mshown_any _).mono ?_
  rintro e w1 ⟨rfl, hb1⟩
  rw [← HBB0.out]
  obtain ⟨⟨x0, x1⟩, _, _, hE1, _⟩ := HK0.out w1 hb1
  have CA := hid (net_any n a len cap l 20 w1 (by omega) HL.out hE1)
  have HB1 := hid hb1
  clear hb1 HW0 hE1
  go_wp2_with fail
  refine CA.out.mono ?_
  rintro e w2 ⟨m, ys, a2, c2, rfl, hm20, hR, hys, hsl, hE2, hb2⟩
  obtain ⟨K, hK⟩ := ex_eq ys.length
  rw [← hK]
  have HK := hid hK
  obtain ⟨B, hBB⟩ := ex_eq w2.heap.size
  obtain ⟨V2, hV2⟩ := ex_eq (w2.alloc (.cells #[.int .i64 m, .slice a2 K c2] 26))
  have HG2 : Hid (GC V2 B m a2 K c2 ys) := by
    show GC V2 _ _ _ _ _ _
    rw [hV2, hBB]; exact gc_new8 hE2
  have HX2 : Hid (Below W0.heap.size W0 V2) := by
    have h1 : Below w2.heap.size w2 V2 := by rw [hV2]; exact below_one _ _
    have h2 : Below W0.heap.size W0 w2 := HB1.out.trans (hb2.mono HB1.out.size)
    exact h2.trans (h1.mono h2.size)
  have HV2 := hid hV2
  have HBB := hid hBB
  have HR := hid hR
  have hK3 : K ≤ 300 := by omega
  clear hK hV2 hE2 hb2 hR hys hsl CA x0 x1 HB1 hBB
  go_upto_region 3 with fail
  rw [← HV2.out, ← HBB.out]
  clear HV2 HBB
  have CS := hid (small_any kk am lm cm LM V2 (HK0.out V2 HX2.out).2.2.1)
  obtain ⟨_, ⟨m0, m1⟩, _, _, _⟩ := HK0.out V2 HX2.out
  go_wp2_with fail
  refine CS.out.mono ?_
  rintro e w5 ⟨v5, rfl, ht5⟩
  obtain ⟨a5, c5, rfl, hL5, hS5, hb5⟩ := ht5.lls
  have hl6 := smallR_len LM
  have HEA := hid (@smallR_each LM)
  obtain ⟨Ss, hSs⟩ := ex_eq (smallR LM)
  rw [← hSs] at hL5 hS5 hl6 HEA ⊢
  obtain ⟨M5, hM5⟩ := ex_eq Ss.length
  rw [← hM5] at hl6 ⊢
  have HM5 := hid hM5
  obtain ⟨B5, hB5⟩ := ex_eq w5.heap.size
  obtain ⟨V5, hV5⟩ := ex_eq (w5.alloc (.cells #[.int .i64 kk, .slice a5 M5 c5] 40))
  have HMC5 : Hid (MC V5 B5 kk a5 M5 c5 Ss ∧ LLS V5 a5 Ss) := by
    show MC V5 _ _ _ _ _ _ ∧ _
    rw [hV5, hB5]; exact ⟨mc_new hL5, hS5.below (below_one _ _)⟩
  have hbV : Below V2.heap.size V2 V5 := by
    have h1 : Below w5.heap.size w5 V5 := by rw [hV5]; exact below_one _ _
    exact hb5.trans (h1.mono hb5.size)
  have HG5 := hid (HG2.out.on hbV)
  have HX5 : Hid (Below W0.heap.size W0 V5) := HX2.out.trans (hbV.mono HX2.out.size)
  have HV5 := hid hV5
  have HB5 := hid hB5
  clear ht5 hL5 hS5 hb5 hSs hM5 hB5 hV5 hbV CS m0 m1
  go_upto_region 4 with fail
  rw [← HV5.out, ← HB5.out]
  clear HV5 HB5
  have HKQ : Hid (∀ X, Below V5.heap.size V5 X → X.cell? ⟨B, 0, none⟩ = some (.int .i64 m) ∧ X.cell? ⟨B, 1, none⟩ = some (.slice a2 K c2) ∧ X.cell? ⟨B5, 0, none⟩ = some (.int .i64 kk) ∧ X.cell? ⟨B5, 1, none⟩ = some (.slice a5 M5 c5)) := fun X h => by
    obtain ⟨k0, k1⟩ := (HG5.out.on h).cells
    have hm := HMC5.out.1.on h
    exact ⟨k0, k1, hm.c0, hm.c1⟩
  have hVd : Below V5.heap.size V5 V5.drew := (Below.refl _ _).drew
  have HKP : Hid (∀ X, Below V5.drew.heap.size V5.drew X → X.cell? ⟨B, 0, none⟩ = some (.int .i64 m) ∧ X.cell? ⟨B, 1, none⟩ = some (.slice a2 K c2) ∧ X.cell? ⟨B5, 0, none⟩ = some (.int .i64 kk) ∧ X.cell? ⟨B5, 1, none⟩ = some (.slice a5 M5 c5)) := fun X h => HKQ.out X (hVd.trans (h.mono hVd.size))
  obtain ⟨r4, hr4⟩ := boolR_of (ModelL m ys kk Ss)
  have CK := hid (check_any m a2 c2 ys true kk a5 c5 Ss r4 V5.drew (by rw [← HK.out]; omega) (HG5.out.on hVd).at_ ⟨fun _ => HR.out, fun _ => rfl⟩ (by rw [← HM5.out]; omega) (fun S hS => Nat.le_trans (HEA.out S hS) (by decide)) (HMC5.out.1.on hVd).at_ hr4)
  rw [← HK.out, ← HM5.out] at CK
  have CRR : Hid (∀ X, Below V5.drew.heap.size V5.drew X → Calls Try.prog 21 #[.agg #[.int .i64 m, .slice a2 K c2], .agg #[.int .i64 kk, .slice a5 M5 c5]] X fun e w' => e = .returned (.bool r4) ∧ Below X.heap.size X w') := fun X hX => by
    have h := hVd.trans (hX.mono hVd.size)
    have := rcheck_any m a2 c2 ys true kk a5 c5 Ss r4 X (by rw [← HK.out]; omega) (HG5.out.on h).at_ ⟨fun _ => HR.out, fun _ => rfl⟩ (by rw [← HM5.out]; omega) (fun S hS => Nat.le_trans (HEA.out S hS) (by decide)) (HMC5.out.2.below h) hr4
    rw [← HK.out, ← HM5.out] at this
    exact this
  have hS := HKP.out V5.drew (Below.refl _ _)
  have HEND : Hid (∀ X, Below V5.drew.heap.size V5.drew X → Below b w X) := fun X h => (HK0.out X (HX5.out.trans ((hVd.trans (h.mono hVd.size)).mono HX5.out.size))).2.2.2.2
  clear hr4 hVd HKQ
  cases r4 with
  | false =>
    go_wp2_with fail
    refine wp_region_held_drew (S := (fun X => X.cell? ⟨B, 0, none⟩ = some (.int .i64 m) ∧ X.cell? ⟨B, 1, none⟩ = some (.slice a2 K c2) ∧ X.cell? ⟨B5, 0, none⟩ = some (.int .i64 kk) ∧ X.cell? ⟨B5, 1, none⟩ = some (.slice a5 M5 c5))) (by kernel_rfl) hS (fun hHeld => ?_)
    (refine takeW (i := 0) (dst := some 13) (v := ?_) rfl rfl (by kernel_rfl) (by kernel_rfl) (by kernel_rfl) (fun _ _ _ h => h) (Or.inl ⟨by rfl, ?_⟩) hHeld ?_; rotate_left; focus (intro w hSw; (try dsimp only at hSw); go_simp; (try with_reducible rfl); done))
    try simp only [Act.put, List.setIfInBounds_toArray, List.set_cons_zero, List.set_cons_succ]
    (refine takeW (i := 1) (dst := some 14) (v := ?_) rfl rfl (by kernel_rfl) (by kernel_rfl) (by kernel_rfl) (fun _ _ _ h => h) (Or.inl ⟨by rfl, ?_⟩) hHeld ?_; rotate_left; focus (intro w hSw; (try dsimp only at hSw); go_simp; (try with_reducible rfl); done))
    try simp only [Act.put, List.setIfInBounds_toArray, List.set_cons_zero, List.set_cons_succ]
    first | refine takeW (i := 2) (dst := some 15) (v := undef) rfl rfl (by kernel_rfl) (by kernel_rfl) (by kernel_rfl) (fun _ _ _ h => h) (Or.inr ⟨by rfl, rfl⟩) hHeld ?_ | (refine takeW (i := 2) (dst := some 15) (v := ?_) rfl rfl (by kernel_rfl) (by kernel_rfl) (by kernel_rfl) (fun _ _ _ h => h) (Or.inl ⟨by rfl, ?_⟩) hHeld ?_; rotate_left; focus (intro w hSw; (try dsimp only at hSw); go_simp; (try with_reducible rfl); done))
    try simp only [Act.put, List.setIfInBounds_toArray, List.set_cons_zero, List.set_cons_succ]
    first | refine takeW (i := 3) (dst := some 16) (v := undef) rfl rfl (by kernel_rfl) (by kernel_rfl) (by kernel_rfl) (fun _ _ _ h => h) (Or.inr ⟨by rfl, rfl⟩) hHeld ?_ | (refine takeW (i := 3) (dst := some 16) (v := ?_) rfl rfl (by kernel_rfl) (by kernel_rfl) (by kernel_rfl) (fun _ _ _ h => h) (Or.inl ⟨by rfl, ?_⟩) hHeld ?_; rotate_left; focus (intro w hSw; (try dsimp only at hSw); go_simp; (try with_reducible rfl); done))
    try simp only [Act.put, List.setIfInBounds_toArray, List.set_cons_zero, List.set_cons_succ]
    first | refine takeW (i := 5) (dst := some 18) (v := undef) rfl rfl (by kernel_rfl) (by kernel_rfl) (by kernel_rfl) (fun _ _ _ h => h) (Or.inr ⟨by rfl, rfl⟩) hHeld ?_ | (refine takeW (i := 5) (dst := some 18) (v := ?_) rfl rfl (by kernel_rfl) (by kernel_rfl) (by kernel_rfl) (fun _ _ _ h => h) (Or.inl ⟨by rfl, ?_⟩) hHeld ?_; rotate_left; focus (intro w hSw; (try dsimp only at hSw); go_simp; (try with_reducible rfl); done))
    try simp only [Act.put, List.setIfInBounds_toArray, List.set_cons_zero, List.set_cons_succ]
    first | refine takeW (i := 6) (dst := some 19) (v := undef) rfl rfl (by kernel_rfl) (by kernel_rfl) (by kernel_rfl) (fun _ _ _ h => h) (Or.inr ⟨by rfl, rfl⟩) hHeld ?_ | (refine takeW (i := 6) (dst := some 19) (v := ?_) rfl rfl (by kernel_rfl) (by kernel_rfl) (by kernel_rfl) (fun _ _ _ h => h) (Or.inl ⟨by rfl, ?_⟩) hHeld ?_; rotate_left; focus (intro w hSw; (try dsimp only at hSw); go_simp; (try with_reducible rfl); done))
    try simp only [Act.put, List.setIfInBounds_toArray, List.set_cons_zero, List.set_cons_succ]
    refine wpAnyH_ready (rs := [4]) (by kernel_rfl) (by simp) ?_
    refine AllReadyH.cons (o := _) rfl (fun KK hK => ?_) AllReadyH.nil
    go_simp
    refine CK.out.mono ?_
    rintro e y1 ⟨rfl, hb7⟩
    have HB7 := hid hb7
    have hS1 := HKP.out y1 hb7
    clear hb7
    refine hK.out _ _ hS1 (fun hHeld => ?_)
    clear hK KK
    try simp only [Act.put]
    try simp only [List.setIfInBounds_toArray]
    try simp only [List.set_cons_succ]
    try simp only [List.set_cons_zero]
    refine wpAnyH_ready (rs := [7]) (by kernel_rfl) (by simp) ?_
    refine AllReadyH.cons (o := _) rfl (fun KK hK => ?_) AllReadyH.nil
    go_simp
    refine (CRR.out y1 HB7.out).mono ?_
    rintro e y2 ⟨rfl, hb8⟩
    have HB8 : Hid (Below V5.drew.heap.size V5.drew y2) := HB7.out.trans (hb8.mono HB7.out.size)
    have hS2 := HKP.out y2 HB8.out
    clear hb8
    refine hK.out _ _ hS2 (fun hHeld => ?_)
    clear hK KK
    try simp only [Act.put]
    try simp only [List.setIfInBounds_toArray]
    try simp only [List.set_cons_succ]
    try simp only [List.set_cons_zero]
    first | refine takeW (i := 8) (dst := some 21) (v := undef) rfl rfl (by kernel_rfl) (by kernel_rfl) (by kernel_rfl) (fun _ _ _ h => h) (Or.inr ⟨by rfl, rfl⟩) hHeld ?_ | (refine takeW (i := 8) (dst := some 21) (v := ?_) rfl rfl (by kernel_rfl) (by kernel_rfl) (by kernel_rfl) (fun _ _ _ h => h) (Or.inl ⟨by rfl, ?_⟩) hHeld ?_; rotate_left; focus (intro w hSw; (try dsimp only at hSw); go_simp; (try with_reducible rfl); done))
    try simp only [Act.put, List.setIfInBounds_toArray, List.set_cons_zero, List.set_cons_succ]
    (refine takeW (i := 9) (dst := some 22) (v := ?_) rfl rfl (by kernel_rfl) (by kernel_rfl) (by kernel_rfl) (fun _ _ _ h => h) (Or.inl ⟨by rfl, ?_⟩) hHeld ?_; rotate_left; focus (intro w hSw; (try dsimp only at hSw); go_simp; (try with_reducible rfl); done))
    try simp only [Act.put, List.setIfInBounds_toArray, List.set_cons_zero, List.set_cons_succ]
    (refine takeW (i := 10) (dst := some 4) (v := ?_) rfl rfl (by kernel_rfl) (by kernel_rfl) (by kernel_rfl) (fun _ _ _ h => h) (Or.inl ⟨by rfl, ?_⟩) hHeld ?_; rotate_left; focus (intro w hSw; (try dsimp only at hSw); go_simp; (try with_reducible rfl); done))
    try simp only [Act.put]
    try simp only [List.setIfInBounds_toArray]
    try simp only [List.set_cons_succ]
    try simp only [List.set_cons_zero]
    refine wpAnyH_done (by kernel_rfl) ?_ _
    have HF := hid (HEND.out y2 HB8.out)
    clear hHeld hS hS1 hS2 CK CRR
    go_wp2
    go_ret
    exact ⟨rfl, by rw [← HBB0.out]; exact HF.out⟩
  | true =>
    go_wp2_with fail
    refine wp_region_held_drew (S := (fun X => X.cell? ⟨B, 0, none⟩ = some (.int .i64 m) ∧ X.cell? ⟨B, 1, none⟩ = some (.slice a2 K c2) ∧ X.cell? ⟨B5, 0, none⟩ = some (.int .i64 kk) ∧ X.cell? ⟨B5, 1, none⟩ = some (.slice a5 M5 c5))) (by kernel_rfl) hS (fun hHeld => ?_)
    (refine takeW (i := 0) (dst := some 13) (v := ?_) rfl rfl (by kernel_rfl) (by kernel_rfl) (by kernel_rfl) (fun _ _ _ h => h) (Or.inl ⟨by rfl, ?_⟩) hHeld ?_; rotate_left; focus (intro w hSw; (try dsimp only at hSw); go_simp; (try with_reducible rfl); done))
    try simp only [Act.put, List.setIfInBounds_toArray, List.set_cons_zero, List.set_cons_succ]
    (refine takeW (i := 1) (dst := some 14) (v := ?_) rfl rfl (by kernel_rfl) (by kernel_rfl) (by kernel_rfl) (fun _ _ _ h => h) (Or.inl ⟨by rfl, ?_⟩) hHeld ?_; rotate_left; focus (intro w hSw; (try dsimp only at hSw); go_simp; (try with_reducible rfl); done))
    try simp only [Act.put, List.setIfInBounds_toArray, List.set_cons_zero, List.set_cons_succ]
    first | refine takeW (i := 2) (dst := some 15) (v := undef) rfl rfl (by kernel_rfl) (by kernel_rfl) (by kernel_rfl) (fun _ _ _ h => h) (Or.inr ⟨by rfl, rfl⟩) hHeld ?_ | (refine takeW (i := 2) (dst := some 15) (v := ?_) rfl rfl (by kernel_rfl) (by kernel_rfl) (by kernel_rfl) (fun _ _ _ h => h) (Or.inl ⟨by rfl, ?_⟩) hHeld ?_; rotate_left; focus (intro w hSw; (try dsimp only at hSw); go_simp; (try with_reducible rfl); done))
    try simp only [Act.put, List.setIfInBounds_toArray, List.set_cons_zero, List.set_cons_succ]
    first | refine takeW (i := 3) (dst := some 16) (v := undef) rfl rfl (by kernel_rfl) (by kernel_rfl) (by kernel_rfl) (fun _ _ _ h => h) (Or.inr ⟨by rfl, rfl⟩) hHeld ?_ | (refine takeW (i := 3) (dst := some 16) (v := ?_) rfl rfl (by kernel_rfl) (by kernel_rfl) (by kernel_rfl) (fun _ _ _ h => h) (Or.inl ⟨by rfl, ?_⟩) hHeld ?_; rotate_left; focus (intro w hSw; (try dsimp only at hSw); go_simp; (try with_reducible rfl); done))
    try simp only [Act.put, List.setIfInBounds_toArray, List.set_cons_zero, List.set_cons_succ]
    first | refine takeW (i := 5) (dst := some 18) (v := undef) rfl rfl (by kernel_rfl) (by kernel_rfl) (by kernel_rfl) (fun _ _ _ h => h) (Or.inr ⟨by rfl, rfl⟩) hHeld ?_ | (refine takeW (i := 5) (dst := some 18) (v := ?_) rfl rfl (by kernel_rfl) (by kernel_rfl) (by kernel_rfl) (fun _ _ _ h => h) (Or.inl ⟨by rfl, ?_⟩) hHeld ?_; rotate_left; focus (intro w hSw; (try dsimp only at hSw); go_simp; (try with_reducible rfl); done))
    try simp only [Act.put, List.setIfInBounds_toArray, List.set_cons_zero, List.set_cons_succ]
    first | refine takeW (i := 6) (dst := some 19) (v := undef) rfl rfl (by kernel_rfl) (by kernel_rfl) (by kernel_rfl) (fun _ _ _ h => h) (Or.inr ⟨by rfl, rfl⟩) hHeld ?_ | (refine takeW (i := 6) (dst := some 19) (v := ?_) rfl rfl (by kernel_rfl) (by kernel_rfl) (by kernel_rfl) (fun _ _ _ h => h) (Or.inl ⟨by rfl, ?_⟩) hHeld ?_; rotate_left; focus (intro w hSw; (try dsimp only at hSw); go_simp; (try with_reducible rfl); done))
    try simp only [Act.put, List.setIfInBounds_toArray, List.set_cons_zero, List.set_cons_succ]
    refine wpAnyH_ready (rs := [4]) (by kernel_rfl) (by simp) ?_
    refine AllReadyH.cons (o := _) rfl (fun KK hK => ?_) AllReadyH.nil
    go_simp
    refine CK.out.mono ?_
    rintro e y1 ⟨rfl, hb7⟩
    have HB7 := hid hb7
    have hS1 := HKP.out y1 hb7
    clear hb7
    refine hK.out _ _ hS1 (fun hHeld => ?_)
    clear hK KK
    try simp only [Act.put]
    try simp only [List.setIfInBounds_toArray]
    try simp only [List.set_cons_succ]
    try simp only [List.set_cons_zero]
    refine wpAnyH_ready (rs := [7]) (by kernel_rfl) (by simp) ?_
    refine AllReadyH.cons (o := _) rfl (fun KK hK => ?_) AllReadyH.nil
    go_simp
    refine (CRR.out y1 HB7.out).mono ?_
    rintro e y2 ⟨rfl, hb8⟩
    have HB8 : Hid (Below V5.drew.heap.size V5.drew y2) := HB7.out.trans (hb8.mono HB7.out.size)
    have hS2 := HKP.out y2 HB8.out
    clear hb8
    refine hK.out _ _ hS2 (fun hHeld => ?_)
    clear hK KK
    try simp only [Act.put]
    try simp only [List.setIfInBounds_toArray]
    try simp only [List.set_cons_succ]
    try simp only [List.set_cons_zero]
    first | refine takeW (i := 8) (dst := some 21) (v := undef) rfl rfl (by kernel_rfl) (by kernel_rfl) (by kernel_rfl) (fun _ _ _ h => h) (Or.inr ⟨by rfl, rfl⟩) hHeld ?_ | (refine takeW (i := 8) (dst := some 21) (v := ?_) rfl rfl (by kernel_rfl) (by kernel_rfl) (by kernel_rfl) (fun _ _ _ h => h) (Or.inl ⟨by rfl, ?_⟩) hHeld ?_; rotate_left; focus (intro w hSw; (try dsimp only at hSw); go_simp; (try with_reducible rfl); done))
    try simp only [Act.put, List.setIfInBounds_toArray, List.set_cons_zero, List.set_cons_succ]
    (refine takeW (i := 9) (dst := some 22) (v := ?_) rfl rfl (by kernel_rfl) (by kernel_rfl) (by kernel_rfl) (fun _ _ _ h => h) (Or.inl ⟨by rfl, ?_⟩) hHeld ?_; rotate_left; focus (intro w hSw; (try dsimp only at hSw); go_simp; (try with_reducible rfl); done))
    try simp only [Act.put, List.setIfInBounds_toArray, List.set_cons_zero, List.set_cons_succ]
    (refine takeW (i := 10) (dst := some 4) (v := ?_) rfl rfl (by kernel_rfl) (by kernel_rfl) (by kernel_rfl) (fun _ _ _ h => h) (Or.inl ⟨by rfl, ?_⟩) hHeld ?_; rotate_left; focus (intro w hSw; (try dsimp only at hSw); go_simp; (try with_reducible rfl); done))
    try simp only [Act.put]
    try simp only [List.setIfInBounds_toArray]
    try simp only [List.set_cons_succ]
    try simp only [List.set_cons_zero]
    refine wpAnyH_done (by kernel_rfl) ?_ _
    have HF := hid (HEND.out y2 HB8.out)
    clear hHeld hS hS1 hS2 CK CRR
    go_wp2
    go_ret
    exact ⟨rfl, by rw [← HBB0.out]; exact HF.out⟩
end Go.Proofs.Ytlebimolgienkaa
