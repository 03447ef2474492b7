/-
  The law BlockCuts over any blocks that keep their contracts.
-/
import Derived.Test.YtplhpinaadgkkaaGreatB25
import Derived.Test.YtplhpinaadgkkaaGreatB26
import Derived.Test.YtplhpinaadgkkaaGreatB21
import Derived.Test.YtplhpinaadgkkaaGreatB04
namespace Go.Proofs.YtplhpinaadgkkaaGreat
open Go.RowKit Go.Lib

set_option maxHeartbeats 4000000 in
set_option maxRecDepth 100000 in
theorem blockCuts_law (O : BlockOps) (n : Int) (a : Option Addr) (len cap : Nat) (l : List (Int × Int)) (x : Int) (w : World) (hl : len = l.length) (hE : EAt w a l) :
    Calls Tryz.prog 3 #[.agg #[.int .i64 n, .slice a len cap], .int .i64 x] w fun e w' => e = .returned (.bool true) ∧ Below w.heap.size w w' := by
  have HO := hid O
  obtain ⟨W0, hW0⟩ := ex_eq (w.alloc (.cells #[.int .i64 n, .slice a len cap] 24))
  have hB0 : Below w.heap.size w W0 := by rw [hW0]; exact below_one _ _
  have hs0 : W0.heap.size = w.heap.size + 1 := by rw [hW0]; simp
  have HO0 : Hid (W0.heap[w.heap.size]? = some (.cells #[.int .i64 n, .slice a len cap] 24)) := by
    show _ = _
    rw [hW0]; exact heap_alloc_new _ _
  have HEX : Hid (∀ X, Below w.heap.size w X → EAt X a l) := fun X h => hE.below h
  have HL := hid hl
  have HW0 := hid hW0
  have HB0 := hid hB0
  clear O hl hE hW0 hB0
  go_enter Tryz.func3, Tryz.ntmps3
  go_wp2_with fail
  rw [← HW0.out]
  refine (bshown_any HO.out _).mono ?_
  rintro e w1 ⟨rfl, hb1⟩
  have hbw1 : Below w.heap.size w w1 := HB0.out.trans (hb1.mono (by omega))
  have o1 := (hb1.block w.heap.size (by omega)).trans HO0.out
  have x0 := cell_of_heap o1 0
  have x1 := cell_of_heap o1 1
  have CA := hid (net_any n a len cap l 40 w1 (by omega) HL.out (HEX.out w1 hbw1))
  have HB1 := hid hbw1
  clear hb1 hbw1 o1 HO0 hs0 HB0 HW0 HEX HL
  go_wp2_with fail
  refine CA.out.mono ?_
  rintro e w2 ⟨m, ys, a2, c2, rfl, hm30, hR, hys, hsl, hE2, hb2⟩
  obtain ⟨K, hK⟩ := ex_eq ys.length
  rw [← hK]
  have HK := hid hK
  obtain ⟨B, hBB⟩ := ex_eq w2.heap.size
  obtain ⟨V2, hV2⟩ := ex_eq (w2.alloc (.cells #[.int .i64 m, .slice a2 K c2] 26))
  have HG2 : Hid (GC V2 B m a2 K c2 ys) := by
    show GC V2 _ _ _ _ _ _
    rw [hV2, hBB]; exact gc_new7 hE2
  have HB2 : Hid (Below w.heap.size w V2) := by
    have h1 : Below w2.heap.size w2 V2 := by rw [hV2]; exact below_one _ _
    have h2 : Below w.heap.size w w2 := HB1.out.trans (hb2.mono HB1.out.size)
    exact h2.trans (h1.mono h2.size)
  have HV2 := hid hV2
  have HBB := hid hBB
  have HR := hid hR
  have HSL := hid hsl
  have hK3 : K ≤ 300 := by omega
  clear hK hV2 hE2 hb2 hR hys hsl CA x0 x1 HB1 hBB
  go_upto_region 3 with fail
  rw [← HV2.out, ← HBB.out]
  clear HV2 HBB
  obtain ⟨g0, g1⟩ := HG2.out.cells
  by_cases hm0 : m = 0
  · subst hm0
    go_wp2
    go_ret
    exact ⟨rfl, HB2.out⟩
  have hm3 : ((m : Int) == 0) = false := beq_eq_false_iff_ne.2 (by omega)
  have hm5 : ¬ (m : Int) = 0 := by omega
  obtain ⟨p, hp, hpm⟩ := rnd_of x (m := m) (by omega)
  obtain ⟨m1, hm1⟩ : ∃ m1 : Nat, m = m1 + 1 := ⟨m - 1, by omega⟩
  have HM1 := hid hm1
  have C4 := hid (sub_del_any m a2 c2 ys p true V2 (by rw [← HK.out]; omega) HG2.out.at_ ⟨fun _ => HR.out, fun _ => rfl⟩)
  rw [← HK.out] at C4
  clear hm1
  go_wp2_with fail
  refine C4.out.mono ?_
  rintro e w5 ⟨v5, rfl, er, N5, E, a5, c5, rfl, hdel, hsl5, hE5, hb5⟩
  obtain ⟨rfl, rfl, hind, hRE⟩ := del_ok hdel HR.out hpm HM1.out
  obtain ⟨Z, hZ⟩ := ex_eq E.length
  rw [← hZ]
  have HZ := hid hZ
  have HRE := hid hRE
  have HIND := hid hind
  have hZ3 : Z ≤ 4000 := by rw [hZ]; exact hRE.2.2.1
  obtain ⟨V5, hV5⟩ := ex_eq (w5.alloc (.cells #[.int .i64 m1, .slice a5 Z c5] 26))
  obtain ⟨H5, hH5⟩ := ex_eq w5.heap.size
  have HG5 : Hid (GC V5 H5 m1 a5 Z c5 E) := by
    show GC _ _ _ _ _ _ _
    rw [hV5, hH5]; exact gc_new7 hE5
  have hb25 : Below V2.heap.size V2 V5 := by rw [hV5]; exact hb5.alloc hb5.size _
  have HG5' := hid (HG2.out.on hb25)
  have HB5 : Hid (Below w.heap.size w V5) := HB2.out.trans (hb25.mono HB2.out.size)
  have HV5 := hid hV5
  have HH5 := hid hH5
  obtain ⟨f, hf, tf⟩ := tells_ex (n := m) (prsN ys) (prsN_in HR.out)
  obtain ⟨fh, hh, th⟩ := tells_ex (n := m1) (prsN E) (prsN_in hRE)
  have CP : Hid (∀ X, GC X H5 m1 a5 Z c5 E → Calls Tryz.prog 7 #[.agg #[.int .i64 m1, .slice a5 Z c5]] X fun e w' => ∃ v, e = .returned v ∧ PCompS X w' v (classesF m1 fh)) := fun X hX => by
    have := pofS_any m1 a5 c5 E true fh X (by rw [← HZ.out]; omega) hX.at_ ⟨fun _ => HRE.out, fun _ => rfl⟩ (fun _ => ⟨hh, th⟩)
    rw [if_pos rfl, ← HZ.out] at this
    exact this
  have CQ : Hid (∀ X, GC X B m a2 K c2 ys → Calls Tryz.prog 7 #[.agg #[.int .i64 m, .slice a2 K c2]] X fun e w' => ∃ v, e = .returned v ∧ PCompS X w' v (classesF m f)) := fun X hX => by
    have := pofS_any m a2 c2 ys true f X (by rw [← HK.out]; omega) hX.at_ ⟨fun _ => HR.out, fun _ => rfl⟩ (fun _ => ⟨hf, tf⟩)
    rw [if_pos rfl, ← HK.out] at this
    exact this
  obtain ⟨R1, hR1⟩ := ex_eq (classesF m1 fh).length
  obtain ⟨R0, hR0⟩ := ex_eq (classesF m f).length
  have HR1 := hid hR1
  have HR0 := hid hR0
  have hR1m : R1 ≤ 40 := by rw [hR1, classesF_len]; have := reps_len m1 fh; have := HM1.out; omega
  have hR0m : R0 ≤ 40 := by rw [hR0, classesF_len]; have := reps_len m f; omega
  have HCC : Hid (∀ Bs, BlocksL ys Bs → R0 + (atL Bs p).length = R1 + 1) := fun Bs hB => by
    rw [hR0, hR1, classesF_len, classesF_len]
    exact cut_count HM1.out hpm HR.out HRE.out HIND.out hh th hf tf hB
  clear hZ hdel hsl5 hE5 hb5 hRE hind hV5 hH5 C4 g0 g1 hb25 hf tf hh th hR1 hR0 hp
  go_upto_region 7 with fail
  rw [← HV5.out, ← HH5.out]
  clear HV5 HH5
  obtain ⟨k0, k1⟩ := HG5'.out.cells
  obtain ⟨h0, h1⟩ := HG5.out.cells
  have HGd := hid (HG5'.out.on (Below.refl _ V5).drew)
  have HHd := hid (HG5.out.on (Below.refl _ V5).drew)
  have HBd : Hid (Below w.heap.size w V5.drew) := HB5.out.drew
  have HSS : Hid (∀ X, Below V5.drew.heap.size V5.drew X → X.cell? ⟨B, 0, none⟩ = some (.int .i64 m) ∧ X.cell? ⟨B, 1, none⟩ = some (.slice a2 K c2) ∧ X.cell? ⟨H5, 0, none⟩ = some (.int .i64 m1) ∧ X.cell? ⟨H5, 1, none⟩ = some (.slice a5 Z c5)) := fun X h =>
    ⟨(h.cell (p := ⟨B, 0, none⟩) (block_lt_of_cell k0)).trans k0, (h.cell (p := ⟨B, 1, none⟩) (block_lt_of_cell k1)).trans k1, (h.cell (p := ⟨H5, 0, none⟩) (block_lt_of_cell h0)).trans h0, (h.cell (p := ⟨H5, 1, none⟩) (block_lt_of_cell h1)).trans h1⟩
  have hS := HSS.out V5.drew (Below.refl _ _)
  obtain ⟨D, hD⟩ := ex_eq ((R1 : Int) - (R0 : Int))
  have r1 : IntKind.i64.wrap ((R1 : Int) - (R0 : Int)) = D := by rw [hD, IntKind.wrap_i64]; omega
  have HD := hid hD
  clear hD
  clear HG2 HB2 HB5 HG5 HG5'
  refine wp_region_held_drew (S := (fun X => X.cell? ⟨B, 0, none⟩ = some (.int .i64 m) ∧ X.cell? ⟨B, 1, none⟩ = some (.slice a2 K c2) ∧ X.cell? ⟨H5, 0, none⟩ = some (.int .i64 m1) ∧ X.cell? ⟨H5, 1, none⟩ = some (.slice a5 Z c5))) (by kernel_rfl) hS (fun hHeld => ?_)
  (refine takeW (i := 0) (dst := some 31) (v := ?_) rfl rfl (by kernel_rfl) (by kernel_rfl) (by kernel_rfl) (fun _ _ _ h => h) (Or.inl ⟨by rfl, ?_⟩) hHeld ?_; rotate_left; focus (intro w hSw; (try dsimp only at hSw); go_simp; (try with_reducible rfl); done))
  try simp only [Act.put, List.setIfInBounds_toArray, List.set_cons_zero, List.set_cons_succ]
  (refine takeW (i := 3) (dst := some 34) (v := ?_) rfl rfl (by kernel_rfl) (by kernel_rfl) (by kernel_rfl) (fun _ _ _ h => h) (Or.inl ⟨by rfl, ?_⟩) hHeld ?_; rotate_left; focus (intro w hSw; (try dsimp only at hSw); go_simp; (try with_reducible rfl); done))
  try simp only [Act.put, List.setIfInBounds_toArray, List.set_cons_zero, List.set_cons_succ]
  refine wpAnyH_ready (rs := [1]) (by kernel_rfl) (by simp) ?_
  refine AllReadyH.cons (o := _) rfl (fun KK hK => ?_) AllReadyH.nil
  go_simp
  refine (CP.out _ HHd.out).mono ?_
  rintro e y1 ⟨v6, rfl, a6, c6, rfl, _, hb⟩
  have hS1 := HSS.out y1 hb
  have HB6 : Hid (Below w.heap.size w y1) := HBd.out.trans (hb.mono HBd.out.size)
  have HG6 := hid (HGd.out.on hb)
  have HX1 := hid hb
  rw [← HR1.out]
  clear hb HGd HHd HBd
  refine hK.out _ _ hS1 (fun hHeld => ?_)
  clear hK KK
  try simp only [Act.put]
  try simp only [List.setIfInBounds_toArray]
  try simp only [List.set_cons_succ]
  try simp only [List.set_cons_zero]
  (refine takeW (i := 2) (dst := some 33) (v := ?_) rfl rfl (by kernel_rfl) (by kernel_rfl) (by kernel_rfl) (fun _ _ _ h => h) (Or.inl ⟨by rfl, ?_⟩) hHeld ?_; rotate_left; focus (intro w hSw; (try dsimp only at hSw); go_simp; (try with_reducible rfl); done))
  try simp only [Act.put, List.setIfInBounds_toArray, List.set_cons_zero, List.set_cons_succ]
  refine wpAnyH_ready (rs := [4]) (by kernel_rfl) (by simp) ?_
  refine AllReadyH.cons (o := _) rfl (fun KK hK => ?_) AllReadyH.nil
  go_simp
  refine (CQ.out _ HG6.out).mono ?_
  rintro e y2 ⟨v7, rfl, a7, c7, rfl, _, hb⟩
  have hS2 := HSS.out y2 (HX1.out.trans (hb.mono HX1.out.size))
  have HB7 : Hid (Below w.heap.size w y2) := HB6.out.trans (hb.mono HB6.out.size)
  have HG7 := hid (HG6.out.on hb)
  rw [← HR0.out]
  clear hb HG6 HB6 HX1
  refine hK.out _ _ hS2 (fun hHeld => ?_)
  clear hK KK
  try simp only [Act.put]
  try simp only [List.setIfInBounds_toArray]
  try simp only [List.set_cons_succ]
  try simp only [List.set_cons_zero]
  (refine takeW (i := 5) (dst := some 36) (v := ?_) rfl rfl (by kernel_rfl) (by kernel_rfl) (by kernel_rfl) (fun _ _ _ h => h) (Or.inl ⟨by rfl, ?_⟩) hHeld ?_; rotate_left; focus (intro w hSw; (try dsimp only at hSw); go_simp; (try with_reducible rfl); done))
  try simp only [Act.put, List.setIfInBounds_toArray, List.set_cons_zero, List.set_cons_succ]
  (refine takeW (i := 6) (dst := some 37) (v := ?_) rfl rfl (by kernel_rfl) (by kernel_rfl) (by kernel_rfl) (fun _ _ _ h => h) (Or.inl ⟨by rfl, ?_⟩) hHeld ?_; rotate_left; focus (intro w hSw; (try dsimp only at hSw); go_simp; (try with_reducible rfl); done))
  try simp only [Act.put, List.setIfInBounds_toArray, List.set_cons_zero, List.set_cons_succ]
  (refine takeW (i := 7) (dst := some 9) (v := ?_) rfl rfl (by kernel_rfl) (by kernel_rfl) (by kernel_rfl) (fun _ _ _ h => h) (Or.inl ⟨by rfl, ?_⟩) hHeld ?_; rotate_left; focus (intro w hSw; (try dsimp only at hSw); go_simp; (try with_reducible rfl); done))
  try simp only [Act.put]
  try simp only [List.setIfInBounds_toArray]
  try simp only [List.set_cons_succ]
  try simp only [List.set_cons_zero]
  refine wpAnyH_done (by kernel_rfl) ?_ _
  clear hHeld hS hS1 hS2 HSS CP CQ k0 k1 h0 h1
  obtain ⟨k0, k1⟩ := HG7.out.cells
  have C3 := hid (HO.out.of m a2 c2 ys true y2 (by rw [← HK.out]; omega) HG7.out.at_ ⟨fun _ => HR.out, fun _ => rfl⟩)
  rw [← HK.out] at C3
  go_wp2_with fail
  refine C3.out.mono ?_
  rintro e w3 ⟨v3, rfl, Cs3, Bs3, ca3, cc3, ba3, bc3, rfl, hrel, hca, hba, hb3⟩
  obtain ⟨Q3, hQ⟩ := ex_eq Cs3.length
  obtain ⟨P3, hP⟩ := ex_eq Bs3.length
  rw [← hQ, ← hP]
  have HQ3 := hid hQ
  have HP3 := hid hP
  obtain ⟨T3, hT⟩ := ex_eq w3.heap.size
  obtain ⟨V3, hV⟩ := ex_eq (w3.alloc (.cells #[.slice ca3 Q3 cc3, .slice ba3 P3 bc3] 35))
  have HT3 : Hid (TC V3 T3 ca3 Q3 cc3 ba3 P3 bc3 Cs3 Bs3) := by
    show TC _ _ _ _ _ _ _ _ _ _
    rw [hV, hT]; exact tc_new hca hba
  have hbx : Below y2.heap.size y2 V3 := by
    have h1 : Below w3.heap.size w3 V3 := by rw [hV]; exact below_one _ _
    exact hb3.trans (h1.mono hb3.size)
  have HLN3 : Hid (Bs3.length ≤ 1000 ∧ (∀ B ∈ Bs3, B.length ≤ 1000) ∧ Cs3.length ≤ 1000) := hrel.len
  have hPl3 : P3 ≤ 1000 := by rw [hP]; exact HLN3.out.1
  have HRel3 := hid hrel
  have HB3 : Hid (Below w.heap.size w V3) := HB7.out.trans (hbx.mono HB7.out.size)
  have HX3 := hid hbx
  have HV3 := hid hV
  have HTT3 := hid hT
  clear hQ hP hT hV hca hba hb3 hrel hbx C3 k0 k1
  go_upto_region 9 with fail
  rw [← HV3.out, ← HTT3.out]
  clear HV3 HTT3
  have HG8 := hid (HG7.out.on HX3.out)
  have hBC : BlocksL ys Bs3 ∧ CutsL ys Cs3 := by
    rcases HRel3.out with ⟨_, h⟩ | ⟨h, _⟩
    · exact h
    · exact absurd HR.out h
  have hcc := HCC.out Bs3 hBC.1
  obtain ⟨I, hI⟩ := ex_eq (atL Bs3 p).length
  have HBC := hid hBC
  have hIm : I ≤ 1000 := by
    rw [hI]
    have := HLN3.out.1
    unfold atL
    exact Nat.le_trans (List.length_filter_le _ _) this
  rw [← hI] at hcc
  have HI := hid hI
  clear hBC hI HX3 HRel3 HG7 HCC
  obtain ⟨cnt, hcnt⟩ := ex_eq (fun k : Nat => (atL (Bs3.take k) (p : Int)).length)
  have HC0 : Hid (cnt 0 = 0) := by show _ = _; rw [hcnt]; rfl
  have HCN : Hid (∀ k (h : k < Bs3.length), cnt (k + 1) = cnt k + (if (p : Int) ∈ Bs3[k] then 1 else 0)) := fun k h => by rw [hcnt]; exact at_next h
  have HCP : Hid (cnt P3 = I) := by show _ = _; rw [hcnt, HP3.out, HI.out]; simp
  have HCB : Hid (∀ k, cnt k ≤ 1000) := fun k => by
    rw [hcnt]
    have := HLN3.out.1
    unfold atL
    refine Nat.le_trans (List.length_filter_le _ _) (Nat.le_trans ?_ this)
    rw [List.length_take]; omega
  clear hcnt
  go_wp2
  go_loopw [11, 12] (fun s i wz => ∃ t : Nat, t ≤ P3 ∧ i = .int .i64 t ∧ s = .int .i64 (cnt t : Nat) ∧ wz = V3) (fun _ i _ => P3 - (RowKit.intOf i).toNat)
  case atStart => exact ⟨0, Nat.zero_le _, rfl, by rw [HC0.out]; rfl, rfl⟩
  case round =>
    obtain ⟨t, ht, rfl, rfl, rfl⟩ := hrel
    have t1 := HT3.out.c1
    by_cases hlt : t < P3
    · have hkr : t < Bs3.length := by rw [← HP3.out]; exact hlt
      obtain ⟨g, off, ak, ck, rfl, e1, hIr⟩ := HT3.out.lb.at hkr
      have hn := HCN.out t hkr
      have hN1 := HLN3.out.2.1 _ (List.getElem_mem hkr)
      obtain ⟨R, hRr⟩ := ex_eq Bs3[t]
      rw [← hRr] at e1 hIr hn hN1
      obtain ⟨N, hN⟩ := ex_eq R.length
      rw [← hN] at e1 hN1
      obtain ⟨ra, hra⟩ := ex_eq (decide ((p : Int) ∈ R))
      have C1 : Hid (Calls Tryz.prog 9 #[.slice ak N ck, .int .i64 p] wr fun e w' => e = .returned (.bool ra) ∧ w' = wr) := by
        show Calls _ _ _ _ _
        rw [hra, hN]; exact in_any ak ck R p wr (by omega) hIr
      have hcb := HCB.out t
      have q2 : (t : Int) < (P3 : Int) := by omega
      obtain ⟨c, hc⟩ := ex_eq (cnt t)
      rw [← hc] at hn hcb
      have HN2 := hid hn
      have HRA := hid hra
      rw [← hc]
      clear hn hRr hN hra hIr hkr hc
      cases ra with
      | false =>
        have HV : Hid (Value.int .i64 (c : Int) = .int .i64 (cnt (t + 1) : Nat)) := by
          show _ = _
          rw [HN2.out, if_neg (of_decide_eq_false HRA.out.symm)]; rfl
        go_wp2_with fail
        refine C1.out.mono ?_
        rintro e w7 ⟨rfl, rfl⟩
        go_wp2
        go_roundw
        case rel => exact ⟨t + 1, by omega, by go_num, HV.out, trivial⟩
        case measure => simp [RowKit.intOf]; omega
      | true =>
        have HV : Hid (Value.int .i64 ((c : Int) + 1) = .int .i64 (cnt (t + 1) : Nat)) := by
          show _ = _
          rw [HN2.out, if_pos (of_decide_eq_true HRA.out.symm)]; rfl
        have q3 : IntKind.i64.wrap ((c : Int) + 1) = (c : Int) + 1 := by rw [IntKind.wrap_i64]; omega
        go_wp2_with fail
        refine C1.out.mono ?_
        rintro e w7 ⟨rfl, rfl⟩
        go_wp2
        go_roundw
        case rel => exact ⟨t + 1, by omega, by go_num, HV.out, trivial⟩
        case measure => simp [RowKit.intOf]; omega
    · obtain rfl : t = P3 := by omega
      rw [HCP.out]
      have c0 := HT3.out.c0
      obtain ⟨ra, hra⟩ := ex_eq (decide ((p : Int) ∈ Cs3))
      have C1 : Hid (Calls Tryz.prog 9 #[.slice ca3 Q3 cc3, .int .i64 p] wr fun e w' => e = .returned (.bool ra) ∧ w' = wr) := by
        show Calls _ _ _ _ _
        rw [hra, HQ3.out]; exact in_any ca3 cc3 Cs3 p wr (by have := HLN3.out.2.2; omega) HT3.out.ic
      obtain ⟨L, hLl⟩ := ex_eq (nbL (p : Int) ys).length
      have C2 : Hid (Calls Tryz.prog 10 #[.agg #[.int .i64 m, .slice a2 K c2], .int .i64 p] wr fun e w' => ∃ a' cap', e = .returned (.slice a' L cap') ∧ Below wr.heap.size wr w') := by
        show Calls _ _ _ _ _
        rw [hLl, HK.out]
        refine (near_any m a2 c2 ys p true (nbL (p : Int) ys) wr (by rw [← HK.out]; omega) HG8.out.at_ ⟨fun _ => HR.out, fun _ => rfl⟩ (by rw [if_pos rfl])).mono ?_
        rintro e w' ⟨a', cap', h1, _, h3⟩
        exact ⟨a', cap', h1, h3⟩
      have hD := HD.out
      have q1 : (ra == decide (D > 0)) = true := by
        have h1 := at_cut (v := p) HR.out HBC.out.1 HBC.out.2
        rw [← HI.out] at h1
        have h2 : ra = decide (D > 0) := by
          rw [hra]
          apply decide_eq_decide.2
          rw [h1]
          omega
        rw [h2]; simp
      have q1' : (ra == decide ((0 : Int) < D)) = true := q1
      have r2 : IntKind.i64.wrap (D + 1) = D + 1 := by rw [IntKind.wrap_i64]; omega
      have q2 : ((I : Int) == D + 1) = true := by simp only [beq_iff_eq]; omega
      have q3 : (((I : Int) == 0) == ((L : Int) == 0)) = true := by
        have h1 := at_none (v := p) HR.out HBC.out.1
        have h2 : I = 0 ↔ L = 0 := by
          rw [HI.out, hLl, List.length_eq_zero_iff, List.length_eq_zero_iff]; exact h1
        by_cases e : I = 0
        · rw [e, h2.1 e]; rfl
        · have e2 : ¬ L = 0 := fun k => e (h2.2 k)
          have b1 : ((I : Int) == 0) = false := beq_eq_false_iff_ne.2 (by omega)
          have b2 : ((L : Int) == 0) = false := beq_eq_false_iff_ne.2 (by omega)
          rw [b1, b2]; rfl
      obtain ⟨k0, k1⟩ := HG8.out.cells
      have HB8 := HB3
      clear hra hLl hD
      go_wp2_with fail
      refine C1.out.mono ?_
      rintro e w7 ⟨rfl, rfl⟩
      go_wp2_with fail
      refine C2.out.mono ?_
      rintro e w9 ⟨a9, c9, rfl, hb9⟩
      have HB9 : Hid (Below w.heap.size w w9) := HB8.out.trans (hb9.mono HB8.out.size)
      clear hb9 k0 k1 c0 t1
      go_wp2
      go_ret
      exact ⟨rfl, HB9.out⟩
end Go.Proofs.YtplhpinaadgkkaaGreat
