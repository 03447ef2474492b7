/-
  The law BlockCounts over any blocks that keep their contracts.
-/
import Derived.Test.YtplhpinaadgkkaaB26
namespace Go.Proofs.Ytplhpinaadgkkaa
open Go.RowKit Go.Lib

set_option maxHeartbeats 4000000 in
set_option maxRecDepth 100000 in
theorem blockCounts_law (O : BlockOps) (n : Int) (a : Option Addr) (len cap : Nat) (l : List (Int × Int)) (w : World) (hl : len = l.length) (hE : EAt w a l) :
    Calls Try.prog 6 #[.agg #[.int .i64 n, .slice a len cap]] w fun e w' => e = .returned (.bool true) ∧ Below w.heap.size w w' := by
  have HO := hid O
  obtain ⟨W0, hW0⟩ := ex_eq (w.alloc (.cells #[.int .i64 n, .slice a len cap] 24))
  have hB0 : Below w.heap.size w W0 := by rw [hW0]; exact below_one _ _
  have hs0 : W0.heap.size = w.heap.size + 1 := by rw [hW0]; simp
  have HO0 : Hid (W0.heap[w.heap.size]? = some (.cells #[.int .i64 n, .slice a len cap] 24)) := by
    show _ = _
    rw [hW0]; exact heap_alloc_new _ _
  have HEX : Hid (∀ X, Below w.heap.size w X → EAt X a l) := fun X h => hE.below h
  have HL := hid hl
  have HW0 := hid hW0
  have HB0 := hid hB0
  clear O hl hE hW0 hB0
  go_enter Try.func6, Try.ntmps6
  go_wp2_with fail
  rw [← HW0.out]
  refine (bshown_any HO.out _).mono ?_
  rintro e w1 ⟨rfl, hb1⟩
  have hbw1 : Below w.heap.size w w1 := HB0.out.trans (hb1.mono (by omega))
  have o1 := (hb1.block w.heap.size (by omega)).trans HO0.out
  have x0 := cell_of_heap o1 0
  have x1 := cell_of_heap o1 1
  have CA := hid (net_any n a len cap l 40 w1 (by omega) HL.out (HEX.out w1 hbw1))
  have HB1 := hid hbw1
  clear hb1 hbw1 o1 HO0 hs0 HB0 HW0 HEX HL
  go_wp2_with fail
  refine CA.out.mono ?_
  rintro e w2 ⟨m, ys, a2, c2, rfl, hm30, hR, hys, hsl, hE2, hb2⟩
  obtain ⟨K, hK⟩ := ex_eq ys.length
  rw [← hK]
  have HK := hid hK
  obtain ⟨B, hBB⟩ := ex_eq w2.heap.size
  obtain ⟨V2, hV2⟩ := ex_eq (w2.alloc (.cells #[.int .i64 m, .slice a2 K c2] 26))
  have HG2 : Hid (GC V2 B m a2 K c2 ys) := by
    show GC V2 _ _ _ _ _ _
    rw [hV2, hBB]; exact gc_new7 hE2
  have HB2 : Hid (Below w.heap.size w V2) := by
    have h1 : Below w2.heap.size w2 V2 := by rw [hV2]; exact below_one _ _
    have h2 : Below w.heap.size w w2 := HB1.out.trans (hb2.mono HB1.out.size)
    exact h2.trans (h1.mono h2.size)
  have HV2 := hid hV2
  have HBB := hid hBB
  have HR := hid hR
  have HSL := hid hsl
  have hK3 : K ≤ 300 := by omega
  clear hK hV2 hE2 hb2 hR hys hsl CA x0 x1 HB1 hBB
  go_upto_region 3 with fail
  rw [← HV2.out, ← HBB.out]
  clear HV2 HBB
  obtain ⟨g0, g1⟩ := HG2.out.cells
  have C3 := hid (HO.out.of m a2 c2 ys true V2 (by rw [← HK.out]; omega) HG2.out.at_ ⟨fun _ => HR.out, fun _ => rfl⟩)
  rw [← HK.out] at C3
  go_wp2_with fail
  refine C3.out.mono ?_
  rintro e w3 ⟨v3, rfl, Cs3, Bs3, ca3, cc3, ba3, bc3, rfl, hrel, hca, hba, hb3⟩
  obtain ⟨Q3, hQ⟩ := ex_eq Cs3.length
  obtain ⟨P3, hP⟩ := ex_eq Bs3.length
  rw [← hQ, ← hP]
  have HQ3 := hid hQ
  have HP3 := hid hP
  obtain ⟨T3, hT⟩ := ex_eq w3.heap.size
  obtain ⟨V3, hV⟩ := ex_eq (w3.alloc (.cells #[.slice ca3 Q3 cc3, .slice ba3 P3 bc3] 31))
  have HT3 : Hid (TC V3 T3 ca3 Q3 cc3 ba3 P3 bc3 Cs3 Bs3) := by
    show TC _ _ _ _ _ _ _ _ _ _
    rw [hV, hT]; exact tc_new hca hba
  have hbx : Below V2.heap.size V2 V3 := by
    have h1 : Below w3.heap.size w3 V3 := by rw [hV]; exact below_one _ _
    exact hb3.trans (h1.mono hb3.size)
  have HLN3 : Hid (Bs3.length ≤ 1000 ∧ (∀ B ∈ Bs3, B.length ≤ 1000) ∧ Cs3.length ≤ 1000) := hrel.len
  have hPl3 : P3 ≤ 1000 := by rw [hP]; exact HLN3.out.1
  have HRel3 := hid hrel
  have HB3 : Hid (Below w.heap.size w V3) := HB2.out.trans (hbx.mono HB2.out.size)
  have HX3 := hid hbx
  have HV3 := hid hV
  have HTT3 := hid hT
  clear hQ hP hT hV hca hba hb3 hrel hbx C3 g0 g1
  go_upto_region 4 with fail
  rw [← HV3.out, ← HTT3.out]
  clear HV3 HTT3
  have HG3 := hid (HG2.out.on HX3.out)
  have hBC : BlocksL ys Bs3 := by
    rcases HRel3.out with ⟨_, h, _⟩ | ⟨h, _⟩
    · exact h
    · exact absurd HR.out h
  obtain ⟨S, hS⟩ := ex_eq (fun t : Nat => ((Bs3.take t).map (fun B => B.length - 1)).sum)
  have hS0 : S 0 = 0 := by rw [hS]; rfl
  have HSN : Hid (∀ t (h : t < Bs3.length), S (t + 1) = S t + (Bs3[t].length - 1)) := fun t h => by
    rw [hS]
    simp only
    rw [← List.take_append_getElem h, List.map_append, List.sum_append]
    simp
  have HSB : Hid (∀ t, S t ≤ m) := fun t => by
    obtain ⟨g, hg, hT⟩ := tells_ex (n := m) (prsN ys) (prsN_in HR.out)
    have h := block_count HR.out hBC hg hT
    have h2 : S t ≤ (Bs3.map (fun B => B.length - 1)).sum := by
      rw [hS]
      simp only
      have h3 : Bs3 = Bs3.take t ++ Bs3.drop t := (List.take_append_drop t Bs3).symm
      have h4 : (Bs3.map (fun B => B.length - 1)).sum = ((Bs3.take t).map (fun B => B.length - 1)).sum + ((Bs3.drop t).map (fun B => B.length - 1)).sum := by
        conv => lhs; rw [h3, List.map_append, List.sum_append]
      omega
    omega
  have HSP : Hid (S P3 = (Bs3.map (fun B => B.length - 1)).sum) := by
    show _ = _
    rw [hS, HP3.out]
    simp only [List.take_length]
  have HBC := hid hBC
  clear hBC hS HG2 HX3
  go_wp2
  go_loopw [6, 7] (fun s i wz => ∃ t : Nat, t ≤ P3 ∧ i = .int .i64 t ∧ s = .int .i64 (S t : Nat) ∧ Hid (TC wz T3 ca3 Q3 cc3 ba3 P3 bc3 Cs3 Bs3) ∧ Hid (GC wz B m a2 K c2 ys) ∧ Hid (Below w.heap.size w wz)) (fun _ i _ => P3 - (RowKit.intOf i).toNat)
  case atStart => exact ⟨0, Nat.zero_le _, rfl, by rw [hS0]; rfl, HT3, HG3, HB3⟩
  case round =>
    obtain ⟨t, ht, rfl, rfl, htc, hgc, hbw⟩ := hrel
    obtain ⟨g0, g1⟩ := hgc.out.cells
    have t1 := htc.out.c1
    by_cases hlt : t < P3
    · have hkr : t < Bs3.length := by rw [← HP3.out]; exact hlt
      obtain ⟨g, off, ak, ck, rfl, e1, hI⟩ := htc.out.lb.at hkr
      have hblk := (HBC.out.is _).1 (List.getElem_mem hkr)
      have hsn := HSN.out t hkr
      obtain ⟨L, hL⟩ := ex_eq Bs3[t].length
      have hL1 : L ≤ 1000 := by rw [hL]; exact HLN3.out.2.1 _ (List.getElem_mem hkr)
      have hL2 : 2 ≤ L := by rw [hL]; exact blk_two HR.out hblk
      rw [← hL] at e1 hsn
      have htw := blk_twoL HR.out hblk
      have CT : Hid (∀ X, GC X B m a2 K c2 ys → IAt X ak Bs3[t] → Calls Try.prog 15 #[.agg #[.int .i64 m, .slice a2 K c2], .slice ak L ck] X fun e w' => e = .returned (.bool true) ∧ Below X.heap.size X w') := fun X hX hIX => by
        rw [HK.out, hL]
        exact HO.out.two m a2 c2 ys ak ck Bs3[t] true true X (by rw [← HK.out]; omega) (by omega) hX.at_ hIX ⟨fun _ => HR.out, fun _ => rfl⟩ ⟨fun _ => ⟨HR.out, htw⟩, fun _ => rfl⟩
      have q1 : (t : Int) < (P3 : Int) := by omega
      have HTd := hid (htc.out.on (Below.refl _ wr).drew)
      have HGd := hid (hgc.out.on (Below.refl _ wr).drew)
      have HId := hid (hI.below (Below.refl _ wr).drew)
      have HBd : Hid (Below w.heap.size w wr.drew) := hbw.out.drew
      have HSS : Hid (∀ X, Below wr.drew.heap.size wr.drew X → X.cell? ⟨B, 0, none⟩ = some (.int .i64 m) ∧ X.cell? ⟨B, 1, none⟩ = some (.slice a2 K c2) ∧ X.cell? ⟨T3, 1, none⟩ = some (.slice (some ⟨g, off, none⟩) P3 bc3) ∧ X.cell? ⟨g, off + t, none⟩ = some (.slice ak L ck)) := fun X h =>
        ⟨(h.cell (p := ⟨B, 0, none⟩) (block_lt_of_cell g0)).trans g0, (h.cell (p := ⟨B, 1, none⟩) (block_lt_of_cell g1)).trans g1, (h.cell (p := ⟨T3, 1, none⟩) (block_lt_of_cell t1)).trans t1, (h.cell (p := ⟨g, off + t, none⟩) (block_lt_of_cell e1)).trans e1⟩
      have hS := HSS.out wr.drew (Below.refl _ _)
      have HSn := hid hsn
      have hsb := HSB.out t
      have hsb2 := HSB.out (t + 1)
      clear hL hblk htw hsn hI htc hgc hbw
      go_wp2_with fail
      refine wp_region_held_drew (S := (fun X => X.cell? ⟨B, 0, none⟩ = some (.int .i64 m) ∧ X.cell? ⟨B, 1, none⟩ = some (.slice a2 K c2) ∧ X.cell? ⟨T3, 1, none⟩ = some (.slice (some ⟨g, off, none⟩) P3 bc3) ∧ X.cell? ⟨g, off + t, none⟩ = some (.slice ak L ck))) (by kernel_rfl) hS (fun hHeld => ?_)
      (refine takeW (i := 0) (dst := some 20) (v := ?_) rfl rfl (by kernel_rfl) (by kernel_rfl) (by kernel_rfl) (fun _ _ _ h => h) (Or.inl ⟨by rfl, ?_⟩) hHeld ?_; rotate_left; focus (intro w hSw; (try dsimp only at hSw); go_simp; (try with_reducible rfl); done))
      try simp only [Act.put, List.setIfInBounds_toArray, List.set_cons_zero, List.set_cons_succ]
      (refine takeW (i := 1) (dst := some 21) (v := ?_) rfl rfl (by kernel_rfl) (by kernel_rfl) (by kernel_rfl) (fun _ _ _ h => h) (Or.inl ⟨by rfl, ?_⟩) hHeld ?_; rotate_left; focus (intro w hSw; (try dsimp only at hSw); go_simp; (try with_reducible rfl); done))
      try simp only [Act.put, List.setIfInBounds_toArray, List.set_cons_zero, List.set_cons_succ]
      (refine takeW (i := 2) (dst := some 22) (v := ?_) rfl rfl (by kernel_rfl) (by kernel_rfl) (by kernel_rfl) (fun _ _ _ h => h) (Or.inl ⟨by rfl, ?_⟩) hHeld ?_; rotate_left; focus (intro w hSw; (try dsimp only at hSw); go_simp; (try with_reducible rfl); done))
      try simp only [Act.put, List.setIfInBounds_toArray, List.set_cons_zero, List.set_cons_succ]
      (refine takeW (i := 3) (dst := some 23) (v := ?_) rfl rfl (by kernel_rfl) (by kernel_rfl) (by kernel_rfl) (fun _ _ _ h => h) (Or.inl ⟨by rfl, ?_⟩) hHeld ?_; rotate_left; focus (intro w hSw; (try dsimp only at hSw); go_simp; (try with_reducible rfl); done))
      try simp only [Act.put, List.setIfInBounds_toArray, List.set_cons_zero, List.set_cons_succ]
      (refine takeW (i := 4) (dst := some 24) (v := ?_) rfl rfl (by kernel_rfl) (by kernel_rfl) (by kernel_rfl) (fun _ _ _ h => h) (Or.inl ⟨by rfl, ?_⟩) hHeld ?_; rotate_left; focus (intro w hSw; (try dsimp only at hSw); go_simp; (try with_reducible rfl); done))
      try simp only [Act.put, List.setIfInBounds_toArray, List.set_cons_zero, List.set_cons_succ]
      (refine takeW (i := 5) (dst := some 25) (v := ?_) rfl rfl (by kernel_rfl) (by kernel_rfl) (by kernel_rfl) (fun _ _ _ h => h) (Or.inl ⟨by rfl, ?_⟩) hHeld ?_; rotate_left; focus (intro w hSw; (try dsimp only at hSw); go_simp; (try with_reducible rfl); done))
      try simp only [Act.put, List.setIfInBounds_toArray, List.set_cons_zero, List.set_cons_succ]
      refine wpAnyH_ready (rs := [6]) (by kernel_rfl) (by simp) ?_
      refine AllReadyH.cons (o := _) rfl (fun KK hK => ?_) AllReadyH.nil
      go_simp
      refine (CT.out _ HGd.out HId.out).mono ?_
      rintro e y1 ⟨rfl, hb⟩
      have HT5 := hid (HTd.out.on hb)
      have HG5 := hid (HGd.out.on hb)
      have HB5 : Hid (Below w.heap.size w y1) := HBd.out.trans (hb.mono HBd.out.size)
      have hS1 := HSS.out y1 hb
      clear hb HTd HGd HId HBd
      refine hK.out _ _ hS1 (fun hHeld => ?_)
      clear hK KK
      try simp only [Act.put]
      try simp only [List.setIfInBounds_toArray]
      try simp only [List.set_cons_succ]
      try simp only [List.set_cons_zero]
      (refine takeW (i := 7) (dst := some 27) (v := ?_) rfl rfl (by kernel_rfl) (by kernel_rfl) (by kernel_rfl) (fun _ _ _ h => h) (Or.inl ⟨by rfl, ?_⟩) hHeld ?_; rotate_left; focus (intro w hSw; (try dsimp only at hSw); go_simp; (try with_reducible rfl); done))
      try simp only [Act.put, List.setIfInBounds_toArray, List.set_cons_zero, List.set_cons_succ]
      refine wpAnyH_done (by kernel_rfl) ?_ _
      clear hHeld hS HSS CT g0 g1 t1 e1
      obtain ⟨k0, k1, k2, k3⟩ := hS1
      have q2 : IntKind.i64.wrap ((S t : Int) + (L : Int)) = (S t : Int) + (L : Int) := by rw [IntKind.wrap_i64]; omega
      have q3 : IntKind.i64.wrap ((S t : Int) + (L : Int) - 1) = (S t : Int) + (L : Int) - 1 := by rw [IntKind.wrap_i64]; omega
      have HSV : Hid (Value.int .i64 ((S t : Int) + (L : Int) - 1) = .int .i64 ((S (t + 1) : Nat) : Int)) := by
        show _ = _
        congr 1
        have := HSn.out
        omega
      go_wp2
      go_roundw
      case rel => exact ⟨t + 1, by omega, by go_num, HSV.out, HT5, HG5, HB5⟩
      case measure => simp [RowKit.intOf]; omega
    · obtain rfl : t = P3 := by omega
      obtain ⟨f, hf, hTl⟩ := tells_ex (n := m) (prsN ys) (prsN_in HR.out)
      have hcount := block_count HR.out HBC.out hf hTl
      have CX : Hid (∀ X, GC X B m a2 K c2 ys → Calls Try.prog 20 #[.agg #[.int .i64 m, .slice a2 K c2]] X fun e w' => ∃ v, e = .returned v ∧ PCompS X w' v (classesF m f)) := fun X hX => by
        have := pofS_any m a2 c2 ys true f X (by rw [← HK.out]; omega) hX.at_ ⟨fun _ => HR.out, fun _ => rfl⟩ (fun _ => ⟨hf, hTl⟩)
        rw [if_pos rfl, ← HK.out] at this
        exact this
      obtain ⟨R, hRR⟩ := ex_eq (classesF m f).length
      have hRm : R + S t = m := by
        rw [hRR, classesF_len, HSP.out]
        exact hcount
      have HRR := hid hRR
      obtain ⟨s, hs⟩ := ex_eq (S t)
      rw [← hs] at hRm ⊢
      have HGd := hid (hgc.out.on (Below.refl _ wr).drew)
      have HBd : Hid (Below w.heap.size w wr.drew) := hbw.out.drew
      have HSS : Hid (∀ X, Below wr.drew.heap.size wr.drew X → X.cell? ⟨B, 0, none⟩ = some (.int .i64 m) ∧ X.cell? ⟨B, 1, none⟩ = some (.slice a2 K c2)) := fun X h =>
        ⟨(h.cell (p := ⟨B, 0, none⟩) (block_lt_of_cell g0)).trans g0, (h.cell (p := ⟨B, 1, none⟩) (block_lt_of_cell g1)).trans g1⟩
      have hS := HSS.out wr.drew (Below.refl _ _)
      have q2 : IntKind.i64.wrap ((m : Int) - (R : Int)) = (m : Int) - (R : Int) := by rw [IntKind.wrap_i64]; omega
      have q3 : ((s : Int) == (m : Int) - (R : Int)) = true := by simp only [beq_iff_eq]; omega
      clear hf hTl hcount hRR hs htc hgc hbw HSN HSB HSP
      go_wp2_with fail
      refine wp_region_held_drew (S := (fun X => X.cell? ⟨B, 0, none⟩ = some (.int .i64 m) ∧ X.cell? ⟨B, 1, none⟩ = some (.slice a2 K c2))) (by kernel_rfl) hS (fun hHeld => ?_)
      (refine takeW (i := 0) (dst := some 37) (v := ?_) rfl rfl (by kernel_rfl) (by kernel_rfl) (by kernel_rfl) (fun _ _ _ h => h) (Or.inl ⟨by rfl, ?_⟩) hHeld ?_; rotate_left; focus (intro w hSw; (try dsimp only at hSw); go_simp; (try with_reducible rfl); done))
      try simp only [Act.put, List.setIfInBounds_toArray, List.set_cons_zero, List.set_cons_succ]
      (refine takeW (i := 1) (dst := some 38) (v := ?_) rfl rfl (by kernel_rfl) (by kernel_rfl) (by kernel_rfl) (fun _ _ _ h => h) (Or.inl ⟨by rfl, ?_⟩) hHeld ?_; rotate_left; focus (intro w hSw; (try dsimp only at hSw); go_simp; (try with_reducible rfl); done))
      try simp only [Act.put, List.setIfInBounds_toArray, List.set_cons_zero, List.set_cons_succ]
      first | refine takeW (i := 2) (dst := some 39) (v := undef) rfl rfl (by kernel_rfl) (by kernel_rfl) (by kernel_rfl) (fun _ _ _ h => h) (Or.inr ⟨by rfl, rfl⟩) hHeld ?_ | (refine takeW (i := 2) (dst := some 39) (v := ?_) rfl rfl (by kernel_rfl) (by kernel_rfl) (by kernel_rfl) (fun _ _ _ h => h) (Or.inl ⟨by rfl, ?_⟩) hHeld ?_; rotate_left; focus (intro w hSw; (try dsimp only at hSw); go_simp; (try with_reducible rfl); done))
      try simp only [Act.put, List.setIfInBounds_toArray, List.set_cons_zero, List.set_cons_succ]
      first | refine takeW (i := 3) (dst := some 40) (v := undef) rfl rfl (by kernel_rfl) (by kernel_rfl) (by kernel_rfl) (fun _ _ _ h => h) (Or.inr ⟨by rfl, rfl⟩) hHeld ?_ | (refine takeW (i := 3) (dst := some 40) (v := ?_) rfl rfl (by kernel_rfl) (by kernel_rfl) (by kernel_rfl) (fun _ _ _ h => h) (Or.inl ⟨by rfl, ?_⟩) hHeld ?_; rotate_left; focus (intro w hSw; (try dsimp only at hSw); go_simp; (try with_reducible rfl); done))
      try simp only [Act.put, List.setIfInBounds_toArray, List.set_cons_zero, List.set_cons_succ]
      first | refine takeW (i := 4) (dst := some 41) (v := undef) rfl rfl (by kernel_rfl) (by kernel_rfl) (by kernel_rfl) (fun _ _ _ h => h) (Or.inr ⟨by rfl, rfl⟩) hHeld ?_ | (refine takeW (i := 4) (dst := some 41) (v := ?_) rfl rfl (by kernel_rfl) (by kernel_rfl) (by kernel_rfl) (fun _ _ _ h => h) (Or.inl ⟨by rfl, ?_⟩) hHeld ?_; rotate_left; focus (intro w hSw; (try dsimp only at hSw); go_simp; (try with_reducible rfl); done))
      try simp only [Act.put, List.setIfInBounds_toArray, List.set_cons_zero, List.set_cons_succ]
      first | refine takeW (i := 5) (dst := some 42) (v := undef) rfl rfl (by kernel_rfl) (by kernel_rfl) (by kernel_rfl) (fun _ _ _ h => h) (Or.inr ⟨by rfl, rfl⟩) hHeld ?_ | (refine takeW (i := 5) (dst := some 42) (v := ?_) rfl rfl (by kernel_rfl) (by kernel_rfl) (by kernel_rfl) (fun _ _ _ h => h) (Or.inl ⟨by rfl, ?_⟩) hHeld ?_; rotate_left; focus (intro w hSw; (try dsimp only at hSw); go_simp; (try with_reducible rfl); done))
      try simp only [Act.put, List.setIfInBounds_toArray, List.set_cons_zero, List.set_cons_succ]
      refine wpAnyH_ready (rs := [6]) (by kernel_rfl) (by simp) ?_
      refine AllReadyH.cons (o := _) rfl (fun KK hK => ?_) AllReadyH.nil
      go_simp
      refine (CX.out _ HGd.out).mono ?_
      rintro e y1 ⟨v5, rfl, a5, c5, rfl, hI5, hb⟩
      have HB5 : Hid (Below w.heap.size w y1) := HBd.out.trans (hb.mono HBd.out.size)
      have hS1 := HSS.out y1 hb
      rw [← HRR.out]
      clear hb hI5 HGd HBd
      refine hK.out _ _ hS1 (fun hHeld => ?_)
      clear hK KK
      try simp only [Act.put]
      try simp only [List.setIfInBounds_toArray]
      try simp only [List.set_cons_succ]
      try simp only [List.set_cons_zero]
      first | refine takeW (i := 7) (dst := some 44) (v := undef) rfl rfl (by kernel_rfl) (by kernel_rfl) (by kernel_rfl) (fun _ _ _ h => h) (Or.inr ⟨by rfl, rfl⟩) hHeld ?_ | (refine takeW (i := 7) (dst := some 44) (v := ?_) rfl rfl (by kernel_rfl) (by kernel_rfl) (by kernel_rfl) (fun _ _ _ h => h) (Or.inl ⟨by rfl, ?_⟩) hHeld ?_; rotate_left; focus (intro w hSw; (try dsimp only at hSw); go_simp; (try with_reducible rfl); done))
      try simp only [Act.put, List.setIfInBounds_toArray, List.set_cons_zero, List.set_cons_succ]
      first | refine takeW (i := 8) (dst := some 45) (v := undef) rfl rfl (by kernel_rfl) (by kernel_rfl) (by kernel_rfl) (fun _ _ _ h => h) (Or.inr ⟨by rfl, rfl⟩) hHeld ?_ | (refine takeW (i := 8) (dst := some 45) (v := ?_) rfl rfl (by kernel_rfl) (by kernel_rfl) (by kernel_rfl) (fun _ _ _ h => h) (Or.inl ⟨by rfl, ?_⟩) hHeld ?_; rotate_left; focus (intro w hSw; (try dsimp only at hSw); go_simp; (try with_reducible rfl); done))
      try simp only [Act.put, List.setIfInBounds_toArray, List.set_cons_zero, List.set_cons_succ]
      first | refine takeW (i := 9) (dst := some 46) (v := undef) rfl rfl (by kernel_rfl) (by kernel_rfl) (by kernel_rfl) (fun _ _ _ h => h) (Or.inr ⟨by rfl, rfl⟩) hHeld ?_ | (refine takeW (i := 9) (dst := some 46) (v := ?_) rfl rfl (by kernel_rfl) (by kernel_rfl) (by kernel_rfl) (fun _ _ _ h => h) (Or.inl ⟨by rfl, ?_⟩) hHeld ?_; rotate_left; focus (intro w hSw; (try dsimp only at hSw); go_simp; (try with_reducible rfl); done))
      try simp only [Act.put, List.setIfInBounds_toArray, List.set_cons_zero, List.set_cons_succ]
      (refine takeW (i := 10) (dst := some 47) (v := ?_) rfl rfl (by kernel_rfl) (by kernel_rfl) (by kernel_rfl) (fun _ _ _ h => h) (Or.inl ⟨by rfl, ?_⟩) hHeld ?_; rotate_left; focus (intro w hSw; (try dsimp only at hSw); go_simp; (try with_reducible rfl); done))
      try simp only [Act.put, List.setIfInBounds_toArray, List.set_cons_zero, List.set_cons_succ]
      (refine takeW (i := 11) (dst := some 2) (v := ?_) rfl rfl (by kernel_rfl) (by kernel_rfl) (by kernel_rfl) (fun _ _ _ h => h) (Or.inl ⟨by rfl, ?_⟩) hHeld ?_; rotate_left; focus (intro w hSw; (try dsimp only at hSw); go_simp; (try with_reducible rfl); done))
      try simp only [Act.put]
      try simp only [List.setIfInBounds_toArray]
      try simp only [List.set_cons_succ]
      try simp only [List.set_cons_zero]
      refine wpAnyH_done (by kernel_rfl) ?_ _
      clear hHeld hS HSS CX g0 g1 t1
      go_wp2
      go_ret
      exact ⟨rfl, HB5.out⟩
end Go.Proofs.Ytplhpinaadgkkaa
