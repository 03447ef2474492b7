/-
  The law MinorMoves.
-/
import Derived.Test.YtlebimolgienkaaV16
import Derived.Test.YtlebimolgienkaaV18
import Derived.Lib.Walk
namespace Go.Proofs.Ytlebimolgienkaa
open Go.RowKit Go.Lib

set_option maxHeartbeats 16000000 in
set_option maxRecDepth 100000 in
theorem minorMoves_law (kk : Int) (am : Option Addr) (lm cm : Nat) (LM : List (List Int)) (x y : Int) (w : World) (hM : CameR w am lm cm LM) :
    Calls Try.prog 5 #[.agg #[.int .i64 kk, .slice am lm cm], .int .i64 x, .int .i64 y] w fun e w' => e = .returned (.bool true) ∧ Below w.heap.size w w' := by
  obtain ⟨b, hbb⟩ := ex_eq w.heap.size
  obtain ⟨W0, hW0⟩ := ex_eq (w.alloc (.cells #[.int .i64 kk, .slice am lm cm] 39))
  have hO0 := heap_alloc_new w (.cells #[.int .i64 kk, .slice am lm cm] 39)
  have hB0 := below_oneR w (.cells #[.int .i64 kk, .slice am lm cm] 39)
  rw [← hW0] at hO0 hB0
  have hs0 : w.heap.size < W0.heap.size := (Array.getElem?_eq_some_iff.1 hO0).1
  rw [← hbb] at hs0 hO0 hB0
  have HBB0 := hid hbb
  have HK0 : Hid (∀ X, Below W0.heap.size W0 X → (X.cell? ⟨b, 0, none⟩ = some (.int .i64 kk) ∧ X.cell? ⟨b, 1, none⟩ = some (.slice am lm cm)) ∧ CameR X am lm cm LM ∧ Below b w X) := fun X hX => by
    have o0 := (hX.block b hs0).trans hO0
    have hbx : Below b w X := hB0.trans (hX.mono (by omega))
    have hbx' : Below w.heap.size w X := by rw [← hbb]; exact hbx
    exact ⟨⟨cell_of_heap o0 0, cell_of_heap o0 1⟩, hM.belowM hbx', hbx⟩
  have HW0 := hid hW0
  clear hM hW0 hB0 hO0 hbb
  go_enter Try.func5, Try.ntmps5
  go_wp2_with fail
  rw [← HW0.out]
  refine (mshown_any _).mono ?_
  rintro e w1 ⟨rfl, hb1⟩
  rw [← HBB0.out]
  obtain ⟨⟨x0, x1⟩, hC1, _⟩ := HK0.out w1 hb1
  have HLO := hid (small_lo hC1)
  have CS := hid (small_any kk am lm cm LM w1 hC1)
  have HB1 := hid hb1
  clear hb1 HW0 hC1
  go_wp2_with fail
  refine CS.out.mono ?_
  rintro e w5 ⟨v5, rfl, ht5⟩
  obtain ⟨a5, c5, us5, rfl, hR5, hb5⟩ := ht5.rw8
  have hl6 := smallR_len LM
  obtain ⟨S0, hS0⟩ := ex_eq (smallR LM)
  rw [← hS0] at hR5 hl6 HLO ⊢
  obtain ⟨N, hN⟩ := ex_eq S0.length
  rw [← hN] at hl6 ⊢
  obtain ⟨O, hO⟩ := ex_eq w5.heap.size
  obtain ⟨base, hbase⟩ := ex_eq w1.heap.size
  rw [← hbase] at hR5 hb5
  obtain ⟨V5, hV5⟩ := ex_eq (w5.alloc (.cells #[.int .i64 kk, .slice a5 N c5] 40))
  have hst : LiSt w1 V5 base O kk a5 N c5 us5 S0 := by
    have hob : O < V5.heap.size := by rw [hV5, hO]; simp
    have hbs := hb5.size
    refine ⟨?_, ?_, hN.symm, ?_, fun i u hu e => ?_, fun e => ?_, hob, ?_, by omega⟩
    · rw [hV5, hO, cell_of_heap (heap_alloc_new w5 _)]; rfl
    · rw [hV5, hO, cell_of_heap (heap_alloc_new w5 _)]; rfl
    · rw [hV5]; exact hR5.below (below_oneR _ _)
    · have hi' : i < S0.length := by
        rw [← hR5.len]
        exact (List.getElem?_eq_some_iff.1 hu).1
      obtain ⟨ak, ck, g1, g2, _⟩ := hR5.rows i hi'
      rw [hu] at g1
      cases g1
      have := (g2.lt O e).2
      omega
    · have := (hR5.own.lt O e).2
      omega
    · rw [hV5]; exact hb5.alloc (by omega) _
  have HST : Hid (∃ us LL, LiSt w1 V5 base O kk a5 N c5 us LL ∧ LoTo LL 0 0) := ⟨us5, S0, hst, LoTo.start HLO.out⟩
  have HV5 := hid hV5
  have HO := hid hO
  have HBASE := hid hbase
  clear ht5 hR5 hb5 hS0 hN hV5 hO hbase hst CS x0 x1 HLO
  go_upto_region 3 with fail
  rw [← HV5.out, ← HO.out]
  clear HV5 HO
  go_wp2
  go_loopg [9] N (fun G i wz => ∃ t : Nat, t ≤ N ∧ N - t ≤ G ∧ i = .int .i64 t ∧ Hid (∃ us LL, LiSt w1 wz base O kk a5 N c5 us LL ∧ LoTo LL t 0))
  case atStart => exact ⟨0, Nat.zero_le _, by omega, rfl, HST⟩
  case round =>
    clear HST
    obtain ⟨t, ht, hG, rfl, hst⟩ := hrel
    obtain ⟨us, LL, hSt, hLo⟩ := hst.out
    have m1 := hSt.c1
    by_cases hlt : t < N
    · have htl : t < LL.length := by rw [hSt.hn]; exact hlt
      obtain ⟨gh, cap', hv', -, -, -, -⟩ := own_row hSt.rw.own (by omega)
      simp only [Value.slice.injEq, true_and] at hv'
      obtain ⟨rfl, rfl⟩ := hv'
      obtain ⟨R, hR⟩ := ex_eq LL[t].length
      have hR20 : R ≤ 20 := by rw [hR]; exact (hLo.1 _ (List.getElem_mem htl)).1
      have HST2 : Hid (∃ us LL, LiSt w1 wr base O kk (some ⟨gh, 0, none⟩) N c5 us LL ∧ LoTo LL t 0 ∧ ∃ h : t < LL.length, LL[t].length = R) := ⟨us, LL, hSt, hLo, htl, hR.symm⟩
      have q1 : (t : Int) < (N : Int) := by omega
      have q2 : (0 : Int) ≤ (t : Int) := by omega
      clear hst hSt hLo hR htl
      go_wp2
      clear m1
      go_loopg [10] R (fun G i wz => ∃ j : Nat, j ≤ R ∧ R - j ≤ G ∧ i = .int .i64 j ∧ Hid (∃ us LL, LiSt w1 wz base O kk (some ⟨gh, 0, none⟩) N c5 us LL ∧ LoTo LL t j ∧ ∃ h : t < LL.length, LL[t].length = R))
      case atStart => exact ⟨0, Nat.zero_le _, by omega, rfl, HST2⟩
      case round =>
        clear HST2
        obtain ⟨j, hj, hGj, rfl, hst⟩ := hrel
        obtain ⟨us, LL, hSt, hLo, htl, hR⟩ := hst.out
        have m1 := hSt.c1
        obtain ⟨gh', cap', hv', -, -, -, hcs⟩ := own_row hSt.rw.own (by omega)
        simp only [Value.slice.injEq, Option.some.injEq, Addr.mk.injEq, true_and, and_true] at hv'
        obtain ⟨rfl, rfl⟩ := hv'
        obtain ⟨ai, ci, g1, g2, -⟩ := hSt.rw.rows t htl
        have c0 := hcs t _ g1
        by_cases hlt2 : j < R
        · obtain ⟨q, capq, hvq, hbq, hgq, hcq, hxs⟩ := own_row g2 (by omega)
          simp only [Value.slice.injEq, true_and] at hvq
          obtain ⟨rfl, rfl⟩ := hvq
          have hjr : j < LL[t].length := by omega
          have d0 := hxs j (.int .i64 LL[t][j]) (by rw [List.getElem?_map, List.getElem?_eq_getElem hjr]; rfl)
          have f0 := g2.frozenAt j
          obtain ⟨z, hz⟩ := ex_eq (min LL[t][j] 4611686018427387904)
          have HNX : Hid (∃ us LL, LiSt w1 ((wr.drew).setCell ⟨q, j, none⟩ (.int .i64 z)) base O kk (some ⟨gh, 0, none⟩) N c5 us LL ∧ LoTo LL t (j + 1) ∧ ∃ h : t < LL.length, LL[t].length = R) := by
            have hSd : LiSt w1 wr.drew base O kk (some ⟨gh, 0, none⟩) N c5 us LL := ⟨hSt.c0, hSt.c1, hSt.hn, hSt.rw.below (Below.refl _ _).drew, hSt.no, hSt.nh, hSt.lt, hSt.bel.drew, hSt.sz⟩
            refine ⟨us, LL.set t (LL[t].set j z), hSd.cell htl g1 hbq j z, hLo.put htl hjr hz, by rw [List.length_set]; exact htl, ?_⟩
            rw [List.getElem_set_self, List.length_set]; exact hR
          obtain ⟨x', hx'⟩ := ex_eq LL[t][j]
          rw [← hx'] at d0 hz
          rw [hR] at c0 g2
          have kmin : min x' 4611686018427387904 = z := hz.symm
          have hne1 : q ≠ O := fun e => hSt.no t _ g1 (by rw [e]; rfl)
          have hne2 : q ≠ gh := fun e => by
            obtain ⟨ai2, ci2, k1, _, k3⟩ := hSt.rw.rows t htl
            rw [g1] at k1
            cases k1
            exact (k3 q rfl).1 (by rw [e]; rfl)
          have hS : (fun X : World => X.cell? ⟨O, 1, none⟩ = some (.slice (some ⟨gh, 0, none⟩) N c5) ∧ X.cell? ⟨gh, t, none⟩ = some (.slice (some ⟨q, 0, none⟩) R ci)) wr.drew := ⟨m1, c0⟩
          have hS2 : (fun X : World => X.cell? ⟨O, 1, none⟩ = some (.slice (some ⟨gh, 0, none⟩) N c5) ∧ X.cell? ⟨gh, t, none⟩ = some (.slice (some ⟨q, 0, none⟩) R ci)) (wr.drew.setCell ⟨q, j, none⟩ (.int .i64 z)) := ⟨(World.cell?_setCell_other _ _ _ _ (fun e => hne1 (by have := congrArg Addr.block e; simpa using this))).trans m1, (World.cell?_setCell_other _ _ _ _ (fun e => hne2 (by have := congrArg Addr.block e; simpa using this))).trans c0⟩
          have q3 : (j : Int) < (R : Int) := by omega
          have q4 : (0 : Int) ≤ (j : Int) := by omega
          clear hst hSt hLo g1 g2 hcs hxs hgq hbq hcq hjr hx' hz hne1 hne2
          go_upto_region 9 with fail
          refine wp_region_held_drew (S := (fun X : World => X.cell? ⟨O, 1, none⟩ = some (.slice (some ⟨gh, 0, none⟩) N c5) ∧ X.cell? ⟨gh, t, none⟩ = some (.slice (some ⟨q, 0, none⟩) R ci))) (by kernel_rfl) hS (fun hHeld => ?_)
          (refine takeW (i := 0) (dst := some 32) (v := ?_) rfl rfl (by kernel_rfl) (by kernel_rfl) (by kernel_rfl) (fun _ _ _ h => h) (Or.inl ⟨by rfl, ?_⟩) hHeld ?_; rotate_left; focus (intro w hSw; (try dsimp only at hSw); go_simp; (try with_reducible rfl); done))
          try simp only [Act.put, List.setIfInBounds_toArray, List.set_cons_zero, List.set_cons_succ]
          (refine takeW (i := 1) (dst := some 33) (v := ?_) rfl rfl (by kernel_rfl) (by kernel_rfl) (by kernel_rfl) (fun _ _ _ h => h) (Or.inl ⟨by rfl, ?_⟩) hHeld ?_; rotate_left; focus (intro w hSw; (try dsimp only at hSw); go_simp; (try with_reducible rfl); done))
          try simp only [Act.put, List.setIfInBounds_toArray, List.set_cons_zero, List.set_cons_succ]
          (refine takeW (i := 2) (dst := some 34) (v := ?_) rfl rfl (by kernel_rfl) (by kernel_rfl) (by kernel_rfl) (fun _ _ _ h => h) (Or.inl ⟨by rfl, ?_⟩) hHeld ?_; rotate_left; focus (intro w hSw; (try dsimp only at hSw); go_simp; (try with_reducible rfl); done))
          try simp only [Act.put, List.setIfInBounds_toArray, List.set_cons_zero, List.set_cons_succ]
          (refine takeW (i := 3) (dst := some 35) (v := ?_) rfl rfl (by kernel_rfl) (by kernel_rfl) (by kernel_rfl) (fun _ _ _ h => h) (Or.inl ⟨by rfl, ?_⟩) hHeld ?_; rotate_left; focus (intro w hSw; (try dsimp only at hSw); go_simp; (try with_reducible rfl); done))
          try simp only [Act.put, List.setIfInBounds_toArray, List.set_cons_zero, List.set_cons_succ]
          (refine takeW (i := 4) (dst := some 36) (v := ?_) rfl rfl (by kernel_rfl) (by kernel_rfl) (by kernel_rfl) (fun _ _ _ h => h) (Or.inl ⟨by rfl, ?_⟩) hHeld ?_; rotate_left; focus (intro w hSw; (try dsimp only at hSw); go_simp; (try with_reducible rfl); done))
          try simp only [Act.put, List.setIfInBounds_toArray, List.set_cons_zero, List.set_cons_succ]
          (refine takeW (i := 5) (dst := some 37) (v := ?_) rfl rfl (by kernel_rfl) (by kernel_rfl) (by kernel_rfl) (fun _ _ _ h => h) (Or.inl ⟨by rfl, ?_⟩) hHeld ?_; rotate_left; focus (intro w hSw; (try dsimp only at hSw); go_simp; (try with_reducible rfl); done))
          try simp only [Act.put, List.setIfInBounds_toArray, List.set_cons_zero, List.set_cons_succ]
          (refine takeW (i := 6) (dst := some 38) (v := ?_) rfl rfl (by kernel_rfl) (by kernel_rfl) (by kernel_rfl) (fun _ _ _ h => h) (Or.inl ⟨by rfl, ?_⟩) hHeld ?_; rotate_left; focus (intro w hSw; (try dsimp only at hSw); go_simp; (try with_reducible rfl); done))
          try simp only [Act.put, List.setIfInBounds_toArray, List.set_cons_zero, List.set_cons_succ]
          (refine takeW (i := 7) (dst := some 39) (v := ?_) rfl rfl (by kernel_rfl) (by kernel_rfl) (by kernel_rfl) (fun _ _ _ h => h) (Or.inl ⟨by rfl, ?_⟩) hHeld ?_; rotate_left; focus (intro w hSw; (try dsimp only at hSw); go_simp; (try with_reducible rfl); done))
          try simp only [Act.put, List.setIfInBounds_toArray, List.set_cons_zero, List.set_cons_succ]
          (refine takeW (i := 8) (dst := some 40) (v := ?_) rfl rfl (by kernel_rfl) (by kernel_rfl) (by kernel_rfl) (fun _ _ _ h => h) (Or.inl ⟨by rfl, ?_⟩) hHeld ?_; rotate_left; focus (intro w hSw; (try dsimp only at hSw); go_simp; (try with_reducible rfl); done))
          try simp only [Act.put, List.setIfInBounds_toArray, List.set_cons_zero, List.set_cons_succ]
          (refine takeW (i := 9) (dst := some 41) (v := ?_) rfl rfl (by kernel_rfl) (by kernel_rfl) (by kernel_rfl) (fun _ _ _ h => h) (Or.inl ⟨by rfl, ?_⟩) hHeld ?_; rotate_left; focus (intro w hSw; (try dsimp only at hSw); go_simp; (try with_reducible rfl); done))
          try simp only [Act.put, List.setIfInBounds_toArray, List.set_cons_zero, List.set_cons_succ]
          (refine takeW (i := 10) (dst := some 42) (v := ?_) rfl rfl (by kernel_rfl) (by kernel_rfl) (by kernel_rfl) (fun _ _ _ h => h) (Or.inl ⟨by rfl, ?_⟩) hHeld ?_; rotate_left; focus (intro w hSw; (try dsimp only at hSw); go_simp; (try with_reducible rfl); done))
          try simp only [Act.put, List.setIfInBounds_toArray, List.set_cons_zero, List.set_cons_succ]
          (refine takeW (i := 11) (dst := some 43) (v := ?_) rfl rfl (by kernel_rfl) (by kernel_rfl) (by kernel_rfl) (fun _ _ _ h => h) (Or.inl ⟨by rfl, ?_⟩) hHeld ?_; rotate_left; focus (intro w hSw; (try dsimp only at hSw); go_simp; (try with_reducible rfl); done))
          try simp only [Act.put, List.setIfInBounds_toArray, List.set_cons_zero, List.set_cons_succ]
          (refine takeW (i := 12) (dst := some 44) (v := ?_) rfl rfl (by kernel_rfl) (by kernel_rfl) (by kernel_rfl) (fun _ _ _ h => h) (Or.inl ⟨by rfl, ?_⟩) hHeld ?_; rotate_left; focus (intro w hSw; (try dsimp only at hSw); go_simp; (try with_reducible rfl); done))
          try simp only [Act.put, List.setIfInBounds_toArray, List.set_cons_zero, List.set_cons_succ]
          refine wpAnyH_ready (rs := [13]) (by kernel_rfl) (by simp) ?_
          refine AllReadyH.cons (o := _) rfl (fun KK hK => ?_) AllReadyH.nil
          go_simp
          refine hK.out _ _ hS (fun hHeld => ?_)
          clear hK KK
          try simp only [Act.put]
          try simp only [List.setIfInBounds_toArray]
          try simp only [List.set_cons_succ]
          try simp only [List.set_cons_zero]
          (refine takeW (i := 14) (dst := some 46) (v := ?_) rfl rfl (by kernel_rfl) (by kernel_rfl) (by kernel_rfl) (fun _ _ _ h => h) (Or.inl ⟨by rfl, ?_⟩) hHeld ?_; rotate_left; focus (intro w hSw; (try dsimp only at hSw); go_simp; (try with_reducible rfl); done))
          try simp only [Act.put, List.setIfInBounds_toArray, List.set_cons_zero, List.set_cons_succ]
          (refine takeW (i := 15) (dst := some 47) (v := ?_) rfl rfl (by kernel_rfl) (by kernel_rfl) (by kernel_rfl) (fun _ _ _ h => h) (Or.inl ⟨by rfl, ?_⟩) hHeld ?_; rotate_left; focus (intro w hSw; (try dsimp only at hSw); go_simp; (try with_reducible rfl); done))
          try simp only [Act.put, List.setIfInBounds_toArray, List.set_cons_zero, List.set_cons_succ]
          refine wpAnyH_ready (rs := [16]) (by kernel_rfl) (by simp) ?_
          refine AllReadyH.cons (o := _) rfl (fun KK hK => ?_) AllReadyH.nil
          go_simp
          refine hK.out _ _ hS2 (fun hHeld => ?_)
          clear hK KK
          try simp only [Act.put]
          try simp only [List.setIfInBounds_toArray]
          try simp only [List.set_cons_succ]
          try simp only [List.set_cons_zero]
          refine wpAnyH_done (by kernel_rfl) ?_ _
          clear hHeld hS hS2 m1 c0 d0 f0
          go_wp2
          go_roundg (R - (j + 1))
          case measure => omega
          case rel => exact ⟨j + 1, by omega, Nat.le_refl _, by go_num, HNX⟩
        · obtain rfl : j = R := by omega
          have HNX : Hid (∃ us LL, LiSt w1 wr base O kk (some ⟨gh, 0, none⟩) N c5 us LL ∧ LoTo LL (t + 1) 0) := ⟨us, LL, hSt, hLo.next htl hR.symm⟩
          rw [hR] at c0
          clear hst hSt hLo g1 g2 hcs
          go_wp2
          go_roundg (N - (t + 1))
          case measure => omega
          case rel => exact ⟨t + 1, by omega, Nat.le_refl _, by go_num, HNX⟩
    · obtain rfl : t = N := by omega
      have hend := hLo.end hSt.hn.symm
      have hlls := hSt.rw.lls
      have m0 := hSt.c0
      obtain ⟨O2, hO2⟩ := ex_eq wr.heap.size
      obtain ⟨V, hV⟩ := ex_eq (wr.alloc (.cells #[.int .i64 kk, .slice a5 t c5] 39))
      have hbV : Below wr.heap.size wr V := by rw [hV]; exact below_oneR _ _
      have hlat : LLAt V a5 LL := lls_llat (hlls.below hbV)
      have hoV : V.heap[O2]? = some (.cells #[.int .i64 kk, .slice a5 t c5] 39 (0, 0)) := by rw [hV, hO2]; exact heap_alloc_new _ _
      have hO2V : O2 < V.heap.size := (Array.getElem?_eq_some_iff.1 hoV).1
      have hOw := hSt.lt
      have hOV : O < V.heap.size := by have := hbV.size; omega
      have HKP : Hid (∀ X, Below V.heap.size V X → X.cell? ⟨O, 0, none⟩ = some (.int .i64 kk) ∧ X.cell? ⟨O, 1, none⟩ = some (.slice a5 t c5) ∧ X.cell? ⟨O2, 0, none⟩ = some (.int .i64 kk) ∧ X.cell? ⟨O2, 1, none⟩ = some (.slice a5 t c5)) := fun X hX => by
        have o2 := (hX.block O2 hO2V).trans hoV
        exact ⟨(hX.cell (p := ⟨O, 0, none⟩) hOV).trans ((hbV.cell (p := ⟨O, 0, none⟩) hOw).trans m0), (hX.cell (p := ⟨O, 1, none⟩) hOV).trans ((hbV.cell (p := ⟨O, 1, none⟩) hOw).trans m1), cell_of_heap o2 0, cell_of_heap o2 1⟩
      have hLt : LL.length = t := hSt.hn
      have hEL : ∀ S ∈ LL, InR S := fun S hS => (hend S hS).1
      have hEN : ∀ S ∈ LL, S.length ≤ 20 := fun S hS => (hend S hS).2
      obtain ⟨T1, hT1⟩ := ex_eq (liftL x y LL)
      obtain ⟨T2, hT2⟩ := ex_eq (dropL x LL)
      obtain ⟨N1, hN1⟩ := ex_eq T1.length
      obtain ⟨N2, hN2⟩ := ex_eq T2.length
      have hT1l : T1.length ≤ 1000000 ∧ ∀ L ∈ T1, L.length ≤ 1000000 := by
        rw [hT1]
        unfold liftL
        split
        · exact ⟨by omega, fun L hL => by have := hEN L hL; omega⟩
        · refine ⟨by rw [List.length_map]; omega, fun L hL => ?_⟩
          obtain ⟨S, hS, rfl⟩ := List.mem_map.1 hL
          have := hEN S hS
          unfold liftS
          rw [List.length_append, List.length_map]
          split
          · simp; omega
          · simp; omega
      have hT2l : T2.length ≤ 1000000 ∧ ∀ L ∈ T2, L.length ≤ 1000000 := by
        rw [hT2]
        unfold dropL
        split
        · exact ⟨by omega, fun L hL => by have := hEN L hL; omega⟩
        · refine ⟨by rw [List.length_map]; omega, fun L hL => ?_⟩
          obtain ⟨S, hS, rfl⟩ := List.mem_map.1 hL
          have := hEN S hS
          rw [List.length_map]; omega
      have CL1 : Hid (∀ X, Below V.heap.size V X → Calls Try.prog 23 #[.agg #[.int .i64 kk, .slice a5 t c5], .int .i64 x, .int .i64 y] X fun e w' => ∃ u, e = .returned u ∧ ModTold kk T1 X w' u) := fun X hX => by
        have := lift_any kk a5 c5 LL x y X (by omega) (fun S hS => by have := hEN S hS; omega) (hlat.below hX) hEL
        rw [hLt, ← hT1] at this
        exact this
      have CL2 : Hid (∀ X, Below V.heap.size V X → Calls Try.prog 24 #[.agg #[.int .i64 kk, .slice a5 t c5], .int .i64 x, .int .i64 y] X fun e w' => ∃ u, e = .returned u ∧ LiftTold kk T1 X w' u) := fun X hX => by
        have := rlift_any kk a5 c5 LL x y X (by omega) (fun S hS => by have := hEN S hS; omega) (hlat.below hX) hEL
        rw [hLt, ← hT1] at this
        exact this
      have CD1 : Hid (∀ X, Below V.heap.size V X → Calls Try.prog 25 #[.agg #[.int .i64 kk, .slice a5 t c5], .int .i64 x] X fun e w' => ∃ u, e = .returned u ∧ ModTold kk T2 X w' u) := fun X hX => by
        have := drop_any kk a5 c5 LL x X (by omega) (fun S hS => by have := hEN S hS; omega) (hlat.below hX) hEL
        rw [hLt, ← hT2] at this
        exact this
      have CD2 : Hid (∀ X, Below V.heap.size V X → Calls Try.prog 26 #[.agg #[.int .i64 kk, .slice a5 t c5], .int .i64 x] X fun e w' => ∃ u, e = .returned u ∧ SmallTold kk T2 X w' u) := fun X hX => by
        have := rdrop_any kk a5 c5 LL x X (by omega) (fun S hS => by have := hEN S hS; omega) (hlat.below hX) hEL
        rw [hLt, ← hT2] at this
        exact this
      have CS1 : Hid (∀ X (a1 : Option Addr) (c1 : Nat) (a2 : Option Addr) (c2 : Nat), LLAt X a1 T1 → LLAt X a2 T1 → Calls Try.prog 22 #[.agg #[.int .i64 kk, .slice a1 N1 c1], .agg #[.int .i64 kk, .slice a2 N1 c2]] X fun e w' => e = .returned (.bool true) ∧ Below X.heap.size X w') := fun X a1 c1 a2 c2 h1 h2 => by
        rw [hN1]; exact same8_any kk a1 a2 c1 c2 T1 X hT1l.1 hT1l.2 h1 h2
      have CS2 : Hid (∀ X (a1 : Option Addr) (c1 : Nat) (a2 : Option Addr) (c2 : Nat), LLAt X a1 T2 → LLAt X a2 T2 → Calls Try.prog 22 #[.agg #[.int .i64 kk, .slice a1 N2 c1], .agg #[.int .i64 kk, .slice a2 N2 c2]] X fun e w' => e = .returned (.bool true) ∧ Below X.heap.size X w') := fun X a1 c1 a2 c2 h1 h2 => by
        rw [hN2]; exact same8_any kk a1 a2 c1 c2 T2 X hT2l.1 hT2l.2 h1 h2
      have HEND : Hid (∀ X, Below V.heap.size V X → Below b w X) := fun X hX => by
        have hw1 : Below w1.heap.size w1 X := by
          rw [← HBASE.out]
          exact (hSt.bel.trans (hbV.mono hSt.sz)).trans (hX.mono (by have := hbV.size; have := hSt.sz; omega))
        exact (HK0.out X (HB1.out.trans (hw1.mono HB1.out.size))).2.2
      have HN1 := hid hN1
      have HN2 := hid hN2
      have HV := hid hV
      have HO2 := hid hO2
      clear hst hSt hLo hend hlls hbV hlat hoV hO2V hOw hOV hLt hEL hEN hT1 hT2 hN1 hN2 hT1l hT2l hV hO2
      go_upto_region 11 with fail
      rw [← HV.out, ← HO2.out]
      clear HV HO2 m0 m1
      have HD0 : Hid (Below V.heap.size V V.drew) := (Below.refl _ _).drew
      have hS := HKP.out V.drew HD0.out
      refine wp_region_held_drew (S := (fun X => X.cell? ⟨O, 0, none⟩ = some (.int .i64 kk) ∧ X.cell? ⟨O, 1, none⟩ = some (.slice a5 t c5) ∧ X.cell? ⟨O2, 0, none⟩ = some (.int .i64 kk) ∧ X.cell? ⟨O2, 1, none⟩ = some (.slice a5 t c5))) (by kernel_rfl) hS (fun hHeld => ?_)
      (refine takeW (i := 0) (dst := some 49) (v := ?_) rfl rfl (by kernel_rfl) (by kernel_rfl) (by kernel_rfl) (fun _ _ _ h => h) (Or.inl ⟨by rfl, ?_⟩) hHeld ?_; rotate_left; focus (intro w hSw; (try dsimp only at hSw); go_simp; (try with_reducible rfl); done))
      try simp only [Act.put, List.setIfInBounds_toArray, List.set_cons_zero, List.set_cons_succ]
      (refine takeW (i := 1) (dst := some 50) (v := ?_) rfl rfl (by kernel_rfl) (by kernel_rfl) (by kernel_rfl) (fun _ _ _ h => h) (Or.inl ⟨by rfl, ?_⟩) hHeld ?_; rotate_left; focus (intro w hSw; (try dsimp only at hSw); go_simp; (try with_reducible rfl); done))
      try simp only [Act.put, List.setIfInBounds_toArray, List.set_cons_zero, List.set_cons_succ]
      first | refine takeW (i := 2) (dst := some 51) (v := undef) rfl rfl (by kernel_rfl) (by kernel_rfl) (by kernel_rfl) (fun _ _ _ h => h) (Or.inr ⟨by rfl, rfl⟩) hHeld ?_ | (refine takeW (i := 2) (dst := some 51) (v := ?_) rfl rfl (by kernel_rfl) (by kernel_rfl) (by kernel_rfl) (fun _ _ _ h => h) (Or.inl ⟨by rfl, ?_⟩) hHeld ?_; rotate_left; focus (intro w hSw; (try dsimp only at hSw); go_simp; (try with_reducible rfl); done))
      try simp only [Act.put, List.setIfInBounds_toArray, List.set_cons_zero, List.set_cons_succ]
      first | refine takeW (i := 3) (dst := some 52) (v := undef) rfl rfl (by kernel_rfl) (by kernel_rfl) (by kernel_rfl) (fun _ _ _ h => h) (Or.inr ⟨by rfl, rfl⟩) hHeld ?_ | (refine takeW (i := 3) (dst := some 52) (v := ?_) rfl rfl (by kernel_rfl) (by kernel_rfl) (by kernel_rfl) (fun _ _ _ h => h) (Or.inl ⟨by rfl, ?_⟩) hHeld ?_; rotate_left; focus (intro w hSw; (try dsimp only at hSw); go_simp; (try with_reducible rfl); done))
      try simp only [Act.put, List.setIfInBounds_toArray, List.set_cons_zero, List.set_cons_succ]
      first | refine takeW (i := 4) (dst := some 53) (v := undef) rfl rfl (by kernel_rfl) (by kernel_rfl) (by kernel_rfl) (fun _ _ _ h => h) (Or.inr ⟨by rfl, rfl⟩) hHeld ?_ | (refine takeW (i := 4) (dst := some 53) (v := ?_) rfl rfl (by kernel_rfl) (by kernel_rfl) (by kernel_rfl) (fun _ _ _ h => h) (Or.inl ⟨by rfl, ?_⟩) hHeld ?_; rotate_left; focus (intro w hSw; (try dsimp only at hSw); go_simp; (try with_reducible rfl); done))
      try simp only [Act.put, List.setIfInBounds_toArray, List.set_cons_zero, List.set_cons_succ]
      first | refine takeW (i := 6) (dst := some 55) (v := undef) rfl rfl (by kernel_rfl) (by kernel_rfl) (by kernel_rfl) (fun _ _ _ h => h) (Or.inr ⟨by rfl, rfl⟩) hHeld ?_ | (refine takeW (i := 6) (dst := some 55) (v := ?_) rfl rfl (by kernel_rfl) (by kernel_rfl) (by kernel_rfl) (fun _ _ _ h => h) (Or.inl ⟨by rfl, ?_⟩) hHeld ?_; rotate_left; focus (intro w hSw; (try dsimp only at hSw); go_simp; (try with_reducible rfl); done))
      try simp only [Act.put, List.setIfInBounds_toArray, List.set_cons_zero, List.set_cons_succ]
      first | refine takeW (i := 7) (dst := some 56) (v := undef) rfl rfl (by kernel_rfl) (by kernel_rfl) (by kernel_rfl) (fun _ _ _ h => h) (Or.inr ⟨by rfl, rfl⟩) hHeld ?_ | (refine takeW (i := 7) (dst := some 56) (v := ?_) rfl rfl (by kernel_rfl) (by kernel_rfl) (by kernel_rfl) (fun _ _ _ h => h) (Or.inl ⟨by rfl, ?_⟩) hHeld ?_; rotate_left; focus (intro w hSw; (try dsimp only at hSw); go_simp; (try with_reducible rfl); done))
      try simp only [Act.put, List.setIfInBounds_toArray, List.set_cons_zero, List.set_cons_succ]
      first | refine takeW (i := 8) (dst := some 57) (v := undef) rfl rfl (by kernel_rfl) (by kernel_rfl) (by kernel_rfl) (fun _ _ _ h => h) (Or.inr ⟨by rfl, rfl⟩) hHeld ?_ | (refine takeW (i := 8) (dst := some 57) (v := ?_) rfl rfl (by kernel_rfl) (by kernel_rfl) (by kernel_rfl) (fun _ _ _ h => h) (Or.inl ⟨by rfl, ?_⟩) hHeld ?_; rotate_left; focus (intro w hSw; (try dsimp only at hSw); go_simp; (try with_reducible rfl); done))
      try simp only [Act.put, List.setIfInBounds_toArray, List.set_cons_zero, List.set_cons_succ]
      refine wpAnyH_ready (rs := [5]) (by kernel_rfl) (by simp) ?_
      refine AllReadyH.cons (o := _) rfl (fun KK hK => ?_) AllReadyH.nil
      go_simp
      refine (CL1.out V.drew HD0.out).mono ?_
      rintro e y1 ⟨u1, rfl, hm1⟩
      obtain ⟨a1, c1, rfl, hl1, hb1⟩ := hm1.at
      rw [← HN1.out]
      have HL1 := hid hl1
      have HB1' : Hid (Below V.heap.size V y1) := HD0.out.trans (hb1.mono HD0.out.size)
      have hS1 := HKP.out y1 HB1'.out
      clear hm1 hl1 hb1
      refine hK.out _ _ hS1 (fun hHeld => ?_)
      clear hK KK
      try simp only [Act.put]
      try simp only [List.setIfInBounds_toArray]
      try simp only [List.set_cons_succ]
      try simp only [List.set_cons_zero]
      refine wpAnyH_ready (rs := [9]) (by kernel_rfl) (by simp) ?_
      refine AllReadyH.cons (o := _) rfl (fun KK hK => ?_) AllReadyH.nil
      go_simp
      refine (CL2.out y1 HB1'.out).mono ?_
      rintro e y2 ⟨u2, rfl, a2, c2, rfl, hl2, hb2⟩
      rw [← HN1.out]
      have HL2 : Hid (LLAt y2 a1 T1 ∧ LLAt y2 a2 T1) := ⟨HL1.out.below hb2, hl2⟩
      have HB2 : Hid (Below V.heap.size V y2) := HB1'.out.trans (hb2.mono HB1'.out.size)
      have hS2 := HKP.out y2 HB2.out
      clear hl2 hb2
      refine hK.out _ _ hS2 (fun hHeld => ?_)
      clear hK KK
      try simp only [Act.put]
      try simp only [List.setIfInBounds_toArray]
      try simp only [List.set_cons_succ]
      try simp only [List.set_cons_zero]
      refine wpAnyH_ready (rs := [10]) (by kernel_rfl) (by simp) ?_
      refine AllReadyH.cons (o := _) rfl (fun KK hK => ?_) AllReadyH.nil
      go_simp
      refine (CS1.out y2 a1 c1 a2 c2 HL2.out.1 HL2.out.2).mono ?_
      rintro e y3 ⟨rfl, hb3⟩
      have HB3 : Hid (Below V.heap.size V y3) := HB2.out.trans (hb3.mono HB2.out.size)
      have hS3 := HKP.out y3 HB3.out
      clear hb3
      refine hK.out _ _ hS3 (fun hHeld => ?_)
      clear hK KK
      try simp only [Act.put]
      try simp only [List.setIfInBounds_toArray]
      try simp only [List.set_cons_succ]
      try simp only [List.set_cons_zero]
      (refine takeW (i := 11) (dst := some 60) (v := ?_) rfl rfl (by kernel_rfl) (by kernel_rfl) (by kernel_rfl) (fun _ _ _ h => h) (Or.inl ⟨by rfl, ?_⟩) hHeld ?_; rotate_left; focus (intro w hSw; (try dsimp only at hSw); go_simp; (try with_reducible rfl); done))
      try simp only [Act.put, List.setIfInBounds_toArray, List.set_cons_zero, List.set_cons_succ]
      (refine takeW (i := 12) (dst := some 61) (v := ?_) rfl rfl (by kernel_rfl) (by kernel_rfl) (by kernel_rfl) (fun _ _ _ h => h) (Or.inl ⟨by rfl, ?_⟩) hHeld ?_; rotate_left; focus (intro w hSw; (try dsimp only at hSw); go_simp; (try with_reducible rfl); done))
      try simp only [Act.put, List.setIfInBounds_toArray, List.set_cons_zero, List.set_cons_succ]
      first | refine takeW (i := 13) (dst := some 62) (v := undef) rfl rfl (by kernel_rfl) (by kernel_rfl) (by kernel_rfl) (fun _ _ _ h => h) (Or.inr ⟨by rfl, rfl⟩) hHeld ?_ | (refine takeW (i := 13) (dst := some 62) (v := ?_) rfl rfl (by kernel_rfl) (by kernel_rfl) (by kernel_rfl) (fun _ _ _ h => h) (Or.inl ⟨by rfl, ?_⟩) hHeld ?_; rotate_left; focus (intro w hSw; (try dsimp only at hSw); go_simp; (try with_reducible rfl); done))
      try simp only [Act.put, List.setIfInBounds_toArray, List.set_cons_zero, List.set_cons_succ]
      first | refine takeW (i := 14) (dst := some 63) (v := undef) rfl rfl (by kernel_rfl) (by kernel_rfl) (by kernel_rfl) (fun _ _ _ h => h) (Or.inr ⟨by rfl, rfl⟩) hHeld ?_ | (refine takeW (i := 14) (dst := some 63) (v := ?_) rfl rfl (by kernel_rfl) (by kernel_rfl) (by kernel_rfl) (fun _ _ _ h => h) (Or.inl ⟨by rfl, ?_⟩) hHeld ?_; rotate_left; focus (intro w hSw; (try dsimp only at hSw); go_simp; (try with_reducible rfl); done))
      try simp only [Act.put, List.setIfInBounds_toArray, List.set_cons_zero, List.set_cons_succ]
      first | refine takeW (i := 16) (dst := some 65) (v := undef) rfl rfl (by kernel_rfl) (by kernel_rfl) (by kernel_rfl) (fun _ _ _ h => h) (Or.inr ⟨by rfl, rfl⟩) hHeld ?_ | (refine takeW (i := 16) (dst := some 65) (v := ?_) rfl rfl (by kernel_rfl) (by kernel_rfl) (by kernel_rfl) (fun _ _ _ h => h) (Or.inl ⟨by rfl, ?_⟩) hHeld ?_; rotate_left; focus (intro w hSw; (try dsimp only at hSw); go_simp; (try with_reducible rfl); done))
      try simp only [Act.put, List.setIfInBounds_toArray, List.set_cons_zero, List.set_cons_succ]
      first | refine takeW (i := 17) (dst := some 66) (v := undef) rfl rfl (by kernel_rfl) (by kernel_rfl) (by kernel_rfl) (fun _ _ _ h => h) (Or.inr ⟨by rfl, rfl⟩) hHeld ?_ | (refine takeW (i := 17) (dst := some 66) (v := ?_) rfl rfl (by kernel_rfl) (by kernel_rfl) (by kernel_rfl) (fun _ _ _ h => h) (Or.inl ⟨by rfl, ?_⟩) hHeld ?_; rotate_left; focus (intro w hSw; (try dsimp only at hSw); go_simp; (try with_reducible rfl); done))
      try simp only [Act.put, List.setIfInBounds_toArray, List.set_cons_zero, List.set_cons_succ]
      refine wpAnyH_ready (rs := [15]) (by kernel_rfl) (by simp) ?_
      refine AllReadyH.cons (o := _) rfl (fun KK hK => ?_) AllReadyH.nil
      go_simp
      refine (CD1.out y3 HB3.out).mono ?_
      rintro e y4 ⟨u4, rfl, hm4⟩
      obtain ⟨a4, c4, rfl, hl4, hb4⟩ := hm4.at
      rw [← HN2.out]
      have HL4 := hid hl4
      have HB4 : Hid (Below V.heap.size V y4) := HB3.out.trans (hb4.mono HB3.out.size)
      have hS4 := HKP.out y4 HB4.out
      clear hm4 hl4 hb4
      refine hK.out _ _ hS4 (fun hHeld => ?_)
      clear hK KK
      try simp only [Act.put]
      try simp only [List.setIfInBounds_toArray]
      try simp only [List.set_cons_succ]
      try simp only [List.set_cons_zero]
      refine wpAnyH_ready (rs := [18]) (by kernel_rfl) (by simp) ?_
      refine AllReadyH.cons (o := _) rfl (fun KK hK => ?_) AllReadyH.nil
      go_simp
      refine (CD2.out y4 HB4.out).mono ?_
      rintro e y5 ⟨u5, rfl, hm5⟩
      obtain ⟨a5', c5', rfl, hl5, hb5⟩ := hm5.at
      rw [← HN2.out]
      have HL5 : Hid (LLAt y5 a4 T2 ∧ LLAt y5 a5' T2) := ⟨HL4.out.below hb5, hl5⟩
      have HB5 : Hid (Below V.heap.size V y5) := HB4.out.trans (hb5.mono HB4.out.size)
      have hS5 := HKP.out y5 HB5.out
      clear hm5 hl5 hb5
      refine hK.out _ _ hS5 (fun hHeld => ?_)
      clear hK KK
      try simp only [Act.put]
      try simp only [List.setIfInBounds_toArray]
      try simp only [List.set_cons_succ]
      try simp only [List.set_cons_zero]
      refine wpAnyH_ready (rs := [19]) (by kernel_rfl) (by simp) ?_
      refine AllReadyH.cons (o := _) rfl (fun KK hK => ?_) AllReadyH.nil
      go_simp
      refine (CS2.out y5 a4 c4 a5' c5' HL5.out.1 HL5.out.2).mono ?_
      rintro e y6 ⟨rfl, hb6⟩
      have HB6 : Hid (Below V.heap.size V y6) := HB5.out.trans (hb6.mono HB5.out.size)
      have hS6 := HKP.out y6 HB6.out
      clear hb6
      refine hK.out _ _ hS6 (fun hHeld => ?_)
      clear hK KK
      try simp only [Act.put]
      try simp only [List.setIfInBounds_toArray]
      try simp only [List.set_cons_succ]
      try simp only [List.set_cons_zero]
      (refine takeW (i := 20) (dst := some 69) (v := ?_) rfl rfl (by kernel_rfl) (by kernel_rfl) (by kernel_rfl) (fun _ _ _ h => h) (Or.inl ⟨by rfl, ?_⟩) hHeld ?_; rotate_left; focus (intro w hSw; (try dsimp only at hSw); go_simp; (try with_reducible rfl); done))
      try simp only [Act.put, List.setIfInBounds_toArray, List.set_cons_zero, List.set_cons_succ]
      (refine takeW (i := 21) (dst := some 6) (v := ?_) rfl rfl (by kernel_rfl) (by kernel_rfl) (by kernel_rfl) (fun _ _ _ h => h) (Or.inl ⟨by rfl, ?_⟩) hHeld ?_; rotate_left; focus (intro w hSw; (try dsimp only at hSw); go_simp; (try with_reducible rfl); done))
      try simp only [Act.put]
      try simp only [List.setIfInBounds_toArray]
      try simp only [List.set_cons_succ]
      try simp only [List.set_cons_zero]
      refine wpAnyH_done (by kernel_rfl) ?_ _
      have HF := hid (HEND.out y6 HB6.out)
      clear hHeld hS hS1 hS2 hS3 hS4 hS5 hS6 CL1 CL2 CD1 CD2 CS1 CS2
      go_wp2
      go_ret
      exact ⟨rfl, by rw [← HBB0.out]; exact HF.out⟩
end Go.Proofs.Ytlebimolgienkaa
