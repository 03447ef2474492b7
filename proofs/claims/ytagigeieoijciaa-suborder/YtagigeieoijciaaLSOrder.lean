/-
  The law SubOrder over any calls that keep their contracts.
-/
import Derived.Test.YtagigeieoijciaaLSLeaves
import Derived.Test.YtagigeieoijciaaB18
namespace Go.Proofs.Ytagigeieoijciaa
open Go.RowKit Go.Lib

theorem news_cell {w : World} {b : Nat} {x : Value} (h : w.cell? ⟨b, 0, none⟩ = some x) : ∀ p, some (⟨b, 0, none⟩ : Addr) = some p → ∀ j u, [x][j]? = some u → w.cell? (p.add j) = some u := fun p hp j u hj => by
  cases hp
  cases j with
  | zero => simp at hj; subst hj; rw [add_at]; exact h
  | succ j => simp at hj
theorem take_cells {w X : World} {g t : Nat} {P : List Int} (h : IAt w (some ⟨g, 0, none⟩) P) (hX : Below w.heap.size w X) {j : Nat} {u : Value} (hu : ((P.take t).map (Value.int .i64))[j]? = some u) : X.cell? ((⟨g, 0, none⟩ : Addr).add j) = some u := by
  rw [List.getElem?_map] at hu
  by_cases hj : j < (P.take t).length
  · rw [List.getElem?_eq_getElem hj] at hu
    cases hu
    rw [List.length_take] at hj
    obtain ⟨g', o', e, hg, hc⟩ := h (by omega)
    cases e
    rw [add_at, List.getElem_take]
    exact (hX.cell (p := ⟨g, 0 + j, none⟩) hg).trans (hc j (by omega))
  · rw [List.getElem?_eq_none (by omega)] at hu; cases hu
theorem drop_cells {w X : World} {g t : Nat} {P : List Int} (h : IAt w (some ⟨g, 0, none⟩) P) (hX : Below w.heap.size w X) {j : Nat} {u : Value} (hu : ((P.drop t).map (Value.int .i64))[j]? = some u) : X.cell? ((⟨g, t, none⟩ : Addr).add j) = some u := by
  rw [List.getElem?_map] at hu
  by_cases hj : j < (P.drop t).length
  · rw [List.getElem?_eq_getElem hj] at hu
    cases hu
    rw [List.length_drop] at hj
    obtain ⟨g', o', e, hg, hc⟩ := h (by omega)
    cases e
    rw [add_at, List.getElem_drop]
    have := (hX.cell (p := ⟨g, 0 + (t + j), none⟩) hg).trans (hc (t + j) (by omega))
    simpa using this
  · rw [List.getElem?_eq_none (by omega)] at hu; cases hu
theorem ind_okP {m : Nat} {P : List Int} {es : List (Int × Int)} {er N : Int} {E : List (Int × Int)} (hR : RightG m es) (hP : Perm0 m P) (h : IndS m es P er N E) : er = 0 ∧ N = m ∧ IndE es P E := by
  rcases h with ⟨h1, _⟩ | ⟨_, h2, _⟩ | ⟨_, _, h3, _⟩ | ⟨_, _, _, h1, h2, h3⟩
  · exact absurd hR h1
  · exact absurd hP.2.2 h2
  · exact absurd hP.2.1 h3
  · exact ⟨h1, by rw [h2, hP.1], h3⟩
theorem ind_okB {m : Nat} {P : List Int} {F : Nat → Int} {es : List (Int × Int)} {er N : Int} {E : List (Int × Int)} (hR : RightG m es) (hP : Perm0 m P) (hb : BackOK P m F) (h : IndS m es (backL m F) er N E) : er = 0 ∧ N = m ∧ IndE es (backL m F) E := by
  rcases h with ⟨h1, _⟩ | ⟨_, h2, _⟩ | ⟨_, _, h3, _⟩ | ⟨_, _, _, h1, h2, h3⟩
  · exact absurd hR h1
  · exact absurd (back_in hP hb) h2
  · exact absurd (back_nodup hP hb) h3
  · exact ⟨h1, by rw [h2, backL_len], h3⟩
theorem row_some {w : World} {base n : Nat} {v : Value} {xs : List Int} (h : w.ownsRow base 3 1 v n (xs.map (Value.int .i64))) (hn : 0 < n) : ∃ g cap, v = .slice (some ⟨g, 0, none⟩) n cap ∧ n ≤ cap ∧ IAt w (some ⟨g, 0, none⟩) xs := by
  obtain ⟨g, cap, hv, hb, hg, hc, hcs⟩ := own_row h hn
  exact ⟨g, cap, hv, hc, fun _ => ⟨g, 0, rfl, hg, fun k hk => by rw [Nat.zero_add]; exact hcs k _ (by rw [List.getElem?_map, List.getElem?_eq_getElem hk]; rfl)⟩⟩

set_option maxHeartbeats 4000000 in
set_option maxRecDepth 100000 in
theorem subOrder_law (O : SubOps) (n : Int) (a : Option Addr) (len cap : Nat) (l : List (Int × Int)) (pa : Option Addr) (plen pc : Nat) (p : List Int) (w : World) (hl : len = l.length) (hE : EAt w a l) (hpl : plen = p.length) (hp : IAt w pa p) :
    Calls Try.prog 7 #[.agg #[.int .i64 n, .slice a len cap], .slice pa plen pc] w fun e w' => e = .returned (.bool true) ∧ Below w.heap.size w w' := by
  have HPI : Hid (∀ X, Below w.heap.size w X → IAt X pa p) := fun X h => hp.below h
  have HPL := hid hpl
  clear hp hpl
  have HO := hid O
  obtain ⟨W0, hW0⟩ := ex_eq (w.alloc (.cells #[.int .i64 n, .slice a len cap] 24))
  have hB0 : Below w.heap.size w W0 := by rw [hW0]; exact below_one _ _
  have hs0 : W0.heap.size = w.heap.size + 1 := by rw [hW0]; simp
  have HO0 : Hid (W0.heap[w.heap.size]? = some (.cells #[.int .i64 n, .slice a len cap] 24)) := by
    show _ = _
    rw [hW0]; exact heap_alloc_new _ _
  have HEX : Hid (∀ X, Below w.heap.size w X → EAt X a l) := fun X h => hE.below h
  have HL := hid hl
  have HW0 := hid hW0
  have HB0 := hid hB0
  clear O hl hE hW0 hB0
  go_enter Try.func7, Try.ntmps7
  go_wp2_with fail
  rw [← HW0.out]
  refine (sshown_any HO.out _).mono ?_
  rintro e w1 ⟨rfl, hb1⟩
  have hbw1 : Below w.heap.size w w1 := HB0.out.trans (hb1.mono (by omega))
  have o1 := (hb1.block w.heap.size (by omega)).trans HO0.out
  have x0 := cell_of_heap o1 0
  have x1 := cell_of_heap o1 1
  have CA := hid (net_any n a len cap l 30 w1 (by omega) HL.out (HEX.out w1 hbw1))
  have HB1 := hid hbw1
  clear hb1 hbw1 o1 HO0 hs0 HB0 HW0 HEX HL
  go_wp2_with fail
  refine CA.out.mono ?_
  rintro e w2 ⟨m, ys, a2, c2, rfl, hm30, hR, hys, hsl, hE2, hb2⟩
  obtain ⟨K, hK⟩ := ex_eq ys.length
  rw [← hK]
  have HK := hid hK
  obtain ⟨V2, hV2⟩ := ex_eq (w2.alloc (.cells #[.int .i64 m, .slice a2 K c2] 27))
  have HGg : Hid (GC V2 w2.heap.size m a2 K c2 ys) := by
    show GC V2 _ _ _ _ _ _
    rw [hV2]; exact gc_new6 hE2
  have HB : Hid (Below w.heap.size w V2) := by
    have h1 : Below w2.heap.size w2 V2 := by rw [hV2]; exact below_one _ _
    have h2 : Below w.heap.size w w2 := HB1.out.trans (hb2.mono HB1.out.size)
    exact h2.trans (h1.mono h2.size)
  have HV2 := hid hV2
  have HR := hid hR
  have HSL := hid hsl
  have hK3 : K ≤ 300 := by omega
  have HYS : Hid (ys.length ≤ 300) := hys
  obtain ⟨i0, hi0, hz0, hz1, hz2⟩ := info_parts Try.info3
  obtain ⟨d0, d1⟩ := HGg.out.cells
  have HGB : Hid (∀ X, Below V2.heap.size V2 X → GC X w2.heap.size m a2 K c2 ys ∧ Below w.heap.size w X) := fun X hX => ⟨HGg.out.on hX, HB.out.trans (hX.mono HB.out.size)⟩
  obtain ⟨V3, hV3⟩ := ex_eq (V2.alloc (.cells #[] 3))
  have hb3 : Below V2.heap.size V2 V3 := by rw [hV3]; exact below_one _ _
  have HI3 : Hid (IAt V3 (some ⟨V2.heap.size, 0, none⟩) []) := iat_nil _ _
  have HV3 := hid hV3
  clear hK hE2 hb2 hR hys hsl CA x0 x1 HB1 hV3 hV2
  go_upto_region 3 with fail
  rw [← HV2.out]
  clear HV2
  go_wp2
  rw [← HV3.out]
  clear HV3 d0 d1
  go_loopg [7, 8] m (fun Gh u i wz => ∃ (k : Nat) (P : List Int) (g cap : Nat), k ≤ m ∧ m - k ≤ Gh ∧ i = .int .i64 k ∧ u = .slice (some ⟨g, 0, none⟩) k cap ∧ k ≤ cap ∧ Hid (Perm0 k P) ∧ Hid (IAt wz (some ⟨g, 0, none⟩) P) ∧ Hid (Below V2.heap.size V2 wz))
  case atStart => exact ⟨0, [], _, 0, Nat.zero_le _, by omega, rfl, rfl, Nat.le_refl _, Perm0.zero, HI3, hb3⟩
  case round =>
    obtain ⟨k, P, g, cap, hk, hGh, rfl, rfl, hkc, hP, hI, hb⟩ := hrel
    obtain ⟨hg, hbw⟩ := HGB.out wr hb.out
    obtain ⟨d0, d1⟩ := hg.cells
    by_cases hlt : k < m
    · have q1 : (k : Int) < (m : Int) := by omega
      have hPK := hid hP.out.1
      -- the place
      have HBW := hid hbw
      clear hg hbw
      go_upto_if 31 with fail
      go_cut [9] from 22 to 51 (fun v wx => ∃ t : Nat, v = .int .i64 t ∧ t ≤ k ∧ wx = wr)
      case first =>
        by_cases hkp : k < plen
        · have q2 : (k : Int) < (plen : Int) := by omega
          have hkr : k < p.length := by rw [← HPL.out]; exact hkp
          obtain ⟨gp, op, rfl, hgp, hcs⟩ := HPI.out wr HBW.out (by omega)
          have d2 := hcs k hkr
          obtain ⟨x, hx⟩ := ex_eq p[k]
          rw [← hx] at d2
          obtain ⟨t, ht, htk⟩ := rnd_of x (m := k + 1) (by omega)
          have ht' : (bits .and .i64 x 65535).tmod ((k : Int) + 1) = (t : Int) := by simpa using ht
          have q3 : ¬ (k : Int) + 1 = 0 := by omega
          have q4 : IntKind.i64.wrap ((k : Int) + 1) = (k : Int) + 1 := by rw [IntKind.wrap_i64]; omega
          clear hcs hx ht hkr
          go_wp2
          go_meet
          exact ⟨t, rfl, by omega, rfl⟩
        · have q2 : ¬ (k : Int) < (plen : Int) := by omega
          go_wp2
          go_meet
          exact ⟨0, rfl, by omega, rfl⟩
      case rest =>
        obtain ⟨t, rfl, htk, hwc⟩ := hcut
        rw [hwc]
        clear hwc
        have HLT : Hid (((P.take t).map (Value.int .i64)).length = t * 1) := by show _ = _; rw [List.length_map, List.length_take]; have := hPK.out; omega
        have HLD : Hid (((P.drop t).map (Value.int .i64)).length = (k - t) * 1) := by show _ = _; rw [List.length_map, List.length_drop]; have := hPK.out; omega
        have HNT : Hid (∀ X, Below wr.heap.size wr X → ∀ z, (some ⟨g, 0, none⟩ : Option Addr) = some z → ∀ j u, ((P.take t).map (Value.int .i64))[j]? = some u → X.cell? (z.add j) = some u) := fun X hX z hz j u hu => by
          cases hz
          exact take_cells hI.out hX hu
        have HND : Hid (∀ X, Below wr.heap.size wr X → ∀ z, (some ⟨g, t, none⟩ : Option Addr) = some z → ∀ j u, ((P.drop t).map (Value.int .i64))[j]? = some u → X.cell? (z.add j) = some u) := fun X hX z hz j u hu => by
          cases hz
          exact drop_cells hI.out hX hu
        have HOT : Hid (∀ v ∈ (P.take t).map (Value.int .i64), v.oneCell' = true) := fun v hv => by obtain ⟨z, _, rfl⟩ := List.mem_map.1 hv; rfl
        have HOD : Hid (∀ v ∈ (P.drop t).map (Value.int .i64), v.oneCell' = true) := fun v hv => by obtain ⟨z, _, rfl⟩ := List.mem_map.1 hv; rfl
        have HONE : Hid (∀ v ∈ [Value.int .i64 (k : Int)], v.oneCell' = true) := fun v hv => by simp at hv; rw [hv]; rfl
        have s1 : (t : Int) ≤ (k : Int) := by omega
        have s2 : (t : Int) ≤ (cap : Int) := by omega
        have s3 : (0 : Int) ≤ (t : Int) := by omega
        have s4 : (k : Int) ≤ (cap : Int) := by omega
        have HPN : Hid (Perm0 (k + 1) (P.take t ++ [(k : Int)] ++ P.drop t)) := hP.out.put htk
        go_upto_region 10 with fail
        have hb0 : Below wr.heap.size wr wr := Below.refl _ _
        have HBR : Hid (∀ X, Below wr.heap.size wr X → Below V2.heap.size V2 X) := fun X hX => hb.out.trans (hX.mono hb.out.size)
        by_cases hct : cap = t
        · have HND0 : Hid (∀ X, Below wr.heap.size wr X → ∀ z, (some ⟨g, 0, none⟩ : Option Addr) = some z → ∀ j u, ((P.drop t).map (Value.int .i64))[j]? = some u → X.cell? (z.add j) = some u) := fun X hX z hz j u hu => by
            rw [List.drop_eq_nil_of_le (by have := hPK.out; omega)] at hu; simp at hu
          refine wp_region_held_drew (S := (fun _ => True)) (by kernel_rfl) trivial (fun hHeld => ?_)
          (refine takeW (i := 1) (dst := some 41) (v := ?_) rfl rfl (by kernel_rfl) (by kernel_rfl) (by kernel_rfl) (fun _ _ _ h => h) (Or.inl ⟨by rfl, ?_⟩) hHeld ?_; rotate_left; focus (intro w hSw; (try dsimp only at hSw); go_simp; (try with_reducible rfl); done))
          try simp only [Act.put]
          try simp only [List.setIfInBounds_toArray]
          try simp only [List.set_cons_succ]
          try simp only [List.set_cons_zero]
          (refine takeW (i := 2) (dst := some 42) (v := ?_) rfl rfl (by kernel_rfl) (by kernel_rfl) (by kernel_rfl) (fun _ _ _ h => h) (Or.inl ⟨by rfl, ?_⟩) hHeld ?_; rotate_left; focus (intro w hSw; (try dsimp only at hSw); go_simp; (try with_reducible rfl); done))
          try simp only [Act.put]
          try simp only [List.setIfInBounds_toArray]
          try simp only [List.set_cons_succ]
          try simp only [List.set_cons_zero]
          (refine takeW (i := 3) (dst := some 43) (v := ?_) rfl rfl (by kernel_rfl) (by kernel_rfl) (by kernel_rfl) (fun _ _ _ h => h) (Or.inl ⟨by rfl, ?_⟩) hHeld ?_; rotate_left; focus (intro w hSw; (try dsimp only at hSw); go_simp; (try with_reducible rfl); done))
          try simp only [Act.put]
          try simp only [List.setIfInBounds_toArray]
          try simp only [List.set_cons_succ]
          try simp only [List.set_cons_zero]
          (refine takeW (i := 5) (dst := some 45) (v := ?_) rfl rfl (by kernel_rfl) (by kernel_rfl) (by kernel_rfl) (fun _ _ _ h => h) (Or.inl ⟨by rfl, ?_⟩) hHeld ?_; rotate_left; focus (intro w hSw; (try dsimp only at hSw); go_simp; (try with_reducible rfl); done))
          try simp only [Act.put]
          try simp only [List.setIfInBounds_toArray]
          try simp only [List.set_cons_succ]
          try simp only [List.set_cons_zero]
          (refine takeW (i := 8) (dst := some 48) (v := ?_) rfl rfl (by kernel_rfl) (by kernel_rfl) (by kernel_rfl) (fun _ _ _ h => h) (Or.inl ⟨by rfl, ?_⟩) hHeld ?_; rotate_left; focus (intro w hSw; (try dsimp only at hSw); go_simp; (try with_reducible rfl); done))
          try simp only [Act.put]
          try simp only [List.setIfInBounds_toArray]
          try simp only [List.set_cons_succ]
          try simp only [List.set_cons_zero]
          (refine takeW (i := 9) (dst := some 49) (v := ?_) rfl rfl (by kernel_rfl) (by kernel_rfl) (by kernel_rfl) (fun _ _ _ h => h) (Or.inl ⟨by rfl, ?_⟩) hHeld ?_; rotate_left; focus (intro w hSw; (try dsimp only at hSw); go_simp; (try with_reducible rfl); done))
          try simp only [Act.put]
          try simp only [List.setIfInBounds_toArray]
          try simp only [List.set_cons_succ]
          try simp only [List.set_cons_zero]
          (refine takeW (i := 10) (dst := some 50) (v := ?_) rfl rfl (by kernel_rfl) (by kernel_rfl) (by kernel_rfl) (fun _ _ _ h => h) (Or.inl ⟨by rfl, ?_⟩) hHeld ?_; rotate_left; focus (intro w hSw; (try dsimp only at hSw); go_simp; (try with_reducible rfl); done))
          try simp only [Act.put]
          try simp only [List.setIfInBounds_toArray]
          try simp only [List.set_cons_succ]
          try simp only [List.set_cons_zero]
          refine wpAnyH_ready (rs := [0, 6]) (by kernel_rfl) (by simp) ?_
          refine AllReadyH.cons (o := _) rfl (fun KK hK => ?_) (AllReadyH.cons (o := _) rfl (fun KK hK => ?_) AllReadyH.nil)
          · go_simp
            obtain ⟨Z1, hZ⟩ := ex_eq ((wr.alloc (Obj.cells #[] 3 (0, 0))).drew)
            rw [← hZ]
            have HB1 : Hid (Below wr.heap.size wr Z1) := by
              show Below _ _ _
              rw [hZ]; exact (below_one _ _).drew
            have HO1 : Hid (Z1.ownsRow wr.heap.size 3 1 (.slice (some ⟨wr.heap.size, 0, none⟩) 0 0) 0 []) := by
              show World.ownsRow _ _ _ _ _ _ _
              rw [hZ]
              exact ⟨rfl, Or.inr ⟨wr.heap.size, 0, #[], rfl, Nat.le_refl _, heap_alloc_new _ _, Nat.le_refl _, Nat.zero_le _, rfl, rfl⟩⟩
            clear hZ
            refine hK.out _ _ trivial (fun hHeld => ?_)
            clear hK KK
            try simp only [Act.put]
            try simp only [List.setIfInBounds_toArray]
            try simp only [List.set_cons_succ]
            try simp only [List.set_cons_zero]
            refine wpAnyH_ready (rs := [4, 6]) (by kernel_rfl) (by simp) ?_
            refine AllReadyH.cons (o := _) rfl (fun KK hK => ?_) (AllReadyH.cons (o := _) rfl (fun KK hK => ?_) AllReadyH.nil)
            · refine step_append_any _ rfl (.tmp 40) (.tmp 43) 25 rfl wr.heap.size 3 i0 _ 1 8 Try.underlying25 hi0 hz0 hz1 hz2 rfl (by decide) (.slice (some ⟨wr.heap.size, 0, none⟩) 0 0) 0 [] (by simp [Act.eval]) HO1.out (some ⟨g, 0, none⟩) t t ((P.take t).map (Value.int .i64)) (by simp [Act.eval]) (fun h => by cases h) HLT.out (HNT.out Z1 HB1.out) HOT.out (by unfold maxLen; omega) (by omega) HB1.out.size ?_
              intro v2 w4_2 hown hgrow hat
              have HB2 : Hid (Below wr.heap.size wr w4_2) := Below.grown HB1.out hgrow HB1.out.size (fun j hj => (HO1.out.lt j hj).1)
              have HO2 : Hid (w4_2.ownsRow wr.heap.size 3 1 v2 t ((P.take t).map (Value.int .i64))) := by
                show World.ownsRow _ _ _ _ _ _ _
                have h := hown
                rw [Nat.zero_add, List.nil_append] at h
                skip
                exact h
              clear hown hgrow hat
              refine hK.out _ _ trivial (fun hHeld => ?_)
              clear hK KK
              try simp only [Act.put]
              try simp only [List.setIfInBounds_toArray]
              try simp only [List.set_cons_succ]
              try simp only [List.set_cons_zero]
              refine wpAnyH_ready (rs := [6]) (by kernel_rfl) (by simp) ?_
              refine AllReadyH.cons (o := _) rfl (fun KK hK => ?_) AllReadyH.nil
              go_simp
              obtain ⟨Z3, hZ⟩ := ex_eq (w4_2.alloc (Obj.cells #[.int .i64 k] 3 (0, 0)))
              rw [← hZ]
              have HB3 : Hid (Below wr.heap.size wr Z3) := by
                show Below _ _ _
                rw [hZ]; exact HB2.out.alloc HB2.out.size _
              have HC3 : Hid (Z3.cell? ⟨w4_2.heap.size, 0, none⟩ = some (.int .i64 k)) := by
                show _ = _
                rw [hZ]; exact cell_of_heap (heap_alloc_new w4_2 _) 0
              have HO3 : Hid (Z3.ownsRow wr.heap.size 3 1 v2 t ((P.take t).map (Value.int .i64))) := by
                show World.ownsRow _ _ _ _ _ _ _
                rw [hZ]; exact HO2.out.alloc _
              have HN3 : Hid (some (w4_2.heap.size) ≠ (Value.ownBlock v2)) := fun e => by
                have h := (HO2.out.lt _ e.symm).2
                simp at h
              clear hZ
              refine hK.out _ _ trivial (fun hHeld => ?_)
              clear hK KK
              try simp only [Act.put]
              try simp only [List.setIfInBounds_toArray]
              try simp only [List.set_cons_succ]
              try simp only [List.set_cons_zero]
              refine wpAnyH_ready (rs := [7]) (by kernel_rfl) (by simp) ?_
              refine AllReadyH.cons (o := _) rfl (fun KK hK => ?_) AllReadyH.nil
              refine step_append_any _ rfl (.tmp 44) (.tmp 46) 25 rfl wr.heap.size 3 i0 _ 1 8 Try.underlying25 hi0 hz0 hz1 hz2 rfl (by decide) v2 t ((P.take t).map (Value.int .i64)) (by simp [Act.eval]) HO3.out (some ⟨w4_2.heap.size, 0, none⟩) 1 1 [.int .i64 k] (by simp [Act.eval]) (fun h => by cases h) rfl (news_cell HC3.out) HONE.out (by unfold maxLen; omega) (by omega) HB3.out.size ?_
              intro v4 w4_4 hown hgrow hat
              have HB4 : Hid (Below wr.heap.size wr w4_4) := Below.grown HB3.out hgrow HB3.out.size (fun j hj => (HO3.out.lt j hj).1)
              have HO4 : Hid (w4_4.ownsRow wr.heap.size 3 1 v4 (t + 1) ((P.take t ++ [(k : Int)]).map (Value.int .i64))) := by
                show World.ownsRow _ _ _ _ _ _ _
                have h := hown
                rw [List.map_append]
                skip
                exact h
              clear hown hgrow hat
              refine hK.out _ _ trivial (fun hHeld => ?_)
              clear hK KK
              try simp only [Act.put]
              try simp only [List.setIfInBounds_toArray]
              try simp only [List.set_cons_succ]
              try simp only [List.set_cons_zero]
              refine wpAnyH_ready (rs := [11]) (by kernel_rfl) (by simp) ?_
              refine AllReadyH.cons (o := _) rfl (fun KK hK => ?_) AllReadyH.nil
              refine step_append_any _ rfl (.tmp 47) (.tmp 50) 25 rfl wr.heap.size 3 i0 _ 1 8 Try.underlying25 hi0 hz0 hz1 hz2 rfl (by decide) v4 (t + 1) ((P.take t ++ [(k : Int)]).map (Value.int .i64)) (by simp [Act.eval]) HO4.out (some ⟨g, 0, none⟩) (k - t) 0 ((P.drop t).map (Value.int .i64)) (by simp [Act.eval]) (fun h => by cases h) HLD.out (HND0.out w4_4 HB4.out) HOD.out (by unfold maxLen; omega) (by omega) HB4.out.size ?_
              intro v5 w4_5 hown hgrow hat
              have HB5 : Hid (Below wr.heap.size wr w4_5) := Below.grown HB4.out hgrow HB4.out.size (fun j hj => (HO4.out.lt j hj).1)
              have HO5 : Hid (w4_5.ownsRow wr.heap.size 3 1 v5 (k + 1) ((P.take t ++ [(k : Int)] ++ P.drop t).map (Value.int .i64))) := by
                show World.ownsRow _ _ _ _ _ _ _
                have h := hown
                rw [List.map_append]
                rw [show t + 1 + (k - t) = k + 1 by omega] at h
                exact h
              clear hown hgrow hat
              refine hK.out _ _ trivial (fun hHeld => ?_)
              clear hK KK
              try simp only [Act.put]
              try simp only [List.setIfInBounds_toArray]
              try simp only [List.set_cons_succ]
              try simp only [List.set_cons_zero]
              (refine takeW (i := 12) (dst := some 7) (v := ?_) rfl rfl (by kernel_rfl) (by kernel_rfl) (by kernel_rfl) (fun _ _ _ h => h) (Or.inl ⟨by rfl, ?_⟩) hHeld ?_; rotate_left; focus (intro w hSw; (try dsimp only at hSw); go_simp; (try with_reducible rfl); done))
              try simp only [Act.put]
              try simp only [List.setIfInBounds_toArray]
              try simp only [List.set_cons_succ]
              try simp only [List.set_cons_zero]
              refine wpAnyH_done (by kernel_rfl) ?_ _
              obtain ⟨g', c', hv', hc', hs'⟩ := row_some HO5.out (by omega)
              subst hv'
              have HS' := hid hs'
              have HB' := hid (HBR.out _ HB5.out)
              clear hs' hHeld
              go_wp2
              go_roundg (m - (k + 1))
              case measure => omega
              case rel => exact ⟨k + 1, _, g', c', by omega, Nat.le_refl _, by go_num, rfl, hc', HPN, HS', HB'⟩
            · go_simp
              obtain ⟨Z6, hZ⟩ := ex_eq (Z1.alloc (Obj.cells #[.int .i64 k] 3 (0, 0)))
              rw [← hZ]
              have HB6 : Hid (Below wr.heap.size wr Z6) := by
                show Below _ _ _
                rw [hZ]; exact HB1.out.alloc HB1.out.size _
              have HC6 : Hid (Z6.cell? ⟨Z1.heap.size, 0, none⟩ = some (.int .i64 k)) := by
                show _ = _
                rw [hZ]; exact cell_of_heap (heap_alloc_new Z1 _) 0
              have HO6 : Hid (Z6.ownsRow wr.heap.size 3 1 (.slice (some ⟨wr.heap.size, 0, none⟩) 0 0) 0 []) := by
                show World.ownsRow _ _ _ _ _ _ _
                rw [hZ]; exact HO1.out.alloc _
              have HN6 : Hid (some (Z1.heap.size) ≠ (Value.ownBlock (.slice (some ⟨wr.heap.size, 0, none⟩) 0 0))) := fun e => by
                have h := (HO1.out.lt _ e.symm).2
                simp at h
              clear hZ
              refine hK.out _ _ trivial (fun hHeld => ?_)
              clear hK KK
              try simp only [Act.put]
              try simp only [List.setIfInBounds_toArray]
              try simp only [List.set_cons_succ]
              try simp only [List.set_cons_zero]
              refine wpAnyH_ready (rs := [4]) (by kernel_rfl) (by simp) ?_
              refine AllReadyH.cons (o := _) rfl (fun KK hK => ?_) AllReadyH.nil
              refine step_append_any _ rfl (.tmp 40) (.tmp 43) 25 rfl wr.heap.size 3 i0 _ 1 8 Try.underlying25 hi0 hz0 hz1 hz2 rfl (by decide) (.slice (some ⟨wr.heap.size, 0, none⟩) 0 0) 0 [] (by simp [Act.eval]) HO6.out (some ⟨g, 0, none⟩) t t ((P.take t).map (Value.int .i64)) (by simp [Act.eval]) (fun h => by cases h) HLT.out (HNT.out Z6 HB6.out) HOT.out (by unfold maxLen; omega) (by omega) HB6.out.size ?_
              intro v7 w4_7 hown hgrow hat
              have HB7 : Hid (Below wr.heap.size wr w4_7) := Below.grown HB6.out hgrow HB6.out.size (fun j hj => (HO6.out.lt j hj).1)
              have HO7 : Hid (w4_7.ownsRow wr.heap.size 3 1 v7 t ((P.take t).map (Value.int .i64))) := by
                show World.ownsRow _ _ _ _ _ _ _
                have h := hown
                rw [Nat.zero_add, List.nil_append] at h
                skip
                exact h
              have HC7 : Hid (w4_7.cell? ⟨Z1.heap.size, 0, none⟩ = some (.int .i64 k)) := hgrow.cell HC6.out HN6.out
              have HN7 : Hid (some (Z1.heap.size) ≠ (Value.ownBlock v7)) := by
                show _ ≠ _
                rcases hat with h | h
                · rw [h]; exact HN6.out
                · rw [h]
                  have h2 := block_lt_of_cell HC6.out
                  intro e
                  simp at e h2
                  omega
              clear hown hgrow hat
              refine hK.out _ _ trivial (fun hHeld => ?_)
              clear hK KK
              try simp only [Act.put]
              try simp only [List.setIfInBounds_toArray]
              try simp only [List.set_cons_succ]
              try simp only [List.set_cons_zero]
              refine wpAnyH_ready (rs := [7]) (by kernel_rfl) (by simp) ?_
              refine AllReadyH.cons (o := _) rfl (fun KK hK => ?_) AllReadyH.nil
              refine step_append_any _ rfl (.tmp 44) (.tmp 46) 25 rfl wr.heap.size 3 i0 _ 1 8 Try.underlying25 hi0 hz0 hz1 hz2 rfl (by decide) v7 t ((P.take t).map (Value.int .i64)) (by simp [Act.eval]) HO7.out (some ⟨Z1.heap.size, 0, none⟩) 1 1 [.int .i64 k] (by simp [Act.eval]) (fun h => by cases h) rfl (news_cell HC7.out) HONE.out (by unfold maxLen; omega) (by omega) HB7.out.size ?_
              intro v8 w4_8 hown hgrow hat
              have HB8 : Hid (Below wr.heap.size wr w4_8) := Below.grown HB7.out hgrow HB7.out.size (fun j hj => (HO7.out.lt j hj).1)
              have HO8 : Hid (w4_8.ownsRow wr.heap.size 3 1 v8 (t + 1) ((P.take t ++ [(k : Int)]).map (Value.int .i64))) := by
                show World.ownsRow _ _ _ _ _ _ _
                have h := hown
                rw [List.map_append]
                skip
                exact h
              clear hown hgrow hat
              refine hK.out _ _ trivial (fun hHeld => ?_)
              clear hK KK
              try simp only [Act.put]
              try simp only [List.setIfInBounds_toArray]
              try simp only [List.set_cons_succ]
              try simp only [List.set_cons_zero]
              refine wpAnyH_ready (rs := [11]) (by kernel_rfl) (by simp) ?_
              refine AllReadyH.cons (o := _) rfl (fun KK hK => ?_) AllReadyH.nil
              refine step_append_any _ rfl (.tmp 47) (.tmp 50) 25 rfl wr.heap.size 3 i0 _ 1 8 Try.underlying25 hi0 hz0 hz1 hz2 rfl (by decide) v8 (t + 1) ((P.take t ++ [(k : Int)]).map (Value.int .i64)) (by simp [Act.eval]) HO8.out (some ⟨g, 0, none⟩) (k - t) 0 ((P.drop t).map (Value.int .i64)) (by simp [Act.eval]) (fun h => by cases h) HLD.out (HND0.out w4_8 HB8.out) HOD.out (by unfold maxLen; omega) (by omega) HB8.out.size ?_
              intro v9 w4_9 hown hgrow hat
              have HB9 : Hid (Below wr.heap.size wr w4_9) := Below.grown HB8.out hgrow HB8.out.size (fun j hj => (HO8.out.lt j hj).1)
              have HO9 : Hid (w4_9.ownsRow wr.heap.size 3 1 v9 (k + 1) ((P.take t ++ [(k : Int)] ++ P.drop t).map (Value.int .i64))) := by
                show World.ownsRow _ _ _ _ _ _ _
                have h := hown
                rw [List.map_append]
                rw [show t + 1 + (k - t) = k + 1 by omega] at h
                exact h
              clear hown hgrow hat
              refine hK.out _ _ trivial (fun hHeld => ?_)
              clear hK KK
              try simp only [Act.put]
              try simp only [List.setIfInBounds_toArray]
              try simp only [List.set_cons_succ]
              try simp only [List.set_cons_zero]
              (refine takeW (i := 12) (dst := some 7) (v := ?_) rfl rfl (by kernel_rfl) (by kernel_rfl) (by kernel_rfl) (fun _ _ _ h => h) (Or.inl ⟨by rfl, ?_⟩) hHeld ?_; rotate_left; focus (intro w hSw; (try dsimp only at hSw); go_simp; (try with_reducible rfl); done))
              try simp only [Act.put]
              try simp only [List.setIfInBounds_toArray]
              try simp only [List.set_cons_succ]
              try simp only [List.set_cons_zero]
              refine wpAnyH_done (by kernel_rfl) ?_ _
              obtain ⟨g', c', hv', hc', hs'⟩ := row_some HO9.out (by omega)
              subst hv'
              have HS' := hid hs'
              have HB' := hid (HBR.out _ HB9.out)
              clear hs' hHeld
              go_wp2
              go_roundg (m - (k + 1))
              case measure => omega
              case rel => exact ⟨k + 1, _, g', c', by omega, Nat.le_refl _, by go_num, rfl, hc', HPN, HS', HB'⟩
          · go_simp
            obtain ⟨Z10, hZ⟩ := ex_eq ((wr.alloc (Obj.cells #[.int .i64 k] 3 (0, 0))).drew)
            rw [← hZ]
            have HB10 : Hid (Below wr.heap.size wr Z10) := by
              show Below _ _ _
              rw [hZ]; exact (below_one _ _).drew
            have HC10 : Hid (Z10.cell? ⟨wr.heap.size, 0, none⟩ = some (.int .i64 k)) := by
              show _ = _
              rw [hZ]; exact cell_of_heap (heap_alloc_new wr _) 0
            clear hZ
            refine hK.out _ _ trivial (fun hHeld => ?_)
            clear hK KK
            try simp only [Act.put]
            try simp only [List.setIfInBounds_toArray]
            try simp only [List.set_cons_succ]
            try simp only [List.set_cons_zero]
            refine wpAnyH_ready (rs := [0]) (by kernel_rfl) (by simp) ?_
            refine AllReadyH.cons (o := _) rfl (fun KK hK => ?_) AllReadyH.nil
            go_simp
            obtain ⟨Z11, hZ⟩ := ex_eq (Z10.alloc (Obj.cells #[] 3 (0, 0)))
            rw [← hZ]
            have HB11 : Hid (Below wr.heap.size wr Z11) := by
              show Below _ _ _
              rw [hZ]; exact HB10.out.alloc HB10.out.size _
            have HO11 : Hid (Z11.ownsRow wr.heap.size 3 1 (.slice (some ⟨Z10.heap.size, 0, none⟩) 0 0) 0 []) := by
              show World.ownsRow _ _ _ _ _ _ _
              rw [hZ]
              exact ⟨rfl, Or.inr ⟨Z10.heap.size, 0, #[], rfl, HB10.out.size, heap_alloc_new _ _, Nat.le_refl _, Nat.zero_le _, rfl, rfl⟩⟩
            have HC11 : Hid (Z11.cell? ⟨wr.heap.size, 0, none⟩ = some (.int .i64 k)) := by
              show _ = _
              rw [hZ]; exact cell_alloc_old HC10.out _
            have HN11 : Hid (some (wr.heap.size) ≠ (Value.slice (some ⟨Z10.heap.size, 0, none⟩) 0 0).ownBlock) := fun e => by
              have h := block_lt_of_cell HC10.out
              simp [Value.ownBlock] at e h
              omega
            clear hZ
            refine hK.out _ _ trivial (fun hHeld => ?_)
            clear hK KK
            try simp only [Act.put]
            try simp only [List.setIfInBounds_toArray]
            try simp only [List.set_cons_succ]
            try simp only [List.set_cons_zero]
            refine wpAnyH_ready (rs := [4]) (by kernel_rfl) (by simp) ?_
            refine AllReadyH.cons (o := _) rfl (fun KK hK => ?_) AllReadyH.nil
            refine step_append_any _ rfl (.tmp 40) (.tmp 43) 25 rfl wr.heap.size 3 i0 _ 1 8 Try.underlying25 hi0 hz0 hz1 hz2 rfl (by decide) (.slice (some ⟨Z10.heap.size, 0, none⟩) 0 0) 0 [] (by simp [Act.eval]) HO11.out (some ⟨g, 0, none⟩) t t ((P.take t).map (Value.int .i64)) (by simp [Act.eval]) (fun h => by cases h) HLT.out (HNT.out Z11 HB11.out) HOT.out (by unfold maxLen; omega) (by omega) HB11.out.size ?_
            intro v12 w4_12 hown hgrow hat
            have HB12 : Hid (Below wr.heap.size wr w4_12) := Below.grown HB11.out hgrow HB11.out.size (fun j hj => (HO11.out.lt j hj).1)
            have HO12 : Hid (w4_12.ownsRow wr.heap.size 3 1 v12 t ((P.take t).map (Value.int .i64))) := by
              show World.ownsRow _ _ _ _ _ _ _
              have h := hown
              rw [Nat.zero_add, List.nil_append] at h
              skip
              exact h
            have HC12 : Hid (w4_12.cell? ⟨wr.heap.size, 0, none⟩ = some (.int .i64 k)) := hgrow.cell HC11.out HN11.out
            have HN12 : Hid (some (wr.heap.size) ≠ (Value.ownBlock v12)) := by
              show _ ≠ _
              rcases hat with h | h
              · rw [h]; exact HN11.out
              · rw [h]
                have h2 := block_lt_of_cell HC11.out
                intro e
                simp at e h2
                omega
            clear hown hgrow hat
            refine hK.out _ _ trivial (fun hHeld => ?_)
            clear hK KK
            try simp only [Act.put]
            try simp only [List.setIfInBounds_toArray]
            try simp only [List.set_cons_succ]
            try simp only [List.set_cons_zero]
            refine wpAnyH_ready (rs := [7]) (by kernel_rfl) (by simp) ?_
            refine AllReadyH.cons (o := _) rfl (fun KK hK => ?_) AllReadyH.nil
            refine step_append_any _ rfl (.tmp 44) (.tmp 46) 25 rfl wr.heap.size 3 i0 _ 1 8 Try.underlying25 hi0 hz0 hz1 hz2 rfl (by decide) v12 t ((P.take t).map (Value.int .i64)) (by simp [Act.eval]) HO12.out (some ⟨wr.heap.size, 0, none⟩) 1 1 [.int .i64 k] (by simp [Act.eval]) (fun h => by cases h) rfl (news_cell HC12.out) HONE.out (by unfold maxLen; omega) (by omega) HB12.out.size ?_
            intro v13 w4_13 hown hgrow hat
            have HB13 : Hid (Below wr.heap.size wr w4_13) := Below.grown HB12.out hgrow HB12.out.size (fun j hj => (HO12.out.lt j hj).1)
            have HO13 : Hid (w4_13.ownsRow wr.heap.size 3 1 v13 (t + 1) ((P.take t ++ [(k : Int)]).map (Value.int .i64))) := by
              show World.ownsRow _ _ _ _ _ _ _
              have h := hown
              rw [List.map_append]
              skip
              exact h
            clear hown hgrow hat
            refine hK.out _ _ trivial (fun hHeld => ?_)
            clear hK KK
            try simp only [Act.put]
            try simp only [List.setIfInBounds_toArray]
            try simp only [List.set_cons_succ]
            try simp only [List.set_cons_zero]
            refine wpAnyH_ready (rs := [11]) (by kernel_rfl) (by simp) ?_
            refine AllReadyH.cons (o := _) rfl (fun KK hK => ?_) AllReadyH.nil
            refine step_append_any _ rfl (.tmp 47) (.tmp 50) 25 rfl wr.heap.size 3 i0 _ 1 8 Try.underlying25 hi0 hz0 hz1 hz2 rfl (by decide) v13 (t + 1) ((P.take t ++ [(k : Int)]).map (Value.int .i64)) (by simp [Act.eval]) HO13.out (some ⟨g, 0, none⟩) (k - t) 0 ((P.drop t).map (Value.int .i64)) (by simp [Act.eval]) (fun h => by cases h) HLD.out (HND0.out w4_13 HB13.out) HOD.out (by unfold maxLen; omega) (by omega) HB13.out.size ?_
            intro v14 w4_14 hown hgrow hat
            have HB14 : Hid (Below wr.heap.size wr w4_14) := Below.grown HB13.out hgrow HB13.out.size (fun j hj => (HO13.out.lt j hj).1)
            have HO14 : Hid (w4_14.ownsRow wr.heap.size 3 1 v14 (k + 1) ((P.take t ++ [(k : Int)] ++ P.drop t).map (Value.int .i64))) := by
              show World.ownsRow _ _ _ _ _ _ _
              have h := hown
              rw [List.map_append]
              rw [show t + 1 + (k - t) = k + 1 by omega] at h
              exact h
            clear hown hgrow hat
            refine hK.out _ _ trivial (fun hHeld => ?_)
            clear hK KK
            try simp only [Act.put]
            try simp only [List.setIfInBounds_toArray]
            try simp only [List.set_cons_succ]
            try simp only [List.set_cons_zero]
            (refine takeW (i := 12) (dst := some 7) (v := ?_) rfl rfl (by kernel_rfl) (by kernel_rfl) (by kernel_rfl) (fun _ _ _ h => h) (Or.inl ⟨by rfl, ?_⟩) hHeld ?_; rotate_left; focus (intro w hSw; (try dsimp only at hSw); go_simp; (try with_reducible rfl); done))
            try simp only [Act.put]
            try simp only [List.setIfInBounds_toArray]
            try simp only [List.set_cons_succ]
            try simp only [List.set_cons_zero]
            refine wpAnyH_done (by kernel_rfl) ?_ _
            obtain ⟨g', c', hv', hc', hs'⟩ := row_some HO14.out (by omega)
            subst hv'
            have HS' := hid hs'
            have HB' := hid (HBR.out _ HB14.out)
            clear hs' hHeld
            go_wp2
            go_roundg (m - (k + 1))
            case measure => omega
            case rel => exact ⟨k + 1, _, g', c', by omega, Nat.le_refl _, by go_num, rfl, hc', HPN, HS', HB'⟩
        · refine wp_region_held_drew (S := (fun _ => True)) (by kernel_rfl) trivial (fun hHeld => ?_)
          (refine takeW (i := 1) (dst := some 41) (v := ?_) rfl rfl (by kernel_rfl) (by kernel_rfl) (by kernel_rfl) (fun _ _ _ h => h) (Or.inl ⟨by rfl, ?_⟩) hHeld ?_; rotate_left; focus (intro w hSw; (try dsimp only at hSw); go_simp; (try with_reducible rfl); done))
          try simp only [Act.put]
          try simp only [List.setIfInBounds_toArray]
          try simp only [List.set_cons_succ]
          try simp only [List.set_cons_zero]
          (refine takeW (i := 2) (dst := some 42) (v := ?_) rfl rfl (by kernel_rfl) (by kernel_rfl) (by kernel_rfl) (fun _ _ _ h => h) (Or.inl ⟨by rfl, ?_⟩) hHeld ?_; rotate_left; focus (intro w hSw; (try dsimp only at hSw); go_simp; (try with_reducible rfl); done))
          try simp only [Act.put]
          try simp only [List.setIfInBounds_toArray]
          try simp only [List.set_cons_succ]
          try simp only [List.set_cons_zero]
          (refine takeW (i := 3) (dst := some 43) (v := ?_) rfl rfl (by kernel_rfl) (by kernel_rfl) (by kernel_rfl) (fun _ _ _ h => h) (Or.inl ⟨by rfl, ?_⟩) hHeld ?_; rotate_left; focus (intro w hSw; (try dsimp only at hSw); go_simp; (try with_reducible rfl); done))
          try simp only [Act.put]
          try simp only [List.setIfInBounds_toArray]
          try simp only [List.set_cons_succ]
          try simp only [List.set_cons_zero]
          (refine takeW (i := 5) (dst := some 45) (v := ?_) rfl rfl (by kernel_rfl) (by kernel_rfl) (by kernel_rfl) (fun _ _ _ h => h) (Or.inl ⟨by rfl, ?_⟩) hHeld ?_; rotate_left; focus (intro w hSw; (try dsimp only at hSw); go_simp; (try with_reducible rfl); done))
          try simp only [Act.put]
          try simp only [List.setIfInBounds_toArray]
          try simp only [List.set_cons_succ]
          try simp only [List.set_cons_zero]
          (refine takeW (i := 8) (dst := some 48) (v := ?_) rfl rfl (by kernel_rfl) (by kernel_rfl) (by kernel_rfl) (fun _ _ _ h => h) (Or.inl ⟨by rfl, ?_⟩) hHeld ?_; rotate_left; focus (intro w hSw; (try dsimp only at hSw); go_simp; (try with_reducible rfl); done))
          try simp only [Act.put]
          try simp only [List.setIfInBounds_toArray]
          try simp only [List.set_cons_succ]
          try simp only [List.set_cons_zero]
          (refine takeW (i := 9) (dst := some 49) (v := ?_) rfl rfl (by kernel_rfl) (by kernel_rfl) (by kernel_rfl) (fun _ _ _ h => h) (Or.inl ⟨by rfl, ?_⟩) hHeld ?_; rotate_left; focus (intro w hSw; (try dsimp only at hSw); go_simp; (try with_reducible rfl); done))
          try simp only [Act.put]
          try simp only [List.setIfInBounds_toArray]
          try simp only [List.set_cons_succ]
          try simp only [List.set_cons_zero]
          (refine takeW (i := 10) (dst := some 50) (v := ?_) rfl rfl (by kernel_rfl) (by kernel_rfl) (by kernel_rfl) (fun _ _ _ h => h) (Or.inl ⟨by rfl, ?_⟩) hHeld ?_; rotate_left; focus (intro w hSw; (try dsimp only at hSw); go_simp; (try with_reducible rfl); done))
          try simp only [Act.put]
          try simp only [List.setIfInBounds_toArray]
          try simp only [List.set_cons_succ]
          try simp only [List.set_cons_zero]
          refine wpAnyH_ready (rs := [0, 6]) (by kernel_rfl) (by simp) ?_
          refine AllReadyH.cons (o := _) rfl (fun KK hK => ?_) (AllReadyH.cons (o := _) rfl (fun KK hK => ?_) AllReadyH.nil)
          · go_simp
            obtain ⟨Z15, hZ⟩ := ex_eq ((wr.alloc (Obj.cells #[] 3 (0, 0))).drew)
            rw [← hZ]
            have HB15 : Hid (Below wr.heap.size wr Z15) := by
              show Below _ _ _
              rw [hZ]; exact (below_one _ _).drew
            have HO15 : Hid (Z15.ownsRow wr.heap.size 3 1 (.slice (some ⟨wr.heap.size, 0, none⟩) 0 0) 0 []) := by
              show World.ownsRow _ _ _ _ _ _ _
              rw [hZ]
              exact ⟨rfl, Or.inr ⟨wr.heap.size, 0, #[], rfl, Nat.le_refl _, heap_alloc_new _ _, Nat.le_refl _, Nat.zero_le _, rfl, rfl⟩⟩
            clear hZ
            refine hK.out _ _ trivial (fun hHeld => ?_)
            clear hK KK
            try simp only [Act.put]
            try simp only [List.setIfInBounds_toArray]
            try simp only [List.set_cons_succ]
            try simp only [List.set_cons_zero]
            refine wpAnyH_ready (rs := [4, 6]) (by kernel_rfl) (by simp) ?_
            refine AllReadyH.cons (o := _) rfl (fun KK hK => ?_) (AllReadyH.cons (o := _) rfl (fun KK hK => ?_) AllReadyH.nil)
            · refine step_append_any _ rfl (.tmp 40) (.tmp 43) 25 rfl wr.heap.size 3 i0 _ 1 8 Try.underlying25 hi0 hz0 hz1 hz2 rfl (by decide) (.slice (some ⟨wr.heap.size, 0, none⟩) 0 0) 0 [] (by simp [Act.eval]) HO15.out (some ⟨g, 0, none⟩) t cap ((P.take t).map (Value.int .i64)) (by simp [Act.eval]) (fun h => by cases h) HLT.out (HNT.out Z15 HB15.out) HOT.out (by unfold maxLen; omega) (by omega) HB15.out.size ?_
              intro v16 w4_16 hown hgrow hat
              have HB16 : Hid (Below wr.heap.size wr w4_16) := Below.grown HB15.out hgrow HB15.out.size (fun j hj => (HO15.out.lt j hj).1)
              have HO16 : Hid (w4_16.ownsRow wr.heap.size 3 1 v16 t ((P.take t).map (Value.int .i64))) := by
                show World.ownsRow _ _ _ _ _ _ _
                have h := hown
                rw [Nat.zero_add, List.nil_append] at h
                skip
                exact h
              clear hown hgrow hat
              refine hK.out _ _ trivial (fun hHeld => ?_)
              clear hK KK
              try simp only [Act.put]
              try simp only [List.setIfInBounds_toArray]
              try simp only [List.set_cons_succ]
              try simp only [List.set_cons_zero]
              refine wpAnyH_ready (rs := [6]) (by kernel_rfl) (by simp) ?_
              refine AllReadyH.cons (o := _) rfl (fun KK hK => ?_) AllReadyH.nil
              go_simp
              obtain ⟨Z17, hZ⟩ := ex_eq (w4_16.alloc (Obj.cells #[.int .i64 k] 3 (0, 0)))
              rw [← hZ]
              have HB17 : Hid (Below wr.heap.size wr Z17) := by
                show Below _ _ _
                rw [hZ]; exact HB16.out.alloc HB16.out.size _
              have HC17 : Hid (Z17.cell? ⟨w4_16.heap.size, 0, none⟩ = some (.int .i64 k)) := by
                show _ = _
                rw [hZ]; exact cell_of_heap (heap_alloc_new w4_16 _) 0
              have HO17 : Hid (Z17.ownsRow wr.heap.size 3 1 v16 t ((P.take t).map (Value.int .i64))) := by
                show World.ownsRow _ _ _ _ _ _ _
                rw [hZ]; exact HO16.out.alloc _
              have HN17 : Hid (some (w4_16.heap.size) ≠ (Value.ownBlock v16)) := fun e => by
                have h := (HO16.out.lt _ e.symm).2
                simp at h
              clear hZ
              refine hK.out _ _ trivial (fun hHeld => ?_)
              clear hK KK
              try simp only [Act.put]
              try simp only [List.setIfInBounds_toArray]
              try simp only [List.set_cons_succ]
              try simp only [List.set_cons_zero]
              refine wpAnyH_ready (rs := [7]) (by kernel_rfl) (by simp) ?_
              refine AllReadyH.cons (o := _) rfl (fun KK hK => ?_) AllReadyH.nil
              refine step_append_any _ rfl (.tmp 44) (.tmp 46) 25 rfl wr.heap.size 3 i0 _ 1 8 Try.underlying25 hi0 hz0 hz1 hz2 rfl (by decide) v16 t ((P.take t).map (Value.int .i64)) (by simp [Act.eval]) HO17.out (some ⟨w4_16.heap.size, 0, none⟩) 1 1 [.int .i64 k] (by simp [Act.eval]) (fun h => by cases h) rfl (news_cell HC17.out) HONE.out (by unfold maxLen; omega) (by omega) HB17.out.size ?_
              intro v18 w4_18 hown hgrow hat
              have HB18 : Hid (Below wr.heap.size wr w4_18) := Below.grown HB17.out hgrow HB17.out.size (fun j hj => (HO17.out.lt j hj).1)
              have HO18 : Hid (w4_18.ownsRow wr.heap.size 3 1 v18 (t + 1) ((P.take t ++ [(k : Int)]).map (Value.int .i64))) := by
                show World.ownsRow _ _ _ _ _ _ _
                have h := hown
                rw [List.map_append]
                skip
                exact h
              clear hown hgrow hat
              refine hK.out _ _ trivial (fun hHeld => ?_)
              clear hK KK
              try simp only [Act.put]
              try simp only [List.setIfInBounds_toArray]
              try simp only [List.set_cons_succ]
              try simp only [List.set_cons_zero]
              refine wpAnyH_ready (rs := [11]) (by kernel_rfl) (by simp) ?_
              refine AllReadyH.cons (o := _) rfl (fun KK hK => ?_) AllReadyH.nil
              refine step_append_any _ rfl (.tmp 47) (.tmp 50) 25 rfl wr.heap.size 3 i0 _ 1 8 Try.underlying25 hi0 hz0 hz1 hz2 rfl (by decide) v18 (t + 1) ((P.take t ++ [(k : Int)]).map (Value.int .i64)) (by simp [Act.eval]) HO18.out (some ⟨g, t, none⟩) (k - t) (cap - t) ((P.drop t).map (Value.int .i64)) (by simp [Act.eval]) (fun h => by cases h) HLD.out (HND.out w4_18 HB18.out) HOD.out (by unfold maxLen; omega) (by omega) HB18.out.size ?_
              intro v19 w4_19 hown hgrow hat
              have HB19 : Hid (Below wr.heap.size wr w4_19) := Below.grown HB18.out hgrow HB18.out.size (fun j hj => (HO18.out.lt j hj).1)
              have HO19 : Hid (w4_19.ownsRow wr.heap.size 3 1 v19 (k + 1) ((P.take t ++ [(k : Int)] ++ P.drop t).map (Value.int .i64))) := by
                show World.ownsRow _ _ _ _ _ _ _
                have h := hown
                rw [List.map_append]
                rw [show t + 1 + (k - t) = k + 1 by omega] at h
                exact h
              clear hown hgrow hat
              refine hK.out _ _ trivial (fun hHeld => ?_)
              clear hK KK
              try simp only [Act.put]
              try simp only [List.setIfInBounds_toArray]
              try simp only [List.set_cons_succ]
              try simp only [List.set_cons_zero]
              (refine takeW (i := 12) (dst := some 7) (v := ?_) rfl rfl (by kernel_rfl) (by kernel_rfl) (by kernel_rfl) (fun _ _ _ h => h) (Or.inl ⟨by rfl, ?_⟩) hHeld ?_; rotate_left; focus (intro w hSw; (try dsimp only at hSw); go_simp; (try with_reducible rfl); done))
              try simp only [Act.put]
              try simp only [List.setIfInBounds_toArray]
              try simp only [List.set_cons_succ]
              try simp only [List.set_cons_zero]
              refine wpAnyH_done (by kernel_rfl) ?_ _
              obtain ⟨g', c', hv', hc', hs'⟩ := row_some HO19.out (by omega)
              subst hv'
              have HS' := hid hs'
              have HB' := hid (HBR.out _ HB19.out)
              clear hs' hHeld
              go_wp2
              go_roundg (m - (k + 1))
              case measure => omega
              case rel => exact ⟨k + 1, _, g', c', by omega, Nat.le_refl _, by go_num, rfl, hc', HPN, HS', HB'⟩
            · go_simp
              obtain ⟨Z20, hZ⟩ := ex_eq (Z15.alloc (Obj.cells #[.int .i64 k] 3 (0, 0)))
              rw [← hZ]
              have HB20 : Hid (Below wr.heap.size wr Z20) := by
                show Below _ _ _
                rw [hZ]; exact HB15.out.alloc HB15.out.size _
              have HC20 : Hid (Z20.cell? ⟨Z15.heap.size, 0, none⟩ = some (.int .i64 k)) := by
                show _ = _
                rw [hZ]; exact cell_of_heap (heap_alloc_new Z15 _) 0
              have HO20 : Hid (Z20.ownsRow wr.heap.size 3 1 (.slice (some ⟨wr.heap.size, 0, none⟩) 0 0) 0 []) := by
                show World.ownsRow _ _ _ _ _ _ _
                rw [hZ]; exact HO15.out.alloc _
              have HN20 : Hid (some (Z15.heap.size) ≠ (Value.ownBlock (.slice (some ⟨wr.heap.size, 0, none⟩) 0 0))) := fun e => by
                have h := (HO15.out.lt _ e.symm).2
                simp at h
              clear hZ
              refine hK.out _ _ trivial (fun hHeld => ?_)
              clear hK KK
              try simp only [Act.put]
              try simp only [List.setIfInBounds_toArray]
              try simp only [List.set_cons_succ]
              try simp only [List.set_cons_zero]
              refine wpAnyH_ready (rs := [4]) (by kernel_rfl) (by simp) ?_
              refine AllReadyH.cons (o := _) rfl (fun KK hK => ?_) AllReadyH.nil
              refine step_append_any _ rfl (.tmp 40) (.tmp 43) 25 rfl wr.heap.size 3 i0 _ 1 8 Try.underlying25 hi0 hz0 hz1 hz2 rfl (by decide) (.slice (some ⟨wr.heap.size, 0, none⟩) 0 0) 0 [] (by simp [Act.eval]) HO20.out (some ⟨g, 0, none⟩) t cap ((P.take t).map (Value.int .i64)) (by simp [Act.eval]) (fun h => by cases h) HLT.out (HNT.out Z20 HB20.out) HOT.out (by unfold maxLen; omega) (by omega) HB20.out.size ?_
              intro v21 w4_21 hown hgrow hat
              have HB21 : Hid (Below wr.heap.size wr w4_21) := Below.grown HB20.out hgrow HB20.out.size (fun j hj => (HO20.out.lt j hj).1)
              have HO21 : Hid (w4_21.ownsRow wr.heap.size 3 1 v21 t ((P.take t).map (Value.int .i64))) := by
                show World.ownsRow _ _ _ _ _ _ _
                have h := hown
                rw [Nat.zero_add, List.nil_append] at h
                skip
                exact h
              have HC21 : Hid (w4_21.cell? ⟨Z15.heap.size, 0, none⟩ = some (.int .i64 k)) := hgrow.cell HC20.out HN20.out
              have HN21 : Hid (some (Z15.heap.size) ≠ (Value.ownBlock v21)) := by
                show _ ≠ _
                rcases hat with h | h
                · rw [h]; exact HN20.out
                · rw [h]
                  have h2 := block_lt_of_cell HC20.out
                  intro e
                  simp at e h2
                  omega
              clear hown hgrow hat
              refine hK.out _ _ trivial (fun hHeld => ?_)
              clear hK KK
              try simp only [Act.put]
              try simp only [List.setIfInBounds_toArray]
              try simp only [List.set_cons_succ]
              try simp only [List.set_cons_zero]
              refine wpAnyH_ready (rs := [7]) (by kernel_rfl) (by simp) ?_
              refine AllReadyH.cons (o := _) rfl (fun KK hK => ?_) AllReadyH.nil
              refine step_append_any _ rfl (.tmp 44) (.tmp 46) 25 rfl wr.heap.size 3 i0 _ 1 8 Try.underlying25 hi0 hz0 hz1 hz2 rfl (by decide) v21 t ((P.take t).map (Value.int .i64)) (by simp [Act.eval]) HO21.out (some ⟨Z15.heap.size, 0, none⟩) 1 1 [.int .i64 k] (by simp [Act.eval]) (fun h => by cases h) rfl (news_cell HC21.out) HONE.out (by unfold maxLen; omega) (by omega) HB21.out.size ?_
              intro v22 w4_22 hown hgrow hat
              have HB22 : Hid (Below wr.heap.size wr w4_22) := Below.grown HB21.out hgrow HB21.out.size (fun j hj => (HO21.out.lt j hj).1)
              have HO22 : Hid (w4_22.ownsRow wr.heap.size 3 1 v22 (t + 1) ((P.take t ++ [(k : Int)]).map (Value.int .i64))) := by
                show World.ownsRow _ _ _ _ _ _ _
                have h := hown
                rw [List.map_append]
                skip
                exact h
              clear hown hgrow hat
              refine hK.out _ _ trivial (fun hHeld => ?_)
              clear hK KK
              try simp only [Act.put]
              try simp only [List.setIfInBounds_toArray]
              try simp only [List.set_cons_succ]
              try simp only [List.set_cons_zero]
              refine wpAnyH_ready (rs := [11]) (by kernel_rfl) (by simp) ?_
              refine AllReadyH.cons (o := _) rfl (fun KK hK => ?_) AllReadyH.nil
              refine step_append_any _ rfl (.tmp 47) (.tmp 50) 25 rfl wr.heap.size 3 i0 _ 1 8 Try.underlying25 hi0 hz0 hz1 hz2 rfl (by decide) v22 (t + 1) ((P.take t ++ [(k : Int)]).map (Value.int .i64)) (by simp [Act.eval]) HO22.out (some ⟨g, t, none⟩) (k - t) (cap - t) ((P.drop t).map (Value.int .i64)) (by simp [Act.eval]) (fun h => by cases h) HLD.out (HND.out w4_22 HB22.out) HOD.out (by unfold maxLen; omega) (by omega) HB22.out.size ?_
              intro v23 w4_23 hown hgrow hat
              have HB23 : Hid (Below wr.heap.size wr w4_23) := Below.grown HB22.out hgrow HB22.out.size (fun j hj => (HO22.out.lt j hj).1)
              have HO23 : Hid (w4_23.ownsRow wr.heap.size 3 1 v23 (k + 1) ((P.take t ++ [(k : Int)] ++ P.drop t).map (Value.int .i64))) := by
                show World.ownsRow _ _ _ _ _ _ _
                have h := hown
                rw [List.map_append]
                rw [show t + 1 + (k - t) = k + 1 by omega] at h
                exact h
              clear hown hgrow hat
              refine hK.out _ _ trivial (fun hHeld => ?_)
              clear hK KK
              try simp only [Act.put]
              try simp only [List.setIfInBounds_toArray]
              try simp only [List.set_cons_succ]
              try simp only [List.set_cons_zero]
              (refine takeW (i := 12) (dst := some 7) (v := ?_) rfl rfl (by kernel_rfl) (by kernel_rfl) (by kernel_rfl) (fun _ _ _ h => h) (Or.inl ⟨by rfl, ?_⟩) hHeld ?_; rotate_left; focus (intro w hSw; (try dsimp only at hSw); go_simp; (try with_reducible rfl); done))
              try simp only [Act.put]
              try simp only [List.setIfInBounds_toArray]
              try simp only [List.set_cons_succ]
              try simp only [List.set_cons_zero]
              refine wpAnyH_done (by kernel_rfl) ?_ _
              obtain ⟨g', c', hv', hc', hs'⟩ := row_some HO23.out (by omega)
              subst hv'
              have HS' := hid hs'
              have HB' := hid (HBR.out _ HB23.out)
              clear hs' hHeld
              go_wp2
              go_roundg (m - (k + 1))
              case measure => omega
              case rel => exact ⟨k + 1, _, g', c', by omega, Nat.le_refl _, by go_num, rfl, hc', HPN, HS', HB'⟩
          · go_simp
            obtain ⟨Z24, hZ⟩ := ex_eq ((wr.alloc (Obj.cells #[.int .i64 k] 3 (0, 0))).drew)
            rw [← hZ]
            have HB24 : Hid (Below wr.heap.size wr Z24) := by
              show Below _ _ _
              rw [hZ]; exact (below_one _ _).drew
            have HC24 : Hid (Z24.cell? ⟨wr.heap.size, 0, none⟩ = some (.int .i64 k)) := by
              show _ = _
              rw [hZ]; exact cell_of_heap (heap_alloc_new wr _) 0
            clear hZ
            refine hK.out _ _ trivial (fun hHeld => ?_)
            clear hK KK
            try simp only [Act.put]
            try simp only [List.setIfInBounds_toArray]
            try simp only [List.set_cons_succ]
            try simp only [List.set_cons_zero]
            refine wpAnyH_ready (rs := [0]) (by kernel_rfl) (by simp) ?_
            refine AllReadyH.cons (o := _) rfl (fun KK hK => ?_) AllReadyH.nil
            go_simp
            obtain ⟨Z25, hZ⟩ := ex_eq (Z24.alloc (Obj.cells #[] 3 (0, 0)))
            rw [← hZ]
            have HB25 : Hid (Below wr.heap.size wr Z25) := by
              show Below _ _ _
              rw [hZ]; exact HB24.out.alloc HB24.out.size _
            have HO25 : Hid (Z25.ownsRow wr.heap.size 3 1 (.slice (some ⟨Z24.heap.size, 0, none⟩) 0 0) 0 []) := by
              show World.ownsRow _ _ _ _ _ _ _
              rw [hZ]
              exact ⟨rfl, Or.inr ⟨Z24.heap.size, 0, #[], rfl, HB24.out.size, heap_alloc_new _ _, Nat.le_refl _, Nat.zero_le _, rfl, rfl⟩⟩
            have HC25 : Hid (Z25.cell? ⟨wr.heap.size, 0, none⟩ = some (.int .i64 k)) := by
              show _ = _
              rw [hZ]; exact cell_alloc_old HC24.out _
            have HN25 : Hid (some (wr.heap.size) ≠ (Value.slice (some ⟨Z24.heap.size, 0, none⟩) 0 0).ownBlock) := fun e => by
              have h := block_lt_of_cell HC24.out
              simp [Value.ownBlock] at e h
              omega
            clear hZ
            refine hK.out _ _ trivial (fun hHeld => ?_)
            clear hK KK
            try simp only [Act.put]
            try simp only [List.setIfInBounds_toArray]
            try simp only [List.set_cons_succ]
            try simp only [List.set_cons_zero]
            refine wpAnyH_ready (rs := [4]) (by kernel_rfl) (by simp) ?_
            refine AllReadyH.cons (o := _) rfl (fun KK hK => ?_) AllReadyH.nil
            refine step_append_any _ rfl (.tmp 40) (.tmp 43) 25 rfl wr.heap.size 3 i0 _ 1 8 Try.underlying25 hi0 hz0 hz1 hz2 rfl (by decide) (.slice (some ⟨Z24.heap.size, 0, none⟩) 0 0) 0 [] (by simp [Act.eval]) HO25.out (some ⟨g, 0, none⟩) t cap ((P.take t).map (Value.int .i64)) (by simp [Act.eval]) (fun h => by cases h) HLT.out (HNT.out Z25 HB25.out) HOT.out (by unfold maxLen; omega) (by omega) HB25.out.size ?_
            intro v26 w4_26 hown hgrow hat
            have HB26 : Hid (Below wr.heap.size wr w4_26) := Below.grown HB25.out hgrow HB25.out.size (fun j hj => (HO25.out.lt j hj).1)
            have HO26 : Hid (w4_26.ownsRow wr.heap.size 3 1 v26 t ((P.take t).map (Value.int .i64))) := by
              show World.ownsRow _ _ _ _ _ _ _
              have h := hown
              rw [Nat.zero_add, List.nil_append] at h
              skip
              exact h
            have HC26 : Hid (w4_26.cell? ⟨wr.heap.size, 0, none⟩ = some (.int .i64 k)) := hgrow.cell HC25.out HN25.out
            have HN26 : Hid (some (wr.heap.size) ≠ (Value.ownBlock v26)) := by
              show _ ≠ _
              rcases hat with h | h
              · rw [h]; exact HN25.out
              · rw [h]
                have h2 := block_lt_of_cell HC25.out
                intro e
                simp at e h2
                omega
            clear hown hgrow hat
            refine hK.out _ _ trivial (fun hHeld => ?_)
            clear hK KK
            try simp only [Act.put]
            try simp only [List.setIfInBounds_toArray]
            try simp only [List.set_cons_succ]
            try simp only [List.set_cons_zero]
            refine wpAnyH_ready (rs := [7]) (by kernel_rfl) (by simp) ?_
            refine AllReadyH.cons (o := _) rfl (fun KK hK => ?_) AllReadyH.nil
            refine step_append_any _ rfl (.tmp 44) (.tmp 46) 25 rfl wr.heap.size 3 i0 _ 1 8 Try.underlying25 hi0 hz0 hz1 hz2 rfl (by decide) v26 t ((P.take t).map (Value.int .i64)) (by simp [Act.eval]) HO26.out (some ⟨wr.heap.size, 0, none⟩) 1 1 [.int .i64 k] (by simp [Act.eval]) (fun h => by cases h) rfl (news_cell HC26.out) HONE.out (by unfold maxLen; omega) (by omega) HB26.out.size ?_
            intro v27 w4_27 hown hgrow hat
            have HB27 : Hid (Below wr.heap.size wr w4_27) := Below.grown HB26.out hgrow HB26.out.size (fun j hj => (HO26.out.lt j hj).1)
            have HO27 : Hid (w4_27.ownsRow wr.heap.size 3 1 v27 (t + 1) ((P.take t ++ [(k : Int)]).map (Value.int .i64))) := by
              show World.ownsRow _ _ _ _ _ _ _
              have h := hown
              rw [List.map_append]
              skip
              exact h
            clear hown hgrow hat
            refine hK.out _ _ trivial (fun hHeld => ?_)
            clear hK KK
            try simp only [Act.put]
            try simp only [List.setIfInBounds_toArray]
            try simp only [List.set_cons_succ]
            try simp only [List.set_cons_zero]
            refine wpAnyH_ready (rs := [11]) (by kernel_rfl) (by simp) ?_
            refine AllReadyH.cons (o := _) rfl (fun KK hK => ?_) AllReadyH.nil
            refine step_append_any _ rfl (.tmp 47) (.tmp 50) 25 rfl wr.heap.size 3 i0 _ 1 8 Try.underlying25 hi0 hz0 hz1 hz2 rfl (by decide) v27 (t + 1) ((P.take t ++ [(k : Int)]).map (Value.int .i64)) (by simp [Act.eval]) HO27.out (some ⟨g, t, none⟩) (k - t) (cap - t) ((P.drop t).map (Value.int .i64)) (by simp [Act.eval]) (fun h => by cases h) HLD.out (HND.out w4_27 HB27.out) HOD.out (by unfold maxLen; omega) (by omega) HB27.out.size ?_
            intro v28 w4_28 hown hgrow hat
            have HB28 : Hid (Below wr.heap.size wr w4_28) := Below.grown HB27.out hgrow HB27.out.size (fun j hj => (HO27.out.lt j hj).1)
            have HO28 : Hid (w4_28.ownsRow wr.heap.size 3 1 v28 (k + 1) ((P.take t ++ [(k : Int)] ++ P.drop t).map (Value.int .i64))) := by
              show World.ownsRow _ _ _ _ _ _ _
              have h := hown
              rw [List.map_append]
              rw [show t + 1 + (k - t) = k + 1 by omega] at h
              exact h
            clear hown hgrow hat
            refine hK.out _ _ trivial (fun hHeld => ?_)
            clear hK KK
            try simp only [Act.put]
            try simp only [List.setIfInBounds_toArray]
            try simp only [List.set_cons_succ]
            try simp only [List.set_cons_zero]
            (refine takeW (i := 12) (dst := some 7) (v := ?_) rfl rfl (by kernel_rfl) (by kernel_rfl) (by kernel_rfl) (fun _ _ _ h => h) (Or.inl ⟨by rfl, ?_⟩) hHeld ?_; rotate_left; focus (intro w hSw; (try dsimp only at hSw); go_simp; (try with_reducible rfl); done))
            try simp only [Act.put]
            try simp only [List.setIfInBounds_toArray]
            try simp only [List.set_cons_succ]
            try simp only [List.set_cons_zero]
            refine wpAnyH_done (by kernel_rfl) ?_ _
            obtain ⟨g', c', hv', hc', hs'⟩ := row_some HO28.out (by omega)
            subst hv'
            have HS' := hid hs'
            have HB' := hid (HBR.out _ HB28.out)
            clear hs' hHeld
            go_wp2
            go_roundg (m - (k + 1))
            case measure => omega
            case rel => exact ⟨k + 1, _, g', c', by omega, Nat.le_refl _, by go_num, rfl, hc', HPN, HS', HB'⟩
    · obtain rfl : k = m := by omega
      obtain ⟨Wa, rfl⟩ : ∃ Wa, Wa = wr := ⟨_, rfl⟩
      obtain ⟨w5, hrun, hown, hgrow⟩ := run_make_full (P := Try.prog) Wa Wa.heap.size 25 3 i0 (.int .i64 0) 1 Try.underlying25 hi0 hz0 hz1 .i64 .i64 k (by rw [hz2]; omega) (by unfold maxLen; omega) (Nat.le_refl _)
      have hs5 : Wa.heap.size < w5.heap.size := by
        rcases hown.2 with ⟨hv, _⟩ | ⟨g', cap, cur, hv, _, hgb, _⟩
        · simp at hv
        · simp only [Value.slice.injEq, Option.some.injEq, Addr.mk.injEq, and_true, true_and] at hv
          obtain ⟨rfl, _⟩ := hv
          exact (Array.getElem?_eq_some_iff.1 hgb).1
      have HRW : Hid (Row1 w5 Wa.heap.size k (fun _ => 0)) := row1_made hown hs5
      have hb5 : Below Wa.heap.size Wa w5 := Below.grown (Below.refl _ _) hgrow (Nat.le_refl _) (fun k hk => by cases hk)
      have HB5 := hid hb5
      have HGa : Hid (∀ X, Below Wa.heap.size Wa X → GC X w2.heap.size k a2 K c2 ys ∧ Below w.heap.size w X ∧ IAt X (some ⟨g, 0, none⟩) P) := fun X hX => ⟨hg.on hX, hbw.trans (hX.mono hbw.size), hI.out.below hX⟩
      have HPP := hid hP.out
      have hPl := hid hP.out.1
      clear hown hgrow hz0 hz1 hz2 hi0 hs5 hb5 hP hI hb hg hbw HGB hlt hGh hk HGg HB
      go_wp2
      clear hrun d0 d1
      go_loopg [11] k (fun Gh i wz => ∃ (t : Nat) (F : Nat → Int), t ≤ k ∧ k - t ≤ Gh ∧ i = .int .i64 t ∧ Hid (BackOK P t F) ∧ Hid (Row1 wz Wa.heap.size k F) ∧ Hid (Below Wa.heap.size Wa wz))
      case atStart => exact ⟨0, _, Nat.zero_le _, by omega, rfl, BackOK.zero P _, HRW, HB5⟩
      case round =>
        obtain ⟨t, F, ht, hGt, rfl, hbk, hrow, hbr⟩ := hrel
        obtain ⟨hg, hbw, hI⟩ := HGa.out wr hbr.out
        by_cases hlt : t < k
        · have q1 : (t : Int) < (k : Int) := by omega
          have htr : t < P.length := by have := hPl.out; omega
          obtain ⟨g', o', e', hgl, hcs⟩ := hI (by omega)
          cases e'
          have d2 := hcs t htr
          obtain ⟨x, hx⟩ : ∃ x : Nat, P[t] = (x : Int) := ⟨P[t].toNat, by have := HPP.out.2.2 _ (List.getElem_mem htr); omega⟩
          have hxk : x < k := by have := HPP.out.2.2 _ (List.getElem_mem htr); omega
          rw [hx, Nat.zero_add] at d2
          obtain ⟨f1, f2⟩ := hrow.out.2 x hxk
          have q2 : (x : Int) < (k : Int) := by omega
          have HBN : Hid (BackOK P (t + 1) (fun j => if j = x then (t : Int) else F j)) := hbk.out.next HPP.out htr hx
          have HRN : Hid (Row1 (wr.setCell ⟨Wa.heap.size, x, none⟩ (.int .i64 t)) Wa.heap.size k (fun j => if j = x then (t : Int) else F j)) := hrow.out.put hxk _
          have HBR : Hid (Below Wa.heap.size Wa (wr.setCell ⟨Wa.heap.size, x, none⟩ (.int .i64 t))) := hbr.out.setCell (p := ⟨Wa.heap.size, x, none⟩) (Nat.le_refl _) _
          clear hcs hx hbk hrow hbr hg hbw hI htr
          go_wp2
          go_roundg (k - (t + 1))
          case measure => omega
          case rel => exact ⟨t + 1, _, by omega, Nat.le_refl _, by go_num, HBN, HRN, HBR⟩
        · obtain rfl : t = k := by omega
          have HBK := hid hbk.out
          have HIB : Hid (∀ X, Below wr.heap.size wr X → IAt X (some ⟨Wa.heap.size, 0, none⟩) (backL t F)) := fun X hX h0 => by
            rw [backL_len] at h0
            refine ⟨Wa.heap.size, 0, rfl, Nat.lt_of_lt_of_le hrow.out.1 hX.size, fun j hj => ?_⟩
            rw [backL_len] at hj
            rw [Nat.zero_add]
            have h := (hrow.out.2 j hj).1
            have h2 : (backL t F)[j]'(by rw [backL_len]; exact hj) = F j := by simp [backL]
            rw [h2]
            exact (hX.cell (p := ⟨Wa.heap.size, j, none⟩) hrow.out.1).trans h
          have HBL := hid hbr.out
          have HB' := hid hbw
          have HGg' := hid hg
          have HBW : Hid (Below wr.heap.size wr wr) := Below.refl _ _
          have HIP : Hid (∀ X, Below wr.heap.size wr X → IAt X (some ⟨g, 0, none⟩) P) := fun X hX => hI.below hX
          have CI : Hid (∀ X, Below wr.heap.size wr X → GC X w2.heap.size t a2 K c2 ys → Calls Try.prog 12 #[.agg #[.int .i64 t, .slice a2 K c2], .slice (some ⟨g, 0, none⟩) t cap] X fun e w' => ∃ u, e = .returned u ∧ SubTold (fun er N E => er = 0 ∧ N = t ∧ IndE ys P E ∧ E.length = K) X w' u) := fun X hb hX => by
            have h := HO.out.ind t a2 c2 ys (some ⟨g, 0, none⟩) cap P true X (by have := HYS.out; omega) (by have := hPl.out; omega) HSL.out.w ⟨by have := hPl.out; omega, fun h => by cases h⟩ hX.at_ (HIP.out X hb) ⟨fun _ => HR.out, fun _ => rfl⟩
            rw [← HK.out, hPl.out] at h
            exact h.mono fun e w' ⟨u, hu, ht⟩ => ⟨u, hu, ht.imp fun er N E h => by
              obtain ⟨h1, h2, h3⟩ := ind_okP HR.out HPP.out h
              exact ⟨h1, h2, h3, by rw [HK.out]; exact order_len' HR.out HPP.out HBK.out h3⟩⟩
          have CJ : Hid (∀ (a' : Option Addr) (c' : Nat) (E : List (Int × Int)) B X, Below wr.heap.size wr X → RightG t E → E.length = K → Sl a' c' E.length → GC X B t a' K c' E → Calls Try.prog 12 #[.agg #[.int .i64 t, .slice a' K c'], .slice (some ⟨Wa.heap.size, 0, none⟩) t t] X fun e w' => ∃ u, e = .returned u ∧ SubTold (fun er N E' => er = 0 ∧ N = t ∧ IndE E (backL t F) E') X w' u) := fun a' c' E B X hb hRE hEl hsE hX => by
            have h := HO.out.ind t a' c' E (some ⟨Wa.heap.size, 0, none⟩) t (backL t F) true X (by rw [hEl]; omega) (by rw [backL_len]; omega) hsE.w ⟨by rw [backL_len]; exact Nat.le_refl _, fun h => by cases h⟩ hX.at_ (HIB.out X hb) ⟨fun _ => hRE, fun _ => rfl⟩
            rw [hEl, backL_len] at h
            exact h.mono fun e w' ⟨u, hu, ht⟩ => ⟨u, hu, ht.imp fun er N E' h => ind_okB hRE HPP.out HBK.out h⟩
          clear hbk hrow hbr hg hbw hI HGa HRW HB5 ht hGt hlt
          obtain ⟨d0, d1⟩ := HGg'.out.cells
          go_wp2_with fail
          refine (CI.out wr HBW.out HGg'.out).mono ?_
          rintro e w3 ⟨v, rfl, er3, N3, E3, a3, c3, rfl, hS3, hsl3, hea3, hb3⟩
          obtain ⟨V3, hV3⟩ := ex_eq (w3.alloc (.cells #[.int .i64 N3, .slice a3 E3.length c3] 27))
          have hbV3 : Below wr.heap.size wr V3 := by rw [hV3]; exact hb3.alloc hb3.size _
          have HG3 : Hid (GC V3 w3.heap.size N3 a3 E3.length c3 E3) := by
            show GC _ _ _ _ _ _ _
            rw [hV3]; exact gc_new6 hea3
          replace HGg' := hid (HGg'.out.on hbV3)
          replace HBW : Hid (Below wr.heap.size wr V3) := HBW.out.trans (hbV3.mono HBW.out.size)
          have HSL3 := hid hsl3
          have HV3 := hid hV3
          have hS := hS3
          clear hV3 hbV3 hsl3 hea3 hb3 hS3
          obtain ⟨rfl, rfl, hi3, hl3⟩ := hS
          have HI3 := hid hi3
          have HL3 := hid hl3
          have HR3 : Hid (RightG t E3) := by
            have h := hi3.right HR.out HPP.out.2.1 (by have := hPl.out; omega)
            rw [hPl.out] at h
            exact h
          rw [hl3] at HG3 HV3 ⊢
          clear hi3 hl3 d0 d1 CI
          obtain ⟨d0, d1⟩ := HGg'.out.cells
          obtain ⟨e0, e1⟩ := HG3.out.cells
          have b1 : ((t : Int) != (t : Int)) = false := by simp
          have b2 : ((K : Int) != (K : Int)) = false := by simp
          have HGX : Hid (∀ X, Below V3.heap.size V3 X → GC X w2.heap.size t a2 K c2 ys ∧ GC X w3.heap.size t a3 K c3 E3 ∧ Below wr.heap.size wr X) := fun X hX => ⟨HGg'.out.on hX, HG3.out.on hX, HBW.out.trans (hX.mono HBW.out.size)⟩
          have HV30 := Below.refl V3.heap.size V3
          have HVR := hid HV30
          have HCG : Hid (∀ (u v : Int) X, GC X w2.heap.size t a2 K c2 ys → Calls Try.prog 22 #[.agg #[.int .i64 t, .slice a2 K c2], .int .i64 u, .int .i64 v] X fun e w' => e = .returned (.bool (decide (v ∈ nbL u ys))) ∧ Below X.heap.size X w') := fun u v X hX => by
            have := has_any t a2 c2 ys u v true (nbL u ys) X (by have := HYS.out; omega) hX.at_ ⟨fun _ => HR.out, fun _ => rfl⟩ (by rw [if_pos rfl])
            rw [← HK.out] at this
            exact this
          have HCH : Hid (∀ (u v : Int) X, GC X w3.heap.size t a3 K c3 E3 → Calls Try.prog 22 #[.agg #[.int .i64 t, .slice a3 K c3], .int .i64 u, .int .i64 v] X fun e w' => e = .returned (.bool (decide (v ∈ nbL u E3))) ∧ Below X.heap.size X w') := fun u v X hX => by
            have := has_any t a3 c3 E3 u v true (nbL u E3) X (by have := HR3.out.2.2.1; omega) hX.at_ ⟨fun _ => HR3.out, fun _ => rfl⟩ (by rw [if_pos rfl])
            rw [HL3.out] at this
            exact this
          clear HV30 HG3 HGg'
          go_upto_region 17 with fail
          rw [← HV3.out]
          clear HV3
          go_wp2
          clear d0 d1 e0 e1
          obtain ⟨wq, rfl⟩ : ∃ wq, wq = wr := ⟨_, rfl⟩
          go_loopg [14] t (fun Gh i wz => ∃ p1 : Nat, p1 ≤ t ∧ t - p1 ≤ Gh ∧ i = .int .i64 p1 ∧ Hid (Below V3.heap.size V3 wz))
          case atStart => exact ⟨0, Nat.zero_le _, by omega, rfl, HVR⟩
          case round =>
            obtain ⟨p1, hp1, hGp, rfl, hbp⟩ := hrel
            obtain ⟨hgp, hhp, hbwp⟩ := HGX.out wr hbp.out
            obtain ⟨d0, d1⟩ := hgp.cells
            by_cases hlp : p1 < t
            · have q1 : (p1 : Int) < (t : Int) := by omega
              clear hgp hhp hbwp
              go_wp2
              clear d0 d1
              go_loopg [15] p1 (fun Gj i wz => ∃ p2 : Nat, p2 ≤ p1 ∧ p1 - p2 ≤ Gj ∧ i = .int .i64 p2 ∧ Hid (Below V3.heap.size V3 wz))
              case atStart => exact ⟨0, Nat.zero_le _, by omega, rfl, hbp⟩
              case round =>
                obtain ⟨p2, hp2, hGq, rfl, hbq⟩ := hrel
                by_cases hlq : p2 < p1
                · have q2 : (p2 : Int) < (p1 : Int) := by omega
                  have q3 : (p2 : Int) < (t : Int) := by omega
                  have h1r : p1 < P.length := by have := hPl.out; omega
                  have h2r : p2 < P.length := by have := hPl.out; omega
                  obtain ⟨x1, hx1⟩ := ex_eq P[p1]
                  obtain ⟨x2, hx2⟩ := ex_eq P[p2]
                  have hbd : Below V3.heap.size V3 wr.drew := hbq.out.drew
                  have HSR : Hid (∀ w5, Below wr.drew.heap.size wr.drew w5 → w5.cell? ⟨w2.heap.size, 0, none⟩ = some (.int .i64 t) ∧ w5.cell? ⟨w2.heap.size, 1, none⟩ = some (.slice a2 K c2) ∧ w5.cell? ⟨w3.heap.size, 0, none⟩ = some (.int .i64 t) ∧ w5.cell? ⟨w3.heap.size, 1, none⟩ = some (.slice a3 K c3) ∧ w5.cell? ⟨g, p1, none⟩ = some (.int .i64 x1) ∧ w5.cell? ⟨g, p2, none⟩ = some (.int .i64 x2)) := fun w5 h5 => by
                    obtain ⟨k1, k2, k3⟩ := HGX.out w5 (hbd.trans (h5.mono hbd.size))
                    obtain ⟨g', o', e', hgl, hcs⟩ := HIP.out w5 k3 (by omega)
                    cases e'
                    have z1 := hcs p1 h1r
                    have z2 := hcs p2 h2r
                    rw [← hx1, Nat.zero_add] at z1
                    rw [← hx2, Nat.zero_add] at z2
                    exact ⟨k1.n0, k1.e0, k2.n0, k2.e0, z1, z2⟩
                  have HGR : Hid (∀ w5, Below wr.drew.heap.size wr.drew w5 → GC w5 w2.heap.size t a2 K c2 ys ∧ GC w5 w3.heap.size t a3 K c3 E3 ∧ Below V3.heap.size V3 w5) := fun w5 h5 => by
                    obtain ⟨k1, k2, k3⟩ := HGX.out w5 (hbd.trans (h5.mono hbd.size))
                    exact ⟨k1, k2, hbd.trans (h5.mono hbd.size)⟩
                  obtain ⟨r, hr⟩ := ex_eq (decide ((p2 : Int) ∈ nbL (p1 : Int) E3))
                  have hr2 : r = decide (x2 ∈ nbL x1 ys) := by
                    rw [hr, decide_eq_decide, nb_adj HR3.out, nb_adj HR.out, hx1, hx2]
                    exact HI3.out.adj h1r h2r (by omega)
                  have CA1 := hid (HCH.out (p1 : Int) (p2 : Int))
                  have CA2 := hid (HCG.out x1 x2)
                  rw [← hr] at CA1
                  rw [← hr2] at CA2
                  clear hx1 hx2 hbd hr hr2 h1r h2r
                  go_upto_region 25 with fail
                  refine wp_region_held_drew (S := (fun X => X.cell? ⟨w2.heap.size, 0, none⟩ = some (.int .i64 t) ∧ X.cell? ⟨w2.heap.size, 1, none⟩ = some (.slice a2 K c2) ∧ X.cell? ⟨w3.heap.size, 0, none⟩ = some (.int .i64 t) ∧ X.cell? ⟨w3.heap.size, 1, none⟩ = some (.slice a3 K c3) ∧ X.cell? ⟨g, p1, none⟩ = some (.int .i64 x1) ∧ X.cell? ⟨g, p2, none⟩ = some (.int .i64 x2))) (by kernel_rfl) (HSR.out wr.drew (Below.refl _ _)) (fun hHeld => ?_)
                  (refine takeW (i := 0) (dst := some 103) (v := ?_) rfl rfl (by kernel_rfl) (by kernel_rfl) (by kernel_rfl) (fun _ _ _ h => h) (Or.inl ⟨by rfl, ?_⟩) hHeld ?_; rotate_left; focus (intro w hSw; (try dsimp only at hSw); go_simp; (try with_reducible rfl); done))
                  try simp only [Act.put, List.setIfInBounds_toArray, List.set_cons_zero, List.set_cons_succ]
                  (refine takeW (i := 1) (dst := some 104) (v := ?_) rfl rfl (by kernel_rfl) (by kernel_rfl) (by kernel_rfl) (fun _ _ _ h => h) (Or.inl ⟨by rfl, ?_⟩) hHeld ?_; rotate_left; focus (intro w hSw; (try dsimp only at hSw); go_simp; (try with_reducible rfl); done))
                  try simp only [Act.put, List.setIfInBounds_toArray, List.set_cons_zero, List.set_cons_succ]
                  (refine takeW (i := 2) (dst := some 105) (v := ?_) rfl rfl (by kernel_rfl) (by kernel_rfl) (by kernel_rfl) (fun _ _ _ h => h) (Or.inl ⟨by rfl, ?_⟩) hHeld ?_; rotate_left; focus (intro w hSw; (try dsimp only at hSw); go_simp; (try with_reducible rfl); done))
                  try simp only [Act.put, List.setIfInBounds_toArray, List.set_cons_zero, List.set_cons_succ]
                  (refine takeW (i := 4) (dst := some 107) (v := ?_) rfl rfl (by kernel_rfl) (by kernel_rfl) (by kernel_rfl) (fun _ _ _ h => h) (Or.inl ⟨by rfl, ?_⟩) hHeld ?_; rotate_left; focus (intro w hSw; (try dsimp only at hSw); go_simp; (try with_reducible rfl); done))
                  try simp only [Act.put, List.setIfInBounds_toArray, List.set_cons_zero, List.set_cons_succ]
                  (refine takeW (i := 5) (dst := some 108) (v := ?_) rfl rfl (by kernel_rfl) (by kernel_rfl) (by kernel_rfl) (fun _ _ _ h => h) (Or.inl ⟨by rfl, ?_⟩) hHeld ?_; rotate_left; focus (intro w hSw; (try dsimp only at hSw); go_simp; (try with_reducible rfl); done))
                  try simp only [Act.put, List.setIfInBounds_toArray, List.set_cons_zero, List.set_cons_succ]
                  (refine takeW (i := 6) (dst := some 109) (v := ?_) rfl rfl (by kernel_rfl) (by kernel_rfl) (by kernel_rfl) (fun _ _ _ h => h) (Or.inl ⟨by rfl, ?_⟩) hHeld ?_; rotate_left; focus (intro w hSw; (try dsimp only at hSw); go_simp; (try with_reducible rfl); done))
                  try simp only [Act.put, List.setIfInBounds_toArray, List.set_cons_zero, List.set_cons_succ]
                  (refine takeW (i := 7) (dst := some 110) (v := ?_) rfl rfl (by kernel_rfl) (by kernel_rfl) (by kernel_rfl) (fun _ _ _ h => h) (Or.inl ⟨by rfl, ?_⟩) hHeld ?_; rotate_left; focus (intro w hSw; (try dsimp only at hSw); go_simp; (try with_reducible rfl); done))
                  try simp only [Act.put, List.setIfInBounds_toArray, List.set_cons_zero, List.set_cons_succ]
                  (refine takeW (i := 8) (dst := some 111) (v := ?_) rfl rfl (by kernel_rfl) (by kernel_rfl) (by kernel_rfl) (fun _ _ _ h => h) (Or.inl ⟨by rfl, ?_⟩) hHeld ?_; rotate_left; focus (intro w hSw; (try dsimp only at hSw); go_simp; (try with_reducible rfl); done))
                  try simp only [Act.put, List.setIfInBounds_toArray, List.set_cons_zero, List.set_cons_succ]
                  (refine takeW (i := 9) (dst := some 112) (v := ?_) rfl rfl (by kernel_rfl) (by kernel_rfl) (by kernel_rfl) (fun _ _ _ h => h) (Or.inl ⟨by rfl, ?_⟩) hHeld ?_; rotate_left; focus (intro w hSw; (try dsimp only at hSw); go_simp; (try with_reducible rfl); done))
                  try simp only [Act.put, List.setIfInBounds_toArray, List.set_cons_zero, List.set_cons_succ]
                  (refine takeW (i := 10) (dst := some 113) (v := ?_) rfl rfl (by kernel_rfl) (by kernel_rfl) (by kernel_rfl) (fun _ _ _ h => h) (Or.inl ⟨by rfl, ?_⟩) hHeld ?_; rotate_left; focus (intro w hSw; (try dsimp only at hSw); go_simp; (try with_reducible rfl); done))
                  try simp only [Act.put, List.setIfInBounds_toArray, List.set_cons_zero, List.set_cons_succ]
                  (refine takeW (i := 11) (dst := some 114) (v := ?_) rfl rfl (by kernel_rfl) (by kernel_rfl) (by kernel_rfl) (fun _ _ _ h => h) (Or.inl ⟨by rfl, ?_⟩) hHeld ?_; rotate_left; focus (intro w hSw; (try dsimp only at hSw); go_simp; (try with_reducible rfl); done))
                  try simp only [Act.put, List.setIfInBounds_toArray, List.set_cons_zero, List.set_cons_succ]
                  (refine takeW (i := 12) (dst := some 115) (v := ?_) rfl rfl (by kernel_rfl) (by kernel_rfl) (by kernel_rfl) (fun _ _ _ h => h) (Or.inl ⟨by rfl, ?_⟩) hHeld ?_; rotate_left; focus (intro w hSw; (try dsimp only at hSw); go_simp; (try with_reducible rfl); done))
                  try simp only [Act.put, List.setIfInBounds_toArray, List.set_cons_zero, List.set_cons_succ]
                  refine wpAnyH_ready (rs := [3]) (by kernel_rfl) (by simp) ?_
                  refine AllReadyH.cons (o := _) rfl (fun KK hK => ?_) AllReadyH.nil
                  go_simp
                  refine (CA1.out _ (HGR.out _ (Below.refl _ _)).2.1).mono ?_
                  rintro e w7 ⟨rfl, hb7⟩
                  have hS7 := HSR.out w7 hb7
                  have HB7 := hid hb7
                  refine hK.out _ _ hS7 (fun hHeld => ?_)
                  clear hS7 hb7
                  clear hK KK
                  try simp only [Act.put]
                  try simp only [List.setIfInBounds_toArray]
                  try simp only [List.set_cons_succ]
                  try simp only [List.set_cons_zero]
                  refine wpAnyH_ready (rs := [13]) (by kernel_rfl) (by simp) ?_
                  refine AllReadyH.cons (o := _) rfl (fun KK hK => ?_) AllReadyH.nil
                  go_simp
                  refine (CA2.out w7 (HGR.out w7 HB7.out).1).mono ?_
                  rintro e w8 ⟨rfl, hb8⟩
                  have hb8' := HB7.out.trans (hb8.mono HB7.out.size)
                  have hS8 := HSR.out w8 hb8'
                  have HB8 := hid (HGR.out w8 hb8').2.2
                  refine hK.out _ _ hS8 (fun hHeld => ?_)
                  clear hS8 hb8 hb8'
                  clear hK KK
                  try simp only [Act.put]
                  try simp only [List.setIfInBounds_toArray]
                  try simp only [List.set_cons_succ]
                  try simp only [List.set_cons_zero]
                  (refine takeW (i := 14) (dst := some 117) (v := ?_) rfl rfl (by kernel_rfl) (by kernel_rfl) (by kernel_rfl) (fun _ _ _ h => h) (Or.inl ⟨by rfl, ?_⟩) hHeld ?_; rotate_left; focus (intro w hSw; (try dsimp only at hSw); go_simp; (try with_reducible rfl); done))
                  try simp only [Act.put, List.setIfInBounds_toArray, List.set_cons_zero, List.set_cons_succ]
                  refine wpAnyH_done (by kernel_rfl) ?_ _
                  have b3 : (r != r) = false := by simp
                  clear hHeld HSR HGR CA1 CA2 HB7 hbq
                  go_wp2
                  go_roundg (p1 - (p2 + 1))
                  case measure => omega
                  case rel => exact ⟨p2 + 1, by omega, Nat.le_refl _, by go_num, HB8⟩
                · obtain rfl : p2 = p1 := by omega
                  go_wp2
                  go_roundg (t - (p2 + 1))
                  case measure => omega
                  case rel => exact ⟨p2 + 1, by omega, Nat.le_refl _, by go_num, hbq⟩
            · obtain rfl : p1 = t := by omega
              obtain ⟨e0, e1⟩ := hhp.cells
              have HGg' := hid hgp
              have C4 := hid (CJ.out a3 c3 E3 w3.heap.size wr hbwp HR3.out HL3.out HSL3.out hhp)
              have HBw : Hid (Below w.heap.size w wr) := HB'.out.trans (hbwp.mono HB'.out.size)
              have HE4 : Hid (∀ E, IndE E3 (backL p1 F) E → E = ys) := fun E h => back_same HR.out HPP.out HBK.out HI3.out h
              clear hgp hhp hbwp CJ HGX HCG HCH HIP HIB HBW HB' HBL HVR hbp HI3 HR3 HL3 HSL3 HPP HBK
              go_wp2_with fail
              refine C4.out.mono ?_
              rintro e w6 ⟨v, rfl, er6, N6, E6, a6, c6, rfl, ⟨rfl, rfl, hi6⟩, hsl6, hea6, hb6⟩
              obtain rfl := HE4.out E6 hi6
              have HK6 := hid HK.out
              obtain ⟨V6, hV6⟩ := ex_eq (w6.alloc (.cells #[.int .i64 (p1 : Int), .slice a6 K c6] 27))
              rw [← HK.out]
              have hbV6 : Below wr.heap.size wr V6 := by rw [hV6]; exact hb6.alloc hb6.size _
              have HG6 : Hid (GC V6 w6.heap.size p1 a6 K c6 E6) := by
                show GC _ _ _ _ _ _ _
                rw [hV6]; exact gc_new6 hea6
              replace HGg' := hid (HGg'.out.on hbV6)
              have HB6 : Hid (Below w.heap.size w V6) := HBw.out.trans (hbV6.mono HBw.out.size)
              have HV6 := hid hV6
              have CS : Hid (∀ X, GC X w6.heap.size p1 a6 K c6 E6 → GC X w2.heap.size p1 a2 K c2 E6 → Calls Try.prog 14 #[.agg #[.int .i64 p1, .slice a6 K c6], .agg #[.int .i64 p1, .slice a2 K c2]] X fun e w' => e = .returned (.bool true) ∧ Below X.heap.size X w') := fun X h3 h4 => by
                rw [HK.out]; exact sameGraph_any _ _ a6 a2 c6 c2 E6 E6 true X (by have := HYS.out; omega) h3.at_ h4.at_ ⟨fun _ => ⟨rfl, rfl⟩, fun _ => rfl⟩
              clear hV6 hbV6 hsl6 hea6 hb6 hi6 C4 HE4 d0 d1 e0 e1 HBw
              obtain ⟨d0, d1⟩ := HGg'.out.cells
              obtain ⟨e0, e1⟩ := HG6.out.cells
              go_upto_region 28 with fail
              rw [← HV6.out]
              clear HV6
              go_wp2_with fail
              refine (CS.out V6 HG6.out HGg'.out).mono ?_
              rintro e w9 ⟨rfl, hb9⟩
              have HB9 : Hid (Below w.heap.size w w9) := HB6.out.trans (hb9.mono HB6.out.size)
              clear hb9 CS d0 d1 e0 e1
              go_wp2
              go_ret
              exact ⟨rfl, HB9.out⟩
end Go.Proofs.Ytagigeieoijciaa
