/-
  The law BlockRings over any blocks that keep their contracts.
-/
import Derived.Test.YtplhpinaadgkkaaB26
import Derived.Test.YtplhpinaadgkkaaB04
import Derived.Test.YtplhpinaadgkkaaB27
namespace Go.Proofs.Ytplhpinaadgkkaa
open Go.RowKit Go.Lib

/-- Without an edge: what is left. -/
theorem without_is {n : Int} {m : Nat} {es ys : List (Int × Int)} {a b er : Int} (hn : n = m) (hR : RightG m es) (hab : (a, b) ∈ es) (h : WithoutE n es a b er ys) : er = 0 ∧ RightG m ys ∧ (∀ x y, Adj es x y ↔ Adj ys x y ∨ (x = a ∧ y = b) ∨ (x = b ∧ y = a)) ∧ ¬ Adj ys a b ∧ ys.length ≤ es.length := by
  subst hn
  have hin := hR.2.2.2.1 _ hab
  simp only at hin
  have e1 : min a b = a := by omega
  have e2 : max a b = b := by omega
  unfold WithoutE at h
  rw [e1, e2] at h
  rcases h with ⟨h1, _⟩ | ⟨_, h2, _⟩ | ⟨_, _, h3, h4, h5, h6⟩
  · exact absurd hR h1
  · exact absurd hab h2
  · refine ⟨h3, ⟨hR.1, hR.2.1, by have := hR.2.2.1; omega, fun e he => hR.2.2.2.1 e ((h6 e).1 he).1, h4⟩, fun x y => ?_, ?_, by omega⟩
    · unfold Adj
      rw [h6, h6]
      constructor
      · rintro (h | h)
        · by_cases e : (x, y) = (a, b)
          · cases e; exact Or.inr (Or.inl ⟨rfl, rfl⟩)
          · exact Or.inl (Or.inl ⟨h, e⟩)
        · by_cases e : (y, x) = (a, b)
          · cases e; exact Or.inr (Or.inr ⟨rfl, rfl⟩)
          · exact Or.inl (Or.inr ⟨h, e⟩)
      · rintro ((⟨h, _⟩ | ⟨h, _⟩) | ⟨rfl, rfl⟩ | ⟨rfl, rfl⟩)
        · exact Or.inl h
        · exact Or.inr h
        · exact Or.inl hab
        · exact Or.inr hab
    · rintro (h | h)
      · exact ((h6 _).1 h).2 rfl
      · have := hR.2.2.2.1 _ ((h6 _).1 h).1
        simp only at this
        omega
theorem pth_route {n : Int} {es : List (Int × Int)} {a b : Int} (h : ∀ p, ¬ Way n es a b [] p) : ¬ Pth n es (fun _ => True) a b := fun ⟨p, h1, h2, h3, _⟩ => h p ⟨h1, h2, h3, fun _ _ => by simp⟩

set_option maxHeartbeats 4000000 in
set_option maxRecDepth 100000 in
theorem blockRings_law (O : BlockOps) (n : Int) (a : Option Addr) (len cap : Nat) (l : List (Int × Int)) (x : Int) (w : World) (hl : len = l.length) (hE : EAt w a l) :
    Calls Try.prog 7 #[.agg #[.int .i64 n, .slice a len cap], .int .i64 x] w fun e w' => e = .returned (.bool true) ∧ Below w.heap.size w w' := by
  have HO := hid O
  obtain ⟨W0, hW0⟩ := ex_eq (w.alloc (.cells #[.int .i64 n, .slice a len cap] 24))
  have hB0 : Below w.heap.size w W0 := by rw [hW0]; exact below_one _ _
  have hs0 : W0.heap.size = w.heap.size + 1 := by rw [hW0]; simp
  have HO0 : Hid (W0.heap[w.heap.size]? = some (.cells #[.int .i64 n, .slice a len cap] 24)) := by
    show _ = _
    rw [hW0]; exact heap_alloc_new _ _
  have HEX : Hid (∀ X, Below w.heap.size w X → EAt X a l) := fun X h => hE.below h
  have HL := hid hl
  have HW0 := hid hW0
  have HB0 := hid hB0
  clear O hl hE hW0 hB0
  go_enter Try.func7, Try.ntmps7
  go_wp2_with fail
  rw [← HW0.out]
  refine (bshown_any HO.out _).mono ?_
  rintro e w1 ⟨rfl, hb1⟩
  have hbw1 : Below w.heap.size w w1 := HB0.out.trans (hb1.mono (by omega))
  have o1 := (hb1.block w.heap.size (by omega)).trans HO0.out
  have x0 := cell_of_heap o1 0
  have x1 := cell_of_heap o1 1
  have CA := hid (net_any n a len cap l 40 w1 (by omega) HL.out (HEX.out w1 hbw1))
  have HB1 := hid hbw1
  clear hb1 hbw1 o1 HO0 hs0 HB0 HW0 HEX HL
  go_wp2_with fail
  refine CA.out.mono ?_
  rintro e w2 ⟨m, ys, a2, c2, rfl, hm30, hR, hys, hsl, hE2, hb2⟩
  obtain ⟨K, hK⟩ := ex_eq ys.length
  rw [← hK]
  have HK := hid hK
  obtain ⟨B, hBB⟩ := ex_eq w2.heap.size
  obtain ⟨V2, hV2⟩ := ex_eq (w2.alloc (.cells #[.int .i64 m, .slice a2 K c2] 26))
  have HG2 : Hid (GC V2 B m a2 K c2 ys) := by
    show GC V2 _ _ _ _ _ _
    rw [hV2, hBB]; exact gc_new7 hE2
  have HB2 : Hid (Below w.heap.size w V2) := by
    have h1 : Below w2.heap.size w2 V2 := by rw [hV2]; exact below_one _ _
    have h2 : Below w.heap.size w w2 := HB1.out.trans (hb2.mono HB1.out.size)
    exact h2.trans (h1.mono h2.size)
  have HV2 := hid hV2
  have HBB := hid hBB
  have HR := hid hR
  have HSL := hid hsl
  have hK3 : K ≤ 300 := by omega
  clear hK hV2 hE2 hb2 hR hys hsl CA x0 x1 HB1 hBB
  go_upto_region 3 with fail
  rw [← HV2.out, ← HBB.out]
  clear HV2 HBB
  obtain ⟨g0, g1⟩ := HG2.out.cells
  by_cases hK0 : K = 0
  · subst hK0
    go_wp2
    go_ret
    exact ⟨rfl, HB2.out⟩
  have hK5 : ((K : Int) == 0) = false := beq_eq_false_iff_ne.2 (by omega)
  have hK6 : ¬ (K : Int) = 0 := by omega
  obtain ⟨p, hp, hpK⟩ := rnd_of x (m := K) (by omega)
  have hkr : p < ys.length := by rw [← HK.out]; exact hpK
  obtain ⟨ge, oe, rfl, hge, hcs⟩ := HG2.out.at_.at hkr
  obtain ⟨ya, hya⟩ := ex_eq ys[p].1
  obtain ⟨yb, hyb⟩ := ex_eq ys[p].2
  have d := hcs V2 (Below.refl _ _) p hkr
  rw [← hya, ← hyb] at d
  obtain ⟨d0, d1⟩ := d
  have hmem : (ya, yb) ∈ ys := by rw [hya, hyb]; exact List.getElem_mem hkr
  have HM := hid hmem
  have q1 : (p : Int) < (K : Int) := by omega
  have hsB : B < V2.heap.size := block_lt_of_cell g0
  obtain ⟨Y, hY⟩ := ex_eq V2.heap.size
  obtain ⟨V4, hV4⟩ := ex_eq (V2.alloc (.cells #[.int .i64 ya, .int .i64 yb] 42)).drew
  have hb24 : Below V2.heap.size V2 V4 := by rw [hV4]; exact (below_one _ _).drew
  have hy0 : V4.cell? ⟨Y, 0, none⟩ = some (.int .i64 ya) := by rw [hV4, hY]; exact cell_of_heap (heap_alloc_new V2 _) 0
  have hy1 : V4.cell? ⟨Y, 1, none⟩ = some (.int .i64 yb) := by rw [hV4, hY]; exact cell_of_heap (heap_alloc_new V2 _) 1
  have HKEEP : Hid (∀ X, Below V4.heap.size V4 X → GC X B m (some ⟨ge, oe, none⟩) K c2 ys ∧ (X.cell? ⟨Y, 0, none⟩ = some (.int .i64 ya) ∧ X.cell? ⟨Y, 1, none⟩ = some (.int .i64 yb)) ∧ Below w.heap.size w X) := fun X hX => by
    have hb : Below V2.heap.size V2 X := hb24.trans (hX.mono hb24.size)
    exact ⟨HG2.out.on hb, ⟨(hX.cell (p := ⟨Y, 0, none⟩) (block_lt_of_cell hy0)).trans hy0, (hX.cell (p := ⟨Y, 1, none⟩) (block_lt_of_cell hy1)).trans hy1⟩, HB2.out.trans (hb.mono HB2.out.size)⟩
  have HV4 := hid hV4
  have HYY := hid hY
  clear hV4 hY hy0 hy1 hb24
  clear hcs hya hyb hmem
  go_upto_region 5 with fail
  go_cut [7] from 23 to 32 (fun v wx => v = .pointer (some ⟨V2.heap.size, 0, none⟩) ∧ wx = V4)
  case first =>
    go_wp2_with fail
    go_region
    all_goals
      go_wp2_with fail
      go_meet
      case rel => exact ⟨rfl, HV4.out.symm⟩
  case rest =>
    obtain ⟨rfl, hwc⟩ := hcut
    rw [hwc, ← HYY.out]
    obtain ⟨hG4, ⟨y0, y1⟩, hB4⟩ := HKEEP.out V4 (Below.refl _ _)
    obtain ⟨b0, b1⟩ := hG4.cells
    have C4 := hid (without_any m (some ⟨ge, oe, none⟩) c2 ys ya yb true V4 (by rw [← HK.out]; omega) hG4.at_ HSL.out ⟨fun _ => HR.out, fun _ => rfl⟩)
    rw [← HK.out] at C4
    clear hwc hG4 hB4 d0 d1 g0 g1 hp
    go_wp2_with fail
    refine C4.out.mono ?_
    rintro e w5 ⟨er, zs, a5, c5, rfl, hwo, hsl5, hE5, hb5⟩
    obtain ⟨rfl, hRz, hadj, hnadj, hzl⟩ := without_is rfl HR.out HM.out hwo
    obtain ⟨Z, hZ⟩ := ex_eq zs.length
    rw [← hZ]
    have hnn : nOf' (m : Int) 0 = m := by unfold nOf'; rw [if_pos rfl]
    rw [hnn]
    have HZ := hid hZ
    have HRZ := hid hRz
    have HADJ := hid hadj
    have HNA := hid hnadj
    have hZ3 : Z ≤ 300 := by rw [hZ]; have := HK.out; omega
    obtain ⟨V5, hV5⟩ := ex_eq (w5.alloc (.cells #[.int .i64 m, .slice a5 Z c5] 26))
    obtain ⟨H5, hH5⟩ := ex_eq w5.heap.size
    have HG5 : Hid (GC V5 H5 m a5 Z c5 zs) := by
      show GC _ _ _ _ _ _ _
      rw [hV5, hH5]; exact gc_new7 hE5
    have HB5 : Hid (Below V4.heap.size V4 V5) := by
      show Below _ _ _
      rw [hV5]; exact hb5.alloc hb5.size _
    have HV5 := hid hV5
    have HH5 := hid hH5
    clear hZ hnn hwo hsl5 hE5 hb5 hRz hadj hnadj hV5 hH5 C4 hzl y0 y1 b0 b1
    go_upto_region 7 with fail
    rw [← HV5.out, ← HH5.out]
    clear HV5 HH5
    obtain ⟨h0, h1⟩ := HG5.out.cells
    obtain ⟨_, ⟨y0, y1⟩, _⟩ := HKEEP.out V5 HB5.out
    have C6 := hid (route_any m a5 c5 zs ya yb none 0 [] true V5 (by rw [← HZ.out]; omega) (by simp) HG5.out.at_ (iat_nil _ _) ⟨fun _ => HRZ.out, fun _ => rfl⟩)
    rw [← HZ.out] at C6
    simp only [List.length_nil] at C6
    go_wp2_with fail
    refine C6.out.mono ?_
    rintro e w6 ⟨v6, rfl, a6, c6, L, rfl, hRG, hsl6, hI6, hb6⟩
    have hRI : RouteIs m zs ya yb [] L := by
      rcases hRG with h | h
      · exact h.2
      · exact absurd HRZ.out h.1
    obtain ⟨M, hM⟩ := ex_eq L.length
    rw [← hM]
    have HM6 := hid hM
    have HRI := hid hRI
    have HI6 := hid hI6
    have HB6' : Hid (Below V4.heap.size V4 w6) := HB5.out.trans (hb6.mono HB5.out.size)
    obtain ⟨hG6, ⟨k0, k1⟩, hB6⟩ := HKEEP.out w6 HB6'.out
    have HG6 := hid hG6
    have HB6 := hid hB6
    obtain ⟨b0, b1⟩ := hG6.cells
    clear hM hRG hsl6 hI6 hb6 hRI hG6 hB6 C6 h0 h1 y0 y1 HB5 HG5
    have C3 := hid (HO.out.of m (some ⟨ge, oe, none⟩) c2 ys true w6 (by rw [← HK.out]; omega) HG6.out.at_ ⟨fun _ => HR.out, fun _ => rfl⟩)
    rw [← HK.out] at C3
    go_wp2_with fail
    refine C3.out.mono ?_
    rintro e w3 ⟨v3, rfl, Cs3, Bs3, ca3, cc3, ba3, bc3, rfl, hrel, hca, hba, hb3⟩
    obtain ⟨Q3, hQ⟩ := ex_eq Cs3.length
    obtain ⟨P3, hP⟩ := ex_eq Bs3.length
    rw [← hQ, ← hP]
    have HQ3 := hid hQ
    have HP3 := hid hP
    obtain ⟨T3, hT⟩ := ex_eq w3.heap.size
    obtain ⟨V3, hV⟩ := ex_eq (w3.alloc (.cells #[.slice ca3 Q3 cc3, .slice ba3 P3 bc3] 31))
    have HT3 : Hid (TC V3 T3 ca3 Q3 cc3 ba3 P3 bc3 Cs3 Bs3) := by
      show TC _ _ _ _ _ _ _ _ _ _
      rw [hV, hT]; exact tc_new hca hba
    have hbx : Below w6.heap.size w6 V3 := by
      have h1 : Below w3.heap.size w3 V3 := by rw [hV]; exact below_one _ _
      exact hb3.trans (h1.mono hb3.size)
    have HLN3 : Hid (Bs3.length ≤ 1000 ∧ (∀ B ∈ Bs3, B.length ≤ 1000) ∧ Cs3.length ≤ 1000) := hrel.len
    have hPl3 : P3 ≤ 1000 := by rw [hP]; exact HLN3.out.1
    have HRel3 := hid hrel
    have HB3 : Hid (Below w.heap.size w V3) := HB6.out.trans (hbx.mono HB6.out.size)
    have HX3 := hid hbx
    have HV3 := hid hV
    have HTT3 := hid hT
    clear hQ hP hT hV hca hba hb3 hrel hbx C3 k0 k1 b0 b1
    go_upto_region 9 with fail
    rw [← HV3.out, ← HTT3.out]
    clear HV3 HTT3
    have hL6 : IAt V3 a6 L := HI6.out.below HX3.out
    have HIL := hid hL6
    have HBV : Hid (Below V4.heap.size V4 V3) := HB6'.out.trans (HX3.out.mono HB6'.out.size)
    have hBC : BlocksL ys Bs3 := by
      rcases HRel3.out with ⟨_, h, _⟩ | ⟨h, _⟩
      · exact h
      · exact absurd HR.out h
    have HBC := hid hBC
    have HADM : Hid (Adj ys ya yb) := Or.inl HM.out
    clear hL6 hBC HG6 HB6 HB6' HI6 HX3 HRel3
    go_wp2
    go_loopw [12] (fun i wz => ∃ t : Nat, t ≤ P3 ∧ i = .int .i64 t ∧ Hid (∀ j (h : j < Bs3.length), j < t → ¬ (ya ∈ Bs3[j] ∧ yb ∈ Bs3[j])) ∧ Hid (Below V3.heap.size V3 wz)) (fun i _ => P3 - (RowKit.intOf i).toNat)
    case atStart => exact ⟨0, Nat.zero_le _, rfl, (fun _ _ h => absurd h (by omega)), Below.refl _ _⟩
    case round =>
      obtain ⟨t, ht, rfl, hno, hbw⟩ := hrel
      obtain ⟨hGr, ⟨y0, y1⟩, hBr⟩ := HKEEP.out wr (HBV.out.trans (hbw.out.mono HBV.out.size))
      obtain ⟨b0, b1⟩ := hGr.cells
      have htc := HT3.out.on hbw.out
      have t1 := htc.c1
      by_cases hlt : t < P3
      · have hkr : t < Bs3.length := by rw [← HP3.out]; exact hlt
        obtain ⟨g, off, ak, ck, rfl, e1, hI⟩ := htc.lb.at hkr
        have hblk := (HBC.out.is _).1 (List.getElem_mem hkr)
        obtain ⟨R, hRr⟩ := ex_eq Bs3[t]
        rw [← hRr] at e1 hI hblk
        obtain ⟨N, hN⟩ := ex_eq R.length
        have hN1 : N ≤ 1000 := by rw [hN, hRr]; exact HLN3.out.2.1 _ (List.getElem_mem hkr)
        rw [← hN] at e1
        obtain ⟨ra, hra⟩ := ex_eq (decide (ya ∈ R))
        obtain ⟨rb, hrb⟩ := ex_eq (decide (yb ∈ R))
        have CI : Hid (∀ (z : Int) (r : Bool) X, r = decide (z ∈ R) → IAt X ak R → Calls Try.prog 18 #[.slice ak N ck, .int .i64 z] X fun e w' => e = .returned (.bool r) ∧ w' = X) := fun z r X hr h => by
          rw [hr, hN]; exact in_any ak ck R z X (by omega) h
        have C1 := hid (CI.out ya ra wr hra hI)
        have C2 := hid (CI.out yb rb wr hrb hI)
        have HRA := hid hra
        have HRB := hid hrb
        have HRr := hid hRr
        have HNn := hid hN
        have HIr := hid hI
        have HBLK := hid hblk
        have HGr := hid hGr
        have HBr := hid hBr
        have q2 : (t : Int) < (P3 : Int) := by omega
        clear hra hrb hRr hN hI hblk hGr hBr htc
        cases ra with
        | false =>
          have HNO : Hid (∀ j (h : j < Bs3.length), j < t + 1 → ¬ (ya ∈ Bs3[j] ∧ yb ∈ Bs3[j])) := fun j h hj => by
            by_cases e : j < t
            · exact hno.out j h e
            · obtain rfl : j = t := by omega
              rw [← HRr.out]
              exact fun h => of_decide_eq_false HRA.out.symm h.1
          clear hno HRr hkr
          go_wp2_with fail
          refine C1.out.mono ?_
          rintro e w7 ⟨rfl, rfl⟩
          go_wp2
          go_roundw
          case rel => exact ⟨t + 1, by omega, by go_num, HNO, hbw⟩
          case measure => simp [RowKit.intOf]; omega
        | true =>
          cases rb with
          | false =>
            have HNO : Hid (∀ j (h : j < Bs3.length), j < t + 1 → ¬ (ya ∈ Bs3[j] ∧ yb ∈ Bs3[j])) := fun j h hj => by
              by_cases e : j < t
              · exact hno.out j h e
              · obtain rfl : j = t := by omega
                rw [← HRr.out]
                exact fun h => of_decide_eq_false HRB.out.symm h.2
            clear hno HRr hkr
            go_wp2_with fail
            refine C1.out.mono ?_
            rintro e w7 ⟨rfl, rfl⟩
            go_wp2_with fail
            refine C2.out.mono ?_
            rintro e w7 ⟨rfl, rfl⟩
            go_wp2
            go_roundw
            case rel => exact ⟨t + 1, by omega, by go_num, HNO, hbw⟩
            case measure => simp [RowKit.intOf]; omega
          | true =>
            obtain ⟨f1, f2⟩ := blk_round HR.out HRZ.out HADJ.out HNA.out HBLK.out (of_decide_eq_true HRA.out.symm) (of_decide_eq_true HRB.out.symm)
            rcases HRI.out with ⟨hLn, hLno⟩ | ⟨hWay, _⟩
            · have hM0 : M = 0 := by rw [HM6.out, hLn]; rfl
              subst hM0
              have hN2 : N = 2 := by rw [HNn.out]; exact f1 (pth_route hLno)
              subst hN2
              clear f1 f2 hLn hLno hno HRr hkr
              go_wp2_with fail
              refine C1.out.mono ?_
              rintro e w7 ⟨rfl, rfl⟩
              go_wp2_with fail
              refine C2.out.mono ?_
              rintro e w7 ⟨rfl, rfl⟩
              go_wp2
              go_ret
              exact ⟨rfl, HBr.out⟩
            · obtain ⟨f3, f4, f5⟩ := f2 L hWay.path hWay.first hWay.last
              have hM0 : ¬ M = 0 := fun e => hWay.path.ne (List.length_eq_zero_iff.1 (by rw [← HM6.out]; exact e))
              have hM1 : ((M : Int) == 0) = false := beq_eq_false_iff_ne.2 (by omega)
              have hM2 : ¬ (M : Int) = 0 := by omega
              have hN2 : 2 < N := by rw [HNn.out]; exact f4
              have hN3 : (2 : Int) < (N : Int) := by omega
              have hN4 : decide ((N : Int) > 2) = true := decide_eq_true (by omega)
              have hMl : M ≤ 1000 := by
                have h1 := len_le_subI hWay.path.nd f3
                rw [← HM6.out, ← HNn.out] at h1
                omega
              have HF3 := hid f3
              have HF5 := hid f5
              clear f1 f2 f3 f4 f5 hWay hno HRr hkr
              go_wp2_with fail
              refine C1.out.mono ?_
              rintro e w7 ⟨rfl, rfl⟩
              go_wp2_with fail
              refine C2.out.mono ?_
              rintro e w7 ⟨rfl, rfl⟩
              go_wp2
              clear C1 C2 e1 t1 y0 y1
              obtain ⟨w8, hw8⟩ : ∃ x, x = w7 := ⟨_, rfl⟩
              subst hw8
              go_loopw [14] (fun i wz => ∃ s : Nat, s ≤ M ∧ i = .int .i64 s ∧ wz = w8) (fun i _ => M - (RowKit.intOf i).toNat)
              case atStart => exact ⟨0, Nat.zero_le _, rfl, rfl⟩
              case round =>
                obtain ⟨s, hs, rfl, rfl⟩ := hrel
                by_cases hlts : s < M
                · have hsr : s < L.length := by rw [← HM6.out]; exact hlts
                  obtain ⟨gl, ol, rfl, _, hcl⟩ := (HIL.out.below hbw.out) (by omega)
                  have d0 := hcl s hsr
                  have hin := HF3.out _ (List.getElem_mem hsr)
                  obtain ⟨z, hz⟩ := ex_eq L[s]
                  rw [← hz] at d0 hin
                  have C3 := hid (CI.out z true wr (decide_eq_true hin).symm HIr.out)
                  have q5 : (s : Int) < (M : Int) := by omega
                  clear hcl hz hin hsr
                  go_wp2_with fail
                  refine C3.out.mono ?_
                  rintro e w9 ⟨rfl, rfl⟩
                  go_wp2
                  go_roundw
                  case rel => exact ⟨s + 1, by omega, by go_num, trivial⟩
                  case measure => simp [RowKit.intOf]; omega
                · obtain rfl : s = M := by omega
                  have hcy := cycle_any m (some ⟨ge, oe, none⟩) c2 ys a6 c6 L true true wr (by rw [← HK.out]; omega) (by rw [← HM6.out]; omega) HGr.out.at_ (HIL.out.below hbw.out) ⟨fun _ => HR.out, fun _ => rfl⟩ ⟨fun _ => ⟨HR.out, HF5.out⟩, fun _ => rfl⟩
                  rw [← HK.out, ← HM6.out] at hcy
                  have CY := hid hcy
                  clear hcy
                  go_wp2_with fail
                  refine CY.out.mono ?_
                  rintro e w9 ⟨rfl, hb9⟩
                  have HB9 : Hid (Below w.heap.size w w9) := HBr.out.trans (hb9.mono HBr.out.size)
                  clear hb9 b0 b1
                  go_wp2
                  go_ret
                  exact ⟨rfl, HB9.out⟩
      · obtain ⟨Bk, hBk, ea, eb, _⟩ := blk_edge HR.out HBC.out HADM.out
        obtain ⟨j, hj, rfl⟩ := List.getElem_of_mem hBk
        exact absurd ⟨ea, eb⟩ (hno.out j hj (by have := HP3.out; omega))
end Go.Proofs.Ytplhpinaadgkkaa
