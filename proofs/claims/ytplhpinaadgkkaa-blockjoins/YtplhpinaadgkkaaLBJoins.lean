/-
  The law BlockJoins over any blocks that keep their contracts.
-/
import Derived.Test.YtplhpinaadgkkaaB26
import Derived.Test.YtplhpinaadgkkaaB04
import Derived.Test.YtplhpinaadgkkaaB28
namespace Go.Proofs.Ytplhpinaadgkkaa
open Go.RowKit Go.Lib

/-- Whether R stands among the first k. -/
def WasTo (As : List (List Int)) (R : List Int) (k : Nat) (s : Bool) : Prop := s = true ↔ ∃ j, ∃ h : j < As.length, j < k ∧ As[j] = R
theorem add_adj {p q : Int} {ys zs : List (Int × Int)} (h : ∀ e, e ∈ zs ↔ e ∈ ys ∨ e = (min p q, max p q)) (x y : Int) : Adj zs x y ↔ Adj ys x y ∨ (x = p ∧ y = q) ∨ (x = q ∧ y = p) := by
  unfold Adj
  rw [h, h]
  have key : ∀ u v : Int, (u, v) = (min p q, max p q) ↔ (u = min p q ∧ v = max p q) := fun u v => by rw [Prod.mk.injEq]
  rw [key, key]
  constructor
  · rintro ((h | h) | (h | h))
    · exact Or.inl (Or.inl h)
    · right; omega
    · exact Or.inl (Or.inr h)
    · right; omega
  · rintro ((h | h) | h | h)
    · exact Or.inl (Or.inl h)
    · exact Or.inr (Or.inl h)
    · by_cases e : p ≤ q
      · left; right; omega
      · right; right; omega
    · by_cases e : p ≤ q
      · right; right; omega
      · left; right; omega

set_option maxHeartbeats 4000000 in
set_option maxRecDepth 100000 in
theorem blockJoins_law (O : BlockOps) (n : Int) (a : Option Addr) (len cap : Nat) (l : List (Int × Int)) (x y : Int) (w : World) (hl : len = l.length) (hE : EAt w a l) :
    Calls Try.prog 8 #[.agg #[.int .i64 n, .slice a len cap], .int .i64 x, .int .i64 y] w fun e w' => e = .returned (.bool true) ∧ Below w.heap.size w w' := by
  have HO := hid O
  obtain ⟨W0, hW0⟩ := ex_eq (w.alloc (.cells #[.int .i64 n, .slice a len cap] 24))
  have hB0 : Below w.heap.size w W0 := by rw [hW0]; exact below_one _ _
  have hs0 : W0.heap.size = w.heap.size + 1 := by rw [hW0]; simp
  have HO0 : Hid (W0.heap[w.heap.size]? = some (.cells #[.int .i64 n, .slice a len cap] 24)) := by
    show _ = _
    rw [hW0]; exact heap_alloc_new _ _
  have HEX : Hid (∀ X, Below w.heap.size w X → EAt X a l) := fun X h => hE.below h
  have HL := hid hl
  have HW0 := hid hW0
  have HB0 := hid hB0
  clear O hl hE hW0 hB0
  go_enter Try.func8, Try.ntmps8
  go_wp2_with fail
  rw [← HW0.out]
  refine (bshown_any HO.out _).mono ?_
  rintro e w1 ⟨rfl, hb1⟩
  have hbw1 : Below w.heap.size w w1 := HB0.out.trans (hb1.mono (by omega))
  have o1 := (hb1.block w.heap.size (by omega)).trans HO0.out
  have x0 := cell_of_heap o1 0
  have x1 := cell_of_heap o1 1
  have CA := hid (net_any n a len cap l 30 w1 (by omega) HL.out (HEX.out w1 hbw1))
  have HB1 := hid hbw1
  clear hb1 hbw1 o1 HO0 hs0 HB0 HW0 HEX HL
  go_wp2_with fail
  refine CA.out.mono ?_
  rintro e w2 ⟨m, ys, a2, c2, rfl, hm30, hR, hys, hsl, hE2, hb2⟩
  obtain ⟨K, hK⟩ := ex_eq ys.length
  rw [← hK]
  have HK := hid hK
  obtain ⟨B, hBB⟩ := ex_eq w2.heap.size
  obtain ⟨V2, hV2⟩ := ex_eq (w2.alloc (.cells #[.int .i64 m, .slice a2 K c2] 26))
  have HG2 : Hid (GC V2 B m a2 K c2 ys) := by
    show GC V2 _ _ _ _ _ _
    rw [hV2, hBB]; exact gc_new7 hE2
  have HB2 : Hid (Below w.heap.size w V2) := by
    have h1 : Below w2.heap.size w2 V2 := by rw [hV2]; exact below_one _ _
    have h2 : Below w.heap.size w w2 := HB1.out.trans (hb2.mono HB1.out.size)
    exact h2.trans (h1.mono h2.size)
  have HV2 := hid hV2
  have HBB := hid hBB
  have HR := hid hR
  have HSL := hid hsl
  have hK3 : K ≤ 300 := by omega
  clear hK hV2 hE2 hb2 hR hys hsl CA x0 x1 HB1 hBB
  go_upto_region 3 with fail
  rw [← HV2.out, ← HBB.out]
  clear HV2 HBB
  obtain ⟨g0, g1⟩ := HG2.out.cells
  by_cases hm2 : m < 2
  · have hm3 : (m : Int) < 2 := by omega
    go_wp2
    go_ret
    exact ⟨rfl, HB2.out⟩
  have hm3 : ¬ (m : Int) < 2 := by omega
  have hm4 : ¬ m = 0 := by omega
  have hm5 : ¬ (m : Int) = 0 := by omega
  obtain ⟨p, hp, hpm⟩ := rnd_of x (m := m) (by omega)
  obtain ⟨m1, hm1⟩ : ∃ m1 : Nat, m = m1 + 1 := ⟨m - 1, by omega⟩
  obtain ⟨t, ht, htm⟩ := rnd_of y (m := m1) (by omega)
  obtain ⟨q, hq, hqm, hqp⟩ := next_ne (m := m) (by omega) hpm (show t < m - 1 by omega)
  have hm6 : (m : Int) - 1 = (m1 : Int) := by omega
  have hm7 : ¬ (m1 : Int) = 0 := by omega
  have hm8 : ¬ m1 = 0 := by omega
  have r1 : IntKind.i64.wrap (m1 : Int) = (m1 : Int) := by rw [IntKind.wrap_i64]; omega
  have r2 : IntKind.i64.wrap ((p : Int) + 1) = (p : Int) + 1 := by rw [IntKind.wrap_i64]; omega
  have r3 : IntKind.i64.wrap ((p : Int) + 1 + (t : Int)) = (p : Int) + 1 + (t : Int) := by rw [IntKind.wrap_i64]; omega
  have HM1 := hid hm1
  clear hm1
  go_wp2_with fail
  go_quiet (fail)
  obtain ⟨V3', hV3⟩ := ex_eq (V2.drewN nq)
  rw [← hV3]
  have hb3 : Below V2.heap.size V2 V3' := by rw [hV3]; exact below_drewN (Below.refl _ _) _
  have HG3' := hid (HG2.out.on hb3)
  have HB3' : Hid (Below w.heap.size w V3') := HB2.out.trans (hb3.mono HB2.out.size)
  obtain ⟨b0, b1⟩ := HG3'.out.cells
  have C4 := hid (add_any m a2 c2 ys p q true V3' (by rw [← HK.out]; omega) HG3'.out.at_ HSL.out ⟨fun _ => HR.out, fun _ => rfl⟩)
  rw [← HK.out] at C4
  clear hV3 hb3 g0 g1 hp ht hq r1 r2 r3 hm5 hm6 hm7 hm8 HG2 HB2
  go_wp2_with fail
  refine C4.out.mono ?_
  rintro e w5 ⟨er, zs, a5, c5, rfl, hadd, hsl5, hE5, hb5⟩
  obtain ⟨rfl, hRz, hzs⟩ := add_right hadd HR.out (by omega) (by omega) (by omega) (by rw [← HK.out]; exact hK3)
  obtain ⟨Z, hZ⟩ := ex_eq zs.length
  rw [← hZ]
  have hnn : nOf' (m : Int) 0 = m := by unfold nOf'; rw [if_pos rfl]
  rw [hnn]
  have HZ := hid hZ
  have HRZ := hid hRz
  have HADJ := hid (add_adj hzs)
  have hZ3 : Z ≤ 4000 := by rw [hZ]; exact hRz.2.2.1
  obtain ⟨V5, hV5⟩ := ex_eq (w5.alloc (.cells #[.int .i64 m, .slice a5 Z c5] 26))
  obtain ⟨H5, hH5⟩ := ex_eq w5.heap.size
  have HG5 : Hid (GC V5 H5 m a5 Z c5 zs) := by
    show GC _ _ _ _ _ _ _
    rw [hV5, hH5]; exact gc_new7 hE5
  have hb35 : Below V3'.heap.size V3' V5 := by rw [hV5]; exact hb5.alloc hb5.size _
  have HG5' := hid (HG3'.out.on hb35)
  have HB5 : Hid (Below w.heap.size w V5) := HB3'.out.trans (hb35.mono HB3'.out.size)
  have HV5 := hid hV5
  have HH5 := hid hH5
  clear hZ hnn hadd hsl5 hE5 hb5 hRz hzs hV5 hH5 C4 b0 b1 hb35 HG3' HB3'
  go_upto_region 8 with fail
  rw [← HV5.out, ← HH5.out]
  clear HV5 HH5
  obtain ⟨k0, k1⟩ := HG5'.out.cells
  have C3 := hid (HO.out.of m a2 c2 ys true V5 (by rw [← HK.out]; omega) HG5'.out.at_ ⟨fun _ => HR.out, fun _ => rfl⟩)
  rw [← HK.out] at C3
  go_wp2_with fail
  refine C3.out.mono ?_
  rintro e w3 ⟨v3, rfl, Cs3, Bs3, ca3, cc3, ba3, bc3, rfl, hrel, hca, hba, hb3⟩
  obtain ⟨Q3, hQ⟩ := ex_eq Cs3.length
  obtain ⟨P3, hP⟩ := ex_eq Bs3.length
  rw [← hQ, ← hP]
  have HQ3 := hid hQ
  have HP3 := hid hP
  obtain ⟨T3, hT⟩ := ex_eq w3.heap.size
  obtain ⟨V3, hV⟩ := ex_eq (w3.alloc (.cells #[.slice ca3 Q3 cc3, .slice ba3 P3 bc3] 31))
  have HT3 : Hid (TC V3 T3 ca3 Q3 cc3 ba3 P3 bc3 Cs3 Bs3) := by
    show TC _ _ _ _ _ _ _ _ _ _
    rw [hV, hT]; exact tc_new hca hba
  have hbx : Below V5.heap.size V5 V3 := by
    have h1 : Below w3.heap.size w3 V3 := by rw [hV]; exact below_one _ _
    exact hb3.trans (h1.mono hb3.size)
  have HLN3 : Hid (Bs3.length ≤ 1000 ∧ (∀ B ∈ Bs3, B.length ≤ 1000) ∧ Cs3.length ≤ 1000) := hrel.len
  have hPl3 : P3 ≤ 1000 := by rw [hP]; exact HLN3.out.1
  have HRel3 := hid hrel
  have HB3 : Hid (Below w.heap.size w V3) := HB5.out.trans (hbx.mono HB5.out.size)
  have HX3 := hid hbx
  have HV3 := hid hV
  have HTT3 := hid hT
  clear hQ hP hT hV hca hba hb3 hrel hbx C3 k0 k1
  go_upto_region 11 with fail
  rw [← HV3.out, ← HTT3.out]
  clear HV3 HTT3
  have HG6 := hid (HG5.out.on HX3.out)
  obtain ⟨k0, k1⟩ := HG6.out.cells
  clear HX3
  have C4 := hid (HO.out.of m a5 c5 zs true V3 (by rw [← HZ.out]; omega) HG6.out.at_ ⟨fun _ => HRZ.out, fun _ => rfl⟩)
  rw [← HZ.out] at C4
  go_wp2_with fail
  refine C4.out.mono ?_
  rintro e w4 ⟨v4, rfl, Cs4, Bs4, ca4, cc4, ba4, bc4, rfl, hrel, hca, hba, hb3⟩
  obtain ⟨Q4, hQ⟩ := ex_eq Cs4.length
  obtain ⟨P4, hP⟩ := ex_eq Bs4.length
  rw [← hQ, ← hP]
  have HQ4 := hid hQ
  have HP4 := hid hP
  obtain ⟨T4, hT⟩ := ex_eq w4.heap.size
  obtain ⟨V4, hV⟩ := ex_eq (w4.alloc (.cells #[.slice ca4 Q4 cc4, .slice ba4 P4 bc4] 31))
  have HT4 : Hid (TC V4 T4 ca4 Q4 cc4 ba4 P4 bc4 Cs4 Bs4) := by
    show TC _ _ _ _ _ _ _ _ _ _
    rw [hV, hT]; exact tc_new hca hba
  have hbx : Below V3.heap.size V3 V4 := by
    have h1 : Below w4.heap.size w4 V4 := by rw [hV]; exact below_one _ _
    exact hb3.trans (h1.mono hb3.size)
  have HLN4 : Hid (Bs4.length ≤ 1000 ∧ (∀ B ∈ Bs4, B.length ≤ 1000) ∧ Cs4.length ≤ 1000) := hrel.len
  have hPl4 : P4 ≤ 1000 := by rw [hP]; exact HLN4.out.1
  have HRel4 := hid hrel
  have HB4 : Hid (Below w.heap.size w V4) := HB3.out.trans (hbx.mono HB3.out.size)
  have HX4 := hid hbx
  have HV4 := hid hV
  have HTT4 := hid hT
  clear hQ hP hT hV hca hba hb3 hrel hbx C4 k0 k1
  go_upto_region 12 with fail
  rw [← HV4.out, ← HTT4.out]
  clear HV4 HTT4
  have HT5 := hid (HT3.out.on HX4.out)
  have hBA : BlocksL ys Bs3 := by
    rcases HRel3.out with ⟨_, h, _⟩ | ⟨h, _⟩
    · exact h
    · exact absurd HR.out h
  have hBC : BlocksL zs Bs4 := by
    rcases HRel4.out with ⟨_, h, _⟩ | ⟨h, _⟩
    · exact h
    · exact absurd HRZ.out h
  have HCNT : Hid (P4 ≤ P3 + 1) := by
    show _ ≤ _
    rw [HP4.out, HP3.out]
    exact add_count HRZ.out (show (p : Int) ≠ q by omega) HADJ.out hBA hBC
  have HBA := hid hBA
  have HBC := hid hBC
  clear hBA hBC HRel3 HRel4 HX4 HT3 HG5 HG5' HG6
  go_wp2
  go_loopw [13] (fun i wz => ∃ t : Nat, t ≤ P4 ∧ i = .int .i64 t ∧ Hid (Below V4.heap.size V4 wz)) (fun i _ => P4 - (RowKit.intOf i).toNat)
  case atStart => exact ⟨0, Nat.zero_le _, rfl, Below.refl _ _⟩
  case round =>
    obtain ⟨t, ht, rfl, hbw⟩ := hrel
    have htA := HT5.out.on hbw.out
    have htC := HT4.out.on hbw.out
    have tA := htA.c1
    have tC := htC.c1
    by_cases hlt : t < P4
    · have hkr : t < Bs4.length := by rw [← HP4.out]; exact hlt
      obtain ⟨g, off, ak, ck, rfl, e1, hI⟩ := htC.lb.at hkr
      have hblk := (HBC.out.is _).1 (List.getElem_mem hkr)
      have hN1 := HLN4.out.2.1 _ (List.getElem_mem hkr)
      obtain ⟨R, hRr⟩ := ex_eq Bs4[t]
      rw [← hRr] at e1 hI hblk hN1
      obtain ⟨N, hN⟩ := ex_eq R.length
      rw [← hN] at e1 hN1
      obtain ⟨ra, hra⟩ := ex_eq (decide ((p : Int) ∈ R))
      obtain ⟨rb, hrb⟩ := ex_eq (decide ((q : Int) ∈ R))
      have C1 : Hid (Calls Try.prog 18 #[.slice ak N ck, .int .i64 p] wr fun e w' => e = .returned (.bool ra) ∧ w' = wr) := by
        show Calls _ _ _ _ _
        rw [hra, hN]; exact in_any ak ck R p wr (by omega) hI
      have C2 : Hid (Calls Try.prog 18 #[.slice ak N ck, .int .i64 q] wr fun e w' => e = .returned (.bool rb) ∧ w' = wr) := by
        show Calls _ _ _ _ _
        rw [hrb, hN]; exact in_any ak ck R q wr (by omega) hI
      have HWAS : Hid ((ra && rb) = false → ∃ j, ∃ h : j < Bs3.length, j < P3 ∧ Bs3[j] = R) := fun hab => by
        have hno : ¬ ((p : Int) ∈ R ∧ (q : Int) ∈ R) := fun h => by
          rw [hra, hrb, decide_eq_true h.1, decide_eq_true h.2] at hab; cases hab
        have := (HBA.out.is R).2 (add_block HRZ.out HADJ.out hblk hno)
        obtain ⟨j, hj, e⟩ := List.getElem_of_mem this
        exact ⟨j, hj, by rw [HP3.out]; exact hj, e⟩
      have HIr := hid hI
      have HNn := hid hN
      have q2 : (t : Int) < (P4 : Int) := by omega
      have HE1 : Hid (∀ X, Below V4.heap.size V4 X → Below wr.heap.size wr X → X.cell? ⟨T4, 1, none⟩ = some (.slice (some ⟨g, off, none⟩) P4 bc4) ∧ X.cell? ⟨g, off + t, none⟩ = some (.slice ak N ck) ∧ IAt X ak R) := fun X _ hX => ⟨(hX.cell (p := ⟨T4, 1, none⟩) (block_lt_of_cell tC)).trans tC, (hX.cell (p := ⟨g, off + t, none⟩) (block_lt_of_cell e1)).trans e1, HIr.out.below hX⟩
      obtain ⟨both, hboth⟩ := ex_eq (ra && rb)
      have HBOTH := hid hboth
      rw [← hboth] at HWAS
      clear hra hrb hRr hN hblk htA htC hI hkr hboth
      obtain ⟨wB, hwB⟩ : ∃ x, x = wr := ⟨_, rfl⟩
      subst hwB
      go_upto_region 15 with fail
      go_cut [14] from 61 to 76 (fun v wx => v = .bool both ∧ wx = wB)
      case first =>
        cases ra with
        | false =>
          obtain rfl : both = false := HBOTH.out
          go_wp2_with fail
          refine C1.out.mono ?_
          rintro e w7 ⟨rfl, rfl⟩
          go_wp2_with fail
          go_meet
          case rel => exact ⟨rfl, rfl⟩
        | true =>
          obtain rfl : both = rb := HBOTH.out
          go_wp2_with fail
          refine C1.out.mono ?_
          rintro e w7 ⟨rfl, rfl⟩
          go_wp2_with fail
          refine C2.out.mono ?_
          rintro e w7 ⟨rfl, rfl⟩
          go_wp2_with fail
          go_meet
          case rel => exact ⟨rfl, rfl⟩
      case rest =>
        obtain ⟨rfl, hwc⟩ := hcut
        rw [hwc]
        clear hwc C1 C2 HBOTH tA tC e1
        go_wp2
        go_loopw [15, 16] (fun o i wz => ∃ (k : Nat) (s : Bool), k ≤ P3 ∧ i = .int .i64 k ∧ o = .bool s ∧ Hid (WasTo Bs3 R k s) ∧ Hid (Below wB.heap.size wB wz)) (fun _ i _ => P3 - (RowKit.intOf i).toNat)
        case atStart => exact ⟨0, false, Nat.zero_le _, rfl, rfl, ⟨fun h => (by cases h), fun ⟨_, _, h, _⟩ => absurd h (by omega)⟩, Below.refl _ _⟩
        case round =>
          obtain ⟨k, s, hk, rfl, rfl, hs, hbz⟩ := hrel
          have hbV : Below V4.heap.size V4 wr := hbw.out.trans (hbz.out.mono hbw.out.size)
          have htA := HT5.out.on hbV
          have tA := htA.c1
          obtain ⟨tC, e1, hIR⟩ := HE1.out wr hbV hbz.out
          by_cases hltk : k < P3
          · have hkk : k < Bs3.length := by rw [← HP3.out]; exact hltk
            obtain ⟨g3, o3, ak3, ck3, rfl, e3, hI3⟩ := htA.lb.at hkk
            have hN3 := HLN3.out.2.1 _ (List.getElem_mem hkk)
            obtain ⟨s2, hs2⟩ := boolR_of (Bs3[k] = R)
            obtain ⟨R3, hR3⟩ := ex_eq Bs3[k]
            rw [← hR3] at e3 hI3 hN3 hs2
            obtain ⟨N3, hN3e⟩ := ex_eq R3.length
            rw [← hN3e] at e3 hN3
            have CS : Hid (∀ X, Below wr.heap.size wr.drew X → Calls Try.prog 13 #[.slice ak3 N3 ck3, .slice ak N ck] X fun e w' => e = .returned (.bool s2) ∧ Below X.heap.size X w') := fun X hX => by
              rw [hN3e, HNn.out]
              exact same_any ak3 ak ck3 ck R3 R s2 X (by omega) (hI3.below ((Below.refl _ _).drew.trans hX)) (hIR.below ((Below.refl _ _).drew.trans hX)) hs2
            have HNX : Hid (WasTo Bs3 R (k + 1) (s || s2)) := by
              show _ = _ ↔ _
              rw [Bool.or_eq_true, show s = true ↔ _ from hs.out, hs2, hR3]
              constructor
              · rintro (⟨j, h, h1, h2⟩ | h)
                · exact ⟨j, h, by omega, h2⟩
                · exact ⟨k, hkk, by omega, h⟩
              · rintro ⟨j, h, h1, h2⟩
                by_cases e : j < k
                · exact Or.inl ⟨j, h, e, h2⟩
                · obtain rfl : j = k := by omega
                  exact Or.inr h2
            have q3 : (k : Int) < (P3 : Int) := by omega
            have HSS : Hid (∀ X, Below wr.heap.size wr.drew X → X.cell? ⟨T3, 1, none⟩ = some (.slice (some ⟨g3, o3, none⟩) P3 bc3) ∧ X.cell? ⟨g3, o3 + k, none⟩ = some (.slice ak3 N3 ck3) ∧ X.cell? ⟨T4, 1, none⟩ = some (.slice (some ⟨g, off, none⟩) P4 bc4) ∧ X.cell? ⟨g, off + t, none⟩ = some (.slice ak N ck)) := fun X h =>
              ⟨(h.cell (p := ⟨T3, 1, none⟩) (block_lt_of_cell tA)).trans tA, (h.cell (p := ⟨g3, o3 + k, none⟩) (block_lt_of_cell e3)).trans e3, (h.cell (p := ⟨T4, 1, none⟩) (block_lt_of_cell tC)).trans tC, (h.cell (p := ⟨g, off + t, none⟩) (block_lt_of_cell e1)).trans e1⟩
            have hS := HSS.out wr.drew (Below.refl _ _)
            have HBd : Hid (Below wB.heap.size wB wr.drew) := hbz.out.drew
            clear hs hbz hbV htA hIR hI3 hs2 hR3 hN3e hkk
            cases s with
            | true =>
              rw [Bool.true_or] at HNX
              clear CS
              go_wp2_with fail
              refine wp_region_held_drew (S := (fun X => X.cell? ⟨T3, 1, none⟩ = some (.slice (some ⟨g3, o3, none⟩) P3 bc3) ∧ X.cell? ⟨g3, o3 + k, none⟩ = some (.slice ak3 N3 ck3) ∧ X.cell? ⟨T4, 1, none⟩ = some (.slice (some ⟨g, off, none⟩) P4 bc4) ∧ X.cell? ⟨g, off + t, none⟩ = some (.slice ak N ck))) (by kernel_rfl) hS (fun hHeld => ?_)
              (refine takeW (i := 0) (dst := some 84) (v := ?_) rfl rfl (by kernel_rfl) (by kernel_rfl) (by kernel_rfl) (fun _ _ _ h => h) (Or.inl ⟨by rfl, ?_⟩) hHeld ?_; rotate_left; focus (intro w hSw; (try dsimp only at hSw); go_simp; (try with_reducible rfl); done))
              try simp only [Act.put, List.setIfInBounds_toArray, List.set_cons_zero, List.set_cons_succ]
              (refine takeW (i := 1) (dst := some 85) (v := ?_) rfl rfl (by kernel_rfl) (by kernel_rfl) (by kernel_rfl) (fun _ _ _ h => h) (Or.inl ⟨by rfl, ?_⟩) hHeld ?_; rotate_left; focus (intro w hSw; (try dsimp only at hSw); go_simp; (try with_reducible rfl); done))
              try simp only [Act.put, List.setIfInBounds_toArray, List.set_cons_zero, List.set_cons_succ]
              first | refine takeW (i := 2) (dst := some 86) (v := undef) rfl rfl (by kernel_rfl) (by kernel_rfl) (by kernel_rfl) (fun _ _ _ h => h) (Or.inr ⟨by rfl, rfl⟩) hHeld ?_ | (refine takeW (i := 2) (dst := some 86) (v := ?_) rfl rfl (by kernel_rfl) (by kernel_rfl) (by kernel_rfl) (fun _ _ _ h => h) (Or.inl ⟨by rfl, ?_⟩) hHeld ?_; rotate_left; focus (intro w hSw; (try dsimp only at hSw); go_simp; (try with_reducible rfl); done))
              try simp only [Act.put, List.setIfInBounds_toArray, List.set_cons_zero, List.set_cons_succ]
              first | refine takeW (i := 3) (dst := some 87) (v := undef) rfl rfl (by kernel_rfl) (by kernel_rfl) (by kernel_rfl) (fun _ _ _ h => h) (Or.inr ⟨by rfl, rfl⟩) hHeld ?_ | (refine takeW (i := 3) (dst := some 87) (v := ?_) rfl rfl (by kernel_rfl) (by kernel_rfl) (by kernel_rfl) (fun _ _ _ h => h) (Or.inl ⟨by rfl, ?_⟩) hHeld ?_; rotate_left; focus (intro w hSw; (try dsimp only at hSw); go_simp; (try with_reducible rfl); done))
              try simp only [Act.put, List.setIfInBounds_toArray, List.set_cons_zero, List.set_cons_succ]
              first | refine takeW (i := 4) (dst := some 88) (v := undef) rfl rfl (by kernel_rfl) (by kernel_rfl) (by kernel_rfl) (fun _ _ _ h => h) (Or.inr ⟨by rfl, rfl⟩) hHeld ?_ | (refine takeW (i := 4) (dst := some 88) (v := ?_) rfl rfl (by kernel_rfl) (by kernel_rfl) (by kernel_rfl) (fun _ _ _ h => h) (Or.inl ⟨by rfl, ?_⟩) hHeld ?_; rotate_left; focus (intro w hSw; (try dsimp only at hSw); go_simp; (try with_reducible rfl); done))
              try simp only [Act.put, List.setIfInBounds_toArray, List.set_cons_zero, List.set_cons_succ]
              first | refine takeW (i := 5) (dst := some 89) (v := undef) rfl rfl (by kernel_rfl) (by kernel_rfl) (by kernel_rfl) (fun _ _ _ h => h) (Or.inr ⟨by rfl, rfl⟩) hHeld ?_ | (refine takeW (i := 5) (dst := some 89) (v := ?_) rfl rfl (by kernel_rfl) (by kernel_rfl) (by kernel_rfl) (fun _ _ _ h => h) (Or.inl ⟨by rfl, ?_⟩) hHeld ?_; rotate_left; focus (intro w hSw; (try dsimp only at hSw); go_simp; (try with_reducible rfl); done))
              try simp only [Act.put, List.setIfInBounds_toArray, List.set_cons_zero, List.set_cons_succ]
              first | refine takeW (i := 6) (dst := some 90) (v := undef) rfl rfl (by kernel_rfl) (by kernel_rfl) (by kernel_rfl) (fun _ _ _ h => h) (Or.inr ⟨by rfl, rfl⟩) hHeld ?_ | (refine takeW (i := 6) (dst := some 90) (v := ?_) rfl rfl (by kernel_rfl) (by kernel_rfl) (by kernel_rfl) (fun _ _ _ h => h) (Or.inl ⟨by rfl, ?_⟩) hHeld ?_; rotate_left; focus (intro w hSw; (try dsimp only at hSw); go_simp; (try with_reducible rfl); done))
              try simp only [Act.put, List.setIfInBounds_toArray, List.set_cons_zero, List.set_cons_succ]
              first | refine takeW (i := 7) (dst := some 91) (v := undef) rfl rfl (by kernel_rfl) (by kernel_rfl) (by kernel_rfl) (fun _ _ _ h => h) (Or.inr ⟨by rfl, rfl⟩) hHeld ?_ | (refine takeW (i := 7) (dst := some 91) (v := ?_) rfl rfl (by kernel_rfl) (by kernel_rfl) (by kernel_rfl) (fun _ _ _ h => h) (Or.inl ⟨by rfl, ?_⟩) hHeld ?_; rotate_left; focus (intro w hSw; (try dsimp only at hSw); go_simp; (try with_reducible rfl); done))
              try simp only [Act.put, List.setIfInBounds_toArray, List.set_cons_zero, List.set_cons_succ]
              first | refine takeW (i := 8) (dst := some 92) (v := undef) rfl rfl (by kernel_rfl) (by kernel_rfl) (by kernel_rfl) (fun _ _ _ h => h) (Or.inr ⟨by rfl, rfl⟩) hHeld ?_ | (refine takeW (i := 8) (dst := some 92) (v := ?_) rfl rfl (by kernel_rfl) (by kernel_rfl) (by kernel_rfl) (fun _ _ _ h => h) (Or.inl ⟨by rfl, ?_⟩) hHeld ?_; rotate_left; focus (intro w hSw; (try dsimp only at hSw); go_simp; (try with_reducible rfl); done))
              try simp only [Act.put, List.setIfInBounds_toArray, List.set_cons_zero, List.set_cons_succ]
              first | refine takeW (i := 9) (dst := some 93) (v := undef) rfl rfl (by kernel_rfl) (by kernel_rfl) (by kernel_rfl) (fun _ _ _ h => h) (Or.inr ⟨by rfl, rfl⟩) hHeld ?_ | (refine takeW (i := 9) (dst := some 93) (v := ?_) rfl rfl (by kernel_rfl) (by kernel_rfl) (by kernel_rfl) (fun _ _ _ h => h) (Or.inl ⟨by rfl, ?_⟩) hHeld ?_; rotate_left; focus (intro w hSw; (try dsimp only at hSw); go_simp; (try with_reducible rfl); done))
              try simp only [Act.put, List.setIfInBounds_toArray, List.set_cons_zero, List.set_cons_succ]
              first | refine takeW (i := 10) (dst := some 94) (v := undef) rfl rfl (by kernel_rfl) (by kernel_rfl) (by kernel_rfl) (fun _ _ _ h => h) (Or.inr ⟨by rfl, rfl⟩) hHeld ?_ | (refine takeW (i := 10) (dst := some 94) (v := ?_) rfl rfl (by kernel_rfl) (by kernel_rfl) (by kernel_rfl) (fun _ _ _ h => h) (Or.inl ⟨by rfl, ?_⟩) hHeld ?_; rotate_left; focus (intro w hSw; (try dsimp only at hSw); go_simp; (try with_reducible rfl); done))
              try simp only [Act.put, List.setIfInBounds_toArray, List.set_cons_zero, List.set_cons_succ]
              first | refine takeW (i := 11) (dst := some 95) (v := undef) rfl rfl (by kernel_rfl) (by kernel_rfl) (by kernel_rfl) (fun _ _ _ h => h) (Or.inr ⟨by rfl, rfl⟩) hHeld ?_ | (refine takeW (i := 11) (dst := some 95) (v := ?_) rfl rfl (by kernel_rfl) (by kernel_rfl) (by kernel_rfl) (fun _ _ _ h => h) (Or.inl ⟨by rfl, ?_⟩) hHeld ?_; rotate_left; focus (intro w hSw; (try dsimp only at hSw); go_simp; (try with_reducible rfl); done))
              try simp only [Act.put, List.setIfInBounds_toArray, List.set_cons_zero, List.set_cons_succ]
              first | refine takeW (i := 12) (dst := some 96) (v := undef) rfl rfl (by kernel_rfl) (by kernel_rfl) (by kernel_rfl) (fun _ _ _ h => h) (Or.inr ⟨by rfl, rfl⟩) hHeld ?_ | (refine takeW (i := 12) (dst := some 96) (v := ?_) rfl rfl (by kernel_rfl) (by kernel_rfl) (by kernel_rfl) (fun _ _ _ h => h) (Or.inl ⟨by rfl, ?_⟩) hHeld ?_; rotate_left; focus (intro w hSw; (try dsimp only at hSw); go_simp; (try with_reducible rfl); done))
              try simp only [Act.put, List.setIfInBounds_toArray, List.set_cons_zero, List.set_cons_succ]
              (refine takeW (i := 13) (dst := some 97) (v := ?_) rfl rfl (by kernel_rfl) (by kernel_rfl) (by kernel_rfl) (fun _ _ _ h => h) (Or.inl ⟨by rfl, ?_⟩) hHeld ?_; rotate_left; focus (intro w hSw; (try dsimp only at hSw); go_simp; (try with_reducible rfl); done))
              try simp only [Act.put, List.setIfInBounds_toArray, List.set_cons_zero, List.set_cons_succ]
              (refine takeW (i := 14) (dst := some 15) (v := ?_) rfl rfl (by kernel_rfl) (by kernel_rfl) (by kernel_rfl) (fun _ _ _ h => h) (Or.inl ⟨by rfl, ?_⟩) hHeld ?_; rotate_left; focus (intro w hSw; (try dsimp only at hSw); go_simp; (try with_reducible rfl); done))
              try simp only [Act.put]
              try simp only [List.setIfInBounds_toArray]
              try simp only [List.set_cons_succ]
              try simp only [List.set_cons_zero]
              refine wpAnyH_done (by kernel_rfl) ?_ _
              clear hHeld hS HSS
              go_wp2
              go_roundw
              case rel => exact ⟨k + 1, true, by omega, by go_num, rfl, HNX, HBd⟩
              case measure => simp [RowKit.intOf]; omega
            | false =>
              rw [Bool.false_or] at HNX
              go_wp2_with fail
              refine wp_region_held_drew (S := (fun X => X.cell? ⟨T3, 1, none⟩ = some (.slice (some ⟨g3, o3, none⟩) P3 bc3) ∧ X.cell? ⟨g3, o3 + k, none⟩ = some (.slice ak3 N3 ck3) ∧ X.cell? ⟨T4, 1, none⟩ = some (.slice (some ⟨g, off, none⟩) P4 bc4) ∧ X.cell? ⟨g, off + t, none⟩ = some (.slice ak N ck))) (by kernel_rfl) hS (fun hHeld => ?_)
              (refine takeW (i := 0) (dst := some 84) (v := ?_) rfl rfl (by kernel_rfl) (by kernel_rfl) (by kernel_rfl) (fun _ _ _ h => h) (Or.inl ⟨by rfl, ?_⟩) hHeld ?_; rotate_left; focus (intro w hSw; (try dsimp only at hSw); go_simp; (try with_reducible rfl); done))
              try simp only [Act.put, List.setIfInBounds_toArray, List.set_cons_zero, List.set_cons_succ]
              (refine takeW (i := 1) (dst := some 85) (v := ?_) rfl rfl (by kernel_rfl) (by kernel_rfl) (by kernel_rfl) (fun _ _ _ h => h) (Or.inl ⟨by rfl, ?_⟩) hHeld ?_; rotate_left; focus (intro w hSw; (try dsimp only at hSw); go_simp; (try with_reducible rfl); done))
              try simp only [Act.put, List.setIfInBounds_toArray, List.set_cons_zero, List.set_cons_succ]
              first | refine takeW (i := 2) (dst := some 86) (v := undef) rfl rfl (by kernel_rfl) (by kernel_rfl) (by kernel_rfl) (fun _ _ _ h => h) (Or.inr ⟨by rfl, rfl⟩) hHeld ?_ | (refine takeW (i := 2) (dst := some 86) (v := ?_) rfl rfl (by kernel_rfl) (by kernel_rfl) (by kernel_rfl) (fun _ _ _ h => h) (Or.inl ⟨by rfl, ?_⟩) hHeld ?_; rotate_left; focus (intro w hSw; (try dsimp only at hSw); go_simp; (try with_reducible rfl); done))
              try simp only [Act.put, List.setIfInBounds_toArray, List.set_cons_zero, List.set_cons_succ]
              first | refine takeW (i := 3) (dst := some 87) (v := undef) rfl rfl (by kernel_rfl) (by kernel_rfl) (by kernel_rfl) (fun _ _ _ h => h) (Or.inr ⟨by rfl, rfl⟩) hHeld ?_ | (refine takeW (i := 3) (dst := some 87) (v := ?_) rfl rfl (by kernel_rfl) (by kernel_rfl) (by kernel_rfl) (fun _ _ _ h => h) (Or.inl ⟨by rfl, ?_⟩) hHeld ?_; rotate_left; focus (intro w hSw; (try dsimp only at hSw); go_simp; (try with_reducible rfl); done))
              try simp only [Act.put, List.setIfInBounds_toArray, List.set_cons_zero, List.set_cons_succ]
              first | refine takeW (i := 4) (dst := some 88) (v := undef) rfl rfl (by kernel_rfl) (by kernel_rfl) (by kernel_rfl) (fun _ _ _ h => h) (Or.inr ⟨by rfl, rfl⟩) hHeld ?_ | (refine takeW (i := 4) (dst := some 88) (v := ?_) rfl rfl (by kernel_rfl) (by kernel_rfl) (by kernel_rfl) (fun _ _ _ h => h) (Or.inl ⟨by rfl, ?_⟩) hHeld ?_; rotate_left; focus (intro w hSw; (try dsimp only at hSw); go_simp; (try with_reducible rfl); done))
              try simp only [Act.put, List.setIfInBounds_toArray, List.set_cons_zero, List.set_cons_succ]
              first | refine takeW (i := 5) (dst := some 89) (v := undef) rfl rfl (by kernel_rfl) (by kernel_rfl) (by kernel_rfl) (fun _ _ _ h => h) (Or.inr ⟨by rfl, rfl⟩) hHeld ?_ | (refine takeW (i := 5) (dst := some 89) (v := ?_) rfl rfl (by kernel_rfl) (by kernel_rfl) (by kernel_rfl) (fun _ _ _ h => h) (Or.inl ⟨by rfl, ?_⟩) hHeld ?_; rotate_left; focus (intro w hSw; (try dsimp only at hSw); go_simp; (try with_reducible rfl); done))
              try simp only [Act.put, List.setIfInBounds_toArray, List.set_cons_zero, List.set_cons_succ]
              first | refine takeW (i := 6) (dst := some 90) (v := undef) rfl rfl (by kernel_rfl) (by kernel_rfl) (by kernel_rfl) (fun _ _ _ h => h) (Or.inr ⟨by rfl, rfl⟩) hHeld ?_ | (refine takeW (i := 6) (dst := some 90) (v := ?_) rfl rfl (by kernel_rfl) (by kernel_rfl) (by kernel_rfl) (fun _ _ _ h => h) (Or.inl ⟨by rfl, ?_⟩) hHeld ?_; rotate_left; focus (intro w hSw; (try dsimp only at hSw); go_simp; (try with_reducible rfl); done))
              try simp only [Act.put, List.setIfInBounds_toArray, List.set_cons_zero, List.set_cons_succ]
              first | refine takeW (i := 7) (dst := some 91) (v := undef) rfl rfl (by kernel_rfl) (by kernel_rfl) (by kernel_rfl) (fun _ _ _ h => h) (Or.inr ⟨by rfl, rfl⟩) hHeld ?_ | (refine takeW (i := 7) (dst := some 91) (v := ?_) rfl rfl (by kernel_rfl) (by kernel_rfl) (by kernel_rfl) (fun _ _ _ h => h) (Or.inl ⟨by rfl, ?_⟩) hHeld ?_; rotate_left; focus (intro w hSw; (try dsimp only at hSw); go_simp; (try with_reducible rfl); done))
              try simp only [Act.put, List.setIfInBounds_toArray, List.set_cons_zero, List.set_cons_succ]
              first | refine takeW (i := 8) (dst := some 92) (v := undef) rfl rfl (by kernel_rfl) (by kernel_rfl) (by kernel_rfl) (fun _ _ _ h => h) (Or.inr ⟨by rfl, rfl⟩) hHeld ?_ | (refine takeW (i := 8) (dst := some 92) (v := ?_) rfl rfl (by kernel_rfl) (by kernel_rfl) (by kernel_rfl) (fun _ _ _ h => h) (Or.inl ⟨by rfl, ?_⟩) hHeld ?_; rotate_left; focus (intro w hSw; (try dsimp only at hSw); go_simp; (try with_reducible rfl); done))
              try simp only [Act.put, List.setIfInBounds_toArray, List.set_cons_zero, List.set_cons_succ]
              first | refine takeW (i := 9) (dst := some 93) (v := undef) rfl rfl (by kernel_rfl) (by kernel_rfl) (by kernel_rfl) (fun _ _ _ h => h) (Or.inr ⟨by rfl, rfl⟩) hHeld ?_ | (refine takeW (i := 9) (dst := some 93) (v := ?_) rfl rfl (by kernel_rfl) (by kernel_rfl) (by kernel_rfl) (fun _ _ _ h => h) (Or.inl ⟨by rfl, ?_⟩) hHeld ?_; rotate_left; focus (intro w hSw; (try dsimp only at hSw); go_simp; (try with_reducible rfl); done))
              try simp only [Act.put, List.setIfInBounds_toArray, List.set_cons_zero, List.set_cons_succ]
              first | refine takeW (i := 10) (dst := some 94) (v := undef) rfl rfl (by kernel_rfl) (by kernel_rfl) (by kernel_rfl) (fun _ _ _ h => h) (Or.inr ⟨by rfl, rfl⟩) hHeld ?_ | (refine takeW (i := 10) (dst := some 94) (v := ?_) rfl rfl (by kernel_rfl) (by kernel_rfl) (by kernel_rfl) (fun _ _ _ h => h) (Or.inl ⟨by rfl, ?_⟩) hHeld ?_; rotate_left; focus (intro w hSw; (try dsimp only at hSw); go_simp; (try with_reducible rfl); done))
              try simp only [Act.put, List.setIfInBounds_toArray, List.set_cons_zero, List.set_cons_succ]
              first | refine takeW (i := 11) (dst := some 95) (v := undef) rfl rfl (by kernel_rfl) (by kernel_rfl) (by kernel_rfl) (fun _ _ _ h => h) (Or.inr ⟨by rfl, rfl⟩) hHeld ?_ | (refine takeW (i := 11) (dst := some 95) (v := ?_) rfl rfl (by kernel_rfl) (by kernel_rfl) (by kernel_rfl) (fun _ _ _ h => h) (Or.inl ⟨by rfl, ?_⟩) hHeld ?_; rotate_left; focus (intro w hSw; (try dsimp only at hSw); go_simp; (try with_reducible rfl); done))
              try simp only [Act.put, List.setIfInBounds_toArray, List.set_cons_zero, List.set_cons_succ]
              refine wpAnyH_ready (rs := [12]) (by kernel_rfl) (by simp) ?_
              refine AllReadyH.cons (o := _) rfl (fun KK hK => ?_) AllReadyH.nil
              go_simp
              refine (CS.out _ (Below.refl _ _)).mono ?_
              rintro e y1 ⟨rfl, hb⟩
              have hS1 := HSS.out y1 hb
              have HB7 : Hid (Below wB.heap.size wB y1) := HBd.out.trans (hb.mono HBd.out.size)
              clear hb HBd
              refine hK.out _ _ hS1 (fun hHeld => ?_)
              clear hK KK
              try simp only [Act.put]
              try simp only [List.setIfInBounds_toArray]
              try simp only [List.set_cons_succ]
              try simp only [List.set_cons_zero]
              (refine takeW (i := 13) (dst := some 97) (v := ?_) rfl rfl (by kernel_rfl) (by kernel_rfl) (by kernel_rfl) (fun _ _ _ h => h) (Or.inl ⟨by rfl, ?_⟩) hHeld ?_; rotate_left; focus (intro w hSw; (try dsimp only at hSw); go_simp; (try with_reducible rfl); done))
              try simp only [Act.put, List.setIfInBounds_toArray, List.set_cons_zero, List.set_cons_succ]
              (refine takeW (i := 14) (dst := some 15) (v := ?_) rfl rfl (by kernel_rfl) (by kernel_rfl) (by kernel_rfl) (fun _ _ _ h => h) (Or.inl ⟨by rfl, ?_⟩) hHeld ?_; rotate_left; focus (intro w hSw; (try dsimp only at hSw); go_simp; (try with_reducible rfl); done))
              try simp only [Act.put]
              try simp only [List.setIfInBounds_toArray]
              try simp only [List.set_cons_succ]
              try simp only [List.set_cons_zero]
              refine wpAnyH_done (by kernel_rfl) ?_ _
              clear hHeld hS hS1 HSS CS tA e3 tC e1
              go_wp2
              go_roundw
              case rel => exact ⟨k + 1, s2, by omega, by go_num, rfl, HNX, HB7⟩
              case measure => simp [RowKit.intOf]; omega
          · obtain rfl : k = P3 := by omega
            have HBZ : Hid (Below V4.heap.size V4 wr) := hbV
            cases both with
            | true =>
              clear hs hbz hbV htA hIR e1
              go_wp2
              go_roundw
              case rel => exact ⟨t + 1, by omega, by go_num, HBZ⟩
              case measure => simp [RowKit.intOf]; omega
            | false =>
              obtain rfl : s = true := hs.out.2 (HWAS.out rfl)
              clear hs hbz hbV htA hIR e1
              go_wp2
              go_roundw
              case rel => exact ⟨t + 1, by omega, by go_num, HBZ⟩
              case measure => simp [RowKit.intOf]; omega
    · obtain rfl : t = P4 := by omega
      have q4 : IntKind.i64.wrap ((P3 : Int) + 1) = (P3 : Int) + 1 := by rw [IntKind.wrap_i64]; omega
      have q5 : decide ((t : Int) ≤ (P3 : Int) + 1) = true := decide_eq_true (by have := HCNT.out; omega)
      have q6 : (t : Int) ≤ (P3 : Int) + 1 := by have := HCNT.out; omega
      have HBF : Hid (Below w.heap.size w wr) := HB4.out.trans (hbw.out.mono HB4.out.size)
      clear htA htC hbw
      go_wp2
      go_ret
      exact ⟨rfl, HBF.out⟩
end Go.Proofs.Ytplhpinaadgkkaa
